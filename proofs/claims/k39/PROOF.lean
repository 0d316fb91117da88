import PyProof.Rows.All
import Wide.All
import OpenK.AllK
import Wide.FinOn
import PyProof.EqAt
import PyProof.EqKinds
import PyProof.TupleCall
import OpenK.KCls
import PyProof.ExcClass2
import PyProof.ExcBaseAll.ValueError
import PyProof.ExcArgs
import PyProof.Rows.Exc
import KE.KIsAll
import PyProof.StationsW
import PyProof.EnumFor
import PyProof.EnumStmt
import PyProof.EnumMake
import PyProof.NeKinds
import PyProof.Rows.SumAny
import KE.KDictSum
import PyProof.Rows.SortWalk
import PyProof.Rows.Range3
import PyProof.Rows.SetFrom
import KE.KEqDict
import PyProof.Rows.DictUnroll
import KE.KRevSl
import PyProof.AutoListH
import PyProof.AttrMiss
import KE.KRevIter
import PyProof.SeqI3
import Wide.Seal
import PySem.Challenge.RW_stillheap_k39_whole_pictures_by_addresse
set_option Elab.async false
set_option linter.all false
set_option maxRecDepth 100000
set_option maxHeartbeats 4000000
set_option exponentiation.threshold 4000
set_option compiler.extract_closed false
set_option hygiene false
local macro_rules|`(9e9)=>`(PySem.Challenge.pw_stillheap_k39_whole_pictures_by_addresse)
local macro_rules|`(9e8)=>`(⟨[],[],[],0,[],[],false,(List.toArray []),[],0,false,false,false,0,[2000,10,10],false,0,true,[],[],0,false⟩)
local macro_rules|`(1e0)=>`(by intro z;cases z)
local macro_rules|`(1e1)=>`(by omega)
local macro_rules|`(1e2)=>`((cxC X scope cl NC h3.objs.size fp {s2 with heap:=h3,toks:=s2.toks} (upd H2 D (.lst []))))
local macro_rules|`(1e3)=>`(Or.inl rfl)
local macro_rules|`(1e4)=>`(by kernel_rfl)
local macro_rules|`(1e5)=>`(aI (pv 0) rfl)
local macro_rules|`(1e6)=>`(model X.prog X.w)
local macro_rules|`(1e7)=>`(λ_ _=>rfl)
local macro_rules|`(1e8)=>`(model prog w)
local macro_rules|`(1e9)=>`(by simp)
local macro_rules|`(2e0)=>`(by decide)
local macro_rules|`(2e1)=>`(λ_ z=>nomatch z)
local macro_rules|`(2e2)=>`(aa (pv 1) ah)
local macro_rules|`(2e3)=>`(s.heap.objs.size+1)
local macro_rules|`(2e4)=>`(by decide +kernel)
local macro_rules|`(2e5)=>`((some .hand,s))
local macro_rules|`(2e6)=>`(.dK kvs)
local macro_rules|`(2e7)=>`(Sum.inl t)
local macro_rules|`(2e8)=>`(.type "ValueError")
local macro_rules|`(2e9)=>`(.inl rfl)
local macro_rules|`(3e0)=>`(aa (pv 4) ah)
local macro_rules|`(3e1)=>`(notedBy 1e8 A env λe s'=>R (.error e) s')
local macro_rules|`(3e2)=>`(by with_unfolding_all rfl)
local macro_rules|`(3e3)=>`(aa (pv 2) ah)
local macro_rules|`(3e4)=>`(("makes_young",.bl my))
local macro_rules|`(3e5)=>`(Addr×Obj)
local macro_rules|`(3e6)=>`(cJ x A s)
local macro_rules|`(3e7)=>`(.ref C)
local macro_rules|`(3e8)=>`(top 63)
local macro_rules|`(3e9)=>`(bT cf (pv 3) au 1e7)
local macro_rules|`(4e0)=>`(dG I q 1e9)
local macro_rules|`(4e1)=>`(show false=true from hs)
local macro_rules|`(4e2)=>`(show false=true from fx)
local macro_rules|`(4e3)=>`(.ref p)
local macro_rules|`(4e4)=>`(ns.map V.int)
local macro_rules|`(4e5)=>`(top 60)
local macro_rules|`(4e6)=>`(keys s)
local macro_rules|`(4e7)=>`(("in_hands",.ref hd))
local macro_rules|`(4e8)=>`(EP X pins σ Q)
local macro_rules|`(4e9)=>`(.lst xs)
local macro_rules|`(5e0)=>`(.lst ys)
local macro_rules|`(5e1)=>`(.dK [])
local macro_rules|`(5e2)=>`(.ref x)
local macro_rules|`(5e3)=>`(aa (pv 3) ah)
local macro_rules|`(5e4)=>`(.ref 45)
local macro_rules|`(5e5)=>`(.frz o 2e6)
local macro_rules|`(5e6)=>`(λ_ q=>q)
local macro_rules|`(5e7)=>`(he pins s σ H _ I h)
local macro_rules|`(5e8)=>`(atts A s)
local macro_rules|`(5e9)=>`((∀ b∈fp,H' b=none))
local macro_rules|`(6e0)=>`(aa (pv 0) ah)
local macro_rules|`(6e1)=>`(gs.take i)
local macro_rules|`(6e2)=>`(.inr (.inr (.inr 2e9)))
local macro_rules|`(9e7 $a $b $c $d $e)=>`(Ok P w K mg base $a $b $c $d $e)
set_option hygiene true
section
open PySem PySem.W PySem.Spec PyProof.Rows
noncomputable def aoE:=@List.getElem?_eq_some_iff
noncomputable def aoF:=@List.getElem?_eq_getElem
noncomputable def aoG:=@List.length_map
noncomputable def aoH:=@List.mem_singleton
noncomputable def aoI:=@List.mem_of_getElem?
noncomputable def aoJ:=@List.length_append
noncomputable def aoK:=@Heap.get?_push_of_some
noncomputable def aoL:=@Nat.le_refl
noncomputable def aoM:=@List.take_of_length_le
noncomputable def aoN:=@List.size_toArray
noncomputable def aoO:=@Bool.false_ne_true
noncomputable def aoP:=@List.mem_append_right
noncomputable def aoQ:=@Heap.lt_size
noncomputable def aoR:=@List.getElem?_map
noncomputable def aoS:=@List.length_take
noncomputable def aoT:=@Ne.symm
noncomputable def aoU:=@List.mem_append
noncomputable def aoV:=@List.map_append
noncomputable def aoW:=@Nat.ne_of_lt
noncomputable def aoX:=@List.getElem?_append_left
noncomputable def aoY:=@PassesOwn.never
noncomputable def aoZ:=@Option.map_eq_some_iff
noncomputable def ao0:=@Nat.lt_of_lt_of_le
noncomputable def ao1:=@List.getElem?_append_right
noncomputable def ao2:=@List.mem_cons
noncomputable def ao3:=@List.mem_cons_self
noncomputable def ao4:=@Option.some.inj
noncomputable def ao5:=@List.mem_map
noncomputable def ao6:=@List.mem_cons_of_mem
noncomputable def ao7:=@Nat.le_trans
noncomputable def ao8:=@List.map_cons
noncomputable def ao9:=@Array.getElem?_eq_some_iff
noncomputable def apa:=@Heap.get?_push_size
noncomputable def apb:=@List.length_set
noncomputable def apc:=@List.length_singleton
noncomputable def apd:=@List.take_succ_eq_append_getElem
noncomputable def ape:=@Int.emod_lt_of_pos
noncomputable def apf:=@List.mem_append_left
noncomputable def apg:=@List.length_replicate
noncomputable def aph:=@List.length_cons
noncomputable def api:=@Int.emod_nonneg
noncomputable def apj:=@Heap.get?_update_other
noncomputable def apk:=@List.eq_of_mem_replicate
noncomputable def apl:=@List.replicate_succ
noncomputable def apm:=@Bool.eq_false_iff
noncomputable def apn:=@List.map_map
noncomputable def apo:=@List.getElem?_set_self
noncomputable def apq:=@Nat.zero_le
noncomputable def apr:=@Bool.false_eq_true
noncomputable def aps:=@Nat.lt_or_ge
noncomputable def apt:=@List.mem_filter
noncomputable def apu:=@PySem.mem_of_lookup
noncomputable def apv:=@Int.le_refl
noncomputable def apw:=@List.append_nil
noncomputable def apx:=@Nat.lt_of_le_of_lt
noncomputable def apy:=@Option.map_some
noncomputable def apz:=@List.getElem?_set_ne
noncomputable def apA:=@List.getElem_mem
noncomputable def apB:=@List.getD_eq_getElem?_getD
noncomputable def apC:=@List.nodup_append
noncomputable def apD:=@List.map_congr_left
noncomputable def apE:=@List.length_range
noncomputable def apF:=@Classical.byContradiction
noncomputable def apG:=@List.mem_filterMap
noncomputable def apH:=@List.getElem?_replicate
noncomputable def apI:=@List.filter_congr
noncomputable def apJ:=@List.all_eq_true
noncomputable def apK:=@List.lookup_cons
noncomputable def apL:=@Nat.lt_irrefl
noncomputable def apM:=@List.length_filter_le
noncomputable def apN:=@List.pairwise_iff_getElem
noncomputable def apO:=@List.mem_of_mem_take
noncomputable def apP:=@List.nodup_cons
noncomputable def apQ:=@List.flatten_cons
noncomputable def apR:=@Option.isSome_map
noncomputable def apS:=@List.filter_sublist
noncomputable def apT:=@List.length_drop
noncomputable def apU:=@List.mem_range
noncomputable def apV:=@List.take_zero
noncomputable def apW:=@List.getElem?_drop
noncomputable def apX:=@Nat.ne_of_gt
noncomputable def apY:=@List.find?_cons
noncomputable def apZ:=@List.mem_iff_getElem?
noncomputable def ap0:=@List.Pairwise.sublist
noncomputable def ap1:=@List.append_assoc
noncomputable def ap2:=@Nat.lt_succ_of_lt
noncomputable def ap3:=@List.mem_iff_getElem
noncomputable def ap4:=@Heap.size_push
noncomputable def ap5:=@Calls.call_function_entry
noncomputable def ap6:=@List.drop_eq_getElem_cons
noncomputable def ap7:=@List.not_mem_nil
noncomputable def ap8:=@Nat.le_succ
noncomputable def ap9:=@List.getElem?_range
noncomputable def aqa:=@Option.isSome_iff_exists
noncomputable def aqb:=@Nat.sub_self
noncomputable def aqc:=@Bool.eq_iff_iff
noncomputable def aqd:=@Calls.spliced_cons
noncomputable def aqe:=@List.any_cons
noncomputable def aqf:=@Nat.not_lt_zero
noncomputable def aqg:=@List.pairwise_cons
noncomputable def aqh:=@List.filter_append
noncomputable def aqi:=@List.pairwise_singleton
noncomputable def aqj:=@Calls.callWith_builtin
noncomputable def aqk:=@List.map_nil
noncomputable def aql:=@List.take_append_drop
noncomputable def aqm:=@Nat.lt_succ_self
noncomputable def aqn:=@Bool.and_eq_true
noncomputable def aqo:=@Calls.evalArgs_plain
noncomputable def aqp:=@List.pairwise_append
noncomputable def aqq:=@Array.length_toList
noncomputable def aqr:=@Calls.Name_function_global
noncomputable def aqs:=@Nat.le_of_lt
noncomputable def aqt:=@List.getElem?_take
noncomputable def aqu:=@Bool.and_false
noncomputable def aqv:=@Calls.spliced_nil
noncomputable def aqw:=@List.getElem?_set
noncomputable def aqx:=@List.getElem_take
noncomputable def aqy:=@Paired.length
noncomputable def aqz:=@List.of_mem_zip
noncomputable def aqA:=@List.filter_map
noncomputable def aqB:=@List.range_succ
end
section
namespace L2
open PySem PySem.Spec PyProof.Rows
noncomputable abbrev Key:=Sum Int Str
noncomputable def uU:Key->Value->Bool
  | .inl k,v=>Value.isInt k v
  | .inr x,v=>Value.isStrOf x v
noncomputable def adp(w:World):Key->Int
  | .inl k=>hashInt k
  | .inr x=>hashStr w x
theorem cG:∀ {k:Key} {v:Value},uU k v=true->(∃ i t,k=Sum.inl i/\v=Value.int i t)\/(∃ x t,k=Sum.inr x/\v=Value.str x t)
  | .inl i,v,h=>by
    obtain⟨t,e⟩:=Value.isInt_shape (k:=i) (v:=v) h;exact .inl ⟨i,t,rfl,e⟩
  | .inr x,v,h=>by
    obtain⟨t,e⟩:=Value.isStrOf_shape (x:=x) (v:=v) h;exact .inr ⟨x,t,rfl,e⟩
theorem TM(i:Int)(t:Tok):uU (.inl i) (.int i t)=true:=by simp[uU,Value.isInt]
theorem TN(x:Str)(t:Tok):uU (.inr x) (.str x t)=true:=by simp[uU,Value.isStrOf]
theorem Zx(a b:Int):decide ((Sum.inl a:Key)=Sum.inl b)=(a == b):=by
  by_cases e:a=b
  · subst e;simp
  · have h:¬(Sum.inl a:Key)=Sum.inl b:=λq=>e (Sum.inl.inj q)
    rw[decide_eq_false h];exact(beq_eq_false_iff_ne.mpr e).symm
theorem Zy(a b:Str):decide ((Sum.inr a:Key)=Sum.inr b)=decide (a=b):=by
  by_cases e:a=b
  · subst e;simp
  · have h:¬(Sum.inr a:Key)=Sum.inr b:=λq=>e (Sum.inr.inj q)
    rw[decide_eq_false h,decide_eq_false e]
theorem Zz(a:Int)(b:Str):decide ((Sum.inl a:Key)=Sum.inr b)=false:=decide_eq_false (λq=>nomatch q)
theorem ZA(a:Str)(b:Int):decide ((Sum.inr a:Key)=Sum.inl b)=false:=decide_eq_false (λq=>nomatch q)
noncomputable def cH(prog:Program)(w:World):PySem.KeyKind prog w Key where
  is:=uU
  hash:=adp w
  inj:=λv a b ha hb=>by
    rcases cG ha with⟨i,t,rfl,rfl⟩|⟨x,t,rfl,rfl⟩
    · rcases cG hb with⟨j,u,rfl,e⟩|⟨y,u,rfl,e⟩
      · injection e with e1 _;rw[e1]
      · exact nomatch e
    · rcases cG hb with⟨j,u,rfl,e⟩|⟨y,u,rfl,e⟩
      · exact nomatch e
      · injection e with e1 _;rw[e1]
  byValue:=λk v h=>by
    rcases cG h with⟨i,t,rfl,rfl⟩|⟨x,t,rfl,rfl⟩<;>rfl
  pyHash:=λhv h=>by
    rcases cG hv with⟨i,t,rfl,rfl⟩|⟨x,t,rfl,rfl⟩
    · exact wpAny_pyHash_int h
    · exact wpAny_pyHash_str h
  eqBool:=λhu hv h=>by
    rcases cG hu with⟨i,t,rfl,rfl⟩|⟨x,t,rfl,rfl⟩
    · rcases cG hv with⟨j,u,rfl,rfl⟩|⟨y,u,rfl,rfl⟩
      · rw[Zx]at h;exact wpAny_eqBool_int h
      · rw[Zz]at h;exact SeqAt.EqAt.int_str i t y u _ _ _ _ h
    · rcases cG hv with⟨j,u,rfl,rfl⟩|⟨y,u,rfl,rfl⟩
      · rw[ZA]at h;exact SeqAt.EqAt.str_int x t j u _ _ _ _ h
      · rw[Zy]at h;exact wpAny_eqBool_str h
  «strs» := λk x t v h=>by
    rcases cG h with⟨i,u,rfl,e⟩|⟨y,u,rfl,e⟩
    · exact nomatch e
    · injection e with e1 _
      subst e1;cases v<;>rfl
theorem N2(prog:Program)(w:World)(i:Int)(t:Tok):(cH prog w).is (.inl i) (.int i t)=true:=TM i t
theorem N3(prog:Program)(w:World)(x:Str)(t:Tok):(cH prog w).is (.inr x) (.str x t)=true:=TN x t
end L2
namespace L2
open PySem PySem.Spec PyProof.Rows
inductive V where
  | non|bl (b:Bool)|int (i:Int)|str (x:Str)|byt (b:Array UInt8)|flt (b:UInt64)|ref (a:Addr)|ty (n:String)
  deriving DecidableEq
noncomputable def RelV:V->Value->Prop
  | .non,u=>u=Value.none
  | .bl b,u=>u=Value.bool b
  | .int i,u=>∃ t,u=Value.int i t
  | .str x,u=>∃ t,u=Value.str x t
  | .byt b,u=>∃ t,u=Value.bytes b t
  | .flt b,u=>∃ t,u=Value.float b t
  | .ref a,u=>u=Value.ref a
  | .ty n,u=>u=Value.type n
noncomputable abbrev Vals:List V->List Value->Prop:=Paired RelV
theorem Vals.length{xs:List V}{us:List Value}(r:Vals xs us):xs.length=us.length:=aqy r
theorem Vals.get:∀ {xs:List V} {us:List Value} {i:Nat} {x:V},Vals xs us->xs[i]?=some x->∃ u,us[i]?=some u/\RelV x u
  | _,_,_,_,.nil,e=>by simp at e
  | _,_,0,_,.cons r _,e=>by simp at e;subst e;exact⟨_,rfl,r⟩
  | _,_,i+1,x,.cons _ t,e=>by
    obtain⟨u,h1,h2⟩:=Vals.get (i:=i) (x:=x) t (by simpa using e);exact⟨u,by simpa using h1,h2⟩
theorem Vals.set{x:V}{u:Value}(r:RelV x u):∀ {xs:List V} {us:List Value} (i:Nat),Vals xs us->Vals (xs.set i x) (us.set i u)
  | _,_,_,.nil=>.nil
  | _,_,0,.cons _ t=>.cons r t
  | _,_,i+1,.cons q t=>.cons q (Vals.set r i t)
theorem Vals.append:∀ {xs ys:List V} {us ws:List Value},Vals xs us->Vals ys ws->Vals (xs++ys) (us++ws)
  | _,_,_,_,.nil,s=>s
  | _,_,_,_,.cons r t,s=>.cons r (Vals.append t s)
theorem Vals.take:∀ {xs:List V} {us:List Value} (n:Nat),Vals xs us->Vals (xs.take n) (us.take n)
  | _,_,0,_=>.nil
  | _,_,_+1,.nil=>.nil
  | _,_,n+1,.cons r t=>.cons r (Vals.take n t)
theorem Vals.drop:∀ {xs:List V} {us:List Value} (n:Nat),Vals xs us->Vals (xs.drop n) (us.drop n)
  | _,_,0,r=>r
  | _,_,_+1,.nil=>.nil
  | _,_,n+1,.cons _ t=>Vals.drop n t
noncomputable def AJ:Option V->Option Value->Prop
  | some v,some u=>RelV v u
  | none,none=>True
  | _,_=>False
noncomputable def KV{κ:Type}:List (κ×V)->List (κ×Value)->Prop:=Paired λ(p:κ×V) (q:κ×Value)=>p.1=q.1/\RelV p.2 q.2
noncomputable def kV:Key->V
  | .inl i=>.int i
  | .inr x=>.str x
inductive HO where
  | lst (xs:List V)
  | tup (xs:List V)
  | dK (kvs:List (Key×V))|dT (kvs:List (List Key×V))
  | set (S:Int->Bool) (n:Nat)
  | ins (C dx:Addr) (fs:List (Str×V))
  | own (x:Addr)
  | xd (fs:List (Str×V))
  | met (f x:Addr)
  | rng (lo hi:Int)
  | frz (o:Obj) (u:HO)
  | tbl (ps:Array Value)
  | ext (φ:Heap->Prop)
noncomputable abbrev Hp:=Addr->Option HO
noncomputable def upd(H:Hp)(a:Addr)(o:HO):Hp:=λb=>if b=a then some o else H b
theorem ag{H:Hp}{a:Addr}{o:HO}:upd H a o a=some o:=by unfold upd;rw[if_pos rfl]
theorem af{H:Hp}{a b:Addr}{o:HO}(h:b≠a):upd H a o b=H b:=by unfold upd;rw[if_neg h]
theorem az{H:Hp}{a b:Addr}{o u:HO}(h:H a=some o)(h':H b=some u)(d:o≠u):a≠b:=by
  intro e;subst e;rw[h]at h';exact d (ao4 h')
theorem ao{H:Hp}{a b:Addr}{o:HO}(h:H a=some o)(h':H b=none):a≠b:=by
  intro e;subst e;rw[h]at h';cases h'
section
variable(P:Program)(w:World)
noncomputable def jd(H:Hp)(h:Heap)(a:Addr):HO->Prop
  | .lst xs=>xs.length<=sizeLine/\∃(its:List Value) (n:Nat),Vals xs its/\h.get? a=some {cls:=.type "list",data:=.seq its.toArray n}
  | .tup xs=>xs.length<=sizeLine/\∃ its:List Value,Vals xs its/\IsTup h a its.toArray
  | .dK kvs=>kvs.length<=sizeLine/\(a == sysModules)=false/\∃ vs,KV kvs vs/\h.DictOf (cH P w) a vs
  | .dT kvs=>kvs.length<=sizeLine/\(a == sysModules)=false/\∃ xs:List (List Key×Addr×Value),
      Paired (λ(p:List Key×V) (q:List Key×Addr×Value)=>p.1=q.1/\H q.2.1=some (.tup (p.1.map kV))/\RelV p.2 q.2.2) kvs xs /\
      ∃ o es ep,h.get? a=some o/\o.ExactDict/\o.data=.dict es ep/\es.toList=xs.map (entryOfKey (tupleKind (cH P w)))/\(xs.map (·.1)).Nodup
  | .set S n=>h.SetOf (intKind P w) a S n
  | .ins C dx fs=>H dx=some (.own a)/\fs.length<=1000/\dx≠a/\h.get? a=some (PySem.W.instObj C dx) /\
      ∃ mA,h.Ns1 dx mA/\(∀ f,AJ (fs.lookup f) (mA f))/\PySem.Within mA (fs.map (·.1))
  | .own _=>∃ o,h.get? a=some o
  | .xd fs=>∃ mA,h.Ns1 a mA/\∀ f,AJ (fs.lookup f) (mA f)
  | .rng lo hi=>∃ t u v,h.get? a=some {cls:=.type "range",data:=.fields #[.int lo t,.int hi u,.int 1 v]}
  | .frz o u=>h.get? a=some o/\jd H h a u
  | .tbl ps=>h.get? a=some {cls:=.none,data:=.fields ps}
  | .met f x=>h.get? a=some (PySem.W.methodObj (.ref f) 5e2)
  | .ext φ=>φ h/\(∃ o,h.get? a=some o)/\∀ h1 h2:Heap,φ h1->(∀ o,h1.get? a=some o->h2.get? a=some o)->φ h2
noncomputable def HOk(H:Hp)(h:Heap):Prop:=∀ a o,H a=some o->jd P w H h a o
end
section
variable{P:Program}{w:World}{H H':Hp}{h h':Heap}{a:Addr}{o:HO}
theorem jd.lt(x:jd P w H h a o):a<h.objs.size:=by
  cases o with
  | lst xs=>obtain⟨_,_,_,_,e⟩:=x;exact aoQ e
  | tup xs=>obtain⟨_,_,_,p⟩:=x;exact p.lt
  | dK kvs=>obtain⟨_,_,_,_,o,_,_,e,_⟩:=x;exact aoQ e
  | dT kvs=>obtain⟨_,_,_,_,o,_,_,e,_⟩:=x;exact aoQ e
  | set S n=>obtain⟨o,_,_,_,e,_⟩:=x;exact aoQ e
  | ins C dx fs=>obtain⟨_,_,_,e,_⟩:=x;exact aoQ e
  | own y=>obtain⟨_,e⟩:=x;exact aoQ e
  | xd fs=>obtain⟨_,⟨_,_,_,e,_⟩,_⟩:=x;exact aoQ e
  | rng lo hi=>obtain⟨_,_,_,e⟩:=x;exact aoQ e
  | frz ob u=>obtain⟨e,_⟩:=x;exact aoQ e
  | tbl ps=>exact aoQ (show h.get? a=some _ from x)
  | met f y=>exact aoQ (show h.get? a=some _ from x)
  | ext φ=>obtain⟨_,⟨_,e⟩,_⟩:=x;exact aoQ e
theorem Paired.aax{α β:Type}{F G:α->β->Prop}:∀ {l₁:List α} {l₂:List β},Paired F l₁ l₂->(∀ a b,F a b->G a b)->Paired G l₁ l₂
  | _,_,.nil,_=>.nil
  | _,_,.cons r t,f=>.cons (f _ _ r) (Paired.aax t f)
theorem jd.Pp(x:jd P w H h a o)(k:∀ b u,(b=a\/H b=some (.own a))->h.get? b=some u->h'.get? b=some u)
    (ho:∀ b,H b=some (.own a)->H' b=some (.own a)) (ht:∀ b xs,H b=some (.tup xs)->H' b=some (.tup xs)):jd P w H' h' a o:=by
  induction o with
  | lst xs=>obtain⟨z,its,n,r,e⟩:=x;exact⟨z,its,n,r,k _ _ 2e9 e⟩
  | tup xs=>obtain⟨z,its,r,ob,e,c⟩:=x;exact⟨z,its,r,ob,k _ _ 2e9 e,c⟩
  | dK kvs=>obtain⟨z,y,vs,r,ob,es,ep,e,c⟩:=x;exact⟨z,y,vs,r,ob,es,ep,k _ _ 2e9 e,c⟩
  | dT kvs =>
    obtain⟨z,y,xs,r,ob,es,ep,e,c⟩:=x;exact⟨z,y,xs,Paired.aax r λp q z=>⟨z.1,ht _ _ z.2.1,z.2.2⟩,ob,es,ep,k _ _ 2e9 e,c⟩
  | set S n=>obtain⟨ob,es,ep,t,e,c⟩:=x;exact⟨ob,es,ep,t,k _ _ 2e9 e,c⟩
  | ins C dx fs =>
    obtain⟨d,z,ne,e,mA,⟨od,es,ep,e2,c⟩,r⟩:=x;exact⟨ho _ d,z,ne,k _ _ 2e9 e,mA,⟨od,es,ep,k _ _ (.inr d) e2,c⟩,r⟩
  | own y=>obtain⟨ob,e⟩:=x;exact⟨ob,k _ _ 2e9 e⟩
  | xd fs=>obtain⟨mA,⟨od,es,ep,e,c⟩,r⟩:=x;exact⟨mA,⟨od,es,ep,k _ _ 2e9 e,c⟩,r⟩
  | rng lo hi=>obtain⟨t,u,v,e⟩:=x;exact⟨t,u,v,k _ _ 2e9 e⟩
  | frz ob u ih=>obtain⟨e,q⟩:=x;exact⟨k _ _ 2e9 e,ih q⟩
  | tbl ps =>
    have e:h.get? a=some {cls:=.none,data:=.fields ps}:=x;show h'.get? a=some {cls:=.none,data:=.fields ps};exact k a _ 2e9 e
  | met f y =>
    have e:h.get? a=some (PySem.W.methodObj (.ref f) (.ref y)):=x;show h'.get? a=some (PySem.W.methodObj (.ref f) (.ref y));exact k a _ 2e9 e
  | ext φ=>obtain⟨p,⟨o,e⟩,st⟩:=x;exact⟨st _ _ p λo q=>k _ _ 2e9 q,⟨o,k _ _ 2e9 e⟩,st⟩
theorem HOk.lt(x:HOk P w H h)(e:H a=some o):a<h.objs.size:=(x a o e).lt
theorem HOk.fresh(x:HOk P w H h)(e:h.objs.size<=a):H a=none:=by
  cases q:H a with
  | none=>rfl
  | some u=>exact absurd (ao0 (x.lt q) e) (apL _)
theorem HOk.kept(x:HOk P w H h)(k:∀ b u,h.get? b=some u->h'.get? b=some u):HOk P w H h':=λa o e =>
  (x a o e).Pp (λb u _ q=>k b u q) 5e6 λ_ _ q=>q
theorem HOk.laid(x:HOk P w H h)(k:∀ b u,h.get? b=some u->h'.get? b=some u)(hp:h.objs.size<=a)(new:jd P w (upd H a o) h' a o):HOk P w (upd H a o) h':=λb u e=>by
  have hn:=x.fresh hp;by_cases hb:b=a
  · subst hb;rw[ag]at e;cases e;exact new
  · rw[af hb]at e
    exact(x b u e).Pp (λc v _ q=>k c v q) (λc q=>by rw[af (ao q hn)];exact q) λc xs q=>by rw[af (ao q hn)];exact q
end
noncomputable def Rd(H:Hp)(a:Addr)(u:HO):Prop:=H a=some u\/∃ o,H a=some (.frz o u)
theorem Rd.ok{P:Program}{w:World}{H:Hp}{h:Heap}{a:Addr}{u:HO}(r:Rd H a u)(x:HOk P w H h):jd P w H h a u:=by
  rcases r with r|⟨o,r⟩
  · exact x a u r
  · obtain⟨_,q⟩:=x a _ r
    exact q
noncomputable def Mut:Option HO->Prop
  | some (.lst _)=>True
  | some (.dK _)=>True
  | some (.dT _)=>True
  | some (.set _ _)=>True
  | some (.ins _ _ _)=>True
  | some (.ext _)=>True
  | _=>False
section
variable{P:Program}{w:World}{H:Hp}{h h':Heap}{x e:Addr}{o':HO}
theorem HOk.write(ok:HOk P w H h)(mu:Mut (H x))(he:e=x\/H e=some (.own x))(k:∀ b u,b≠e->h.get? b=some u->h'.get? b=some u)(heo:∃ u,h'.get? e=some u)
    (new:jd P w (upd H x o') h' x o'):HOk P w (upd H x o') h':=λb u q=>by
  have adq:∀ c y,H c=some (.own y)->c≠x:=λc y r z=>by subst z;rw[r]at mu;exact mu
  have aj6:∀ c xs,H c=some (.tup xs)->c≠x:=λc xs r z=>by subst z;rw[r]at mu;exact mu
  by_cases hb:b=x
  · subst hb;rw[ag]at q;cases q;exact new
  · rw[af hb]at q
    by_cases hbe:b=e
    · have q':H b=some (.own x):=by
        rcases he with z|z
        · exact absurd (hbe.trans z) hb
        · rw[hbe];exact z
      rw[q]at q';cases q';obtain⟨v,hv⟩:=heo;exact⟨v,by rw[hbe];exact hv⟩
    · refine(ok b u q).Pp (λc v hc r=>k c v ?_ r) (λc r=>by rw[af (adq c b r)];exact r) λc xs r=>by rw[af (aj6 c xs r)];exact r
      rcases hc with rfl|hc
      · exact hbe
      · rintro rfl
        rcases he with z|z
        · exact adq c b hc z
        · rw[hc]at z;cases z;exact hb rfl
end
structure Un(fs ex:List Addr)(H H':Hp)(h h':Heap):Prop where
  keep:∀ b o,h.get? b=some o->H b=none->b∉fs->b∉ex->h'.get? b=some o
  slot:∀ b o,h.get? b=some o->H b=none->b∈fs->b∉ex->∃ sl,h'.get? b=some {o with slots:=sl}
  free:∀ b o,h.get? b=some o->H b=none->b∉ex->H' b=none
  there:∀ b o,h.get? b=some o->b∉ex->∃ o',h'.get? b=some o'
  KW:∀ b xs,H b=some (.tup xs)->H' b=some (.tup xs)
  Jh:∀ b o u,H b=some (.frz o u)->H' b=some (.frz o u)
  KY:∀ b ps,H b=some (.tbl ps)->∃ more,H' b=some (.tbl (ps++more))
section
variable{fs fs' ex ex':List Addr}{H H1 H2:Hp}{h h1 h2 h':Heap}{a x e:Addr}{o:HO}
theorem Un.any(u:Un fs ex H H1 h h1){b:Addr}{ob:Obj}(q:h.get? b=some ob)(n:H b=none)(hx:b∉ex):∃ sl,h1.get? b=some {ob with slots:=sl}:=by
  by_cases hb:b∈fs
  · exact u.slot b ob q n hb hx
  · exact⟨ob.slots,u.keep b ob q n hb hx⟩
theorem Un.kept(k:∀ b u,h.get? b=some u->h'.get? b=some u):Un fs ex H H h h' :=
  ⟨λb ob q _ _ _=>k b ob q,λb ob q _ _ _=>⟨ob.slots,k b ob q⟩,λ_ _ _ n _=>n,λb ob q _=>⟨ob,k b ob q⟩,λ_ _ q=>q,λ_ _ _ q=>q,λ_ ps q=>⟨#[],by rw[q];simp⟩⟩
theorem Un.refl:Un fs ex H H h h:=Un.kept λ_ _ q=>q
theorem Un.laid(k:∀ b u,h.get? b=some u->h'.get? b=some u)(hp:h.objs.size<=a)(hn:H a=none):Un fs ex H (upd H a o) h h' where
  keep:=λb u q _ _ _=>k b u q
  slot:=λb u q _ _ _=>⟨u.slots,k b u q⟩
  free:=λb u q n _=>by rw[af (aoW (ao0 (aoQ q) hp))];exact n
  there:=λb u q _=>⟨u,k b u q⟩
  KW:=λb xs q=>by rw[af (ao q hn)];exact q
  Jh:=λb u xs q=>by rw[af (ao q hn)];exact q
  KY:=λb ps q=>⟨#[],by rw[af (ao q hn),q];simp⟩
theorem Un.write(mu:Mut (H x))(he:e=x\/H e=some (.own x))(k:∀ b u,b≠e->h.get? b=some u->h'.get? b=some u)(heo:∃ u,h'.get? e=some u):Un fs ex H (upd H x o) h h':=by
  have hx:∀ b,H b=none->b≠x:=λb n z=>by subst z;rw[n]at mu;exact mu
  have hb:∀ b,H b=none->b≠e:=λb n z=>by
    subst z;rcases he with r|r
    · exact hx b n r
    · rw[n]at r;cases r
  have hm:∀ b u,H b=some u->¬Mut (some u)->b≠x:=λb u q nm z=>by subst z;rw[q]at mu;exact nm mu
  refine⟨λb u q n _ _=>k b u (hb b n) q,λb u q n _ _=>⟨u.slots,k b u (hb b n) q⟩,λb u q n _=>by rw[af (hx b n)];exact n,λb u q _=>?_,
    λb xs q=>by rw[af (hm b _ q λz=>z)];exact q,λb u xs q=>by rw[af (hm b _ q λz=>z)];exact q,λb ps q=>⟨#[],by rw[af (hm b _ q λz=>z),q];simp⟩⟩
  by_cases hbe:b=e
  · subst hbe;exact heo
  · exact⟨u,k b u hbe q⟩
end
noncomputable def trk(h:Heap)(H:Hp):List Addr:=(List.range h.objs.size).filter λa=>(H a).isSome
noncomputable def QI(h:Heap)(H:Hp):Heap:=PySem.W.hideAll h (trk h H)
theorem TQ(h:Heap)(H:Hp):(QI h H).objs.size=h.objs.size:=PySem.W.hideAll_size _ _
theorem Vd{h:Heap}{H:Hp}{b:Addr}{o:Obj}(e:h.get? b=some o)(n:H b=none):(QI h H).get? b=some o :=
  PySem.W.hideAll_get _ e λhm=>by
    have q:(H b).isSome=true:=(apt.mp hm).2;rw[n]at q;simp at q
theorem XJ{h:Heap}{H:Hp}{b:Addr}{o:Obj}(e:(QI h H).get? b=some o):h.get? b=some o/\H b=none:=by
  have e':h.get? b=some o:=PySem.W.of_hideAll (trk h H) e;refine⟨e',?_⟩;cases q:H b with
  | none=>rfl
  | some x =>
    have hm:b∈trk h H:=apt.mpr ⟨apU.mpr (aoQ e'),by simp[q]⟩;have z:(QI h H).get? b=none:=PySem.W.hideAll_none (trk h H) hm;rw[z]at e;cases e
end L2
namespace L2
open PySem PySem.Spec PyProof.Rows
structure Mod(K:W.Frag)(mg:Str->Option Value)(base:Heap):Prop where
  kin:K.In base
  glob:base.Ns mainGlobals mg
  blt:∃ mb,base.Ns builtinsNs mb/\∀ x:Str,x ≠ "__name__" -> mb x=bootBuiltins x
  nolimit:base.NoLimit
structure Cx where
  prog:Program
  w:World
  K:W.Frag
  mg:Str->Option Value
  base:Heap
  A:Around
  N:List Str
  s₀:Shared
  H₀:Hp
  env:Env
  outer:List Env
  stack:List Env
  ex:List Addr
  fn:Str->Bool
  calm:Bool
  pn:List 3e5
  xe:Value->Shared->Prop
noncomputable def frs(l:List Env):List Addr:=l.filterMap (·.frame)
noncomputable abbrev Cx.fs(X:Cx):List Addr:=frs X.outer
noncomputable def Vis(sc:Scope)(x:Str):Prop:=sc.names.lookup x=some .local\/sc.names.lookup x=some .cell\/sc.names.lookup x=some .free
noncomputable def Loc(sc:Scope)(x:Str):Prop:=sc.names.lookup x=some .local\/sc.names.lookup x=some .cell
noncomputable def Look(env:Env)(h:Heap)(m:Str->Option Value)(x:Str)(u:Value):Prop :=
  (env.kindOf x=some .local/\m x=some u)\/((env.kindOf x=some .cell\/env.kindOf x=some .free)/\∃ c,env.cells.lookup x=some c/\h.IsCell c (some u))
structure Cx.Ok(X:Cx):Prop where
  mod:Mod X.K X.mg X.base
  kind:X.env.scope.kind=.function
  glob:X.env.globals=mainGlobals
  blt:X.env.builtins=builtinsNs
  above:X.s₀.heap.objs.size<=X.env.locals
  inj:∀ x y c,X.env.cells.lookup x=some c->X.env.cells.lookup y=some c->x=y
  has:∀ x,(X.env.kindOf x=some .cell\/X.env.kindOf x=some .free)->∃ c,X.env.cells.lookup x=some c
  cab:∀ x c,X.fn x=true->X.env.cells.lookup x=some c->X.s₀.heap.objs.size<=c
  hd:X.calm=true->X.A.handled=none
  frames:X.A.frames=some X.stack
  stk:X.stack=X.outer\/(X.stack=X.env::X.outer/\X.env.frame=some X.env.locals)
  exf:∀ b∈X.ex,b≠X.env.locals/\∀ x c,X.env.cells.lookup x=some c->c≠b
  bs:∀ b o,X.base.get? b=some o->X.s₀.heap.get? b=some o/\X.H₀ b=none
  bsz:X.base.objs.size<=X.s₀.heap.objs.size
  Sl:∀ b o,X.base.get? b=some o->b∉X.ex
  UX:∀ b∈X.ex,b∉X.fs
  GJ:X.s₀.heap.FunFrames X.base X.outer
  frf:∀ b∈X.fs,X.H₀ b=none
structure Inv(X:Cx)(pins:List (Addr×Obj))(σ:List (Option V))(H:Hp)(s:Shared):Prop where
  ok:X.Ok
  os:s.os=X.s₀.os
  bare:AllBare s.gens
  base:Un X.fs X.ex X.H₀ H X.s₀.heap s.heap
  loc:∃ m,s.heap.Ns X.env.locals m/\∀(i:Nat) (x:Str) (v:V),X.N[i]?=some x->σ[i]?=some (some v)->Vis X.env.scope x->∃ u,RelV v u/\Look X.env s.heap m x u
  cell:∀ x c,X.env.cells.lookup x=some c->∃ v,s.heap.IsCell c v
  free:H X.env.locals=none
  rU:∀ x c,X.env.cells.lookup x=some c->H c=none
  pin:∀ p∈X.pn++pins,s.heap.get? p.1=some p.2/\H p.1=none/\p.1≠X.env.locals/\p.1∉X.fs/\∀ v,p.2.data≠.cell v
  hok:HOk X.prog X.w H s.heap
  len:σ.length=X.N.length
section
variable{X:Cx}{pins:List (Addr×Obj)}{σ:List (Option V)}{H H':Hp}{s:Shared}{h':Heap}
theorem Cx.Ok.aj7(ok:X.Ok){b:Addr}{o:Obj}(e:X.base.get? b=some o):b∉X.fs:=λhb=>by
  have:=(ok.GJ.mem hb).1
  rw[e]at this;cases this
theorem Inv.bs(I:Inv X pins σ H s):∀ b o,X.base.get? b=some o->s.heap.get? b=some o/\H b=none:=λb o e =>
  ⟨I.base.keep b o (I.ok.bs b o e).1 (I.ok.bs b o e).2 (I.ok.aj7 e) (I.ok.Sl b o e),I.base.free b o (I.ok.bs b o e).1 (I.ok.bs b o e).2 (I.ok.Sl b o e)⟩
theorem Inv.bk(I:Inv X pins σ H s):∀ b o,X.base.get? b=some o->s.heap.get? b=some o:=λb o e=>(I.bs b o e).1
theorem Inv.mod(I:Inv X pins σ H s):Mod X.K X.mg X.base:=I.ok.mod
theorem Inv.kIn(I:Inv X pins σ H s):X.K.In s.heap:=I.ok.mod.kin.keeps I.bk
theorem Inv.lt(I:Inv X pins σ H s):X.env.locals<s.heap.objs.size:=let ⟨_,hn,_⟩:=I.loc;hn.lt
theorem Inv.sz(I:Inv X pins σ H s):X.s₀.heap.objs.size<=s.heap.objs.size:=ao7 I.ok.above (aqs I.lt)
theorem Inv.aj8(I:Inv X pins σ H s){a:Addr}(h:s.heap.objs.size<=a):a∉X.fs:=λhb=>by
  obtain⟨_,o,ho,_⟩:=I.ok.GJ.mem hb;exact absurd (ao0 (aoQ ho) (ao7 I.sz h)) (apL _)
theorem Inv.cne(I:Inv X pins σ H s):∀ x c,X.env.cells.lookup x=some c->c≠X.env.locals:=λx c e z=>by
  obtain⟨v,o,ho,hd⟩:=I.cell x c e;obtain⟨m,⟨o',es,ep,ho',hd',_⟩,_⟩:=I.loc;rw[z,ho']at ho;cases ho;rw[hd']at hd;cases hd
theorem Inv.GJ(I:Inv X pins σ H s):s.heap.FunFrames X.base X.outer:=by
  have all:∀(l:List Env),(∀ b∈frs l,b∈X.fs)->X.s₀.heap.FunFrames X.base l->s.heap.FunFrames X.base l:=by
    intro l;induction l with
    | nil=>intro _ _;trivial
    | cons env r ih =>
      intro hs hl;obtain⟨hk,⟨L,o,hf,hn,ho,hd⟩,hr⟩:=hl;have hL:L∈X.fs:=hs L (by unfold frs;rw[List.filterMap_cons,hf];exact ao3);obtain⟨sl,e⟩:=I.base.slot L o ho (I.ok.frf L hL) hL λz=>I.ok.UX L z hL;exact⟨hk,⟨L,_,hf,hn,e,hd⟩,ih (λb hb=>hs b (by unfold frs;rw[List.filterMap_cons,hf];exact ao6 _ hb)) hr⟩
  exact all X.outer (λ_ hb=>hb) I.ok.GJ
theorem Inv.stack(I:Inv X pins σ H s):s.heap.FunFrames X.base X.stack:=by
  rcases I.ok.stk with e|⟨e,hf⟩
  · rw[e];exact I.GJ
  · rw[e]
    obtain⟨m,hn,_⟩:=I.loc;refine .cons (by rw[I.ok.kind];decide) hf hn ?_ I.GJ;exact Heap.get?_none_of_le (ao7 I.ok.bsz I.ok.above)
theorem Inv.C9(I:Inv X pins σ H s):∀ b∈frs X.stack,b∈X.env.locals::X.fs:=λb hb=>by
  rcases I.ok.stk with e|⟨e,hf⟩
  · rw[e]at hb;exact ao6 _ hb
  · rw[e]at hb
    unfold frs at hb;rw[List.filterMap_cons,hf]at hb;exact hb
theorem Inv.Du(I:Inv X pins σ H s):∀ b∈frs X.stack,H b=none:=λb hb=>by
  rcases ao2.mp (I.C9 b hb) with e|hb
  · rw[e];exact I.free
  · obtain⟨_,o,ho,_⟩:=I.ok.GJ.mem hb
    exact I.base.free b o ho (I.ok.frf b hb) λz=>I.ok.UX b z hb
theorem Inv.step{g':Array GenState}{t':Nat}{d':Drawn}{ch:List Addr}(I:Inv X pins σ H s)
    (hch:∀ b∈ch,(b∈X.ex\/X.s₀.heap.objs.size<=b)/\b≠X.env.locals/\(∀ x c,X.env.cells.lookup x=some c->c≠b)/\∀ p∈X.pn++pins,p.1≠b)
    (keep:∀ b o,b≠X.env.locals->b∉X.fs->b∉ch->s.heap.get? b=some o->H b=none->h'.get? b=some o)
    (slot:∀ b o,b≠X.env.locals->b∈X.fs->b∉ch->s.heap.get? b=some o->H b=none->∃ sl,h'.get? b=some {o with slots:=sl}) (free:∀ b o,b∉ch->s.heap.get? b=some o->H b=none->H' b=none)
    (there:∀ b o,b∉ch->s.heap.get? b=some o->∃ o',h'.get? b=some o')
    (KW:∀ b xs,H b=some (.tup xs)->H' b=some (.tup xs)) (Jh:∀ b o u,H b=some (.frz o u)->H' b=some (.frz o u)) (KY:∀ b ps,H b=some (.tbl ps)->∃ more,H' b=some (.tbl (ps++more)))
    (ns:∀ m,s.heap.Ns X.env.locals m->h'.Ns X.env.locals m) (hok:HOk X.prog X.w H' h') (hg:AllBare g') :
    Inv X pins σ H' {s with heap:=h',gens:=g',drawn:=d',toks:=t'}:=by
  have neL:∀ b o,X.s₀.heap.get? b=some o->b≠X.env.locals:=λb o e=>aoW (ao0 (aoQ e) I.ok.above);have neC:∀ b o,X.s₀.heap.get? b=some o->b∉X.ex->b∉ch:=λb o e hx hb=>by
    rcases(hch b hb).1 with z|z
    · exact hx z
    · exact absurd (ao0 (aoQ e) z) (apL _)
  have cellK:∀ x c,X.env.cells.lookup x=some c->∀ v,s.heap.IsCell c v->h'.IsCell c v:=λx c e v ⟨o,ho,hd⟩=>by
    have nch:c∉ch:=λz=>(hch c z).2.2.1 x c e rfl;by_cases hc:c∈X.fs
    · obtain⟨sl,q⟩:=slot c o (I.cne x c e) hc nch ho (I.rU x c e)
      exact⟨_,q,hd⟩
    · exact⟨o,keep c o (I.cne x c e) hc nch ho (I.rU x c e),hd⟩
  refine⟨I.ok,I.os,hg,⟨λb o e n hb hx=>?_,λb o e n hb hx=>?_,λb o e n hx=>?_,λb o e hx=>?_,λb xs e=>KW b xs (I.base.KW b xs e),λb o xs e=>Jh b o xs (I.base.Jh b o xs e),λb ps e=>?_⟩,?_,λx c e=>?_,?_,λx c e=>?_,λp hp=>?_,hok,I.len⟩
  · exact keep b o (neL b o e) hb (neC b o e hx) (I.base.keep b o e n hb hx) (I.base.free b o e n hx)
  · obtain⟨sl,e1⟩:=I.base.slot b o e n hb hx
    obtain⟨sl',e2⟩:=slot b _ (neL b o e) hb (neC b o e hx) e1 (I.base.free b o e n hx);exact⟨sl',e2⟩
  · obtain⟨o',e1⟩:=I.base.there b o e hx
    exact free b o' (neC b o e hx) e1 (I.base.free b o e n hx)
  · obtain⟨o',e1⟩:=I.base.there b o e hx
    exact there b o' (neC b o e hx) e1
  · obtain⟨m1,e1⟩:=I.base.KY b ps e
    obtain⟨m2,e2⟩:=KY b _ e1;exact⟨m1++m2,by rw[e2,Array.append_assoc]⟩
  · obtain⟨m,hn,hl⟩:=I.loc
    refine⟨m,ns m hn,λi x v e1 e2 e3=>?_⟩;obtain⟨u,r,l⟩:=hl i x v e1 e2 e3;refine⟨u,r,?_⟩;rcases l with l|⟨k,c,e,z⟩
    · exact .inl l
    · exact .inr ⟨k,c,e,cellK x c e _ z⟩
  · obtain⟨v,z⟩:=I.cell x c e
    exact⟨v,cellK x c e v z⟩
  · obtain⟨m,⟨o,_,_,ho,_⟩,_⟩:=I.loc
    exact free _ o (λz=>(hch _ z).2.1 rfl) ho I.free
  · obtain⟨v,o,ho,hd⟩:=I.cell x c e
    exact free c o (λz=>(hch c z).2.2.1 x c e rfl) ho (I.rU x c e)
  · obtain⟨e,n,ne,nf,d⟩:=I.pin p hp
    have nch:p.1∉ch:=λz=>(hch p.1 z).2.2.2 p hp rfl;exact⟨keep p.1 p.2 ne nf nch e n,free p.1 p.2 nch e n,ne,nf,d⟩
theorem Inv.un{t':Nat}(I:Inv X pins σ H s)(u:Un X.fs [] H H' s.heap h')(hok:HOk X.prog X.w H' h'):Inv X pins σ H' {s with heap:=h',toks:=t'}:=by
  obtain⟨m,⟨o,es,ep,ho,r⟩,_⟩:=id I.loc;obtain⟨sl,hL⟩:=u.any ho I.free 1e9;exact I.step (g':=s.gens) (d':=s.drawn) (ch:=[]) 2e1 (λb o _ hb _ e n=>u.keep b o e n hb 1e9) (λb o _ hb _ e n=>u.slot b o e n hb 1e9) (λb o _ e n=>u.free b o e n 1e9) (λb o _ e=>u.there b o e 1e9) u.KW u.Jh u.KY (λm' hm=>by
    obtain⟨o',es',ep',ho',r'⟩:=hm;rw[ho]at ho';cases ho';exact⟨_,es',ep',hL,r'⟩) hok I.bare
theorem Inv.call{g':Array GenState}{t':Nat}{d':Drawn}{ch:List Addr}(I:Inv X pins σ H s)(u:Un (frs X.stack) ch H H' s.heap h')(hok:HOk X.prog X.w H' h')(hg:AllBare g')
    (hch:∀ b∈ch,(b∈X.ex\/X.s₀.heap.objs.size<=b)/\b≠X.env.locals/\(∀ x c,X.env.cells.lookup x=some c->c≠b)/\∀ p∈X.pn++pins,p.1≠b) :
    Inv X pins σ H' {s with heap:=h',gens:=g',drawn:=d',toks:=t'}:=by
  obtain⟨m,⟨o,es,ep,ho,r⟩,_⟩:=id I.loc;obtain⟨sl,hL⟩:=u.any ho I.free λz=>(hch _ z).2.1 rfl;exact I.step (ch:=ch) hch (λb o hL hb hc e n=>u.keep b o e n (λz=>(ao2.mp (I.C9 b z)).elim hL hb) hc) (λb o _ _ hc e n=>u.any e n hc) (λb o hc e n=>u.free b o e n hc) (λb o hc e=>u.there b o e hc) u.KW u.Jh u.KY (λm' hm=>by
    obtain⟨o',es',ep',ho',r'⟩:=hm;rw[ho]at ho';cases ho';exact⟨_,es',ep',hL,r'⟩) hok hg
theorem Inv.turned{t':Nat}{it:Addr}(I:Inv X pins σ H s)(k:∀ b o,b≠it->s.heap.get? b=some o->h'.get? b=some o)(hn:H it=none)(hL:it≠X.env.locals)
    (h1:it∈X.ex\/X.s₀.heap.objs.size<=it) (h2:∀ x c,X.env.cells.lookup x=some c->c≠it) (h3:∀ p∈X.pn++pins,p.1≠it):Inv X pins σ H {s with heap:=h',toks:=t'}:=by
  have nit:∀ b u,H b=some u->b≠it:=λb u e z=>by rw[z,hn]at e;cases e
  refine I.step (g':=s.gens) (d':=s.drawn) (ch:=[it]) (λb hb=>?_) (λb o _ _ hc e _=>k b o (λz=>hc (by simp[z])) e) (λb o _ _ hc e _=>⟨o.slots,k b o (λz=>hc (by simp[z])) e⟩) (λ_ _ _ _ n=>n)
    (λb o hc e=>⟨o,k b o (λz=>hc (by simp[z])) e⟩) (λ_ _ e=>e) (λ_ _ _ e=>e) (λb ps e=>⟨#[],by rw[e];simp⟩) (λm hm=>?_) (λb u e=>?_) I.bare
  · have e:b=it:=by simpa using hb
    subst e;exact⟨h1,hL,h2,h3⟩
  · obtain⟨o,es,ep,ho,r⟩:=hm
    exact⟨o,es,ep,k _ o (aoT hL) ho,r⟩
  · refine(I.hok b u e).Pp (λc v hc q=>k c v ?_ q) 5e6 λ_ _ q=>q
    rcases hc with z|z
    · rw[z];exact nit b u e
    · exact nit c _ z
theorem Inv.tok(I:Inv X pins σ H s)(t:Nat):Inv X pins σ H {s with toks:=t}:=I.un (h':=s.heap) (t':=t) Un.refl I.hok
theorem Inv.kept{t':Nat}(I:Inv X pins σ H s)(k:∀ b u,s.heap.get? b=some u->h'.get? b=some u):Inv X pins σ H {s with heap:=h',toks:=t'}:=I.un (Un.kept k) (I.hok.kept k)
theorem Inv.laid{a:Addr}{o:HO}{t':Nat}(I:Inv X pins σ H s)(k:∀ b u,s.heap.get? b=some u->h'.get? b=some u)(hp:s.heap.objs.size<=a)(new:jd X.prog X.w (upd H a o) h' a o) :
    Inv X pins σ (upd H a o) {s with heap:=h',toks:=t'}:=I.un (Un.laid k hp (I.hok.fresh hp)) (I.hok.laid k hp new)
theorem Inv.write{x e:Addr}{o:HO}{t':Nat}(I:Inv X pins σ H s)(mu:Mut (H x))(he:e=x\/H e=some (.own x))(k:∀ b u,b≠e->s.heap.get? b=some u->h'.get? b=some u)(heo:∃ u,h'.get? e=some u)
    (new:jd X.prog X.w (upd H x o) h' x o):Inv X pins σ (upd H x o) {s with heap:=h',toks:=t'}:=I.un (Un.write mu he k heo) (I.hok.write mu he k heo new)
theorem Inv.Sn{QJ:List (Addr×Obj)}(I:Inv X pins σ H s)(h:∀ p∈QJ,s.heap.get? p.1=some p.2/\H p.1=none/\p.1≠X.env.locals/\p.1∉X.fs/\∀ v,p.2.data≠.cell v):Inv X QJ σ H s :=
  ⟨I.ok,I.os,I.bare,I.base,I.loc,I.cell,I.free,I.rU,λp hp=>(aoU.mp hp).elim (λz=>I.pin p (apf _ z)) (h p),I.hok,I.len⟩
theorem Pq{N:List Str}(hN:N.Nodup){i j:Nat}{x:Str}(a:N[i]?=some x)(b:N[j]?=some x):i=j:=by
  obtain⟨h1,e1⟩:=aoE.mp a;obtain⟨h2,e2⟩:=aoE.mp b;exact(List.getElem_inj hN).mp (e1.trans e2.symm)
theorem TR{M:Model}{A:Around}{E:Value->Shared->Prop}{i:Nat}{x:Str}{v:V}{u:Value}{Q:Unit->Shared->Prop}(I:Inv X pins σ H s)(hN:X.N.Nodup)(hi:X.N[i]?=some x)(hx:Loc X.env.scope x)(r:RelV v u)
    (h:∀ s',Inv X pins (σ.set i (some v)) H s'->(∃ a,Heap.SameBut a s.heap s'.heap/\(a=X.env.locals\/X.env.cells.lookup x=some a))->Q () s') (hf:X.fn x=true\/X.env.scope.names.lookup x=some .local:=by first|exact .inl rfl|exact .inr rfl|assumption):wpAny M A (storeName X.env x u) Q E s:=by
  obtain⟨m,hn,hl⟩:=id I.loc;have aj9:(X.env.scope.kind == .class||(X.env.scope.kind == .module&&X.env.locals != X.env.globals))=false:=by rw[I.ok.kind];rfl
  have hiσ:i<σ.length:=by rw[I.len];exact(aoE.mp hi).1
  have cne:=I.cne;have tracked:∀ {a:Addr} {h':Heap},(∃ o,s.heap.get? a=some o/\H a=none)->Heap.SameBut a s.heap h'->HOk X.prog X.w H h':=λ{a h'} ha hs b ob e=>by
    obtain⟨_,_,YT⟩:=ha;refine(I.hok b ob e).Pp (λc w' hc q=>(hs.2 c ?_).trans q) 5e6 λ_ _ q=>q;rintro rfl;rcases hc with rfl|hc
    · rw[YT]at e;cases e
    · rw[YT]at hc;cases hc
  rcases hx with hk|hk
  · refine wpAny_storeName_local hk hn (λh' hn' hs=>?_) aj9
    obtain⟨oL,_,_,hoL,_⟩:=id hn;refine h _ ⟨I.ok,I.os,I.bare,⟨λb o e n hb hx=>?_,λb o e n hb hx=>?_,I.base.free,λb o e hx=>?_,I.base.KW,I.base.Jh,I.base.KY⟩,⟨_,hn',λj y v' e1 e2 e3=>?_⟩,λy c e=>?_,I.free,I.rU,λp hp=>?_,tracked ⟨oL,hoL,I.free⟩ hs,by simpa using I.len⟩ ⟨_,hs,.inl rfl⟩
    · exact(hs.2 b (aoW (ao0 (aoQ e) I.ok.above))).trans (I.base.keep b o e n hb hx)
    · obtain⟨sl,e1⟩:=I.base.slot b o e n hb hx
      exact⟨sl,(hs.2 b (aoW (ao0 (aoQ e) I.ok.above))).trans e1⟩
    · obtain⟨o',e1⟩:=I.base.there b o e hx
      exact⟨o',(hs.2 b (aoW (ao0 (aoQ e) I.ok.above))).trans e1⟩
    · by_cases hj:j=i
      · subst hj
        rw[hi]at e1;cases e1;rw[apo hiσ]at e2;cases e2;exact⟨u,r,.inl ⟨hk,by simp⟩⟩
      · rw[apz (aoT hj)]at e2
        obtain⟨u',r',q⟩:=hl j y v' e1 e2 e3;refine⟨u',r',?_⟩;rcases q with⟨k,e⟩|⟨k,c,e,z⟩
        · refine .inl ⟨k,?_⟩
          have:y≠x:=λe=>hj (Pq hN e1 (e ▸ hi))
          simp[this,e]
        · exact .inr ⟨k,c,e,z.sameBut hs (cne y c e)⟩
    · obtain⟨w',z⟩:=I.cell y c e
      exact⟨w',z.sameBut hs (cne y c e)⟩
    · obtain⟨e,n,ne,nf,d⟩:=I.pin p hp
      exact⟨(hs.2 p.1 ne).trans e,n,ne,nf,d⟩
  · have hfn:X.fn x=true:=by
      rcases hf with z|z
      · exact z
      · rw[z]at hk;cases hk
    obtain⟨c,hc⟩:=I.ok.has x (.inl hk);obtain⟨w',z⟩:=I.cell x c hc;refine wpAny_storeName_cell I.ok.kind hk hc z (λh' hc' hs=>?_);obtain⟨oc,hoc,aka⟩:=id z;refine h {s with heap:=h'} ⟨I.ok,I.os,I.bare,⟨λb o e n hb hx=>?_,λb o e n hb hx=>?_,I.base.free,λb o e hx=>?_,I.base.KW,I.base.Jh,I.base.KY⟩,⟨m,hn.sameBut hs (aoT (cne x c hc)),λj y v' e1 e2 e3=>?_⟩,λy c' e=>?_,I.free,I.rU,λp hp=>?_,tracked ⟨oc,hoc,I.rU x c hc⟩ hs,by simpa using I.len⟩ ⟨c,hs,.inr hc⟩
    · exact(hs.2 b (aoW (ao0 (aoQ e) (I.ok.cab x c hfn hc)))).trans (I.base.keep b o e n hb hx)
    · obtain⟨sl,e1⟩:=I.base.slot b o e n hb hx
      exact⟨sl,(hs.2 b (aoW (ao0 (aoQ e) (I.ok.cab x c hfn hc)))).trans e1⟩
    · obtain⟨o',e1⟩:=I.base.there b o e hx
      exact⟨o',(hs.2 b (aoW (ao0 (aoQ e) (I.ok.cab x c hfn hc)))).trans e1⟩
    · by_cases hj:j=i
      · subst hj
        rw[hi]at e1;cases e1;rw[apo hiσ]at e2;cases e2;exact⟨u,r,.inr ⟨.inl hk,c,hc,hc'⟩⟩
      · rw[apz (aoT hj)]at e2
        obtain⟨u',r',q⟩:=hl j y v' e1 e2 e3;refine⟨u',r',?_⟩;rcases q with q|⟨k,c',e,z'⟩
        · exact .inl q
        · refine .inr ⟨k,c',e,z'.sameBut hs ?_⟩
          rintro rfl;exact hj (Pq hN e1 (I.ok.inj _ _ _ e hc ▸ hi))
    · by_cases hcc:c'=c
      · subst hcc;exact⟨_,hc'⟩
      · obtain⟨w2,z2⟩:=I.cell y c' e
        exact⟨w2,z2.sameBut hs hcc⟩
    · obtain⟨e,n,ne,nf,d⟩:=I.pin p hp
      refine⟨(hs.2 p.1 ?_).trans e,n,ne,nf,d⟩;intro q;rw[q,hoc]at e;have q':oc=p.2:=ao4 e;exact d w' (by rw[<-q'];exact aka)
theorem IQ{M:Model}{A:Around}{E:Value->Shared->Prop}{i:Nat}{x:Str}{v:V}{u:Value}{Q:Unit->Shared->Prop}(I:Inv X pins σ H s)(hN:X.N.Nodup)(hi:X.N[i]?=some x)(hx:Loc X.env.scope x)(r:RelV v u)
    (h:∀ s',Inv X pins (σ.set i (some v)) H s'->Q () s') (hf:X.fn x=true\/X.env.scope.names.lookup x=some .local:=by first|exact .inl rfl|exact .inr rfl|assumption):wpAny M A (storeName X.env x u) Q E s :=
  TR I hN hi hx r (λs' I' _=>h s' I') hf
theorem Inv.NI{s':Shared}{ch:List Addr}(I:Inv X pins σ H s)(ho:s'.os=s.os)(u:Un (frs X.stack) ch H H' s.heap s'.heap)(hok:HOk X.prog X.w H' s'.heap)(hg:AllBare s'.gens)
    (hch:∀ b∈ch,(b∈X.ex\/X.s₀.heap.objs.size<=b)/\b≠X.env.locals/\(∀ x c,X.env.cells.lookup x=some c->c≠b)/\∀ p∈X.pn++pins,p.1≠b):Inv X pins σ H' s':=by
  obtain⟨h',g',d',t',o'⟩:=s';have e:o'=s.os:=ho;subst e;exact I.call (g':=g') (t':=t') (d':=d') u hok hg hch
end
noncomputable abbrev XK:=Value->Option Addr->Hp->Prop
noncomputable abbrev St:=List (Option V)
noncomputable abbrev VK:=V->Hp->Prop
noncomputable abbrev TE:=St->Hp->VK->Prop
noncomputable abbrev TT:=St->Hp->(Bool->Hp->Prop)->Prop
noncomputable abbrev TA:=St->Hp->(List V->Hp->Prop)->Prop
structure Ends where
  nx:St->Hp->Prop
  rt:VK
  bk:St->Hp->Prop:=λ_ _=>False
  ct:St->Hp->Prop:=λ_ _=>False
noncomputable abbrev TS:=Ends->St->Hp->Prop
noncomputable def EP(X:Cx)(pins:List (Addr×Obj))(σ:St)(Q:VK)(u:Value)(s':Shared):Prop:=∃ v H',Inv X pins σ H' s'/\RelV v u/\Q v H'
noncomputable def TP(X:Cx)(pins:List (Addr×Obj))(σ:St)(Q:Bool->Hp->Prop)(b:Bool)(s':Shared):Prop:=∃ H',Inv X pins σ H' s'/\Q b H'
noncomputable def AP(X:Cx)(pins:List (Addr×Obj))(σ:St)(Q:List V->Hp->Prop)(us:List Value)(s':Shared):Prop:=∃ vs H',Inv X pins σ H' s'/\Vals vs us/\Q vs H'
noncomputable def SP(X:Cx)(pins:List (Addr×Obj))(D:Ends)(f:Flow)(s':Shared):Prop :=
  match f with
  | .next=>∃ σ' H',Inv X pins σ' H' s'/\D.nx σ' H'
  | .brk=>∃ σ' H',Inv X pins σ' H' s'/\D.bk σ' H'
  | .cont=>∃ σ' H',Inv X pins σ' H' s'/\D.ct σ' H'
  | .ret u=>∃ v σ' H',Inv X pins σ' H' s'/\RelV v u/\D.rt v H'
noncomputable def PE(X:Cx)(e:Expr)(t:TE):Prop :=
  ∀(pins:List 3e5) (s:Shared) (σ:St) (H:Hp) (Q:VK),Inv X pins σ H s->t σ H Q->wpAny 1e6 X.A (eval e X.env) 4e8 X.xe s
noncomputable def PT(X:Cx)(e:Expr)(t:TT):Prop :=
  ∀(pins:List 3e5) (s:Shared) (σ:St) (H:Hp) (Q:Bool->Hp->Prop),Inv X pins σ H s->t σ H Q->wpAny 1e6 X.A (isTrue e X.env (eval e X.env)) (TP X pins σ Q) X.xe s
noncomputable def PW(X:Cx)(e:Expr)(t:TT):Prop :=
  ∀(whole:Sem Value) (pins:List 3e5) (s:Shared) (σ:St) (H:Hp) (Q:Bool->Hp->Prop),Inv X pins σ H s->t σ H Q->wpAny 1e6 X.A (isTrue e X.env whole) (TP X pins σ Q) X.xe s
theorem PW.pt{X:Cx}{e:Expr}{t:TT}(h:PW X e t):PT X e t:=h _
noncomputable def PA(X:Cx)(es:List Expr)(t:TA):Prop :=
  ∀(pos:Pos) (pins:List 3e5) (s:Shared) (σ:St) (H:Hp) (Q:List V->Hp->Prop),Inv X pins σ H s->t σ H Q->wpAny 1e6 X.A (spliced (backTo pos (starEach es X.env))) (AP X pins σ Q) X.xe s
noncomputable def PS(X:Cx)(st:Stmt)(t:TS):Prop :=
  ∀(pins:List 3e5) (s:Shared) (σ:St) (H:Hp) (D:Ends),Inv X pins σ H s->t D σ H->wpAny 1e6 X.A (exec st X.env) (SP X pins D) X.xe s
noncomputable def PSs(X:Cx)(st:List Stmt)(t:TS):Prop :=
  ∀(pins:List 3e5) (s:Shared) (σ:St) (H:Hp) (D:Ends),Inv X pins σ H s->t D σ H->wpAny 1e6 X.A (execs st X.env) (SP X pins D) X.xe s
theorem thn{α:Type}{t:Sem α}{Q Q':α->Shared->Prop}{M:Model}{A:Around}{E:Value->Shared->Prop}{s:Shared}(h:wpAny M A t Q E s)(hQ:∀ a s,Q a s->Q' a s):wpAny M A t Q' E s:=wpAny_mono h hQ λ_ _ x=>x
end L2
namespace L2
open PySem PySem.Spec PyProof.Rows
section
variable{X:Cx}
inductive ads(o:Option (Option V))(H:Hp)(Q:VK):Prop where
  | mk (v:V):o=some (some v)->Q v H->ads o H Q
noncomputable def adt(i:Nat):TE:=λσ H Q=>ads σ[i]? H Q
noncomputable def tC(v:V):TE:=λ_ H Q=>Q v H
theorem ZC{i:Nat}{x:Str}{pos:Pos}(hN:X.N[i]?=some x)(hv:Vis X.env.scope x)(hd:(x == ("__debug__" : Str))=false:=by decide)(hcd:(x == ("__classdict__" : Str))=false:=by decide):PE X (.Name x pos) (adt i):=by
  intro pins s σ H Q I h;obtain⟨v,e,h⟩:=h;obtain⟨m,hn,hl⟩:=I.loc;obtain⟨u,r,l⟩:=hl i x v hN e hv;have fin:EP X pins σ Q u s:=⟨v,H,I,r,h⟩;rcases l with⟨hk,hm⟩|⟨hk,c,hc,UL⟩
  · exact wpAny_Name (wpAny_loadName_local I.ok.kind hk hn hm fin) hd
  · rcases hk with hk|hk
    · exact wpAny_Name (wpAny_loadName_cell I.ok.kind hk hc UL fin) hd
    · exact wpAny_Name (wpAny_loadName_free I.ok.kind hk hc UL fin hcd) hd
theorem au{i j pos}:PE X (.Constant (.int i) j pos) (tC (.int i)):=λ_ _ _ H _ I h=>wpAny_Constant_int ⟨.int i,H,I.tok _,⟨_,rfl⟩,h⟩
theorem Di{b j pos}:PE X (.Constant (.bool b) j pos) (tC (.bl b)):=λ_ _ _ H _ I h=>Constant_bool ⟨.bl b,H,I,rfl,h⟩
theorem bR{j pos}:PE X (.Constant .none j pos) (tC .non):=λ_ _ _ H _ I h=>Constant_none ⟨.non,H,I,rfl,h⟩
theorem cK{x j pos}:PE X (.Constant (.str x) j pos) (tC (.str x)):=λ_ _ _ H _ I h=>Calls.Constant_str ⟨.str x,H,I.tok _,⟨_,rfl⟩,h⟩
noncomputable def Gl(X:Cx)(x:Str):Prop:=X.env.kindOf x=some .globalImplicit
theorem vI{E:Value->Shared->Prop}{pins:List (Addr×Obj)}{s:Shared}{σ:St}{H:Hp}{x:Str}{u:Value}{pos:Pos}{Q:Value->Shared->Prop}(I:Inv X pins σ H s)(hg:Gl X x)(hm:X.mg x=some u)(h:Q u s)
    (hd:(x == ("__debug__" : Str))=false:=by decide):wpAny 1e6 X.A (eval (.Name x pos) X.env) Q E s :=
  aqr I.ok.kind hg (Calls.loadGlobal_global (by rw[I.ok.glob];exact I.mod.glob.keeps I.bk) hm h) hd
theorem Ji{E:Value->Shared->Prop}{pins:List (Addr×Obj)}{s:Shared}{σ:St}{H:Hp}{x:Str}{u:Value}{pos:Pos}{Q:Value->Shared->Prop}(I:Inv X pins σ H s)(hg:Gl X x)(hm:X.mg x=none)(hv:bootBuiltins x=some u)(h:Q u s)
    (hn:x ≠ "__name__" := by decide) (hd:(x == ("__debug__" : Str))=false:=by decide):wpAny 1e6 X.A (eval (.Name x pos) X.env) Q E s:=by
  obtain⟨mb,h1,h2⟩:=I.mod.blt;exact aqr I.ok.kind hg (Calls.loadGlobal_builtin (by rw[I.ok.glob];exact I.mod.glob.keeps I.bk) hm (by rw[I.ok.blt];exact h1.keeps I.bk) ((h2 x hn).trans hv) h) hd
theorem mX{x:Str}{v:V}{u:Value}{pos:Pos}(hg:Gl X x)(hm:X.mg x=some u)(r:RelV v u)(hd:(x == ("__debug__" : Str))=false:=by decide):PE X (.Name x pos) (tC v) :=
  λ_ _ _ H _ I h=>vI I hg hm ⟨v,H,I,r,h⟩ hd
variable{a b:Expr}{ta tb:TE}{pos:Pos}
noncomputable def PC(X:Cx)(op:CmpOp)(a b:Expr)(t:TE):Prop :=
  ∀(pins:List 3e5) (s:Shared) (σ:St) (H:Hp) (Q:VK),Inv X pins σ H s->t σ H Q ->
    wpAny 1e6 X.A (eval a X.env) (λv s₁=>wpAny 1e6 X.A (eval b X.env) (λu s₂=>wpAny 1e6 X.A (compareOp op v u) 4e8 X.xe s₂) X.xe s₁) X.xe s
inductive aay(x:V)(H:Hp)(Q:Bool->Hp->Prop):Prop where
  | mk (k:Bool):x=.bl k->Q k H->aay x H Q
noncomputable def tB(t:TE):TT:=λσ H Q=>t σ H λx H1=>aay x H1 Q
theorem t9{op:CmpOp}{t:TE}(h:PC X op a b t)(h1:behindInMarks op b=false:=by first|exact nobehind _ (by decide) (by decide)|rfl):PT X (.Compare a [op] [b] pos) (tB t):=by
  intro pins s σ H Q I hw;refine wpAny_isTrue_Compare1 (thn (h pins s σ H _ I hw) λv s1 h1=>thn h1 λu s2 h2=>thn h2 λc s3 ⟨x,H1,I1,r1,q1⟩=>?_) h1;obtain⟨d,rfl,q⟩:=q1;cases r1;exact wpAny_truthy_bool ⟨H1,I1,q⟩
theorem De{e:Expr}{t:TE}(h:PE X e t)(he:∀ whole,isTrue e X.env whole=(do let v <-whole;standAt e.pos;holding [v] (truthy v)):=by intro _;rfl):PT X e (tB t):=by
  intro pins s σ H Q I hw;refine isTrue_plain (thn (h pins s σ H _ I hw) λv s1 ⟨x,H1,I1,r1,q1⟩=>?_) (he _);obtain⟨d,rfl,q⟩:=q1;cases r1;exact wpAny_truthy_bool ⟨H1,I1,q⟩
variable{tA tB':TT}{rest:List Expr}
noncomputable def akb(t u:TT):TT:=λσ H Q=>t σ H λc H1=>if c=true then u σ H1 Q else Q false H1
noncomputable def tOr(t u:TT):TT:=λσ H Q=>t σ H λc H1=>if c=true then Q true H1 else u σ H1 Q
noncomputable def akc(t:TT):TT:=λσ H Q=>t σ H λc H1=>Q (!c) H1
theorem pw_and1(ha:PT X a tA):PW X (.BoolOp .And [a] pos) tA:=by
  intro wh pins s σ H Q I h;refine isTrue_and (thn (ha pins s σ H Q I h) λc s1 e=>?_);cases c with
  | true=>exact isTrue_and_nil e
  | false=>exact e
theorem pw_or1(ha:PT X a tA):PW X (.BoolOp .Or [a] pos) tA:=by
  intro wh pins s σ H Q I h;refine isTrue_or (thn (ha pins s σ H Q I h) λc s1 e=>?_);cases c with
  | false=>exact isTrue_or_nil e
  | true=>exact e
theorem pw_and(ha:PT X a tA)(hb:PW X (.BoolOp .And (b::rest) pos) tB'):PW X (.BoolOp .And (a::b::rest) pos) (akb tA tB'):=by
  intro wh pins s σ H Q I h;refine isTrue_and (thn (ha pins s σ H _ I h) λc s1 ⟨H1,I1,q1⟩=>?_);cases c with
  | true=>exact hb wh pins s1 σ H1 Q I1 q1
  | false=>exact⟨H1,I1,q1⟩
theorem pw_or(ha:PT X a tA)(hb:PW X (.BoolOp .Or (b::rest) pos) tB'):PW X (.BoolOp .Or (a::b::rest) pos) (tOr tA tB'):=by
  intro wh pins s σ H Q I h;refine isTrue_or (thn (ha pins s σ H _ I h) λc s1 ⟨H1,I1,q1⟩=>?_);cases c with
  | true=>exact⟨H1,I1,q1⟩
  | false=>exact hb wh pins s1 σ H1 Q I1 q1
theorem qJ(ha:PT X a tA):PT X (.UnaryOp .Not a pos) (akc tA):=by
  intro pins s σ H Q I h;exact isTrue_not (ha pins s σ H (λc H1=>Q (!c) H1) I h)
noncomputable def acn(ta tb:TE):TE:=λσ H Q=>ta σ H λx H1=>∃ c,x=.bl c/\if c=true then tb σ H1 Q else Q (.bl false) H1
theorem ZD{op}{t:TE}(h:PE X a t):PE X (.BoolOp op [a] pos) t:=λpins s σ H Q I hw=>BoolOp_one (h pins s σ H Q I hw)
theorem ZE(ha:PE X a ta)(hb:PE X (.BoolOp .And (b::rest) pos) tb):PE X (.BoolOp .And (a::b::rest) pos) (acn ta tb):=by
  intro pins s σ H Q I h;refine BoolOp_and (thn (ha pins s σ H _ I h) λv s1 ⟨x,H1,I1,r1,q1⟩=>?_);obtain⟨c,rfl,q1⟩:=q1;cases r1;refine wpAny_truthy_bool ?_;cases c with
  | true=>exact hb pins s1 σ H1 Q I1 q1
  | false=>exact⟨.bl false,H1,I1,rfl,q1⟩
noncomputable def tIf(t:TT)(ta tb:TE):TE:=λσ H Q=>t σ H λc H1=>if c=true then ta σ H1 Q else tb σ H1 Q
theorem pB{c:Expr}(hc:PT X c tA)(ha:PE X a ta)(hb:PE X b tb):PE X (.IfExp c a b pos) (tIf tA ta tb):=by
  intro pins s σ H Q I h;refine wpAny_IfExp (thn (hc pins s σ H _ I h) λd s1 ⟨H1,I1,q1⟩=>?_);cases d with
  | true=>exact ha pins s1 σ H1 Q I1 q1
  | false=>exact hb pins s1 σ H1 Q I1 q1
end
end L2
namespace L2
open PySem PySem.Spec PyProof.Rows
noncomputable def SqL(K:W.Frag)(H:Hp)(a:Addr)(xs:List V):Prop :=
  Rd H a 4e9 \/
    ∃(o:Obj) (its:Array Value) (n:Nat),K.lookup a=some o/\o.cls=.type "list" /\ o.dict=none/\o.data=.seq its n/\its.size<=sizeLine/\Vals xs its.toList
noncomputable def SqT(K:W.Frag)(H:Hp)(a:Addr)(xs:List V):Prop :=
  Rd H a (.tup xs) \/
    ∃(o:Obj) (its:Array Value) (n:Nat),K.lookup a=some o/\o.cls=.type "tuple" /\ o.data=.seq its n/\its.size<=sizeLine/\Vals xs its.toList
noncomputable def akd:Value->Option V
  | .none=>some .non
  | .bool b=>some (.bl b)
  | .int i _=>some (.int i)
  | .str x _=>some (.str x)
  | .bytes b _=>some (.byt b)
  | .float b _=>some (.flt b)
  | .ref a=>some (.ref a)
  | .type n=>some (.ty n)
  | _=>none
theorem RelV.abs{x:V}{u:Value}(r:RelV x u):akd u=some x:=by
  cases x with
  | non=>cases r;rfl
  | bl _=>cases r;rfl
  | int _=>obtain⟨t,rfl⟩:=r;rfl
  | str _=>obtain⟨t,rfl⟩:=r;rfl
  | byt _=>obtain⟨t,rfl⟩:=r;rfl
  | flt _=>obtain⟨t,rfl⟩:=r;rfl
  | ref _=>cases r;rfl
  | ty _=>cases r;rfl
theorem RelV.inj{x y:V}{u:Value}(r:RelV x u)(q:RelV y u):x=y:=ao4 (r.abs.symm.trans q.abs)
theorem Vals.inj:∀ {xs ys:List V} {us:List Value},Vals xs us->Vals ys us->xs=ys
  | _,_,_,.nil,.nil=>rfl
  | _,_,_,.cons r t,.cons r' t'=>by rw[r.inj r',Vals.inj t t']
section
variable{X:Cx}{pins:List (Addr×Obj)}{σ:St}{H:Hp}{s:Shared}{a:Addr}{xs ys:List V}
theorem SqL.of{K:W.Frag}(h:H a=some (.lst xs)):SqL K H a xs:=.inl (.inl h)
theorem SqT.of{K:W.Frag}(h:H a=some (.tup xs)):SqT K H a xs:=.inl (.inl h)
theorem Inv.list(I:Inv X pins σ H s)(h:SqL X.K H a xs):∃ its:List Value,Vals xs its/\PlainL s.heap a its.toArray/\xs.length<=sizeLine:=by
  rcases h with h|⟨o,its,n,hk,hc,hd,hs,hz,r⟩
  · obtain⟨z,its,n,r,e⟩:=h.ok I.hok
    exact⟨its,r,⟨_,n,e,rfl,rfl,rfl⟩,z⟩
  · refine⟨its.toList,r,⟨o,n,I.kIn a o hk,hc,hd,by simpa using hs⟩,?_⟩
    have e:=r.length;simp only[aqq]at e;omega
theorem Inv.tuple(I:Inv X pins σ H s)(h:SqT X.K H a xs):∃ its:List Value,Vals xs its/\IsTup s.heap a its.toArray/\xs.length<=sizeLine:=by
  rcases h with h|⟨o,its,n,hk,hc,hs,hz,r⟩
  · obtain⟨z,its,r,p⟩:=h.ok I.hok
    exact⟨its,r,p,z⟩
  · refine⟨its.toList,r,⟨o,I.kIn a o hk,hc,n,by simpa using hs⟩,?_⟩
    have e:=r.length;simp only[aqq]at e;omega
theorem Inv.Pt(I:Inv X pins σ H s)(h:SqL X.K H a xs)(h':SqL X.K H a ys):xs=ys:=by
  obtain⟨its,r,⟨o,n,e,_,_,d⟩,_⟩:=I.list h;obtain⟨Jj,r',⟨o',n',e',_,_,d'⟩,_⟩:=I.list h';rw[e]at e';cases e';rw[d]at d';injection d' with d1 _
  have:its=Jj:=by simpa using congrArg Array.toList d1
  subst this;exact r.inj r'
end
noncomputable abbrev Cx.Jk(X:Cx)(E:Value->Shared->Prop):Cx:={X with xe:=E}
noncomputable abbrev Cx.nox(X:Cx):Cx:=X.Jk λ_ _=>False
theorem Cx.Ok.Jk{X:Cx}(ok:X.Ok)(E:Value->Shared->Prop):(X.Jk E).Ok :=
  ⟨ok.mod,ok.kind,ok.glob,ok.blt,ok.above,ok.inj,ok.has,ok.cab,ok.hd,ok.frames,ok.stk,ok.exf,ok.bs,ok.bsz,ok.Sl,ok.UX,ok.GJ,ok.frf⟩
theorem Cx.Ok.r6{X:Cx}{E:Value->Shared->Prop}(ok:(X.Jk E).Ok):X.Ok :=
  ⟨ok.mod,ok.kind,ok.glob,ok.blt,ok.above,ok.inj,ok.has,ok.cab,ok.hd,ok.frames,ok.stk,ok.exf,ok.bs,ok.bsz,ok.Sl,ok.UX,ok.GJ,ok.frf⟩
section
variable{X:Cx}{pins:List (Addr×Obj)}{σ:St}{H:Hp}{s:Shared}{E:Value->Shared->Prop}
theorem Inv.Jk(I:Inv X pins σ H s)(E:Value->Shared->Prop):Inv (X.Jk E) pins σ H s:=⟨I.ok.Jk E,I.os,I.bare,I.base,I.loc,I.cell,I.free,I.rU,I.pin,I.hok,I.len⟩
theorem Inv.r6(I:Inv (X.Jk E) pins σ H s):Inv X pins σ H s:=⟨I.ok.r6,I.os,I.bare,I.base,I.loc,I.cell,I.free,I.rU,I.pin,I.hok,I.len⟩
theorem SP.r6{D:Ends}{f:Flow}{s':Shared}(h:SP (X.Jk E) pins D f s'):SP X pins D f s':=by
  cases f with
  | next=>obtain⟨σ',H',I,q⟩:=h;exact⟨σ',H',I.r6,q⟩
  | brk=>obtain⟨σ',H',I,q⟩:=h;exact⟨σ',H',I.r6,q⟩
  | cont=>obtain⟨σ',H',I,q⟩:=h;exact⟨σ',H',I.r6,q⟩
  | ret u=>obtain⟨v,σ',H',I,r,q⟩:=h;exact⟨v,σ',H',I.r6,r,q⟩
theorem PSs.nox{st:List Stmt}{t:TS}(h:PSs X.nox st t):PSs X st t:=λpins s σ H D I hw =>
  wpAny_mono (h pins s σ H D (I.Jk _) hw) (λ_ _ q=>q.r6) λ_ _ z=>False.elim z
end
section
variable{X:Cx}{st:Stmt}{rest:List Stmt}{t u:TS}{e:Expr}{te:TE}{pos:Pos}
noncomputable def aco:TS:=λD σ H=>D.nx σ H
noncomputable def Nv(t u:TS):TS:=λD σ H=>t {D with nx:=u D} σ H
theorem aR:PSs X [] aco:=λ_ _ σ H _ I h=>wpAny_execs_nil ⟨σ,H,I,h⟩
theorem ai(h1:PS X st t)(h2:PSs X rest u):PSs X (st::rest) (Nv t u):=by
  intro pins s σ H D I h;refine wpAny_execs_cons (thn (h1 pins s σ H {D with nx:=u D} I h) λf s1 q=>?_);cases f with
  | next =>
    obtain⟨σ',H',I',q⟩:=q;exact h2 pins s1 σ' H' D I' q
  | ret v=>exact q
  | brk=>exact q
  | cont=>exact q
theorem aj(h1:PS X st t):PSs X [st] t:=by
  intro pins s σ H D I h;refine wpAny_execs_cons (thn (h1 pins s σ H D I h) λf s1 q=>?_);cases f with
  | next=>exact wpAny_execs_nil q
  | ret v=>exact q
  | brk=>exact q
  | cont=>exact q
theorem Inv.quiet{pins:List (Addr×Obj)}{σ:St}{H:Hp}{s:Shared}(I:Inv X pins σ H s):interactive X.env=false:=by simp[interactive,I.ok.kind]
noncomputable def acp(te:TE):TS:=λD σ H=>te σ H λ_ H1=>D.nx σ H1
theorem aE(he:PE X e te)(hs:swapsWith e none pos.line X.env=pure false:=by rfl):PS X (.Expr e pos) (acp te):=by
  intro pins s σ H D I h;exact wpAny_Expr_any (thn 5e7 λv s1 ⟨x,H1,I1,r1,q1⟩=>⟨σ,H1,I1,q1⟩) I.quiet hs
noncomputable def ake(te:TE):TS:=λD σ H=>te σ H D.rt
theorem aF(he:PE X e te):PS X (.Return (some e) pos) (ake te):=by
  intro pins s σ H D I h;exact wpAny_Return_some (thn 5e7 λv s1 ⟨x,H1,I1,r1,q1⟩=>⟨x,σ,H1,I1,r1,q1⟩)
noncomputable def akf(c:TT)(t u:TS):TS:=λD σ H=>c σ H λb H1=>if b=true then t D σ H1 else u D σ H1
theorem bS{c:Expr}{a b:List Stmt}{tc:TT}(hc:PT X c tc)(ha:PSs X a t)(hb:PSs X b u):PS X (.If c a b pos) (akf tc t u):=by
  intro pins s σ H D I h;refine wpAny_If (thn (hc pins s σ H _ I h) λd s1 ⟨H1,I1,q1⟩=>?_);cases d with
  | true=>exact ha pins s1 σ H1 D I1 q1
  | false=>exact hb pins s1 σ H1 D I1 q1
end
noncomputable abbrev TG:=V->St->Hp->(St->Hp->Prop)->Prop
noncomputable abbrev TGs:=List V->St->Hp->(St->Hp->Prop)->Prop
noncomputable def PG(X:Cx)(target:Expr)(t:TG):Prop :=
  ∀(pins:List 3e5) (s:Shared) (σ:St) (H:Hp) (v:V) (u:Value) (Q:St->Hp->Prop),Inv X pins σ H s->RelV v u->t v σ H Q ->
    wpAny 1e6 X.A (assign target X.env u) (λ_ s'=>∃ σ' H',Inv X pins σ' H' s'/\Q σ' H') X.xe s
noncomputable def PGs(X:Cx)(ts:List Expr)(t:TGs):Prop :=
  ∀(pins:List 3e5) (s:Shared) (σ:St) (H:Hp) (vs:List V) (us:List Value) (Q:St->Hp->Prop),Inv X pins σ H s->Vals vs us->t vs σ H Q ->
    wpAny 1e6 X.A (assignInOrder ((assignEach ts X.env).map (·.2)) us) (λ_ s'=>∃ σ' H',Inv X pins σ' H' s'/\Q σ' H') X.xe s
noncomputable abbrev aaz:=V->V->V->Hp->(Hp->Prop)->Prop
noncomputable def adu(X:Cx)(t:aaz):Prop :=
  ∀(pins:List 3e5) (s:Shared) (σ:St) (H:Hp) (o i v:V) (ov iv u:Value) (Q:Hp->Prop),Inv X pins σ H s->RelV o ov->RelV i iv->RelV v u->t o i v H Q ->
    wpAny 1e6 X.A (setItem ov iv u) (λ_ s'=>∃ H',Inv X pins σ H' s'/\Q H') X.xe s
noncomputable abbrev TIp:=V->V->Hp->VK->Prop
noncomputable def PIp(X:Cx)(op:Operator)(t:TIp):Prop :=
  ∀(pins:List 3e5) (s:Shared) (σ:St) (H:Hp) (x y:V) (v u:Value) (Q:VK),Inv X pins σ H s->RelV x v->RelV y u->t x y H Q ->
    wpAny 1e6 X.A (inplaceOp op v u) 4e8 X.xe s
section
variable{X:Cx}{pos:Pos}
noncomputable def yw(i:Nat):TG:=λv σ H Q=>Q (σ.set i (some v)) H
theorem aK{i:Nat}{x:Str}(hN:X.N.Nodup)(hi:X.N[i]?=some x)(hx:Loc X.env.scope x)(hf:X.fn x=true\/X.env.scope.names.lookup x=some .local:=by first|exact .inl rfl|exact .inr rfl|assumption):PG X (.Name x pos) (yw i):=by
  intro pins s σ H v u Q I r h;exact wpAny_assign_Name (IQ I hN hi hx r (λs' I'=>⟨_,H,I',h⟩) hf)
noncomputable def akg:TGs:=λvs σ H Q=>vs=[]/\Q σ H
noncomputable def acq(t:TG)(u:TGs):TGs:=λvs σ H Q=>∃ v r,vs=v::r/\t v σ H λσ' H'=>u r σ' H' Q
theorem jY:PGs X [] akg:=by
  intro pins s σ H vs us Q I r h;obtain⟨e,h⟩:=h;subst e;cases r;exact assignInOrder_nil ⟨σ,H,I,h⟩
theorem bz{e:Expr}{es:List Expr}{t:TG}{u:TGs}(h1:PG X e t)(h2:PGs X es u)
    (hs:(assignEach (e::es) X.env).map (·.2)=assign e X.env::(assignEach es X.env).map (·.2):=by rfl):PGs X (e::es) (acq t u):=by
  intro pins s σ H vs us Q I r h;obtain⟨v,vr,e1,h⟩:=h;subst e1;cases r with
  | cons r rr =>
    rw[hs];refine assignInOrder_cons (thn (h1 pins s σ H _ _ _ I r h) λ_ s1 ⟨σ1,H1,I1,q1⟩=>?_);exact h2 pins s1 σ1 H1 _ _ Q I1 rr q1
noncomputable def akh(K:W.Frag)(n:Nat)(t:TGs):TG:=λv σ H Q=>∃ a xs,v=.ref a/\SqT K H a xs/\xs.length=n/\t xs σ H Q
theorem nV{es:List Expr}{k:Nat}{t:TGs}{n:Nat}(hc:X.calm=true)(h:PGs X es t)
    (hn:(assignEach es X.env).length=n:=by rfl) (hst:(assignEach es X.env).findIdx? (·.1)=none:=by rfl):PG X (.Tuple es k pos) (akh X.K n t):=by
  intro pins s σ H v u Q I r hw;obtain⟨a,xs,e1,hq,hl,hw⟩:=hw;subst e1;cases r;obtain⟨its,rv,ht,hz⟩:=I.tuple hq;refine assign_Tuple_tuple (I.ok.hd hc) ht (by simp[hn,<-hl,rv.length]) hst λh' hx=>?_;have I1:Inv X pins σ H {s with heap:=h'}:=I.kept (t':=s.toks) λb o e=>hx b o (aoW (aoQ e)) e;exact h pins _ σ H xs _ Q I1 (by simpa using rv) hw
noncomputable def aki(to ti:TE)(t:aaz):TG:=λv σ H Q=>to σ H λo H1=>ti σ H1 λi H2=>t o i v H2 λH3=>Q σ H3
theorem ua{o i:Expr}{to ti:TE}{t:aaz}(ho:PE X o to)(hi:PE X i ti)(hs:adu X t)
    (ha:∀ v,assign (.Subscript o i pos) X.env v=(do
      let ov <-holding [v] (eval o X.env)
      let iv <-holding [v,ov] (eval i X.env)
      standAt pos
      holding [v,ov,iv] (setItem ov iv v)
      release [v,ov,iv] []):=by intro _;rfl):PG X (.Subscript o i pos) (aki to ti t):=by
  intro pins s σ H v u Q I r h;rw[ha];refine wpAny_bind (wpAny_holding (thn (ho pins s σ H _ I h) λov s1 ⟨x,H1,I1,r1,q1⟩=>?_));refine wpAny_bind (wpAny_holding (thn (hi pins s1 σ H1 _ I1 q1) λiv s2 ⟨y,H2,I2,r2,q2⟩=>?_));refine wpAny_bind (wpAny_standAt (wpAny_bind (wpAny_holding (thn (hs pins s2 σ H2 x y v ov iv u _ I2 r1 r2 r q2) λ_ s3 ⟨H3,I3,q3⟩=>?_))));exact wpAny_release ⟨σ,H3,I3,q3⟩
noncomputable def XM(te:TE)(g:TG):TS:=λD σ H=>te σ H λx H1=>g x σ H1 D.nx
theorem lC{tg e:Expr}{te:TE}{g:TG}(he:PE X e te)(hg:PG X tg g)(hs:swapsWithSole [tg] e pos.line X.env=pure false:=by rfl)(hw:swappedStores [tg] e X.env=pure none:=by rfl)
    (h1:(assignEach [tg] X.env).map (·.2)=[assign tg X.env]:=by rfl):PS X (.Assign [tg] e pos) (XM te g):=by
  intro pins s σ H D I h;refine wpAny_Assign_stores (thn 5e7 λv s1 ⟨x,H1,I1,r1,q1⟩=>?_) hs hw;rw[h1];exact thn (hg pins s1 σ H1 x v _ I1 r1 q1) λ_ s2 q=>q
theorem aO{i:Nat}{x:Str}{e:Expr}{te:TE}{pos':Pos}(hN:X.N.Nodup)(hi:X.N[i]?=some x)(hx:Loc X.env.scope x)(he:PE X e te)(hs:swapsWith e (some (.Name x pos')) pos.line X.env=pure false:=by rfl)(hf:X.fn x=true\/X.env.scope.names.lookup x=some .local:=by first|exact .inl rfl|exact .inr rfl|assumption) :
    PS X (.Assign [.Name x pos'] e pos) (XM te (yw i)):=by
  intro pins s σ H D I h;refine wpAny_Assign_Name (thn 5e7 λv s1 ⟨y,H1,I1,r1,q1⟩=>?_) hs;exact IQ I1 hN hi hx r1 (λs2 I2=>⟨_,H1,I2,q1⟩) hf
noncomputable def akj(i:Nat)(te:TE)(ti:TIp):TS:=λD σ H=>∃ x,σ[i]?=some (some x)/\te σ H λy H1=>ti x y H1 λz H2=>D.nx (σ.set i (some z)) H2
theorem ZF{i:Nat}{x:Str}{e:Expr}{te:TE}{op:Operator}{ti:TIp}{pos':Pos}(hN:X.N.Nodup)(hi:X.N[i]?=some x)(hx:Loc X.env.scope x)(he:PE X e te)(ho:PIp X op ti)(hf:X.fn x=true\/X.env.scope.names.lookup x=some .local:=by first|exact .inl rfl|exact .inr rfl|assumption) :
    PS X (.AugAssign (.Name x pos') op e pos) (akj i te ti):=by
  intro pins s σ H D I h;obtain⟨v,e1,h⟩:=h;obtain⟨m,hn,hl⟩:=I.loc;have vis:Vis X.env.scope x:=by rcases hx with k|k;exact .inl k;exact .inr (.inl k)
  obtain⟨u,r,l⟩:=hl i x v hi e1 vis;refine wpAny_AugAssign_Name ?_;have go:wpAny 1e6 X.A (eval e X.env) (λw s₂=>wpAny 1e6 X.A (inplaceOp op u w) (λr s₃=>wpAny 1e6 X.A (storeName X.env x r) (λ_=>SP X pins D .next) X.xe s₃) X.xe s₂) X.xe s:=by
    refine thn 5e7 λw s1 ⟨y,H1,I1,r1,q1⟩=>?_;refine thn (ho pins s1 σ H1 v y u w _ I1 r r1 q1) λz s2 ⟨zv,H2,I2,r2,q2⟩=>?_;exact IQ I2 hN hi hx r2 (λs3 I3=>⟨_,H2,I3,q2⟩) hf
  rcases l with⟨hk,hm⟩|⟨hk,c,hc,UL⟩
  · exact wpAny_loadName_local I.ok.kind hk hn hm go
  · rcases hk with hk|hk
    · exact wpAny_loadName_cell I.ok.kind hk hc UL go
    · rcases hx with k|k
      · have:X.env.scope.names.lookup x=some .free:=hk
        rw[k]at this;cases this
      · have:X.env.scope.names.lookup x=some .free:=hk
        rw[k]at this;cases this
noncomputable def ipI(f:Int->Int->Int):TIp:=λx y H Q=>∃ i j,x=.int i/\y=.int j/\Q (.int (f i j)) H
theorem ZG:PIp X .Add (ipI λi j=>i+j):=by
  intro pins s σ H x y v u Q I r1 r2 h;obtain⟨i,j,e1,e2,q⟩:=h;subst e1;subst e2;obtain⟨t,rfl⟩:=r1;obtain⟨t',rfl⟩:=r2;exact iadd_int ⟨.int _,H,I.tok _,⟨_,rfl⟩,q⟩
end
section
variable{X:Cx}{pos:Pos}
noncomputable def ZH(c:TT)(tb:TS):TS:=λD σ H=>∃ W:Nat->St->Hp->Prop,(∃ m,W m σ H)/\∀ m σ H,W m σ H ->
  c σ H λb H1=>if b=true then ∃ N:St->Hp->Prop,(∀ σ' H',N σ' H'->∃ m',m'<m/\W m' σ' H')/\tb {D with nx:=N,ct:=N,bk:=D.nx} σ H1 else D.nx σ H1
theorem IS{c:Expr}{body:List Stmt}{tc:TT}{tb:TS}(hp:PassesOwn (model X.prog X.w) X.A X.env X.xe)(hc:PT X c tc)(hb:PSs X body tb):PS X (.While c body [] pos) (ZH tc tb):=by
  intro pins s σ H D I h;obtain⟨W,⟨m0,w0⟩,turn⟩:=h;refine wpAny_While (codeAny_whileLoop (λn s'=>∃ σ' H',Inv X pins σ' H' s'/\W n σ' H') ?_ m0 ⟨σ,H,I,w0⟩);rintro n s1 ⟨σ1,H1,I1,w1⟩;refine wpAny_passesOwn hp (thn (hc pins s1 σ1 H1 _ I1 (turn n σ1 H1 w1)) λb s2 ⟨H2,I2,q2⟩=>?_);cases b with
  | true =>
    obtain⟨N,hN,q2⟩:=q2;rw[if_pos rfl];refine wpAny_passesOwn hp (thn (hb pins s2 σ1 H2 _ I2 q2) λf s3 q3=>?_);cases f with
    | next =>
      obtain⟨σ3,H3,I3,n3⟩:=q3;obtain⟨m',hm,w3⟩:=hN σ3 H3 n3;exact⟨m',hm,σ3,H3,I3,w3⟩
    | cont =>
      obtain⟨σ3,H3,I3,n3⟩:=q3;obtain⟨m',hm,w3⟩:=hN σ3 H3 n3;exact⟨m',hm,σ3,H3,I3,w3⟩
    | brk=>exact q3
    | ret v=>exact q3
  | false =>
    rw[if_neg aoO];exact wpAny_execs_nil ⟨σ1,H2,I2,q2⟩
end
structure It where
  go:Nat->Hp->Prop
  yld:Nat->Hp->V->Hp->Prop
  stop:Nat->Hp->Prop
noncomputable def GK(X:Cx)(pins:List (Addr×Obj))(H:Hp)(b:Addr):Prop :=
  H b=none/\b≠X.env.locals/\b∉X.fs/\(b∈X.ex\/X.s₀.heap.objs.size<=b)/\(∀ x c,X.env.cells.lookup x=some c->c≠b)/\∀ p∈X.pn++pins,p.1≠b
theorem Inv.VU{X:Cx}{pins:List (Addr×Obj)}{σ:St}{H H':Hp}{s:Shared}{b:Addr}(I:Inv X pins σ H s)(hb:s.heap.objs.size<=b)(hn:H' b=none):GK X pins H' b:=by
  refine⟨hn,apX (ao0 I.lt hb),I.aj8 hb,.inr (ao7 I.sz hb),λx c e z=>?_,λp hp z=>?_⟩
  · obtain⟨v,q⟩:=I.cell x c e
    exact absurd (ao0 q.lt (by rw[z];exact hb)) (apL _)
  · exact absurd (ao0 (aoQ (I.pin p hp).1) (by rw[z];exact hb)) (apL _)
structure Turn(P:Program)(w:World)(K:W.Frag)(tg:Expr)(J:It)(fp:List Addr)(it:Addr)(tn:Nat->Heap->Prop):Prop where
  mem:it∈fp
  obj:∀ i h,tn i h->∀ b∈fp,∃ o,h.get? b=some o/\∀ v,o.data≠.cell v
  keep:∀ i h h',tn i h->(∀ b∈fp,∀ o,h.get? b=some o->h'.get? b=some o)->tn i h'
  item:∀(X:Cx),X.prog=P->X.w=w->X.K=K->X.calm=true->∀(i:Nat) (pins:List 3e5) (s:Shared) (σ:St) (H:Hp) (E:Value->Shared->Prop),Inv X pins σ H s->(∀ b∈fp,GK X pins H b)->tn i s.heap->J.go i H ->
    wpAny (model P w) X.A (pyNext (.ref it)) (λr s1=>∃ u,r=some u /\
      wpAny (model P w) X.A (letOwnedTupleGo tg (.ref it) u) (λ_ s2=>∃ x H',Inv X pins σ H' s2/\RelV x u/\J.yld i H x H'/\tn (i+1) s2.heap/\∀ b∈fp,H' b=none) E s1) E s
  done:∀(X:Cx),X.prog=P->X.w=w->X.K=K->X.calm=true->∀(i:Nat) (pins:List 3e5) (s:Shared) (σ:St) (H:Hp) (E:Value->Shared->Prop),Inv X pins σ H s->(∀ b∈fp,GK X pins H b)->tn i s.heap->J.stop i H ->
    wpAny (model P w) X.A (pyNext (.ref it)) (λr s1=>r=none/\Inv X pins σ H s1) E s
  self:∀(A:Around) (i:Nat) (s:Shared) (Q:Value->Shared->Prop) (E:Value->Shared->Prop),tn i s.heap->Q (.ref it) s->wpAny (model P w) A (pyIter (.ref it)) Q E s
noncomputable abbrev TI:=St->Hp->(It->Hp->Prop)->Prop
noncomputable def PIE(X:Cx)(pins:List (Addr×Obj))(σ:St)(tg:Expr)(R:It->Hp->Prop)(itv:Value)(s2:Shared):Prop :=
  ∃(it:Addr) (fp:List Addr) (tn:Nat->Heap->Prop) (J:It) (H':Hp),itv=.ref it/\Inv X pins σ H' s2/\Turn X.prog X.w X.K tg J fp it tn/\tn 0 s2.heap/\(∀ b∈fp,GK X pins H' b)/\R J H'
noncomputable def PI(X:Cx)(tg iter:Expr)(wi:TI):Prop :=
  ∀(pins:List 3e5) (s:Shared) (σ:St) (H:Hp) (R:It->Hp->Prop),Inv X pins σ H s->wi σ H R ->
    wpAny 1e6 X.A (eval iter X.env) (λv s1=>wpAny 1e6 X.A (pyIter v) (PIE X pins σ tg R) X.xe s1) X.xe s
theorem YU{M:Model}{A:Around}{E:Value->Shared->Prop}{s:Shared}{tg:Expr}{it:Addr}{u:Value}{o:Obj}{n:String}{vs:Array Value}{Q:Unit->Shared->Prop}(ho:s.heap.get? it=some o)(hc:o.cls=.type n)(hd:o.data=.fields vs)
    (hn:["enumerate","zip","dict_itemiterator","dict_reverseitemiterator","odict_iterator","itertools.zip_longest","itertools.pairwise"].contains n=false) (hQ:Q () s):wpAny M A (letOwnedTupleGo tg (.ref it) u) Q E s:=by
  unfold letOwnedTupleGo;cases tg<;>first
    | exact wpAny_pure hQ
    | (cases u<;>first
        | exact wpAny_pure hQ
        | (refine wpAny_bind (wpAny_load ho ?_)
           rw[hc,hd];show wpAny M A (if(["enumerate","zip","dict_itemiterator","dict_reverseitemiterator","odict_iterator","itertools.zip_longest","itertools.pairwise"].contains n&&vs[0]? == some (rawInt _))=true then _ else _) Q E s;rw[if_neg (by intro h;rw[hn,Bool.false_and]at h;cases h)];exact wpAny_pure hQ))
noncomputable def Itl(K:W.Frag)(a:Addr):It :=
  ⟨λi H=>∃ xs x,SqL K H a xs/\xs[i]?=some x,λi H x H'=>H'=H/\∀ xs,SqL K H a xs->xs[i]?=some x,λi H=>∃ xs,SqL K H a xs/\xs.length<=i⟩
noncomputable def Itr(lo:Int)(n:Nat):It:=⟨λi _=>i<n,λi H x H'=>H'=H/\x=.int (lo+i),λi _=>n<=i⟩
theorem TU{P:Program}{w:World}{K:W.Frag}{tg:Expr}(a it:Addr):Turn P w K tg (Itl K a) [it] it (λi h=>h.IsListIter it a i) where
  mem:=by simp
  obj:=λi h st b hb=>by
    have e:b=it:=(by simpa using hb);subst e;obtain⟨o,e,c,d⟩:=st;exact⟨o,e,λv z=>by rw[d]at z;cases z⟩
  keep:=λi h h' st k=>st.at λo e=>k it 1e9 o e
  item:=by
    intro X hP hw hK hc i pins s σ H E I hf st hg;subst hP hw hK;obtain⟨xs,x,hq,hx⟩:=hg;obtain⟨its,rv,p,hz⟩:=I.list hq;obtain⟨u,hu,ru⟩:=rv.get hx;obtain⟨f0,f1,f2,f3,f4,f5⟩:=hf it 1e9;refine wpAny_pyNext_list_item st p.isList (x:=u) (by simpa using hu) λh' st' sb=>?_;have I1:Inv X pins σ H {s with heap:=h'}:=I.turned (t':=s.toks) (λb o hb e=>(sb.2 b hb).trans e) f0 f1 f3 f4 f5;obtain⟨o,e,c,d⟩:=id st';exact⟨u,rfl,YU (s:={s with heap:=h'}) e c d 2e0 ⟨x,H,I1,ru,⟨rfl,λys hy=>by rw[I.Pt hy hq];exact hx⟩,st',λb hb=>(hf b hb).1⟩⟩
  done:=by
    intro X hP hw hK hc i pins s σ H E I hf st hg;subst hP hw hK;obtain⟨xs,hq,hx⟩:=hg;obtain⟨its,rv,p,hz⟩:=I.list hq;obtain⟨f0,f1,f2,f3,f4,f5⟩:=hf it 1e9;have hl:=rv.length;exact wpAny_pyNext_list_end (I.ok.hd hc) st p.isList (by simp;omega) λh' eb=>⟨rfl,I.turned (t':=s.toks) (λb o hb e=>eb b o hb e) f0 f1 f3 f4 f5⟩
  self:=λ_ _ _ _ _ st h=>wpAny_pyIter_listiter st h
theorem QK{P:Program}{w:World}{K:W.Frag}{tg:Expr}(it:Addr)(lo:Int)(n:Nat):Turn P w K tg (Itr lo n) [it] it (λi h=>IsRangeIter h it (lo+(i:Nat)*1) ((n:Int)-(i:Nat)) 1) where
  mem:=by simp
  obj:=λi h st b hb=>by
    have e:b=it:=(by simpa using hb);subst e;exact⟨_,st,λv z=>by
      have z':Data.fields _=Data.cell v:=z;cases z'⟩
  keep:=λi h h' st k=>k it 1e9 _ st
  item:=by
    intro X hP hw hK hc i pins s σ H E I hf st hg;subst hP hw hK;obtain⟨f0,f1,f2,f3,f4,f5⟩:=hf it 1e9;have W:=Walks.range (prog:=X.prog) (w:=X.w) (I.ok.hd hc) it lo 1 n;refine W.item i s _ _ hg st λv h' tk hv st' kk=>?_;obtain⟨t,rfl⟩:=hv;have I1:Inv X pins σ H {s with heap:=h',toks:=tk}:=I.turned (λb o hb e=>kk b o (by simpa using hb) e) f0 f1 f3 f4 f5;refine⟨_,rfl,YU (s:={s with heap:=h',toks:=tk}) (n := "range_iterator") st' rfl rfl 2e0 ⟨.int (lo+i),H,I1,⟨t,?_⟩,⟨rfl,rfl⟩,st',λb hb=>(hf b hb).1⟩⟩;rw[Int.mul_one]
  done:=by
    intro X hP hw hK hc i pins s σ H E I hf st hg;subst hP hw hK;obtain⟨f0,f1,f2,f3,f4,f5⟩:=hf it 1e9;exact wpAny_pyNext_range_end (I.ok.hd hc) st (by have:n<=i:=hg;omega) λh' eb=>⟨rfl,I.turned (t':=s.toks) (λb o hb e=>eb b o hb e) f0 f1 f3 f4 f5⟩
  self:=λ_ _ _ _ _ st h=>wpAny_pyIter_rangeiter st h
end L2
namespace L2
open PySem PySem.Spec PyProof.Rows
section
variable{X:Cx}{tg:Expr}
inductive adv(K:W.Frag)(x:V)(H:Hp)(R:It->Hp->Prop):Prop where
  | mk (a:Addr):x=.ref a->(∃ xs,SqL K H a xs)->R (Itl K a) H->adv K x H R
noncomputable def acr(K:W.Frag)(tl:TE):TI:=λσ H R=>tl σ H λx H1=>adv K x H1 R
theorem cI{l:Expr}{tl:TE}(hl:PE X l tl):PI X tg l (acr X.K tl):=by
  intro pins s σ H R I h;refine thn (hl pins s σ H _ I h) λv s1 ⟨x,H1,I1,r1,q1⟩=>?_;obtain⟨a,e,⟨xs,hq⟩,q⟩:=q1;subst e;cases r1;obtain⟨its,rv,p,hz⟩:=I1.list hq;refine wpAny_pyIter_list p.isList ?_;refine⟨s1.heap.objs.size,[s1.heap.objs.size],_,_,H1,rfl,I1.kept (t':=s1.toks) λb o e=>aoK _ e,TU a _,⟨_,apa _ rfl,rfl,rfl⟩,λb hb=>?_,q⟩;have e:b=s1.heap.objs.size:=by simpa using hb
  subst e;exact I1.VU (aoL _) (I1.hok.fresh (aoL _))
theorem Ve{pins:List (Addr×Obj)}{σ:St}{H:Hp}{s:Shared}{R:It->Hp->Prop}{E:Value->Shared->Prop}{lo hi:Int}{t u v:Tok}{tk:Nat}(I:Inv X pins σ H s)(h1:-(2 ^ 62)<=lo)(h2:lo<2 ^ 62)(h3:-(2 ^ 62)<=hi)(h4:hi<2 ^ 62)
    (q:R (Itr lo (hi-lo).toNat) H):wpAny 1e6 X.A (pyIter (.ref s.heap.objs.size)) (PIE X pins σ tg R) E {s with heap:=s.heap.push {cls:=.type "range",data:=.fields #[.int lo t,.int hi u,.int 1 v]},toks:=tk}:=by
  refine wpAny_pyIter_range (IsRange.new ..) (small_one h1 h2 h3 h4) ?_;have I1:Inv X pins σ H {s with heap:=s.heap.push {cls:=.type "range",data:=.fields #[.int lo t,.int hi u,.int 1 v]},toks:=tk}:=I.kept λb o e=>aoK _ e;refine⟨(s.heap.push {cls:=.type "range",data:=.fields #[.int lo t,.int hi u,.int 1 v]}).objs.size,[(s.heap.push {cls:=.type "range",data:=.fields #[.int lo t,.int hi u,.int 1 v]}).objs.size],_,_,H,rfl,
    I1.kept (t':=tk) λb o e=>aoK _ e,QK _ lo (hi-lo).toNat,?_,λb hb=>?_,q⟩
  · have e1:lo+((0:Nat):Int)*1=lo:=by simp
    have e2:(((hi-lo).toNat:Nat):Int)-((0:Nat):Int)=Builtin.Range.rangeSize lo hi 1:=(by rw[rangeSize_one];split<;>omega);show IsRangeIter _ _ (lo+((0:Nat):Int)*1) ((((hi-lo).toNat:Nat):Int)-((0:Nat):Int)) 1;rw[e1,e2];exact apa _ rfl
  · have e:b=(s.heap.push {cls:=.type "range",data:=.fields #[.int lo t,.int hi u,.int 1 v]}).objs.size:=by simpa using hb
    subst e;exact I1.VU (aoL _) (I1.hok.fresh (aoL _))
noncomputable def acs(ta:TA):TI:=λσ H R=>ta σ H λvs H1=>∃ j:Int,vs=[.int j]/\-(2 ^ 62)<=j/\j<2 ^ 62/\R (Itr 0 j.toNat) H1
theorem qK{a:Expr}{ta:TA}{p pos:Pos}(hg:Gl X "range")(hm:X.mg "range" = none)(ha:PA X [a] ta)(hs:starEach [a] X.env=[(false,eval a X.env)]:=by rfl):PI X tg (.Call (.Name "range" p) [a] [] pos) (acs ta):=by
  intro pins s σ H R I h;refine Call_ (Ji I hg hm boot_range (PyProof.Rows.callWith_type1 (thn (ha pos pins s σ H _ I h) λus s1 ⟨vs,H1,I1,r1,q1⟩=>?_) hs rfl));obtain⟨j,e,q1,q2,q⟩:=q1;subst e;cases r1 with
  | cons r rr =>
    cases rr;obtain⟨t,rfl⟩:=r;exact call_range_1 (Ve I1 1e1 1e1 q1 q2 (by simpa using q))
noncomputable def akk(wi:TI)(g:TG)(tb:TS):TS:=λD σ H=>wi σ H λJ H1=>∃ W:Nat->Nat->St->Hp->Prop,(∃ m,W 0 m σ H1)/\∀ i m σ H,W i m σ H ->
  (J.stop i H/\D.nx σ H)\/(J.go i H/\∃ N:St->Hp->Prop,(∀ σ' H',N σ' H'->∃ m',m'<m/\W (i+1) m' σ' H')/\∀ x H',J.yld i H x H'->g x σ H' λσ2 H2=>tb {D with nx:=N,ct:=N,bk:=D.nx} σ2 H2)
noncomputable def Jl(fp:List Addr)(h:Heap):List 3e5:=fp.filterMap λb=>(h.get? b).map λo=>(b,o)
theorem iq{fp:List Addr}{h:Heap}{b:Addr}{o:Obj}(hb:b∈fp)(e:h.get? b=some o):(b,o)∈Jl fp h:=apG.mpr ⟨b,hb,by rw[e];rfl⟩
theorem TV{fp:List Addr}{h:Heap}{p:Addr×Obj}(hp:p∈Jl fp h):p.1∈fp/\h.get? p.1=some p.2:=by
  obtain⟨b,hb,e⟩:=apG.mp hp;cases q:h.get? b with
  | none=>rw[q]at e;cases e
  | some o =>
    rw[q]at e;have e':(b,o)=p:=ao4 e;subst e';exact⟨hb,q⟩
theorem Inv.pinned{pins:List (Addr×Obj)}{σ:St}{H:Hp}{s:Shared}{fp:List Addr}(I:Inv X pins σ H s)(hf:∀ b∈fp,GK X pins H b)(ho:∀ b∈fp,∃ o,s.heap.get? b=some o/\∀ v,o.data≠.cell v):Inv X (pins++Jl fp s.heap) σ H s :=
  I.Sn λp hp=>(aoU.mp hp).elim (λz=>I.pin p (aoP _ z)) λz=>by
    obtain⟨hb,e⟩:=TV z;obtain⟨f0,f1,f2,_⟩:=hf p.1 hb;obtain⟨o,e',d⟩:=ho p.1 hb;rw[e]at e';cases e';exact⟨e,f0,f1,f2,d⟩
theorem Inv.pD{pins pl:List (Addr×Obj)}{σ:St}{H:Hp}{s:Shared}(I:Inv X (pins++pl) σ H s):Inv X pins σ H s:=I.Sn λp hp=>I.pin p (aoP _ (apf _ hp))
theorem eK{iter:Expr}{body:List Stmt}{wi:TI}{g:TG}{tb:TS}{pos:Pos}(hp:PassesOwn (model X.prog X.w) X.A X.env X.xe)(hc:X.calm=true)(hi:PI X tg iter wi)(hg:PG X tg g)(hb:PSs X body tb)
    (hs:∀ x,foldedSetIterable iter X.env x=pure x:=by intro _;rfl):PS X (.For tg iter body [] pos) (akk wi g tb):=by
  intro pins s σ H D I h;refine wpAny_For (thn (hi pins s σ H _ I h) λv s1 h1=>thn h1 λitv s2 h2=>?_) hs;obtain⟨it,fp,tn,J,H2,e,I2,T,st2,f2,W,⟨m0,w0⟩,turn⟩:=h2;subst e;have GL:∀ {H':Hp},5e9->∀ b∈fp,GK X pins H' b:=λhn b hb=>⟨hn b hb,(f2 b hb).2⟩;refine codeAny_forLoop_any (λn s'=>∃ i σ' H',Inv X pins σ' H' s'/\tn i s'.heap/\5e9/\W i n σ' H') ?_ m0 ⟨0,σ,H2,I2,st2,λb hb=>(f2 b hb).1,w0⟩;rintro n s3 ⟨i,σ3,H3,I3,st3,fr3,w3⟩;rcases turn i n σ3 H3 w3 with⟨stop,qn⟩|⟨go,N,hN,step⟩
  · refine wpAny_passesOwn hp (thn (T.done X rfl rfl rfl hc i pins s3 σ3 H3 X.xe I3 (GL fr3) st3 stop) λr s4 ⟨hr,I4⟩=>?_)
    subst hr;exact wpAny_execs_nil ⟨σ3,H3,I4,qn⟩
  · refine wpAny_passesOwn hp (thn (T.item X rfl rfl rfl hc i pins s3 σ3 H3 X.xe I3 (GL fr3) st3 go) λr s4 ⟨u,hr,h4⟩=>?_)
    subst hr;refine wpAny_passesOwn hp (thn h4 λ_ s5 ⟨x,H5,I5,r5,y5,st5,fr5⟩=>?_);have I5':=I5.pinned (GL fr5) (T.obj _ _ st5);refine wpAny_passesOwn hp (thn (hg _ s5 σ3 H5 x u _ I5' r5 (step x H5 y5)) λ_ s6 ⟨σ6,H6,I6,q6⟩=>?_);refine wpAny_passesOwn hp (thn (hb _ s6 σ6 H6 _ I6 q6) λf s7 q7=>?_);have again:∀ {σ7:St} {H7:Hp},Inv X (pins++Jl fp s5.heap) σ7 H7 s7->N σ7 H7->∃ m,m<n/\∃ i σ' H',Inv X pins σ' H' s7/\tn i s7.heap/\5e9/\W i m σ' H':=λ{σ7 H7} I7 n7=>by
      obtain⟨m',hm,w7⟩:=hN σ7 H7 n7;refine⟨m',hm,i+1,σ7,H7,I7.pD,T.keep _ _ _ st5 λb hb o e=>(I7.pin (b,o) (aoP _ (aoP _ (iq hb e)))).1,λb hb=>?_,w7⟩;obtain⟨o,e,d⟩:=T.obj _ _ st5 b hb;exact(I7.pin (b,o) (aoP _ (aoP _ (iq hb e)))).2.1
    cases f with
    | next=>obtain⟨σ7,H7,I7,n7⟩:=q7;exact again I7 n7
    | cont=>obtain⟨σ7,H7,I7,n7⟩:=q7;exact again I7 n7
    | brk=>obtain⟨σ7,H7,I7,q7⟩:=q7;exact⟨σ7,H7,I7.pD,q7⟩
    | ret v=>obtain⟨x7,σ7,H7,I7,r7,q7⟩:=q7;exact⟨x7,σ7,H7,I7.pD,r7,q7⟩
end
theorem gN{K:W.Frag}{a:Addr}{xs:List V}{g:TG}{tb:TS}{D:Ends}{σ:St}{H:Hp}(Pv:Nat->St->Hp->Prop)(h0:Pv 0 σ H)(hl:∀ i σ H,i<=xs.length->Pv i σ H->SqL K H a xs)
    (hs:∀ i x σ H,xs[i]?=some x->Pv i σ H->g x σ H λσ2 H2=>tb {D with nx:=Pv (i+1),ct:=Pv (i+1),bk:=D.nx} σ2 H2) (hd:∀ σ H,Pv xs.length σ H->D.nx σ H) :
    ∃ W:Nat->Nat->St->Hp->Prop,(∃ m,W 0 m σ H)/\∀ i m σ H,W i m σ H ->
      ((Itl K a).stop i H/\D.nx σ H)\/((Itl K a).go i H/\∃ N:St->Hp->Prop,(∀ σ' H',N σ' H'->∃ m',m'<m/\W (i+1) m' σ' H')/\∀ x H',(Itl K a).yld i H x H'->g x σ H' λσ2 H2=>tb {D with nx:=N,ct:=N,bk:=D.nx} σ2 H2):=by
  refine⟨λi m σ H=>m=xs.length-i/\i<=xs.length/\Pv i σ H,⟨xs.length,by simp,apq _,h0⟩,?_⟩;rintro i m σ H ⟨rfl,hi,p⟩;have q:=hl i σ H hi p;by_cases hlt:i<xs.length
  · refine .inr ⟨⟨xs,xs[i],q,by simp[hlt]⟩,Pv (i+1),λσ' H' p'=>⟨xs.length-(i+1),by omega,rfl,hlt,p'⟩,λx H' y=>?_⟩
    obtain⟨e,y⟩:=y;subst e;exact hs i x σ _ (y xs q) p
  · have e:i=xs.length:=by omega
    subst e;exact .inl ⟨⟨xs,q,aoL _⟩,hd σ H p⟩
theorem yx{lo:Int}{n:Nat}{g:TG}{tb:TS}{D:Ends}{σ:St}{H:Hp}(Pv:Nat->St->Hp->Prop)(h0:Pv 0 σ H)
    (hs:∀ i σ H,i<n->Pv i σ H->g (.int (lo+i)) σ H λσ2 H2=>tb {D with nx:=Pv (i+1),ct:=Pv (i+1),bk:=D.nx} σ2 H2) (hd:∀ σ H,Pv n σ H->D.nx σ H) :
    ∃ W:Nat->Nat->St->Hp->Prop,(∃ m,W 0 m σ H)/\∀ i m σ H,W i m σ H ->
      ((Itr lo n).stop i H/\D.nx σ H)\/((Itr lo n).go i H/\∃ N:St->Hp->Prop,(∀ σ' H',N σ' H'->∃ m',m'<m/\W (i+1) m' σ' H')/\∀ x H',(Itr lo n).yld i H x H'->g x σ H' λσ2 H2=>tb {D with nx:=N,ct:=N,bk:=D.nx} σ2 H2):=by
  refine⟨λi m σ H=>m=n-i/\i<=n/\Pv i σ H,⟨n,by simp,apq _,h0⟩,?_⟩;rintro i m σ H ⟨rfl,hi,p⟩;by_cases hlt:i<n
  · refine .inr ⟨hlt,Pv (i+1),λσ' H' p'=>⟨n-(i+1),by omega,rfl,hlt,p'⟩,λx H' y=>?_⟩
    obtain⟨e,y⟩:=y;subst e y;exact hs i σ _ hlt p
  · have e:i=n:=by omega
    subst e;exact .inl ⟨aoL _,hd σ H p⟩
end L2
namespace L2
open PySem PySem.Spec PyProof.Rows
noncomputable abbrev R2:=V->V->Hp->VK->Prop
noncomputable def OpR(X:Cx)(f:Value->Value->Sem Value)(r:R2):Prop :=
  ∀(pins:List 3e5) (s:Shared) (σ:St) (H:Hp) (x y:V) (v u:Value) (Q:VK),Inv X pins σ H s->RelV x v->RelV y u->r x y H Q ->
    wpAny 1e6 X.A (f v u) 4e8 X.xe s
noncomputable def uV(X:Cx)(f:Value)(r:List V->Hp->VK->Prop):Prop :=
  ∀(pins:List 3e5) (s:Shared) (σ:St) (H:Hp) (xs:List V) (us:List Value) (Q:VK),Inv X pins σ H s->Vals xs us->r xs H Q ->
    wpAny 1e6 X.A (call f us) 4e8 X.xe s
noncomputable def akl(X:Cx)(r:V->Hp->(Bool->Hp->Prop)->Prop):Prop :=
  ∀(pins:List 3e5) (s:Shared) (σ:St) (H:Hp) (x:V) (v:Value) (Q:Bool->Hp->Prop),Inv X pins σ H s->RelV x v->r x H Q ->
    wpAny 1e6 X.A (truthy v) (TP X pins σ Q) X.xe s
noncomputable def tOp(r:R2)(ta tb:TE):TE:=λσ H Q=>ta σ H λx H1=>tb σ H1 λy H2=>r x y H2 Q
inductive IrI(C:Int->Int->Prop)(g:Int->Int->V)(x y:V)(H:Hp)(Q:VK):Prop where
  | mk (i j:Int):x=.int i->y=.int j->C i j->Q (g i j) H->IrI C g x y H Q
noncomputable def rI(C:Int->Int->Prop)(g:Int->Int->V):R2:=λx y H Q=>IrI C g x y H Q
inductive adw(g:Int->Int->V)(x y:V)(H:Hp)(Q:VK):Prop where
  | mk (i j:Int):x=.int i->y=.int j->Q (g i j) H->adw g x y H Q
noncomputable def rI0(g:Int->Int->V):R2:=λx y H Q=>adw g x y H Q
section
variable{X:Cx}{a b c:Expr}{ta tb tc:TE}{pos:Pos}
theorem aaA(ha:PE X a ta)(hb:PE X b tb){pins:List (Addr×Obj)}{s:Shared}{σ:St}{H:Hp}{R:V->V->Hp->Prop}(I:Inv X pins σ H s)
    (h:ta σ H λx H1=>tb σ H1 λy H2=>R x y H2) {Q:Value->Shared->Prop} {f:Value->Value->Sem Value}
    (hf:∀ v u s2 x y H2,Inv X pins σ H2 s2->RelV x v->RelV y u->R x y H2->wpAny 1e6 X.A (f v u) Q X.xe s2) :
    wpAny 1e6 X.A (eval a X.env) (λv s₁=>wpAny 1e6 X.A (eval b X.env) (λu s₂=>wpAny 1e6 X.A (f v u) Q X.xe s₂) X.xe s₁) X.xe s:=by
  refine thn (ha pins s σ H _ I h) λv s1 ⟨x,H1,I1,r1,q1⟩=>?_;refine thn (hb pins s1 σ H1 _ I1 q1) λu s2 ⟨y,H2,I2,r2,q2⟩=>?_;exact hf v u s2 x y H2 I2 r1 r2 q2
theorem aJ{op:Operator}{r:R2}(ho:OpR X (binaryOp op) r)(ha:PE X a ta)(hb:PE X b tb):PE X (.BinOp a op b pos) (tOp r ta tb):=by
  intro pins s σ H Q I h;exact wpAny_BinOp (aaA ha hb I h λv u s2 x y H2 I2 rx ry q=>ho pins s2 σ H2 x y v u Q I2 rx ry q)
theorem opI{f:Value->Value->Sem Value}{C:Int->Int->Prop}{g:Int->Int->Int}
    (rule:∀(i j:Int) (t u:Tok) (s:Shared) (Q:Value->Shared->Prop) (E:Value->Shared->Prop),C i j->Q (.int (g i j) s.toks) {s with toks:=s.toks+1}->wpAny 1e6 X.A (f (.int i t) (.int j u)) Q E s) :
    OpR X f (rI C λi j=>.int (g i j)):=by
  intro pins s σ H x y v u Q I rx ry h;obtain⟨i,j,rfl,rfl,hc,q⟩:=h;obtain⟨t,rfl⟩:=rx;obtain⟨t',rfl⟩:=ry;exact rule i j t t' s _ _ hc ⟨.int (g i j),H,I.tok _,⟨_,rfl⟩,q⟩
theorem adx{f:Value->Value->Sem Value}{g:Int->Int->Int}
    (rule:∀(i j:Int) (t u:Tok) (s:Shared) (Q:Value->Shared->Prop) (E:Value->Shared->Prop),Q (.int (g i j) s.toks) {s with toks:=s.toks+1}->wpAny 1e6 X.A (f (.int i t) (.int j u)) Q E s) :
    OpR X f (rI0 λi j=>.int (g i j)):=by
  intro pins s σ H x y v u Q I rx ry h;obtain⟨i,j,rfl,rfl,q⟩:=h;obtain⟨t,rfl⟩:=rx;obtain⟨t',rfl⟩:=ry;exact rule i j t t' s _ _ ⟨.int (g i j),H,I.tok _,⟨_,rfl⟩,q⟩
theorem YV{f:Value->Value->Sem Value}{g:Int->Int->Bool}
    (rule:∀(i j:Int) (t u:Tok) (s:Shared) (Q:Value->Shared->Prop) (E:Value->Shared->Prop),Q (.bool (g i j)) s->wpAny 1e6 X.A (f (.int i t) (.int j u)) Q E s) :
    OpR X f (rI0 λi j=>.bl (g i j)):=by
  intro pins s σ H x y v u Q I rx ry h;obtain⟨i,j,rfl,rfl,q⟩:=h;obtain⟨t,rfl⟩:=rx;obtain⟨t',rfl⟩:=ry;exact rule i j t t' s _ _ ⟨.bl (g i j),H,I,rfl,q⟩
noncomputable def akm(i j:Int):Prop:=0<j/\j<1073741824
noncomputable def akn(i j:Int):Prop:=0<=j/\j<=1000000/\i.natAbs<2 ^ 64
noncomputable def aaB(i j:Int):Prop:=(-(2 ^ 64)<i/\i<2 ^ 64)\/(-(2 ^ 64)<j/\j<2 ^ 64)
theorem aaB.ok{i j:Int}(h:aaB i j):IntMulOk i j:=by
  rcases h with⟨h1,h2⟩|⟨h1,h2⟩
  · exact .of_left (intBits_le_64 h1 h2)
  · exact .of_right (intBits_le_64 h1 h2)
theorem cc:OpR X (binaryOp .Add) (rI0 λi j=>.int (i+j)):=adx λ_ _ _ _ _ _ _ q=>add_int q
theorem ZI:OpR X (binaryOp .Sub) (rI0 λi j=>.int (i-j)):=adx λ_ _ _ _ _ _ _ q=>sub_int q
theorem kh:OpR X (binaryOp .Mult) (rI aaB λi j=>.int (i*j)):=opI λ_ _ _ _ _ _ _ hc q=>mul_int q hc.ok
theorem qU:OpR X (binaryOp .FloorDiv) (rI akm λi j=>.int (i/j)):=opI λi j _ _ _ _ _ hc q=>by
  have h1:(0:Int)<j:=hc.1;have h2:j<1073741824:=hc.2;exact floordiv_int 1e1 (by rw[Int.fdiv_eq_ediv_of_nonneg i 1e1];exact q) (.inl (PyProof.noPylong_small 1e1))
theorem iK:OpR X (binaryOp .Mod) (rI (λ_ j=>0<j) λi j=>.int (i%j)):=opI λi j _ _ _ _ _ hc q=>by
  have h1:(0:Int)<j:=hc;exact mod_int' 1e1 (by rw[Int.fmod_eq_emod_of_nonneg i 1e1];exact q)
theorem Df:OpR X (binaryOp .Pow) (rI akn λi j=>.int (i ^ j.toNat)):=opI λ_ _ _ _ _ _ _ hc q=>pow_int_small hc.1 hc.2.1 hc.2.2 q
end
noncomputable def ady:V->V->Bool
  | .non,.non=>true|.non,.int _=>true|.int _,.non=>true|.non,.bl _=>true|.bl _,.non=>true|.non,.str _=>true|.str _,.non=>true
  | .int _,.int _=>true|.bl _,.bl _=>true|.str _,.str _=>true|.byt _,.byt _=>true
  | .int _,.str _=>true|.str _,.int _=>true|.bl _,.str _=>true|.str _,.bl _=>true
  | _,_=>false
noncomputable def rEq:R2:=λx y H Q=>ady x y=true/\Q (.bl (decide (x=y))) H
noncomputable def rNe:R2:=λx y H Q=>ady x y=true/\Q (.bl (!decide (x=y))) H
theorem So{i j:Int}:decide (V.int i=V.int j)=(i == j):=by
  rw[aqc];simp
theorem VV{i j:Bool}:decide (V.bl i=V.bl j)=(i == j):=by
  rw[aqc];simp
theorem Sq{i j:Str}:decide (V.str i=V.str j)=(i == j):=by
  rw[aqc];simp
theorem Sr{i j:Array UInt8}:decide (V.byt i=V.byt j)=(i.toList == j.toList):=by
  rw[aqc];cases i;cases j;simp
section
variable{X:Cx}{a b c:Expr}{ta tb tc:TE}{pos:Pos}
theorem dG{pins:List (Addr×Obj)}{σ:St}{H:Hp}{s:Shared}{Q:VK}{k k':Bool}(I:Inv X pins σ H s)(q:Q (.bl k) H)(e:k=k'):EP X pins σ Q (.bool k') s:=by
  subst e;exact⟨.bl k,H,I,rfl,q⟩
theorem tK:OpR X (compareOp .Eq) rEq:=by
  intro pins s σ H x y v u Q I rx ry h;obtain⟨hs,q⟩:=h;cases x with
  | non =>
    cases rx;cases y with
    | non=>cases ry;exact PySem.EqNone.eq_none_none 4e0
    | bl j=>cases ry;exact PySem.EqNone.eq_none_bool 4e0
    | int j=>obtain⟨t',rfl⟩:=ry;exact PySem.EqNone.eq_none_int 4e0
    | str j=>obtain⟨t',rfl⟩:=ry;exact PySem.EqNone.eq_none_str 4e0
    | _=>exact absurd 4e1 aoO
  | bl i =>
    cases rx;cases y with
    | non=>cases ry;exact PySem.EqNone.eq_bool_none 4e0
    | bl j=>cases ry;exact eq_bool (dG I q VV)
    | str j=>obtain⟨t',rfl⟩:=ry;exact PySem.EqMixed.eq_bool_str 4e0
    | _=>exact absurd 4e1 aoO
  | int i =>
    obtain⟨t,rfl⟩:=rx;cases y with
    | non=>cases ry;exact PySem.EqNone.eq_int_none 4e0
    | int j=>obtain⟨t',rfl⟩:=ry;exact eq_int (dG I q So)
    | str j=>obtain⟨t',rfl⟩:=ry;exact PySem.EqMixed.eq_int_str 4e0
    | _=>exact absurd 4e1 aoO
  | str i =>
    obtain⟨t,rfl⟩:=rx;cases y with
    | non=>cases ry;exact PySem.EqNone.eq_str_none 4e0
    | bl j=>cases ry;exact PySem.EqMixed.eq_str_bool 4e0
    | int j=>obtain⟨t',rfl⟩:=ry;exact PySem.EqMixed.eq_str_int 4e0
    | str j=>obtain⟨t',rfl⟩:=ry;exact eq_str (dG I q Sq)
    | _=>exact absurd 4e1 aoO
  | byt i =>
    obtain⟨t,rfl⟩:=rx;cases y with
    | byt j=>obtain⟨t',rfl⟩:=ry;exact PySem.W.eq_bytes (dG I q Sr)
    | _=>exact absurd 4e1 aoO
  | _=>cases y<;>exact absurd 4e1 aoO
theorem QL:OpR X (compareOp .NotEq) rNe:=by
  intro pins s σ H x y v u Q I rx ry h;obtain⟨hs,q⟩:=h;cases x with
  | non =>
    cases rx;cases y with
    | non=>cases ry;exact PySem.EqNone.ne_none_none 4e0
    | bl j=>cases ry;exact PySem.EqNone.ne_none_bool 4e0
    | int j=>obtain⟨t',rfl⟩:=ry;exact PySem.EqNone.ne_none_int 4e0
    | str j=>obtain⟨t',rfl⟩:=ry;exact PySem.EqNone.ne_none_str 4e0
    | _=>exact absurd 4e1 aoO
  | bl i =>
    cases rx;cases y with
    | non=>cases ry;exact PySem.EqNone.ne_bool_none 4e0
    | bl j=>cases ry;exact ne_bool (dG I q (congrArg not VV))
    | str j=>obtain⟨t',rfl⟩:=ry;exact PySem.EqMixed.ne_bool_str 4e0
    | _=>exact absurd 4e1 aoO
  | int i =>
    obtain⟨t,rfl⟩:=rx;cases y with
    | non=>cases ry;exact PySem.EqNone.ne_int_none 4e0
    | int j=>obtain⟨t',rfl⟩:=ry;exact ne_int (dG I q (congrArg not So))
    | str j=>obtain⟨t',rfl⟩:=ry;exact PySem.EqMixed.ne_int_str 4e0
    | _=>exact absurd 4e1 aoO
  | str i =>
    obtain⟨t,rfl⟩:=rx;cases y with
    | non=>cases ry;exact PySem.EqNone.ne_str_none 4e0
    | bl j=>cases ry;exact PySem.EqMixed.ne_str_bool 4e0
    | int j=>obtain⟨t',rfl⟩:=ry;exact PySem.EqMixed.ne_str_int 4e0
    | str j=>obtain⟨t',rfl⟩:=ry;exact ne_str (dG I q (congrArg not Sq))
    | _=>exact absurd 4e1 aoO
  | byt i =>
    obtain⟨t,rfl⟩:=rx;cases y with
    | byt j=>obtain⟨t',rfl⟩:=ry;exact PySem.W.ne_bytes (dG I q (congrArg not Sr))
    | _=>exact absurd 4e1 aoO
  | _=>cases y<;>exact absurd 4e1 aoO
theorem yy:OpR X (compareOp .Lt) (rI0 λi j=>.bl (decide (i<j))):=YV λ_ _ _ _ _ _ _ q=>lt_int q
theorem AK:OpR X (compareOp .LtE) (rI0 λi j=>.bl (decide (i<=j))):=YV λ_ _ _ _ _ _ _ q=>le_int q
theorem QM:OpR X (compareOp .Gt) (rI0 λi j=>.bl (decide (j<i))):=YV λ_ _ _ _ _ _ _ q=>gt_int q
theorem YW:OpR X (compareOp .GtE) (rI0 λi j=>.bl (decide (j<=i))):=YV λ_ _ _ _ _ _ _ q=>ge_int q
theorem jI:OpR X (compareOp .Is) (λx y H Q=>y=.non/\Q (.bl (decide (x=.non))) H):=by
  intro pins s σ H x y v u Q I rx ry h;obtain⟨rfl,q⟩:=h;cases ry;refine is_none_gen (dG I q ?_);cases x<;>first
    | (cases rx;rfl)
    | (obtain⟨t,rfl⟩:=rx;rfl)
theorem Ss:OpR X (compareOp .IsNot) (λx y H Q=>y=.non/\Q (.bl (!decide (x=.non))) H):=by
  intro pins s σ H x y v u Q I rx ry h;obtain⟨rfl,q⟩:=h;cases ry;refine isnot_none_gen (dG I q ?_);cases x<;>first
    | (cases rx;rfl)
    | (obtain⟨t,rfl⟩:=rx;rfl)
theorem aU(b:Expr){op:CmpOp}(h:op≠.In:=by decide)(h2:op≠.NotIn:=by decide):behindInMarks op b=false:=by
  have e1:(op == CmpOp.In)=false:=by cases op<;>first|rfl|exact absurd rfl h
  have e2:(op == CmpOp.NotIn)=false:=by cases op<;>first|rfl|exact absurd rfl h2
  cases b<;>simp[behindInMarks,e1,e2]
theorem vJ{op:CmpOp}{r:R2}(ho:OpR X (compareOp op) r)(ha:PE X a ta)(hb:PE X b tb)(hm:behindInMarks op b=false):PE X (.Compare a [op] [b] pos) (tOp r ta tb):=by
  intro pins s σ H Q I h;exact wpAny_Compare1 (aaA ha hb I h λv u s2 x y H2 I2 rx ry q=>ho pins s2 σ H2 x y v u Q I2 rx ry q) hm
noncomputable def YX(t:TE):TT:=λσ H Q=>t σ H λx H'=>aay x H' Q
theorem aG{op:CmpOp}{r:R2}(ho:OpR X (compareOp op) r)(ha:PE X a ta)(hb:PE X b tb)(hm:behindInMarks op b=false):PT X (.Compare a [op] [b] pos) (YX (tOp r ta tb)):=by
  intro pins s σ H Q I h;refine wpAny_isTrue_Compare1 (thn (ha pins s σ H _ I h) λv s1 ⟨x,H1,I1,r1,q1⟩=>thn (hb pins s1 σ H1 _ I1 q1) λu s2 ⟨y,H2,I2,r2,q2⟩ =>
    thn (ho pins s2 σ H2 x y v u _ I2 r1 r2 q2) λc s3 ⟨z,H3,I3,r3,k,e,q3⟩=>?_) hm
  subst e;cases r3;exact wpAny_truthy_bool ⟨H3,I3,q3⟩
noncomputable def ZJ(r r':R2)(ta tb tc:TE):TE:=λσ H Q=>ta σ H λx H1=>tb σ H1 λy H2=>r x y H2 λz H3=>∃ k,z=.bl k /\
  (if k=true then tc σ H3 λw' H4=>r' y w' H4 Q else Q (.bl false) H3)
theorem pE{op op':CmpOp}{r r':R2}(ho:OpR X (compareOp op) r)(ho':OpR X (compareOp op') r')(ha:PE X a ta)(hb:PE X b tb)(hc:PE X c tc)
    (hm:lastMarks [op,op'] [b,c]=false:=by with_unfolding_all rfl):PT X (.Compare a [op,op'] [b,c] pos) (YX (ZJ r r' ta tb tc)):=by
  intro pins s σ H Q I h;refine isTrue_chain (thn (ha pins s σ H _ I h) λv s1 ⟨x,H1,I1,r1,q1⟩=>test_link (thn (hb pins s1 σ H1 _ I1 q1) λu s2 ⟨y,H2,I2,r2,q2⟩ =>
    thn (ho pins s2 σ H2 x y v u _ I2 r1 r2 q2) λd s3 ⟨z,H3,I3,r3,k,e,q3⟩=>?_)) hm
  subst e;cases r3;refine wpAny_truthy_bool ?_;cases k with
  | false =>
    obtain⟨k',e',q'⟩:=q3;cases e';exact ite_ff ⟨H3,I3,q'⟩
  | true =>
    refine ite_tt (test_last (thn (hc pins s3 σ H3 _ I3 q3) λw' s4 ⟨z',H4,I4,r4,q4⟩=>thn (ho' pins s4 σ H4 y z' u w' _ I4 r2 r4 q4) λd' s5 ⟨z2,H5,I5,r5,k2,e2,q5⟩=>?_));subst e2;cases r5;exact wpAny_truthy_bool ⟨H5,I5,q5⟩
noncomputable def adz(K:W.Frag)(x:V)(H:Hp)(k:Bool):Prop :=
  match x with
  | .non=>k=false
  | .bl b=>k=b
  | .int i=>k=(i != 0)
  | .str y=>y.length<=sizeLine/\k=((y.length:Int) != 0)
  | .byt y=>y.size<=sizeLine/\k=((y.size:Int) != 0)
  | .ref p=>(∃ xs,SqL K H p xs/\k=!xs.isEmpty)\/(∃ xs,SqT K H p xs/\k=!xs.isEmpty)\/∃ kvs,H p=some 2e6/\k=!kvs.isEmpty
  | _=>False
theorem QN{κ:Type}{kvs:List (κ×V)}{vs:List (κ×Value)}(r:KV kvs vs):(!vs.isEmpty)=!kvs.isEmpty:=by
  cases r<;>rfl
theorem Ib{xs:List V}{its:List Value}(r:Vals xs its):(!its.toArray.isEmpty)=!xs.isEmpty:=by
  cases r<;>simp
theorem Jm:(sizeLine:Nat)<2 ^ 63:=by rw[sizeLine_eq];decide
theorem ZK:akl X (λx H Q=>∃ k,adz X.K x H k/\Q k H):=by
  intro pins s σ H x v Q I rx h;obtain⟨k,e,q⟩:=h;have hl:=Jm;have hs:sizeLine=16777216:=sizeLine_eq;cases x with
  | non =>
    cases rx;have e':k=false:=e;subst e';exact truthy_none ⟨H,I,q⟩
  | bl b =>
    cases rx;have e':k=b:=e;subst e';exact wpAny_truthy_bool ⟨H,I,q⟩
  | int i =>
    obtain⟨t,rfl⟩:=rx;have e':k=(i != 0):=e;subst e';exact PySem.P.truthy_int ⟨H,I,q⟩
  | str y =>
    obtain⟨t,rfl⟩:=rx;obtain⟨hy,e'⟩:y.length<=sizeLine/\k=((y.length:Int) != 0):=e;subst e';exact PySem.P.truthy_str 1e1 ⟨H,I.tok _,q⟩
  | byt y =>
    obtain⟨t,rfl⟩:=rx;obtain⟨hy,e'⟩:y.size<=sizeLine/\k=((y.size:Int) != 0):=e;subst e';exact PySem.W.truthy_bytes 1e1 ⟨H,I.tok _,q⟩
  | ref p =>
    cases rx;have e':(∃ xs,SqL X.K H p xs/\k=!xs.isEmpty)\/(∃ xs,SqT X.K H p xs/\k=!xs.isEmpty)\/∃ kvs,H p=some 2e6/\k=!kvs.isEmpty:=e;rcases e' with⟨xs,hx,e'⟩|⟨xs,hx,e'⟩|⟨kvs,hx,e'⟩
    · subst e'
      obtain⟨its,r,pl,hz⟩:=I.list hx;have hlen:=r.length;exact wpAny_truthy_list pl.isList (by simp only[aoN];omega) ⟨H,I.tok _,by rw[Ib r];exact q⟩
    · subst e'
      obtain⟨its,r,pl,hz⟩:=I.tuple hx;have hlen:=r.length;exact truthy_tuple pl (by simp only[aoN];omega) ⟨H,I.tok _,by rw[Ib r];exact q⟩
    · subst e'
      obtain⟨hz,hS,vs,r,m⟩:kvs.length<=sizeLine/\(p == sysModules)=false/\∃ vs,KV kvs vs/\s.heap.DictOf (cH X.prog X.w) p vs:=I.hok p _ hx;have hlen:kvs.length=vs.length:=aqy r;exact wpAny_truthy_dict hS m 1e1 ⟨H,I.tok _,by rw[QN r];exact q⟩
  | _=>exact(show False from e).elim
theorem Pu(ha:PE X a ta)(he:∀ whole,isTrue a X.env whole=(do let v <-whole;standAt a.pos;holding [v] (truthy v))) :
    PT X a (λσ H Q=>ta σ H λx H'=>∃ k,adz X.K x H' k/\Q k H'):=by
  intro pins s σ H Q I h;exact isTrue_plain (thn (ha pins s σ H _ I h) λv s1 ⟨x,H1,I1,r1,q1⟩=>ZK pins s1 σ H1 x v Q I1 r1 q1) (he _)
theorem vals1{x:V}{us:List Value}(r:Vals [x] us):∃ u,us=[u]/\RelV x u:=by
  cases r with
  | cons r1 r2=>cases r2;exact⟨_,rfl,r1⟩
theorem Vf:uV X (.builtin "abs") (λxs H Q=>∃ i,xs=[.int i]/\Q (.int (if i<0 then -i else i)) H):=by
  intro pins s σ H xs us Q I r h;obtain⟨i,rfl,q⟩:=h;obtain⟨u,rfl,t,rfl⟩:=vals1 r;exact call_abs_int λu tk=>⟨.int (if i<0 then -i else i),H,I.tok _,⟨_,rfl⟩,q⟩
end
end L2
namespace L2
open PySem PySem.Spec PyProof.Rows
structure UY(h:Heap)(x dx C:Addr)(mA:Str->Option Value):Prop where
  obj:h.get? x=some (PySem.W.instObj C dx)
  ns:h.Ns1 dx mA
  ne:dx≠x
theorem TX{h:Heap}{dx:Addr}{mA:Str->Option Value}(n:h.Ns1 dx mA):∃ od,h.get? dx=some od/\∀ name,PySem.W.lookIn name od=some (mA name):=by
  obtain⟨o,es,ep,ho,hd,hk,_,hm⟩:=n;refine⟨o,ho,λname=>?_⟩;have e:=hm name;unfold nsFind findBy at e;rw[<-Array.find?_toList]at e;unfold PySem.W.lookIn;rw[hd];dsimp only;split
  · rename_i y q
    rw[q]at e;exact congrArg some e
  · rename_i q
    rw[q]at e;have a:es.toList.any (·.refKey)=false:=by
      rw[List.any_eq_false];intro y hy;obtain⟨z,t,ako⟩:=hk y (Array.mem_toList_iff.mp hy);simp[DictEntry.refKey,ako]
    have a':¬es.toList.any (·.refKey)=true:=(by rw[a];exact aoO);rw[if_neg a'];exact congrArg some e
theorem UY.look{h:Heap}{x dx C:Addr}{mA:Str->Option Value}(I:UY h x dx C mA):∃ od,PySem.W.InstAt h x (PySem.W.instObj C dx) C (some od)/\∀ name,PySem.W.lookIn name od=some (mA name) :=
  let ⟨od,ho,hl⟩:=TX I.ns
  ⟨od,⟨I.obj,rfl,rfl,ho⟩,hl⟩
section
variable{prog:Program}{w:World}{A:Around}{E:Value->Shared->Prop}{s:Shared}{K:W.Frag}{x dx C f:Addr}{mA:Str->Option Value}{name:Str}{v:Value}
theorem get_map{expr:Bool}{Q:Value->Shared->Prop}(X:K.In s.heap)(I:UY s.heap x dx C mA)(hg:PySem.W.plainGet K C name=true)(hh:PySem.W.hasDictIn K C=true)
    (ha:PySem.W.findIn K 3e7 name=some none) (hv:mA name=some v) (hv':PySem.W.handedIn v=true) (h:Q v {s with toks:=s.toks+1}) :
    wpAny 1e8 A (getAttr 5e2 name expr) Q E s:=by
  obtain⟨od,J,hl⟩:=I.look;exact PySem.W.get_value X J (PySem.W.plainGet_of hg).1 (PySem.W.findObj_own hh ha rfl (by rw[hl,hv])) hv' h
theorem Vg{pl:Sem Bool}{Q:Value×List Value->Shared->Prop}(X:K.In s.heap)(I:UY s.heap x dx C mA)(hg:PySem.W.plainGet K C name=true)
    (hf:PySem.W.findIn K 3e7 name=some (some (.ref f))) (ht:PySem.W.isFn K (.ref f)=true) (hv:mA name=none) (h:Q (.ref f,[.ref x]) s) :
    wpAny 1e8 A (getMethod 5e2 name pl) Q E s:=by
  obtain⟨od,J,hl⟩:=I.look;exact PySem.W.method_fn X J (PySem.W.plainGet_of hg).1 (PySem.W.plainGet_of hg).2 hf (beq_iff_eq.mp ht) (by show(PySem.W.lookIn name od).map (·.isSome)=some false;rw[hl,hv];rfl) h
theorem XQ{ns:List Str}{Q:Unit->Shared->Prop}(X:K.In s.heap)(I:UY s.heap x dx C mA)
    (hs:PySem.W.findIn K 3e7 "__setattr__" = some (some (.builtin "object.__setattr__"))) (hp:PySem.W.plainOver K C=true) (ht:PySem.W.takerIn K C name=some none) (hh:PySem.W.hasDictIn K C=true)
    (hw:PySem.Within mA ns) (hsz:ns.length<=sizeLine)
    (h:∀ h',UY h' x dx C (λy=>if y=name then some v else mA y)->Heap.SameBut dx s.heap h'->Q () {s with heap:=h',toks:=s.toks+2}) :
    wpAny 1e8 A (setAttr 5e2 name v) Q E s:=by
  obtain⟨od,J,hl⟩:=I.look;refine PySem.W.set_plain X J hs (PySem.W.osa_open (s:={s with toks:=s.toks+1}) (r:=none) X J hp ht λb=>?_);obtain⟨cd,hc,hd'⟩:=PySem.W.any_some hh;have hx:s.heap.get? x=some ⟨.ref C,some dx,.plain,#[]⟩:=I.obj;refine wpAny_bind (wpAny_pure (wpAny_bind (wpAny_bind (wpAny_loadPart hx (wpAny_bind (PySem.W.Looks.here (s:={s with toks:=s.toks+1}) (PySem.W.looks_clsIn X hc) ?_))))));rw[hd'];refine wpAny_pure (a:=some dx) (wpAny_bind (wpAny_pure (wpAny_bind ?_)));refine wpAny_nsSet1 (s:={s with toks:=s.toks+1}) I.ns λh' hn2 hs2=>?_;obtain⟨oD,esD,epD,hoD,hdD,hcD⟩:=hn2.count (PySem.Within.cons name v hw);refine wpAny_bind (wpAny_lookBehind hoD (by rw[hdD];exact pastItsLine_dict (ao7 hcD (by rw[aph];omega))) ?_);exact wpAny_pure (h _ ⟨(hs2.2 _ (aoT I.ne)).trans I.obj,hn2,I.ne⟩ hs2)
theorem Vh{R:Result->Shared->Prop}{vs:List Value}{kw:List (Str×Value)}(X:K.In s.heap)(hm:PySem.W.makesIn K C=true)
    (hi:PySem.W.findIn K 3e7 "__init__" = some (some (.ref f))) (hf:PySem.W.typeIn K (.ref f)=some (.type "function"))
    (h:codeAny 1e8 (A.under (.builtin "type.__call__" ⟨.ref C::vs,kw⟩)) (.call (.ref f) ⟨.ref 2e3::vs,kw⟩) (PySem.W.InitBack 2e3 R)
      {s with heap:=(s.heap.push PySem.W.emptyDict).push (PySem.W.instObj C s.heap.objs.size)}) :
    codeAny 1e8 A (.call 3e7 ⟨vs,kw⟩) R s:=by
  obtain⟨hh,g,d,t,os⟩:=s;exact PySem.W.make_core (PySem.W.makes_of X hm) (PySem.W.looks_findIn X hi) (λself=>PySem.W.bind_fn X self hf) 2e9 h
end
noncomputable def je(f:Str)(v:V):List (Str×V)->List (Str×V)
  | []=>[(f,v)]
  | (g,x)::r=>if g=f then(g,v)::r else(g,x)::je f v r
theorem Fd(f g:Str)(v:V):∀ fs:List (Str×V),(je f v fs).lookup g=if g=f then some v else fs.lookup g
  | []=>by
    show List.lookup g [(f,v)]=_;by_cases h:g=f
    · have hb:(g == f)=true:=beq_iff_eq.mpr h
      simp only[List.lookup,hb,if_pos h]
    · have hb:(g == f)=false:=beq_eq_false_iff_ne.mpr h
      simp only[List.lookup,hb,if_neg h]
  | (k,x)::r=>by
    have ih:=Fd f g v r;rw[show je f v ((k,x)::r)=(if k=f then(k,v)::r else(k,x)::je f v r) from rfl];by_cases hk:k=f
    · rw[if_pos hk]
      by_cases h:g=k
      · have hb:(g == k)=true:=beq_iff_eq.mpr h
        simp only[List.lookup,hb,if_pos (h.trans hk)]
      · have hb:(g == k)=false:=beq_eq_false_iff_ne.mpr h
        simp only[List.lookup,hb,if_neg (λe:g=f=>h (e.trans hk.symm))]
    · rw[if_neg hk]
      by_cases h:g=k
      · have hb:(g == k)=true:=beq_iff_eq.mpr h
        simp only[List.lookup,hb,if_neg (λe:g=f=>hk (h.symm.trans e))]
      · have hb:(g == k)=false:=beq_eq_false_iff_ne.mpr h
        simp only[List.lookup,hb];exact ih
theorem ET(f:Str)(v:V):∀ fs:List (Str×V),f∈(je f v fs).map (·.1)/\∀ g,g∈fs.map (·.1)->g∈(je f v fs).map (·.1)
  | []=>⟨by simp[je],λg h=>by simp at h⟩
  | (k,x)::r=>by
    obtain⟨i1,i2⟩:=ET f v r;rw[show je f v ((k,x)::r)=(if k=f then(k,v)::r else(k,x)::je f v r) from rfl];by_cases hk:k=f
    · rw[if_pos hk]
      subst hk;exact⟨by simp,λg h=>by simpa using h⟩
    · rw[if_neg hk]
      refine⟨?_,λg h=>?_⟩
      · rw[ao8]
        exact ao6 _ i1
      · rw[ao8]at h ⊢
        rcases ao2.mp h with e|e
        · exact ao2.mpr (.inl e)
        · exact ao6 _ (i2 g e)
theorem Fe(f:Str)(v:V):∀ fs:List (Str×V),(je f v fs).length<=fs.length+1
  | []=>by simp[je]
  | (k,x)::r=>by
    have ih:=Fe f v r;rw[show je f v ((k,x)::r)=(if k=f then(k,v)::r else(k,x)::je f v r) from rfl];by_cases hk:k=f
    · rw[if_pos hk,aph,aph];omega
    · rw[if_neg hk,aph,aph];omega
theorem AJ.some_of{v:V}{o:Option Value}(r:AJ (some v) o):∃ u,o=some u/\RelV v u:=by
  cases o with
  | none=>exact(show False from r).elim
  | some u=>exact⟨u,rfl,r⟩
theorem AJ.none_of{o:Option Value}(r:AJ none o):o=none:=by
  cases o with
  | none=>rfl
  | some u=>exact(show False from r).elim
theorem TY{v:V}{u:Value}(r:RelV v u):PySem.W.handedIn u=true:=by
  cases v with
  | non=>cases (show u=Value.none from r);rfl
  | bl b=>cases (show u=Value.bool b from r);rfl
  | int i=>obtain⟨t,e⟩:=(show ∃ t,u=Value.int i t from r);cases e;rfl
  | str x=>obtain⟨t,e⟩:=(show ∃ t,u=Value.str x t from r);cases e;rfl
  | byt b=>obtain⟨t,e⟩:=(show ∃ t,u=Value.bytes b t from r);cases e;rfl
  | flt b=>obtain⟨t,e⟩:=(show ∃ t,u=Value.float b t from r);cases e;rfl
  | ref a=>cases (show u=Value.ref a from r);rfl
  | ty n=>cases (show u=Value.type n from r);rfl
section
variable{P:Program}{w:World}{H H':Hp}{h h':Heap}{a C dx:Addr}{fs fs':List (Str×V)}
theorem Nw(hok:HOk P w H h)(e:H a=some (.ins C dx fs)):∃ mA,UY h a dx C mA/\(∀ f,AJ (fs.lookup f) (mA f))/\PySem.Within mA (fs.map (·.1))/\fs.length<=1000/\H dx=some (.own a):=by
  obtain⟨d,z,ne,ob,mA,n,r,q⟩:=(show jd P w H h a (.ins C dx fs) from hok a _ e);exact⟨mA,⟨ob,n,ne⟩,r,q,z,d⟩
end
structure Cls(K:W.Frag)(C:Addr):Prop where
  pg:PySem.W.plainGet K C Str.empty=true
  hd:PySem.W.hasDictIn K C=true
  po:PySem.W.plainOver K C=true
  sa:PySem.W.findIn K 3e7 "__setattr__" = some (some (.builtin "object.__setattr__"))
theorem Cls.get{K:W.Frag}{C:Addr}(c:Cls K C)(f:Str):PySem.W.plainGet K C f=true:=c.pg
noncomputable def eS(K:W.Frag)(C:Addr)(f:Str):Prop:=PySem.W.findIn K 3e7 f=some none
theorem eS.acu{K:W.Frag}{C:Addr}{f:Str}(n:eS K C f):PySem.W.takerIn K C f=some none:=by
  unfold PySem.W.takerIn;rw[show PySem.W.findIn K 3e7 f=some none from n];rfl
structure Meth(K:W.Frag)(C:Addr)(m:Str)(f:Addr):Prop where
  at_:PySem.W.findIn K 3e7 m=some (some (.ref f))
  fn:PySem.W.isFn K (.ref f)=true
  kp:PySem.W.keepIn K (.ref f)=true
section
variable{X:Cx}{pins:List (Addr×Obj)}{σ:St}{H:Hp}{s:Shared}{a C dx:Addr}{fs:List (Str×V)}{f:Str}{v:V}{A:Around}{E:Value->Shared->Prop}
theorem QO{b:Bool}{Q:Value->Shared->Prop}(I:Inv X pins σ H s)(e:H a=some (.ins C dx fs))(c:Cls X.K C)(n:eS X.K C f)(l:fs.lookup f=some v)
    (h:∀ u s',Inv X pins σ H s'->RelV v u->Q u s'):wpAny 1e6 A (getAttr (.ref a) f b) Q E s:=by
  obtain⟨mA,O,r,_,_,_⟩:=Nw I.hok e;obtain⟨u,hu,ru⟩:=AJ.some_of (v:=v) (o:=mA f) (by rw[<-l];exact r f);exact get_map I.kIn O (c.get f) c.hd n hu (TY ru) (h u _ (I.tok _) ru)
theorem Ic{m:Str}{g:Addr}{pl:Sem Bool}{Q:Value×List Value->Shared->Prop}(I:Inv X pins σ H s)(e:H a=some (.ins C dx fs))(c:Cls X.K C)(k:Meth X.K C m g)(l:fs.lookup m=none)
    (h:Q (.ref g,[.ref a]) s):wpAny 1e6 A (getMethod (.ref a) m pl) Q E s:=by
  obtain⟨mA,O,r,_,_,_⟩:=Nw I.hok e;have hn:mA m=none:=AJ.none_of (by rw[<-l];exact r m);exact Vg I.kIn O (c.get m) k.at_ k.fn hn h
theorem QP{y:V}{u:Value}{Q:Unit->Shared->Prop}(I:Inv X pins σ H s)(e:H a=some (.ins C dx fs))(c:Cls X.K C)(n:eS X.K C f)(hl:fs.length<1000)(ry:RelV y u)
    (h:∀ s',Inv X pins σ (upd H a (.ins C dx (je f y fs))) s'->Q () s'):wpAny 1e6 A (setAttr (.ref a) f u) Q E s:=by
  obtain⟨mA,O,r,wi,_,ho⟩:=Nw I.hok e;have hz:(fs.map (·.1)).length<=sizeLine:=by rw[aoG,sizeLine_eq];omega
  refine XQ I.kIn O c.sa c.po n.acu c.hd wi hz λh' O' sb=>h _ ?_;have hd:∃ o,h'.get? dx=some o:=let ⟨o,_,_,e',_⟩:=O'.ns;⟨o,e'⟩;refine I.write (x:=a) (e:=dx) (by rw[e];exact True.intro) (.inr ho) (λb q hb z=>(sb.2 b hb).trans z) hd ?_;refine⟨by rw[af O.ne];exact ho,?_,O.ne,O'.obj,_,O'.ns,λg=>?_,λg hg=>?_⟩
  · have:=Fe f y fs;omega
  · show AJ ((je f y fs).lookup g) (if g=f then some u else mA g)
    rw[Fd];by_cases q:g=f
    · rw[if_pos q,if_pos q];exact ry
    · rw[if_neg q,if_neg q];exact r g
  · by_cases q:g=f
    · rw[q];exact(ET f y fs).1
    · refine(ET f y fs).2 g (wi g λz=>hg ?_)
      show(if g=f then some u else mA g)=none;rw[if_neg q];exact z
theorem Inv.made(I:Inv X pins σ H s):Inv X pins σ (upd (upd H s.heap.objs.size (.own 2e3)) 2e3 (.ins C s.heap.objs.size []))
    {s with heap:=(s.heap.push PySem.W.emptyDict).push (PySem.W.instObj C s.heap.objs.size)}:=by
  have e1:(s.heap.push PySem.W.emptyDict).get? s.heap.objs.size=some PySem.W.emptyDict:=apa s.heap rfl;have e2:((s.heap.push PySem.W.emptyDict).push (PySem.W.instObj C s.heap.objs.size)).get? 2e3=some (PySem.W.instObj C s.heap.objs.size):=by
    have:=apa (s.heap.push PySem.W.emptyDict) (o:=PySem.W.instObj C s.heap.objs.size) rfl
    rwa[ap4]at this
  have e3:(s.heap.push PySem.W.emptyDict).Ns s.heap.objs.size (λ_=>none):=⟨PySem.W.emptyDict,#[],_,e1,rfl,(λe he=>absurd he 1e9),λ_=>rfl⟩;have I1:=I.laid (a:=s.heap.objs.size) (o:=.own 2e3) (h':=s.heap.push PySem.W.emptyDict) (t':=s.toks) (λb u q=>aoK _ q) (aoL _) ⟨_,e1⟩;refine I1.laid (a:=s.heap.objs.size+1) (o:=.ins C s.heap.objs.size []) (t':=s.toks) (λb u q=>aoK _ q) (Nat.le_of_eq (ap4 _ _)) ?_;have ne:s.heap.objs.size≠s.heap.objs.size+1:=aoW (aqm _);refine⟨by rw[af ne,ag],apq _,ne,e2,λ_=>none,(Heap.Ns1.of_empty e3).at λo q=>aoK _ q,λ_=>True.intro,λy hy=>absurd rfl hy⟩
theorem XS{prog:Program}{w:World}{env:Env}{e:Expr}{f:Str}{pos:Pos}{s:Shared}{Q:Value->Shared->Prop}(hb:attributeBase e f env (eval e env)=eval e env)
    (h:wpAny 1e8 A (eval e env) (λo s₁=>wpAny 1e8 A (getAttr o f true) Q E s₁) E s):wpAny 1e8 A (eval (.Attribute e f pos) env) Q E s :=
  Attribute_any_ h (by rw[arm_eval_Attribute,hb])
end
inductive adA(K:W.Frag)(f:Str)(x:V)(H:Hp)(Q:VK):Prop where
  | mk (a C dx:Addr) (fs:List (Str×V)) (v:V):x=.ref a->H a=some (.ins C dx fs)->Cls K C->eS K C f->fs.lookup f=some v->Q v H->adA K f x H Q
noncomputable def adB(K:W.Frag)(ta:TE)(f:Str):TE:=λσ H Q=>ta σ H λx H1=>adA K f x H1 Q
noncomputable def akp(K:W.Frag)(ta tv:TE)(f:Str):TS:=λD σ H=>tv σ H λy H1=>ta σ H1 λx H2=>∃ a C dx fs,x=.ref a/\H2 a=some (.ins C dx fs)/\Cls K C/\eS K C f/\fs.length<1000 /\
  D.nx σ (upd H2 a (.ins C dx (je f y fs)))
section
variable{X:Cx}{o e value:Expr}{f:Str}{pos pos' akq:Pos}{ta tv:TE}
theorem aI(he:PE X e ta)(hb:attributeBase e f X.env (eval e X.env)=eval e X.env):PE X (.Attribute e f pos) (adB X.K ta f):=by
  intro pins s σ H Q I h;refine XS hb (thn 5e7 λu s1 ⟨x,H1,I1,rx,a,C,dx,fs,v,ex,ea,c,n,l,q⟩=>?_);subst ex;obtain rfl:u=Value.ref a:=rx;exact QO I1 ea c n l λu' s2 I2 ru=>⟨v,H1,I2,ru,q⟩
theorem iL(ha:PE X o ta)(hv:PE X value tv)(hs:swapsWith value (some (.Attribute o f pos')) pos.line X.env=pure false):PS X (.Assign [.Attribute o f pos'] value pos) (akp X.K ta tv f):=by
  intro pins s σ H D I h;refine plainObj_wpAny_Assign_Attribute (thn (hv pins s σ H _ I h) λu s1 ⟨y,H1,I1,ry,q⟩=>thn (ha pins s1 σ H1 _ I1 q) λov s2 ⟨x,H2,I2,rx,a,C,dx,fs,ex,ea,c,n,l,q2⟩=>?_) hs;subst ex;obtain rfl:ov=Value.ref a:=rx;exact QP I2 ea c n l ry λs3 I3=>⟨σ,_,I3,q2⟩
end
section
variable{X:Cx}{pins:List (Addr×Obj)}{σ:St}{H:Hp}{s:Shared}{A:Around}{E:Value->Shared->Prop}{Q:Value->Shared->Prop}{c:Value}{b:Bool}
end
end L2
namespace L2
open PySem PySem.Spec PyProof.Rows
structure mW(k:Nat)(A:Around):Prop where
  hd:A.handled=none
  dp:A.depth+3*k+5<recursionLimit
  un:A.units+16*k+200<cLine
theorem mW.mono{j k:Nat}{A:Around}(r:mW k A)(h:j<=k):mW j A:=⟨r.hd,by have:=r.dp;omega,by have:=r.un;omega⟩
theorem mW.deeper{k:Nat}{A:Around}(r:mW (k+1) A)(env:Env):mW k (A.deeper env) :=
  ⟨r.hd,by have:=r.dp;show A.depth+1+3*k+5<_;omega,by have:=r.un;show A.units+3+16*k+200<_;omega⟩
theorem QQ{A:Around}{C:Addr}{us:List Value}{kw:List (Str×Value)}:(A.under (.builtin "type.__call__" ⟨.ref C::us,kw⟩)).depth=A.depth+1:=by
  first|rfl|simp[Around.under,Code.weight,Code.isCreation,Code.isGuard,Code.isCaller,Code.frames,Code.isFrame,guardIds]
theorem QR{A:Around}{C:Addr}{us:List Value}{kw:List (Str×Value)}:(A.under (.builtin "type.__call__" ⟨.ref C::us,kw⟩)).units=A.units+1:=by
  first|rfl|simp[Around.under,Code.cUnits,Code.frames,Code.isFrame]
theorem mW.make{k:Nat}{A:Around}(r:mW (k+1) A)(C:Addr)(us:List Value)(kw:List (Str×Value)):mW k (A.under (.builtin "type.__call__" ⟨.ref C::us,kw⟩)) :=
  ⟨r.hd,by have:=r.dp;rw[QQ];omega,by have:=r.un;rw[QR];omega⟩
theorem mW.depth{k:Nat}{A:Around}(r:mW k A):A.depth<recursionLimit:=by have:=r.dp;omega
theorem mW.units{k:Nat}{A:Around}(r:mW k A):A.units+64<cLine:=by have:=r.un;omega
theorem mW.VW{k:Nat}{A:Around}(r:mW k A):A.units<cLine:=by have:=r.un;omega
noncomputable def YY:TA:=λ_ H Q=>Q [] H
noncomputable def acv(ta:TE)(tr:TA):TA:=λσ H Q=>ta σ H λx H1=>tr σ H1 λxs H2=>Q (x::xs) H2
section
variable{X:Cx}{e:Expr}{es:List Expr}{te:TE}{t:TA}{pos:Pos}
theorem ah:PA X [] YY:=λ_ _ _ _ H Q I h=>aqv ⟨[],H,I,.nil,h⟩
theorem aa(ha:PE X e te)(hr:PA X es t)(hs:starEach (e::es) X.env=(false,eval e X.env)::starEach es X.env:=by rfl):PA X (e::es) (acv te t):=by
  intro pos pins s σ H Q I h;rw[hs];show wpAny _ _ (spliced ((false,eval e X.env)::backTo pos (starEach es X.env))) _ _ s;refine aqd (thn (ha pins s σ H _ I h) λu s1 ⟨x,H1,I1,r1,q1⟩=>?_);exact thn (hr pos pins s1 σ H1 _ I1 q1) λus s2 ⟨xs,H2,I2,r2,q2⟩=>⟨x::xs,H2,I2,.cons r1 r2,q2⟩
noncomputable def akr(t:TA):TE:=λσ H Q=>t σ H λxs H1=>xs.length<=sizeLine/\∀ p,H1 p=none->Q 4e3 (upd H1 p (.tup xs))
noncomputable def aks(t:TA):TE:=λσ H Q=>t σ H λxs H1=>xs.length<=sizeLine/\∀ p,H1 p=none->Q 4e3 (upd H1 p 4e9)
theorem cW{x1}(h:PA X es t):PE X (.Tuple es x1 pos) (akr t):=by
  intro pins s σ H Q I hq;refine wpAny_Tuple_spliced (thn (h pos pins s σ H _ I hq) λus s1 ⟨xs,H1,I1,r,z,q⟩=>⟨by rw[<-r.length];exact z,?_⟩);have hf:H1 s1.heap.objs.size=none:=I1.hok.fresh (aoL _);refine⟨.ref s1.heap.objs.size,upd H1 s1.heap.objs.size (.tup xs),I1.laid (t':=s1.toks) (λb u e=>aoK _ e) (aoL _) ?_,rfl,q _ hf⟩;exact⟨z,us,r,⟨_,apa _ rfl,rfl,_,rfl⟩⟩
theorem lD(h:PA X es t):PE X (.List es pos) (aks t):=by
  intro pins s σ H Q I hq;refine wpAny_List_spliced (thn (h pos pins s σ H _ I hq) λus s1 ⟨xs,H1,I1,r,z,q⟩=>⟨by rw[<-r.length];exact z,?_⟩);have hf:H1 s1.heap.objs.size=none:=I1.hok.fresh (aoL _);refine⟨.ref s1.heap.objs.size,upd H1 s1.heap.objs.size 4e9,I1.laid (t':=s1.toks) (λb u e=>aoK _ e) (aoL _) ?_,rfl,q _ hf⟩;exact⟨z,us,0,r,apa _ rfl⟩
end
noncomputable abbrev Sp:=List V->Hp->VK->XK->Prop
noncomputable abbrev CXT:=List Env->Hp->Shared->XK->Value->Shared->Prop
structure UZ(P:Program)(w:World)(K:W.Frag)(mg:Str->Option Value)(base:Heap)(A:Around)(outer:List Env)(s:Shared)(H:Hp):Prop where
  frames:A.frames=some outer
  mod:Mod K mg base
  bs:∀ b o,base.get? b=some o->s.heap.get? b=some o/\H b=none
  bsz:base.objs.size<=s.heap.objs.size
  GJ:s.heap.FunFrames base outer
  frf:∀ b∈frs outer,H b=none
  hok:HOk P w H s.heap
  bare:AllBare s.gens
noncomputable def CE(outer:List Env)(P:Program)(w:World)(H:Hp)(s:Shared)(Q:VK)(u:Value)(s':Shared):Prop :=
  ∃ v H',s'.os=s.os/\AllBare s'.gens/\Un (frs outer) [] H H' s.heap s'.heap/\HOk P w H' s'.heap/\RelV v u/\Q v H'
noncomputable def CR(CX:CXT)(outer:List Env)(P:Program)(w:World)(H:Hp)(s:Shared)(Q:VK)(E:XK)(r:Result)(s':Shared):Prop :=
  match r with
  | .ok (.ret u)=>CE outer P w H s Q u s'
  | .ok _=>False
  | .error e=>CX outer H s E e s'
structure Dv(P:Program)(w:World)(K:W.Frag)(mg:Str->Option Value)(base:Heap)(CX:CXT)(k:Nat)(f:Addr)(fd:FuncData)(ps:List Str)(sp:Sp):Prop where
  len:∀ vs H Q E,sp vs H Q E->vs.length=ps.length
  run:∀(A:Around) (outer:List Env) (s:Shared) (H:Hp) (args:Args) (us:List Value) (vs:List V) (Q:VK) (E:XK),mW k A->UZ P w K mg base A outer s H->BindsTo s fd args (ps.zip us)->Vals vs us->sp vs H Q E ->
    codeAny (model P w) A (.call (.ref f) args) (CR CX outer P w H s Q E) s
theorem UZ.make{P:Program}{w:World}{K:W.Frag}{mg:Str->Option Value}{base:Heap}{A:Around}{outer:List Env}{s:Shared}{H:Hp}(e:UZ P w K mg base A outer s H)(C:Addr)(us:List Value)(kw:List (Str×Value)) :
    UZ P w K mg base (A.under (.builtin "type.__call__" ⟨.ref C::us,kw⟩)) outer s H:=⟨by first|exact e.frames|(simpa[Around.under,Code.envs,Code.isFrame,pushEnvs] using e.frames),e.mod,e.bs,e.bsz,e.GJ,e.frf,e.hok,e.bare⟩
section
variable{X:Cx}{pins:List (Addr×Obj)}{σ:St}{H:Hp}{s s':Shared}
theorem Inv.aaC(I:Inv X pins σ H s):UZ X.prog X.w X.K X.mg X.base X.A X.stack s H :=
  ⟨I.ok.frames,I.ok.mod,I.bs,ao7 I.ok.bsz I.sz,I.stack,I.Du,I.hok,I.bare⟩
theorem Inv.after{Q:VK}{u:Value}(I:Inv X pins σ H s)(h:CE X.stack X.prog X.w H s Q u s'):EP X pins σ Q u s':=by
  obtain⟨v,H',os,bare,un,hok,r,q⟩:=h;obtain⟨hh,g,d,t,os'⟩:=s';obtain rfl:os'=s.os:=os;exact⟨v,H',I.call (h':=hh) (g':=g) (d':=d) (t':=t) (ch:=[]) un hok bare (λb z=>absurd z 1e9),r,q⟩
end
noncomputable def YZ(C:Addr)(sp:Sp)(dvs:List V)(E:XK)(t:TA):TE:=λσ H Q=>t σ H λvs H1=>∀ x dx,H1 x=none->H1 dx=none->dx≠x ->
  sp (.ref x::(vs++dvs)) (upd (upd H1 dx (.own x)) x (.ins C dx [])) (λv H2=>v=.non/\Q 5e2 H2) E
noncomputable def Binds(K:W.Frag)(fd:FuncData)(ps:List Str)(ds:List Value):Prop :=
  ∀(s:Shared) (us:List Value),K.In s.heap->(us++ds).length=ps.length->BindsTo s fd ⟨us,[]⟩ (ps.zip (us++ds))
theorem Binds.all{K:W.Frag}{fd:FuncData}{ps:List Str}(h:∀ us:List Value,us.length=ps.length->bindArgs fd ⟨us,[]⟩=pure (ps.zip us)):Binds K fd ps []:=λs us _ hl=>by
  rw[apw]at hl ⊢;exact .of_eq (h us hl)
noncomputable def Passes(CX:CXT)(X:Cx)(E:XK):Prop:=∀(pins:List 3e5) (σ:St) (H:Hp) (s:Shared) (e:Value) (s':Shared),Inv X pins σ H s->CX X.stack H s E e s'->X.xe e s'
section
variable{X:Cx}{CX:CXT}{k:Nat}{f C:Addr}{fd:FuncData}{ps:List Str}{sp:Sp}{dvs:List V}{ds:List Value}{E:XK}{x m:Str}{p pos apos:Pos}{e o:Expr}{es:List Expr}{ta:TE}{t:TA}
structure Mk(K:W.Frag)(C f:Addr):Prop where
  makes:PySem.W.makesIn K C=true
  init:PySem.W.findIn K 3e7 "__init__" = some (some (.ref f))
  fn:PySem.W.isFn K (.ref f)=true
  kp:PySem.W.keepIn K 3e7=true
theorem Pw{pins:List (Addr×Obj)}{σ:St}{H:Hp}{s:Shared}{Q:VK}{us:List Value}{vs:List V}(M:Mk X.K C f)(F:Dv X.prog X.w X.K X.mg X.base CX k f fd ps sp)(hr:mW (k+1) X.A)(hb:Binds X.K fd ps ds)(hd:Vals dvs ds)
    (hx:Passes CX X E) (I:Inv X pins σ H s) (r:Vals vs us)
    (h:∀ x dx,H x=none->H dx=none->dx≠x->sp (.ref x::(vs++dvs)) (upd (upd H dx (.own x)) x (.ins C dx [])) (λv H2=>v=.non/\Q 5e2 H2) E) :
    wpAny 1e6 X.A (call 3e7 us) 4e8 X.xe s:=by
  have hq:=h 2e3 s.heap.objs.size (I.hok.fresh (ap8 _)) (I.hok.fresh (aoL _)) (aoW (aqm _));have I2:=Inv.made (C:=C) I;have r2:Vals (V.ref 2e3::(vs++dvs)) (Value.ref 2e3::(us++ds)):=.cons rfl (r.append hd);have hl:(Value.ref 2e3::us++ds).length=ps.length:=by
    have e:=r2.length;rw[F.len _ _ _ _ hq]at e;exact e.symm
  refine wpAny_call (Vh (f:=f) I.kIn M.makes M.init (beq_iff_eq.mp M.fn) (codeAny_mono (F.run _ X.stack _ _ ⟨Value.ref 2e3::us,[]⟩ (Value.ref 2e3::(us++ds)) _ _ E (hr.make C us [])
    (I2.aaC.make C us []) (hb _ (Value.ref 2e3::us) I2.kIn hl) r2 hq) λr s' hq'=>?_))
  cases r with
  | error e=>exact hx pins σ _ _ e s' I2 hq'
  | ok fl =>
    cases fl with
    | ret u =>
      obtain⟨v,H',I3,rv,ev,q3⟩:=I2.after hq';subst ev;exact⟨rv,⟨V.ref 2e3,H',I3,rfl,q3⟩⟩
    | next=>exact False.elim hq'
    | brk=>exact False.elim hq'
    | cont=>exact False.elim hq'
theorem Su(M:Mk X.K C f)(F:Dv X.prog X.w X.K X.mg X.base CX k f fd ps sp)(hr:mW (k+1) X.A)(hg:Gl X x)(hm:X.mg x=some (.ref C))(hb:Binds X.K fd ps ds)(hd:Vals dvs ds)(hx:Passes CX X E)
    (ha:PA X (e::es) t) (hdb:(x == ("__debug__" : Str))=false:=by decide) (he:starEach (e::es) X.env=(false,eval e X.env)::starEach es X.env:=by rfl) (hpl:(backTo pos (starEach es X.env)).any (·.1)=false:=by rfl) :
    PE X (.Call (.Name x p) (e::es) [] pos) (YZ C sp dvs E t):=by
  intro pins s σ H Q I h;refine wpAny_Call_Name_kw (vI I hg hm ?_ hdb);refine PySem.W.callWith_K (h₀:=X.base) I.ok.mod.kin M.kp (thn (ha pos pins s σ H _ I h) λus s1 ⟨vs,H1,I1,r,q⟩=>⟨I1.kIn,?_⟩) he hpl;exact Pw M F hr hb hd hx I1 r q
theorem IT(M:Mk X.K C f)(F:Dv X.prog X.w X.K X.mg X.base CX k f fd ps sp)(hr:mW (k+1) X.A)(hg:Gl X x)(hm:X.mg x=some (.ref C))(hb:Binds X.K fd ps ds)(hd:Vals dvs ds)(hx:Passes CX X E)
    (hdb:(x == ("__debug__" : Str))=false:=by decide):PE X (.Call (.Name x p) [] [] pos) (YZ C sp dvs E YY):=by
  intro pins s σ H Q I h;refine wpAny_Call_Name_kw (vI I hg hm ?_ hdb);exact PySem.W.callWith_K0 I.kIn M.kp (Pw (us:=[]) M F hr hb hd hx I .nil h)
end
section
variable{X:Cx}{CX:CXT}{k:Nat}{f C:Addr}{fd:FuncData}{ps ks:List Str}{sp:Sp}{E:XK}{x m:Str}{p pos apos aoB:Pos}{e o:Expr}{es:List Expr}{kws:List Keyword}{te ta:TE}{t tk:TA}{nm:Option Str}
variable{g:List Value->List Value->List Value}{gV:List V->List V->List V}
end
structure av(N P:List Str)(sc:Scope):Prop where
  kind:sc.kind=.function
  co:sc.isCoroutine=false
  gen:sc.isGenerator=false
  nd:N.Nodup
  pre:N.take P.length=P
  par:∀ x∈P,sc.names.lookup x=some .local\/sc.names.lookup x=some .cell
  ZL:∀ y∈sc.names,y.2≠.free
theorem KZ{kindOf:Str->Option NameKind}{x:Str}:∀ {binds:List (Str×Value)} {m:Str->Option Value},(∀ v,(x,v)∉binds)->bindL kindOf binds m x=m x
  | [],_,_=>rfl
  | (n,v)::r,m,h=>by
    unfold bindL;rw[KZ λw hw=>h w (ao6 _ hw)];split
    · have:x≠n:=by rintro rfl;exact h v ao3
      simp[this]
    · rfl
theorem K0{kindOf:Str->Option NameKind}{x:Str}:∀ {binds:List (Str×Value)} {m:Str->Option Value},(∀ v,(x,v)∉binds)->bindC kindOf binds m x=m x
  | [],_,_=>rfl
  | (n,v)::r,m,h=>by
    unfold bindC;rw[K0 λw hw=>h w (ao6 _ hw)];split
    · rfl
    · have:x≠n:=by rintro rfl;exact h v ao3
      simp[this]
theorem K1{kindOf:Str->Option NameKind}{x:Str}{v:Value}:∀ {P:List Str} {vs:List Value} {i:Nat} {m:Str->Option Value},P.Nodup->P[i]?=some x->vs[i]?=some v->kindOf x=some .local ->
    bindL kindOf (P.zip vs) m x=some v
  | [],_,_,_,_,h,_,_=>by simp at h
  | _::_,[],_,_,_,_,h,_=>by simp at h
  | p::P,w::vs,0,m,nd,h1,h2,hk=>by
    simp at h1 h2;subst h1;subst h2;show bindL kindOf ((p,w)::P.zip vs) m p=_;unfold bindL;rw[KZ λv hv=>(apP.mp nd).1 (aqz hv).1,if_pos hk];simp
  | p::P,w::vs,i+1,m,nd,h1,h2,hk=>by
    show bindL kindOf ((p,w)::P.zip vs) m x=_;unfold bindL;exact K1 (i:=i) (apP.mp nd).2 (by simpa using h1) (by simpa using h2) hk
theorem K2{kindOf:Str->Option NameKind}{x:Str}{v:Value}:∀ {P:List Str} {vs:List Value} {i:Nat} {m:Str->Option Value},P.Nodup->P[i]?=some x->vs[i]?=some v->kindOf x≠some .local ->
    bindC kindOf (P.zip vs) m x=some v
  | [],_,_,_,_,h,_,_=>by simp at h
  | _::_,[],_,_,_,_,h,_=>by simp at h
  | p::P,w::vs,0,m,nd,h1,h2,hk=>by
    simp at h1 h2;subst h1;subst h2;show bindC kindOf ((p,w)::P.zip vs) m p=_;unfold bindC;rw[K0 λv hv=>(apP.mp nd).1 (aqz hv).1,if_neg hk];simp
  | p::P,w::vs,i+1,m,nd,h1,h2,hk=>by
    show bindC kindOf ((p,w)::P.zip vs) m x=_;unfold bindC;exact K2 (i:=i) (apP.mp nd).2 (by simpa using h1) (by simpa using h2) hk
noncomputable def start(N:List Str)(vs:List V):St:=vs.map some++List.replicate (N.length-vs.length) none
noncomputable def VX(CX:CXT)(P:Program)(w:World)(K:W.Frag)(mg:Str->Option Value)(base:Heap)(N:List Str)(qual:Str)(scope:Scope)(f:Addr)(cd:Value)(A:Around)(outer:List Env)(s:Shared)(H:Hp)(E:XK):Cx where
  prog:=P
  w:=w
  K:=K
  mg:=mg
  base:=base
  A:=A.deeper (envOfC qual scope s.heap.objs.size f cd)
  N:=N
  s₀:=s
  H₀:=H
  env:=envOfC qual scope s.heap.objs.size f cd
  outer:=outer
  stack:=envOfC qual scope s.heap.objs.size f cd::outer
  ex:=[]
  calm:=true
  fn:=λ_=>true
  pn:=[]
  xe:=λe s'=>wpAny (model P w) (A.deeper (envOfC qual scope s.heap.objs.size f cd)) (leaving (envOfC qual scope s.heap.objs.size f cd) e) (λ_ s''=>CX outer H s E e s'') (λe' s''=>CX outer H s E e' s'') s'
theorem Px{sc:Scope}{n:Nat}{x:Str}(h:sc.names.lookup x=some .cell):∃ c,(cellsFrom n sc.names []).lookup x=some c:=by
  have q:=PySem.W.cellsFrom_some sc.names n [] (.inl h);exact aqa.mp q
theorem TZ{CX:CXT}{P:Program}{w:World}{K:W.Frag}{mg:Str->Option Value}{base:Heap}{N ps:List Str}{qual:Str}{scope:Scope}{f:Addr}{cd:Value}{A:Around}{outer:List Env}{s s1:Shared}{H:Hp}{E:XK}{us:List Value}{vs:List V}
    (S:av N ps scope) (hd:A.handled=none) (e0:UZ P w K mg base A outer s H) (hl:vs.length=ps.length) (r:Vals vs us)
    (x:InCallC s s.heap.objs.size (bindL (envOfC qual scope s.heap.objs.size f cd).kindOf (ps.zip us) λ_=>none) (cellsFrom 2e3 scope.names []) (bindC (envOfC qual scope s.heap.objs.size f cd).kindOf (ps.zip us) λ_=>none) s1) :
    Inv (VX CX P w K mg base N qual scope f cd A outer s H E) [] (start N vs) H s1:=by
  have hpl:ps.length<=N.length:=by have:=congrArg List.length S.pre;rw[aoS]at this;omega
  obtain⟨h1,tk,rfl,hk⟩:=x.done;have noA:∀ b:Addr,b∉(VX CX P w K mg base N qual scope f cd A outer s H E).ex:=λb z=>absurd (show b∈([]:List Addr) from z) 1e9;refine⟨⟨e0.mod,S.kind,rfl,rfl,aoL _,λy z c h1 h2=>?_,λy hy=>?_,λy c _ h=>?_,λ_=>hd,Around.frames_deeper e0.frames,.inr ⟨rfl,rfl⟩,λb z=>absurd z (noA b),e0.bs,e0.bsz,λb _ _=>noA b,λb z=>absurd z (noA b),e0.GJ,e0.frf⟩,
    rfl,e0.bare,Un.kept hk,⟨_,x.toInCall.ns,λi y v h1 h2 h3=>?_⟩,λy c h=>⟨_,x.cell y c h⟩,e0.hok.fresh (aoL _),λy c h=>?_,λp hp=>absurd (show p∈([]:List 3e5) from hp) 1e9,e0.hok.kept hk,?_⟩
  · exact name_of_addr x.apart (apu h1) (apu h2)
  · have hy:scope.names.lookup y=some .cell\/scope.names.lookup y=some .free:=hy
    rcases hy with hy|hy
    · exact Px hy
    · exact absurd rfl (S.ZL _ (apu hy))
  · exact aqs (x.above y c (apu h))
  · have hi:i<vs.length:=by
      unfold start at h2;by_cases hi:i<vs.length
      · exact hi
      · rw[ao1 (by simpa using hi)]at h2
        rw[apH]at h2;split at h2<;>cases h2
    have ha:vs[i]?=some v:=by
      unfold start at h2;rw[aoX (by simpa using hi),aoR]at h2;cases e:vs[i]? with
      | none=>rw[e]at h2;cases h2
      | some a=>rw[e]at h2;cases h2;rfl
    obtain⟨u,hu,rv⟩:=r.get ha;have hp:ps[i]?=some y:=by
      rw[<-S.pre,List.getElem?_take_of_lt 1e1];exact h1
    have ndP:ps.Nodup:=(by rw[<-S.pre];exact S.nd.sublist (List.take_sublist _ _));refine⟨u,rv,?_⟩;rcases S.par y (aoI hp) with k|k
    · exact .inl ⟨k,K1 ndP hp hu k⟩
    · obtain⟨c,e⟩:=Px (n:=s.heap.objs.size+1) k
      refine .inr ⟨.inl k,c,e,?_⟩;have q:=x.cell y c e;rw[K2 ndP hp hu (by show scope.names.lookup y≠_;rw[k];decide)]at q;exact q
  · exact e0.hok.fresh (aqs (x.above y c (apu h)))
  · unfold start
    show _=N.length;rw[aoJ,aoG,apg];omega
theorem acw{CX:CXT}{P:Program}{w:World}{K:W.Frag}{mg:Str->Option Value}{base:Heap}{k:Nat}{f:Addr}{name qual:Str}{params:Arguments}{body:List Stmt}{scope:Scope}{dV kV doc pm cdv ct oc:Value}{an od:Option Addr}
    {osl:Array (Option Value)} {N ps:List Str} {sp:Sp} (lk:K.lookup f=some ⟨oc,od,.func (PySem.W.fnOf name qual params body scope dV kV doc pm an cdv ct),osl⟩) (hcd:PySem.W.codeIn K cdv qual=true) (S:av N ps scope)
    (len:∀ vs H Q E,sp vs H Q E->vs.length=ps.length)
    (QS:∀(A:Around) (outer:List Env) (s:Shared) (H:Hp) (vs:List V) (Q:VK) (E:XK),mW k (A.deeper (envOfC qual scope s.heap.objs.size f cdv))->sp vs H Q E ->
      ∃ t,PSs (VX CX P w K mg base N qual scope f cdv A outer s H E) body t/\t {nx:=λ_ H'=>Q .non H',rt:=Q} (start N vs) H) :
    Dv P w K mg base CX (k+1) f (PySem.W.fnOf name qual params body scope dV kV doc pm an cdv ct) ps sp:=by
  refine⟨len,λA outer s H args us vs Q E hr e0 hb r hsp=>?_⟩;have hl:=len _ _ _ _ hsp;have KX:K.In s.heap:=e0.mod.kin.keeps λb o e=>(e0.bs b o e).1;have lim:s.heap.NoLimit:=e0.mod.nolimit.keeps λb o e=>(e0.bs b o e).1;have acx:∀ y∈ps.zip us,scope.names.lookup y.1=some .local\/(scope.names.lookup y.1=some .cell/\((cellsFrom 2e3 scope.names []).lookup y.1).isSome=true):=λ⟨n,v⟩ hy=>by
    rcases S.par n (aqz hy).1 with q|q
    · exact .inl q
    · exact .inr ⟨q,PySem.W.cellsFrom_some _ _ _ (.inl q)⟩
  refine codeAny_call_function hr.depth (KX _ _ lk) rfl S.co S.gen rfl (PySem.W.codeRec_of KX hcd) (hb _ _ _ _ ?_);refine wpAny_newFunctionEnv_cells S.kind acx λenv he s1 x=>?_;subst he;refine⟨lim.keeps x.toInCall.keep,codeAny_func ?_⟩;obtain⟨t,ht,hq⟩:=QS A outer s H vs Q E (hr.deeper _) hsp;have I:Inv (VX CX P w K mg base N qual scope f cdv A outer s H E) [] (start N vs) H s1:=TZ S hr.hd e0 hl r x;refine wpAny_mono (ht [] s1 (start N vs) H _ I hq) (λfl s' hs=>?_) λe s' hs=>hs;have fin:∀ {σ':St} {H':Hp} {v:V} {u:Value},Inv (VX CX P w K mg base N qual scope f cdv A outer s H E) [] σ' H' s'->RelV v u->Q v H'->CE outer P w H s Q u s' :=
    λ{σ' H' v u} J rv q=>⟨v,H',J.os,J.bare,J.base,J.hok,rv,q⟩
  cases fl with
  | ret u =>
    obtain⟨v,σ',H',J,rv,q⟩:=hs;exact fin J rv q
  | next =>
    obtain⟨σ',H',J,q⟩:=hs;exact fin (v:=V.non) (u:=Value.none) J rfl q
  | brk =>
    obtain⟨_,_,_,q⟩:=hs;exact False.elim q
  | cont =>
    obtain⟨_,_,_,q⟩:=hs;exact False.elim q
end L2
namespace L2
open PySem PySem.Spec PyProof.Rows
section
variable{X:Cx}{x:Str}{p pos:Pos}{e:Expr}{es:List Expr}{t:TA}{id T:String}{r:List V->Hp->VK->Prop}
noncomputable def tCB(r:List V->Hp->VK->Prop)(t:TA):TE:=λσ H Q=>t σ H λvs H1=>r vs H1 Q
theorem bj(hc:uV X (.builtin id) r)(hg:Gl X x)(hm:X.mg x=none)(hv:bootBuiltins x=some (.builtin id))(ha:PA X (e::es) t)(hn:x ≠ "__name__" := by decide)(hdb:(x == ("__debug__" : Str))=false:=by decide)
    (he:starEach (e::es) X.env=(false,eval e X.env)::starEach es X.env:=by rfl) (hpl:(backTo pos (starEach es X.env)).any (·.1)=false:=by rfl):PE X (.Call (.Name x p) (e::es) [] pos) (tCB r t):=by
  intro pins s σ H Q I h;refine wpAny_Call_Name_kw (Ji I hg hm hv ?_ hn hdb);exact PyProof.Rows.callWith_builtin1 (thn (ha pos pins s σ H _ I h) λus s1 ⟨vs,H1,I1,r1,q1⟩=>hc pins s1 σ H1 vs us Q I1 r1 q1) he hpl
theorem lF(hc:uV X (.type T) r)(hg:Gl X x)(hm:X.mg x=none)(hv:bootBuiltins x=some (.type T))(ha:PA X (e::es) t)(hn:x ≠ "__name__" := by decide)(hdb:(x == ("__debug__" : Str))=false:=by decide)
    (he:starEach (e::es) X.env=(false,eval e X.env)::starEach es X.env:=by rfl) (hpl:(backTo pos (starEach es X.env)).any (·.1)=false:=by rfl):PE X (.Call (.Name x p) (e::es) [] pos) (tCB r t):=by
  intro pins s σ H Q I h;refine wpAny_Call_Name_kw (Ji I hg hm hv ?_ hn hdb);exact PyProof.Rows.callWith_type1 (thn (ha pos pins s σ H _ I h) λus s1 ⟨vs,H1,I1,r1,q1⟩=>hc pins s1 σ H1 vs us Q I1 r1 q1) he hpl
end
end L2
namespace HT
open PySem PyProof.Rows
section
open PySem.SeqAt
open PySem.AutoSeq1 (wpAny_loadPart')
open PySem.MeetsSeq PySem.MeetsSeq2 PySem.MeetsSeq3
end
section
variable{prog:Program}{w:World}{A:Around}{E:Value->Shared->Prop}{s:Shared}
noncomputable def sIx(n d:Nat):Option Int->Nat
  | none=>d
  | some v=>if v<0 then(v+(n:Int)).toNat else min v.toNat n
end
end HT
namespace L2
open PySem PySem.Spec PyProof.Rows
noncomputable abbrev TO:=St->Hp->(Option Int->Hp->Prop)->Prop
noncomputable def PO(X:Cx)(e:Option Expr)(t:TO):Prop :=
  ∀(pins:List 3e5) (s:Shared) (σ:St) (H:Hp) (Q:Option Int->Hp->Prop),Inv X pins σ H s->t σ H Q ->
    wpAny 1e6 X.A (evalPart e X.env) (λu s'=>∃ o H',Inv X pins σ H' s'/\IsPart u o/\Q o H') X.xe s
noncomputable def XT:TO:=λ_ H Q=>Q none H
noncomputable def acy(t:TE):TO:=λσ H Q=>t σ H λx H1=>∃ i,x=.int i/\Q (some i) H1
theorem intsAre_of{ns:List Int}:∀ {us:List Value},Vals 4e4 us->IntsAre us ns:=by
  induction ns with
  | nil=>intro us r;rw[aqk]at r;cases r;exact .nil
  | cons n ns ih =>
    intro us r;rw[ao8]at r;cases r with
    | cons r1 r2 =>
      obtain⟨t,e⟩:=r1;subst e;exact .cons n t (ih r2)
section
variable{X:Cx}{e:Expr}{te:TE}{lo hi:Option Expr}{tl th:TO}{pos p2:Pos}
theorem Sv:PO X none XT:=by
  intro pins s σ H Q I h;rw[evalPart_none];exact wpAny_pure ⟨none,H,I,.none,h⟩
theorem Sw(h:PE X e te):PO X (some e) (acy te):=by
  intro pins s σ H Q I hw;rw[evalPart_some];refine thn (h pins s σ H _ I hw) λu s1 ⟨x,H1,I1,r1,q1⟩=>?_;obtain⟨i,rfl,q⟩:=q1;obtain⟨t,rfl⟩:=r1;exact⟨some i,H1,I1,.int i t,q⟩
noncomputable def SlR(X:Cx)(r:V->Option Int->Option Int->Hp->VK->Prop):Prop :=
  ∀(pins:List 3e5) (s:Shared) (σ:St) (H:Hp) (x:V) (v vl vu:Value) (lo hi:Option Int) (sl:Addr) (Q:VK),Inv X pins σ H s->RelV x v->s.heap.IsSliceOf sl vl vu .none->IsPart vl lo->IsPart vu hi->r x lo hi H Q ->
    ∃ T id,typeLookup (.type T) "__getitem__" = pure (some (.builtin id))/\s.TypeIs v T/\wpAny 1e6 X.A (getItem v (.ref sl)) 4e8 X.xe s
noncomputable def tSl(r:V->Option Int->Option Int->Hp->VK->Prop)(te:TE)(tl th:TO):TE:=λσ H Q=>te σ H λx H1=>tl σ H1 λl H2=>th σ H2 λu H3=>r x l u H3 Q
theorem Py{r:V->Option Int->Option Int->Hp->VK->Prop}(hr:SlR X r)(he:PE X e te)(hl:PO X lo tl)(hu:PO X hi th):PE X (.Subscript e (.Slice lo hi none p2) pos) (tSl r te tl th):=by
  intro pins s σ H Q I h;refine Subscript_ (thn 5e7 λv s1 ⟨x,H1,I1,r1,q1⟩=>?_);refine wpAny_Slice (thn (hl pins s1 σ H1 _ I1 q1) λvl s2 ⟨l,H2,I2,pl,q2⟩=>thn (hu pins s2 σ H2 _ I2 q2) λvu s3 ⟨u,H3,I3,pu,q3⟩=>?_);rw[evalPart_none];refine wpAny_pure ?_;have I4:Inv X pins σ H3 {s3 with heap:=s3.heap.push {cls:=.type "slice",data:=.fields #[vl,vu,.none]}}:=I3.kept (t':=s3.toks) λb ob q=>aoK _ q;obtain⟨T,id,hT,ht,hg⟩:=hr pins {s3 with heap:=s3.heap.push {cls:=.type "slice",data:=.fields #[vl,vu,.none]}} σ H3 x v vl vu l u s3.heap.objs.size Q I4 r1 (Heap.IsSliceOf.new ..) pl pu q3;show wpAny 1e6 X.A (subscriptTail e (.Slice lo hi none p2) v (.ref s3.heap.objs.size)) 4e8 X.xe {s3 with heap:=s3.heap.push {cls:=.type "slice",data:=.fields #[vl,vu,.none]}};exact tail_any (ops:=[.ref s3.heap.objs.size,v]) ht hT hg 3e2
noncomputable def VY(xs:List V)(lo hi:Option Int):List V:=(xs.drop (HT.sIx xs.length 0 lo)).take (HT.sIx xs.length xs.length hi-HT.sIx xs.length 0 lo)
theorem N4(xs:List V)(lo hi:Option Int):(VY xs lo hi).length<=xs.length:=by
  unfold VY;rw[aoS,apT];omega
end
end L2
namespace L2
open PySem PySem.Spec PyProof.Rows
noncomputable def ixN(n:Nat)(i:Int):Option Nat:=if 0<=i then(if i<n then some i.toNat else none) else if -(n:Int)<=i then some (i+n).toNat else none
noncomputable def atI{α:Type}(xs:List α)(i:Int):Option α:=(ixN xs.length i).bind λj=>xs[j]?
theorem Sy{n:Nat}{i:Int}{j:Nat}(h:ixN n i=some j):seqIndex? i n=some j/\j<n/\-(n:Int)<=i/\i<n:=by
  unfold ixN at h;by_cases h0:0<=i
  · rw[if_pos h0]at h
    by_cases h1:i<n
    · rw[if_pos h1]at h
      have e:i.toNat=j:=ao4 h;exact⟨by rw[seqIndex_of h0 h1,e],by omega,by omega,h1⟩
    · rw[if_neg h1]at h;cases h
  · rw[if_neg h0]at h
    by_cases h1:-(n:Int)<=i
    · rw[if_pos h1]at h
      have e:(i+n).toNat=j:=ao4 h;exact⟨by rw[seqIndex_neg 1e1 h1,e],by omega,h1,by omega⟩
    · rw[if_neg h1]at h;cases h
theorem Sz{α:Type}{xs:List α}{i:Int}{v:α}(h:atI xs i=some v):∃ j,seqIndex? i xs.length=some j/\xs[j]?=some v/\j<xs.length/\-(xs.length:Int)<=i/\i<xs.length:=by
  unfold atI at h;cases e:ixN xs.length i with
  | none=>rw[e]at h;cases h
  | some j =>
    rw[e]at h;obtain⟨h1,h2,h3,h4⟩:=Sy e;exact⟨j,h1,h,h2,h3,h4⟩
theorem yK{α:Type}{xs:List α}{j:Nat}{v:α}(h:xs[j]?=some v):atI xs (j:Int)=some v:=by
  have hj:j<xs.length:=(aoE.mp h).1;have e:ixN xs.length (j:Int)=some j:=by
    unfold ixN;rw[if_pos 1e1,if_pos 1e1];simp
  unfold atI;rw[e];exact h
noncomputable def XU(b:Expr):Prop:=∀ o i,subscripted b false o i=operate [o,i] (getItem o i)
noncomputable def IxR(X:Cx)(r:R2):Prop :=
  ∀(value slice:Expr) (pins:List 3e5) (s:Shared) (σ:St) (H:Hp) (x y:V) (v u:Value) (Q:VK),Inv X pins σ H s->RelV x v->RelV y u->r x y H Q ->
    subscripted slice false v u=operate [v,u] (getItem v u)->wpAny 1e6 X.A (subscriptTail value slice v u) 4e8 X.xe s
noncomputable def MtR(X:Cx)(id:String)(r:V->List V->Hp->VK->Prop):Prop :=
  ∀(pins:List 3e5) (s:Shared) (σ:St) (H:Hp) (x:V) (xs:List V) (v:Value) (us:List Value) (Q:VK),Inv X pins σ H s->RelV x v->Vals xs us->r x xs H Q ->
    wpAny 1e6 X.A (call (.builtin id) (v::us)) 4e8 X.xe s
section
variable{X:Cx}{a b:Expr}{ta tb:TE}{pos:Pos}
theorem bT{r:R2}(hr:IxR X r)(ha:PE X a ta)(hb:PE X b tb)(hs:XU b):PE X (.Subscript a b pos) (tOp r ta tb):=by
  intro pins s σ H Q I h;exact Subscript_ (aaA ha hb I h λv u s2 x y H2 I2 rx ry q=>hr a b pins s2 σ H2 x y v u Q I2 rx ry q (hs _ _))
inductive adC(K:W.Frag)(x y:V)(H:Hp)(Q:VK):Prop where
  | mk (p:Addr) (xs:List V) (i:Int) (v:V):x=.ref p->y=.int i->SqL K H p xs->atI xs i=some v->Q v H->adC K x y H Q
noncomputable def aaD(K:W.Frag):R2:=λx y H Q=>adC K x y H Q
inductive adD(K:W.Frag)(x y:V)(H:Hp)(Q:VK):Prop where
  | mk (p:Addr) (xs:List V) (i:Int) (v:V):x=.ref p->y=.int i->SqT K H p xs->atI xs i=some v->Q v H->adD K x y H Q
noncomputable def XW(K:W.Frag):R2:=λx y H Q=>adD K x y H Q
theorem gI:IxR X (aaD X.K):=by
  intro value slice pins s σ H x y v u Q I rx ry h hs;obtain⟨p,xs,i,z,rfl,rfl,hq,he,q⟩:=h;cases rx;obtain⟨t,rfl⟩:=ry;obtain⟨its,r,pl,hz⟩:=I.list hq;obtain⟨j,h1,h2,h3,h4,h5⟩:=Sz he;obtain⟨w,ew,rw'⟩:=r.get h2;have hl:=r.length;have hn:=Jm;have fin:EP X pins σ Q w s:=⟨z,H,I,rw',q⟩;by_cases h0:0<=i
  · have hj:i.toNat=j:=by
      rw[seqIndex_of h0 h5]at h1;exact ao4 h1
    exact item_listR pl.isList h0 1e1 (by rw[hj];simpa using ew) fin hs
  · have hj:(i+(its.toArray.size:Int)).toNat=j:=by
      rw[seqIndex_neg 1e1 h4]at h1;rw[aoN,<-hl];exact ao4 h1
    exact subscriptTail_builtinR (x:=w) pl.isList.typeIs slot_list_getitem.lookup
      (wpAny_getItem_list_neg (Q:=λr s'=>r=w/\EP X pins σ Q r s') pl.isList 1e1 (by rw[aoN]<;>omega) 1e1 (by rw[hj];simpa using ew) ⟨rfl,fin⟩) hs
theorem cf:IxR X (XW X.K):=by
  intro value slice pins s σ H x y v u Q I rx ry h hs;obtain⟨p,xs,i,z,rfl,rfl,hq,he,q⟩:=h;cases rx;obtain⟨t,rfl⟩:=ry;obtain⟨its,r,pl,hz⟩:=I.tuple hq;obtain⟨j,h1,h2,h3,h4,h5⟩:=Sz he;obtain⟨w,ew,rw'⟩:=r.get h2;have hl:=r.length;have hn:=Jm;have fin:EP X pins σ Q w s:=⟨z,H,I,rw',q⟩;exact subscriptTail_builtinR (x:=w) pl.typeIs slot_tuple_getitem.lookup
    (getItem_tuple (j:=j) (Q:=λr s'=>r=w/\EP X pins σ Q r s') pl 1e1 1e1 (by rw[aoN,<-hl];exact h1) (by simpa using ew) ⟨rfl,fin⟩) hs
theorem QT(its:List Value)(n j:Nat)(u:Value):Obj.mapSeq (·.setIfInBounds j u) {cls:=.type "list",data:=.seq its.toArray n}={cls:=.type "list",data:=.seq (its.set j u).toArray n}:=by
  simp[Obj.mapSeq]
theorem Inv.lst{pins:List (Addr×Obj)}{σ:St}{H:Hp}{s:Shared}{p:Addr}{xs:List V}(I:Inv X pins σ H s)(h:H p=some (.lst xs)) :
    ∃(its:List Value) (n:Nat),Vals xs its/\s.heap.get? p=some {cls:=.type "list",data:=.seq its.toArray n}/\xs.length<=sizeLine:=by
  obtain⟨z,its,n,r,e⟩:=I.hok p _ h;exact⟨its,n,r,e,z⟩
theorem Inv.ZM{pins:List (Addr×Obj)}{σ:St}{H:Hp}{s:Shared}{p:Addr}{xs ys:List V}{its Jj:List Value}{n n':Nat}{f:Obj->Obj}(I:Inv X pins σ H s)(h:H p=some (.lst xs))
    (ho:s.heap.get? p=some {cls:=.type "list",data:=.seq its.toArray n}) (hf:f {cls:=.type "list",data:=.seq its.toArray n}={cls:=.type "list",data:=.seq Jj.toArray n'}) (r:Vals ys Jj) (hz:ys.length<=sizeLine) (t:Nat) :
    Inv X pins σ (upd H p 5e0) {s with heap:=s.heap.update p f,toks:=t}:=by
  have e:(s.heap.update p f).get? p=some {cls:=.type "list",data:=.seq Jj.toArray n'}:=by
    rw[Heap.get?_update_self f ho (by rw[hf]<;>rfl),hf]
  refine I.write (x:=p) (e:=p) (by rw[h];trivial) 2e9 (λb u hb q=>(apj _ _ (aoT hb)).trans q) ⟨_,e⟩ ?_;exact⟨hz,Jj,n',r,e⟩
noncomputable def acz:V->V->V->Hp->(Hp->Prop)->Prop:=λo i v H Q=>∃ p xs k j,o=.ref p/\i=.int k/\H p=some 4e9/\ixN xs.length k=some j/\Q (upd H p (.lst (xs.set j v)))
theorem set_list:adu X acz:=by
  intro pins s σ H o i v ov iv u Q I ro ri rv h;obtain⟨p,xs,k,j,rfl,rfl,hp,hj,q⟩:=h;cases ro;obtain⟨t,rfl⟩:=ri;obtain⟨its,n,r,ho,hz⟩:=I.lst hp;obtain⟨h1,h2,h3,h4⟩:=Sy hj;have hl:=r.length;have hn:=Jm;have I':Inv X pins σ (upd H p (.lst (xs.set j v))) {s with heap:=s.heap.update p (Obj.mapSeq (·.setIfInBounds j u))} :=
    I.ZM hp ho (QT its n j u) (r.set rv j) (by rw[apb];exact hz) s.toks
  by_cases h0:0<=k
  · have hk:k.toNat=j:=by
      rw[seqIndex_of h0 h4]at h1;exact ao4 h1
    exact PySem.W.ki_setAt ho h0 1e1 (by rw[aoN,<-hl];exact h4) (by rw[hk];exact⟨_,I',q⟩)
  · have hk:(k+(its.toArray.size:Int)).toNat=j:=by
      rw[seqIndex_neg 1e1 h3]at h1;rw[aoN,<-hl];exact ao4 h1
    exact PySem.W.ki_setBack ho 1e1 (by rw[aoN,<-hl];exact h3) 1e1 (by rw[hk];exact⟨_,I',q⟩)
theorem Ly(lo hi:Option Int)(n:Nat):(sliceBounds lo hi none n).1=((HT.sIx n 0 lo:Nat):Int)/\(sliceBounds lo hi none n).2.1=((HT.sIx n n hi:Nat):Int)/\(sliceBounds lo hi none n).2.2=1:=by
  refine⟨?_,?_,rfl⟩
  · cases lo with
    | none=>simp[sliceBounds,HT.sIx]
    | some i =>
      simp only[sliceBounds,HT.sIx,Option.getD_none,show(1:Int)>0 by decide,if_true];by_cases h:i<0
      · simp only[h,if_true]<;>omega
      · simp only[h,if_false]<;>omega
  · cases hi with
    | none=>simp[sliceBounds,HT.sIx]
    | some i =>
      simp only[sliceBounds,HT.sIx,Option.getD_none,show(1:Int)>0 by decide,if_true];by_cases h:i<0
      · simp only[h,if_true]<;>omega
      · simp only[h,if_false]<;>omega
theorem Jn(its:List Value)(lo hi:Option Int):slicePick its.toArray lo hi none=((its.drop (HT.sIx its.length 0 lo)).take (HT.sIx its.length its.length hi-HT.sIx its.length 0 lo)).toArray:=by
  obtain⟨h1,h2,h3⟩:=Ly lo hi its.toArray.size;unfold slicePick;rw[h1,h2,h3];simp only[sliceRange_one,pick_run,aoN]<;>rfl
noncomputable def akt(K:W.Frag):V->Option Int->Option Int->Hp->VK->Prop:=λx lo hi H Q=>∃ a xs,x=.ref a/\SqL K H a xs/\∀ p,H p=none->Q 4e3 (upd H p (.lst (VY xs lo hi)))
theorem SA:SlR X (akt X.K):=by
  intro pins s σ H x v vl vu lo hi sl Q I rx hs pl pu h;obtain⟨a,xs,rfl,hx,q⟩:=h;cases rx;obtain⟨its,r,ht,hz⟩:=I.list hx;have hlen:=r.length;refine⟨"list",_,slot_list_getitem.lookup,ht.isList.typeIs,?_⟩;refine wpAny_getItem_list_slice ht.isList hs pl pu .none 1e9 ?_ (by rw[aoN]<;>omega);rw[Jn,<-hlen];refine⟨.ref s.heap.objs.size,_,I.laid (t':=s.toks) (o:=.lst (VY xs lo hi)) (λb ob q=>aoK _ q) (aoL _) ?_,rfl,q _ (I.hok.fresh (aoL _))⟩;exact⟨ao7 (N4 xs lo hi) hz,_,0,(r.drop (HT.sIx xs.length 0 lo)).take (HT.sIx xs.length xs.length hi-HT.sIx xs.length 0 lo),apa _ rfl⟩
noncomputable def lr:V->Bool
  | .non=>true
  | .bl _=>true
  | .int _=>true
  | .str _=>true
  | _=>false
noncomputable def eqV:V->V->Bool
  | .non,.non=>true
  | .bl a,.bl b=>a == b
  | .bl a,.int b=>(if a then 1 else 0) == b
  | .int a,.bl b=>a == (if b then 1 else 0)
  | .int a,.int b=>a == b
  | .str a,.str b=>a == b
  | _,_=>false
theorem NJ{A:Around}{s:Shared}{y x:V}{u v:Value}(ry:RelV y u)(rx:RelV x v)(fy:lr y=true)(fx:lr x=true):SeqAt.EqAt A s u v (eqV y x):=by
  cases y with
  | non =>
    cases ry;cases x with
    | non=>cases rx;exact SeqAt.EqAt.same _
    | bl b=>cases rx;exact SeqAt.EqAt.none_bool b
    | int b=>obtain⟨t,rfl⟩:=rx;exact SeqAt.EqAt.none_int b t
    | str b=>obtain⟨t,rfl⟩:=rx;exact SeqAt.EqAt.none_str b t
    | _=>exact absurd 4e2 aoO
  | bl a =>
    cases ry;cases x with
    | non=>cases rx;exact SeqAt.EqAt.bool_none a
    | bl b=>cases rx;exact SeqAt.EqAt.bool_bool a b
    | int b=>obtain⟨t,rfl⟩:=rx;exact SeqAt.EqAt.bool_int a b t
    | str b=>obtain⟨t,rfl⟩:=rx;exact SeqAt.EqAt.bool_str a b t
    | _=>exact absurd 4e2 aoO
  | int a =>
    obtain⟨t',rfl⟩:=ry;cases x with
    | non=>cases rx;exact SeqAt.EqAt.int_none a t'
    | bl b=>cases rx;exact SeqAt.EqAt.int_bool a t' b
    | int b=>obtain⟨t,rfl⟩:=rx;exact SeqAt.EqAt.int_int a t' b t
    | str b=>obtain⟨t,rfl⟩:=rx;exact SeqAt.EqAt.int_str a t' b t
    | _=>exact absurd 4e2 aoO
  | str a =>
    obtain⟨t',rfl⟩:=ry;cases x with
    | non=>cases rx;exact SeqAt.EqAt.str_none a t'
    | bl b=>cases rx;exact SeqAt.EqAt.str_bool a t' b
    | int b=>obtain⟨t,rfl⟩:=rx;exact SeqAt.EqAt.str_int a t' b t
    | str b=>obtain⟨t,rfl⟩:=rx;exact SeqAt.EqAt.str_str a t' b t
    | _=>exact absurd 4e2 aoO
  | _=>exact absurd (show false=true from fy) aoO
noncomputable def eqU(x:V)(u:Value):Bool:=match u with
  | .none=>eqV .non x
  | .bool b=>eqV (.bl b) x
  | .int i _=>eqV (.int i) x
  | .str z _=>eqV (.str z) x
  | _=>false
theorem VZ{x y:V}{u:Value}(r:RelV y u)(f:lr y=true):eqU x u=eqV y x:=by
  cases y with
  | non=>cases r;rfl
  | bl b=>cases r;rfl
  | int i=>obtain⟨t,rfl⟩:=r;rfl
  | str z=>obtain⟨t,rfl⟩:=r;rfl
  | _=>exact absurd (show false=true from f) aoO
theorem Dw{x:V}:∀ {xs:List V} {us:List Value},Vals xs us->xs.all lr=true->us.any (eqU x)=xs.any λy=>eqV y x
  | _,_,.nil,_=>rfl
  | y::xs,u::us,.cons r t,f=>by
    rw[List.all_cons,aqn]at f;rw[aqe,aqe,VZ r f.1,Dw t f.2]
theorem xG{A:Around}{s:Shared}{x:V}{v:Value}(rx:RelV x v)(fx:lr x=true):∀ {xs:List V} {us:List Value},Vals xs us->xs.all lr=true->∀ u∈us,SeqAt.EqAt A s u v (eqU x u)
  | _,_,.nil,_=>λu hu=>by cases hu
  | y::xs,u::us,.cons r t,f=>λu' hu=>by
    rw[List.all_cons,aqn]at f;rcases ao2.mp hu with rfl|hu
    · rw[VZ r f.1];exact NJ r rx f.1 fx
    · exact xG rx fx t f.2 u' hu
noncomputable def inV(x:V)(xs:List V):Bool:=xs.any λy=>eqV y x
noncomputable def rIn(K:W.Frag)(neg:Bool):R2:=λx y H Q=>∃ p xs,y=.ref p/\(SqL K H p xs\/SqT K H p xs)/\lr x=true/\xs.all lr=true/\Q (.bl (if neg then !inV x xs else inV x xs)) H
theorem K3:OpR X (compareOp .In) (rIn X.K false):=by
  intro pins s σ H x y v u Q I rx ry h;obtain⟨p,xs,rfl,hq,fx,fs,q⟩:=h;cases ry;rcases hq with hq|hq
  · obtain⟨its,r,pl,hz⟩:=I.list hq
    refine SeqAt.in_listAt (eqU x) pl.isList (λw hw=>xG rx fx r fs w (by simpa using hw)) ⟨.bl _,H,I,rfl,?_⟩;rw[show its.toArray.any (eqU x)=its.any (eqU x) by simp,Dw r fs];exact q
  · obtain⟨its,r,pl,hz⟩:=I.tuple hq
    refine SeqAt.in_tupleAt (eqU x) pl (λw hw=>xG rx fx r fs w (by simpa using hw)) ⟨.bl _,H,I,rfl,?_⟩;rw[show its.toArray.any (eqU x)=its.any (eqU x) by simp,Dw r fs];exact q
theorem Lz:OpR X (compareOp .NotIn) (rIn X.K true):=by
  intro pins s σ H x y v u Q I rx ry h;obtain⟨p,xs,rfl,hq,fx,fs,q⟩:=h;cases ry;rcases hq with hq|hq
  · obtain⟨its,r,pl,hz⟩:=I.list hq
    refine SeqAt.notIn_listAt (eqU x) pl.isList (λw hw=>xG rx fx r fs w (by simpa using hw)) ⟨.bl _,H,I,rfl,?_⟩;rw[show its.toArray.any (eqU x)=its.any (eqU x) by simp,Dw r fs];exact q
  · obtain⟨its,r,pl,hz⟩:=I.tuple hq
    refine SeqAt.notIn_tupleAt (eqU x) pl (λw hw=>xG rx fx r fs w (by simpa using hw)) ⟨.bl _,H,I,rfl,?_⟩;rw[show its.toArray.any (eqU x)=its.any (eqU x) by simp,Dw r fs];exact q
theorem aP:uV X (.builtin "len") (λxs H Q=>∃ p ys,xs=[.ref p]/\(SqL X.K H p ys\/SqT X.K H p ys)/\Q (.int ys.length) H):=by
  intro pins s σ H xs us Q I r h;obtain⟨p,ys,rfl,hq,q⟩:=h;obtain⟨u,rfl,rx⟩:=vals1 r;cases rx;have hn:=Jm;rcases hq with hq|hq
  · obtain⟨its,r',pl,hz⟩:=I.list hq
    have hlen:=r'.length;exact Calls.call_len_list pl.isList (by simp only[aoN]<;>omega) ⟨.int ys.length,H,I.tok _,⟨s.toks+1,by rw[aoN,hlen]⟩,q⟩
  · obtain⟨its,r',pl,hz⟩:=I.tuple hq
    have hlen:=r'.length;exact len_tuple pl (by simp only[aoN]<;>omega) ⟨.int ys.length,H,I.tok _,⟨s.toks+1,by rw[aoN,hlen]⟩,q⟩
theorem pM:uV X (.type "list") (λxs H Q=>∃ p ys,xs=[.ref p]/\(SqL X.K H p ys\/SqT X.K H p ys)/\∀ l,H l=none->Q (.ref l) (upd H l 5e0)):=by
  intro pins s σ H xs us Q I r h;obtain⟨p,ys,rfl,hq,q⟩:=h;obtain⟨u,rfl,rx⟩:=vals1 r;cases rx;have fin:∀(its:List Value),Vals ys its->ys.length<=sizeLine->∀(h':Heap) (c':Nat),(∀ b o',s.heap.get? b=some o'->h'.get? b=some o') ->
      h'.get? s.heap.objs.size=some {cls:=.type "list",dict:=none,data:=.seq its.toArray c',slots:=#[]}->EP X pins σ Q (.ref s.heap.objs.size) {s with heap:=h'}:=λits r' hz h' c' kp e =>
    ⟨.ref s.heap.objs.size,_,I.laid (t':=s.toks) kp (aoL _) (show jd X.prog X.w _ h' _ 5e0 from⟨hz,its,c',r',e⟩),rfl,q _ (I.hok.fresh (aoL _))⟩
  rcases hq with hq|hq
  · obtain⟨its,r',pl,hz⟩:=I.list hq
    have hlen:=r'.length;obtain⟨o,ho,hc,n,hd⟩:=pl.isList;exact call_list_seq p 2e9 ho hc hd (λh' c' kp e=>fin its r' hz h' c' kp e) (by simp only[aoN]<;>omega)
  · obtain⟨its,r',pl,hz⟩:=I.tuple hq
    have hlen:=r'.length;obtain⟨o,ho,hc,n,hd⟩:=pl;exact call_list_seq p (.inr rfl) ho hc hd (λh' c' kp e=>fin its r' hz h' c' kp e) (by simp only[aoN]<;>omega)
noncomputable def tyV(K:W.Frag)(T:String)(x:V)(H:Hp):Prop:=match x with
  | .str _=>T = "str"
  | .int _=>T = "int"
  | .ref p=>(T = "list" /\ ∃ xs,SqL K H p xs)\/(T = "tuple" /\ ∃ o,K.lookup p=some o/\o.cls=.type "tuple" /\ o.dict=none) \/
      (T = "dict" /\ ((∃ kvs,H p=some 2e6)\/∃ kvs,H p=some (.dT kvs)))\/(T = "set" /\ ∃ S n,H p=some (.set S n))
  | _=>False
theorem ZN{pins:List (Addr×Obj)}{σ:St}{H:Hp}{s:Shared}{T:String}{x:V}{v:Value}(I:Inv X pins σ H s)(r:RelV x v)(ty:tyV X.K T x H) :
    s.TypeIs v T/\∀ a,v=.ref a->∃ ob,s.heap.get? a=some ob/\ob.dict=none:=by
  cases x with
  | str z =>
    obtain⟨t,rfl⟩:=r;cases (show T = "str" from ty);exact⟨typeIs_str s z t,λ_ e=>nomatch e⟩
  | int i =>
    obtain⟨t,rfl⟩:=r;cases (show T = "int" from ty);exact⟨typeIs_int s i t,λ_ e=>nomatch e⟩
  | ref p =>
    cases r;rcases ty with⟨rfl,xs,hq⟩|⟨rfl,o,hk,hc,hd⟩|⟨rfl,hk⟩|⟨rfl,S,n,hk⟩
    · obtain⟨its,_,pl,_⟩:=I.list hq
      refine⟨pl.isList.typeIs,λa e=>?_⟩;cases e;obtain⟨o,n,e,c,hd,_⟩:=pl;exact⟨o,e,hd⟩
    · refine⟨⟨o,I.kIn p o hk,hc⟩,λa e=>?_⟩
      cases e;exact⟨o,I.kIn _ o hk,hd⟩
    · have z:∃ o,s.heap.get? p=some o/\o.ExactDict:=by
        rcases hk with⟨kvs,hk⟩|⟨kvs,hk⟩
        · obtain⟨_,_,_,_,o,_,_,e,ex,_⟩:=I.hok p _ hk
          exact⟨o,e,ex⟩
        · obtain⟨_,_,_,_,o,_,_,e,ex,_⟩:=I.hok p _ hk
          exact⟨o,e,ex⟩
      obtain⟨o,e,ex⟩:=z;refine⟨⟨o,e,ex.1⟩,λa e2=>?_⟩;cases e2;exact⟨o,e,ex.2.1⟩
    · obtain⟨o,_,_,_,e,ex,_⟩:=I.hok p _ hk
      refine⟨⟨o,e,ex.1⟩,λa e2=>?_⟩;cases e2;exact⟨o,e,ex.2.1⟩
  | _=>exact False.elim ty
noncomputable def tBM(K:W.Frag)(T:String)(r:V->List V->Hp->VK->Prop)(to:TE)(t:TA):TE:=λσ H Q=>to σ H λx H1=>tyV K T x H1/\t σ H1 λxs H2=>r x xs H2 Q
variable{o e:Expr}{es:List Expr}{to:TE}{t:TA}{name:Str}{apos wI:Pos}{T id:String}{r:V->List V->Hp->VK->Prop}
theorem Ie(pa:PlainAttrs T)(slot:Slot T name id)(hty:typeOf (.builtin id)=pure (.type "method_descriptor"))(hm:MtR X id r)(ho:PE X o to)(ha:PA X (e::es) t)
    (acA:attributeBase o name X.env (eval o X.env)=eval o X.env:=by rfl)
    (XX:((backTo wI (starEach (e::es) X.env)).all (λx=>!x.1)&&(backToKw wI (keywordEach [] X.env)).all (λx=>x.1.isSome)
      && decide ((e::es).length+([]:List Keyword).length+(if([]:List Keyword).isEmpty then 0 else 1)<30))=true:=by rfl)
    (acB:(apos.endLine == wI.line)=true:=by rfl) (hs:starEach (e::es) X.env=(false,eval e X.env)::starEach es X.env:=by rfl) (ZO:(backTo wI (starEach es X.env)).any (·.1)=false:=by rfl) :
    PE X (.Call (.Attribute o name apos) (e::es) [] wI) (tBM X.K T r to t):=by
  intro pins s σ H Q I h;refine wpAny_Call_method_late acA XX acB rfl (thn (ho pins s σ H _ I h) λv s1 ⟨x,H1,I1,r1,ty,q1⟩=>?_);obtain⟨h1,h2⟩:=ZN I1 r1 ty;refine⟨T,id,pa,slot,hty,h1,h2,?_⟩;have hA:=ha wI pins s1 σ H1 _ I1 q1;rw[hs]at hA ⊢;refine aqj (by show(false||(backTo wI (starEach es X.env)).any (·.1))=false;rw[ZO]<;>rfl) (aqo ?_);exact thn hA λus s2 ⟨vs,H2,I2,r2,q2⟩=>hm pins s2 σ H2 x vs v us Q I2 r1 r2 q2
end
end L2
namespace L2
open PySem PySem.Spec PyProof.Rows
noncomputable def MtM(X:Cx)(id:String)(r:V->List V->Hp->VK->Prop):Prop :=
  ∀(pins:List 3e5) (s:Shared) (σ:St) (H:Hp) (x:V) (xs:List V) (v:Value) (us:List Value) (Q:VK),Inv X pins σ H s->RelV x v->Vals xs us->r x xs H Q ->
    wpAny 1e6 X.A (call (.builtin id) (v::us)) 4e8 X.xe s
theorem Vals.one:∀ {x:V} {us:List Value},Vals [x] us->∃ u,us=[u]/\RelV x u
  | _,_,.cons r .nil=>⟨_,rfl,r⟩
theorem Vals.eraseIdx:∀ {xs:List V} {us:List Value} (i:Nat),Vals xs us->Vals (xs.eraseIdx i) (us.eraseIdx i)
  | _,_,_,.nil=>.nil
  | _,_,0,.cons _ t=>t
  | _,_,i+1,.cons r t=>.cons r (Vals.eraseIdx i t)
theorem Vals.rep{xs:List V}{us:List Value}(h:Vals xs us):∀ k:Nat,Vals (List.replicate k xs).flatten (List.replicate k us).flatten
  | 0=>.nil
  | k+1=>by
    rw[apl,apl,apQ,apQ];exact Vals.append h (Vals.rep h k)
theorem K4{α:Type}:∀(l:List α) (i:Nat),(l.eraseIdx i).length<=l.length
  | [],_=>aoL _
  | _::_,0=>ap8 _
  | _::r,i+1=>Nat.succ_le_succ (K4 r i)
theorem foldl_rep(its:List Value):∀(k:Nat) (acc:List Value),
    List.foldl (λx1 x2=>x1++x2) acc.toArray (List.replicate k its.toArray)=(acc++(List.replicate k its).flatten).toArray
  | 0,acc=>by simp
  | k+1,acc=>by
    have e:acc.toArray++its.toArray=(acc++its).toArray:=1e9;have e2:(acc++its)++(List.replicate k its).flatten=acc++(List.replicate (k+1) its).flatten:=by
      rw[apl,apQ,ap1]
    rw[<-e2,<-foldl_rep its k (acc++its),<-e,apl,List.foldl_cons]
section
variable{X:Cx}{pins:List (Addr×Obj)}{σ:St}{H:Hp}{s:Shared}{l b:Addr}{xs ys zs:List V}
theorem Inv.aaE{its Jj:List Value}{n:Nat}{f:Array Value->Array Value}{t':Nat}(I:Inv X pins σ H s)(hH:H l=some (.lst xs))
    (e:s.heap.get? l=some {cls:=.type "list",data:=.seq its.toArray n}) (hf:f its.toArray=Jj.toArray) (hv:Vals ys Jj) (hz:ys.length<=sizeLine) :
    Inv X pins σ (upd H l 5e0) {s with heap:=s.heap.update l (Obj.mapSeq f),toks:=t'}:=by
  have q:=PySem.IsL.update e f;rw[hf]at q;refine I.write (x:=l) (e:=l) (by rw[hH];exact trivial) 2e9 (λb' u hb hu=>(apj s.heap (Obj.mapSeq f) (aoT hb)).trans hu) ⟨_,q⟩ ?_;exact⟨hz,Jj,_,hv,q⟩
theorem Inv.XY{its:List Value}{t':Nat}(I:Inv X pins σ H s)(hv:Vals ys its)(hz:ys.length<=sizeLine) :
    Inv X pins σ (upd H s.heap.objs.size 5e0) {s with heap:=s.heap.push {cls:=.type "list",data:=.seq its.toArray},toks:=t'} :=
  I.laid (λ_ _ q=>aoK _ q) (aoL _) ⟨hz,its,0,hv,apa _ rfl⟩
theorem Inv.fresh(I:Inv X pins σ H s):H s.heap.objs.size=none:=I.hok.fresh (aoL _)
theorem Inv.XZ(I:Inv X pins σ H s)(hH:H l=some (.lst xs)):xs.length<=sizeLine/\∃(its:List Value) (n:Nat),Vals xs its/\xs.length=its.length/\s.heap.get? l=some {cls:=.type "list",data:=.seq its.toArray n}:=by
  obtain⟨z,its,n,r,e⟩:=I.hok l _ hH;exact⟨z,its,n,r,r.length,e⟩
theorem Pz{n:Nat}(h:n<=sizeLine):Builtin.List.listTooLong n=false:=by
  unfold Builtin.List.listTooLong;exact decide_eq_false 1e1
end
section
variable{X:Cx}
noncomputable def X0:V->List V->Hp->VK->Prop:=λx vs H Q=>∃ l xs y,x=.ref l/\vs=[y]/\H l=some 4e9/\xs.length<sizeLine/\Q .non (upd H l (.lst (xs++[y])))
theorem ou:MtM X "list.append" X0:=by
  intro pins s σ H x vs v us Q I rx rv h;obtain⟨l,xs,y,rfl,rfl,hH,hz,q⟩:=h;cases rx;obtain⟨u,rfl,ru⟩:=rv.one;obtain⟨z,its,n,r,hl,e⟩:=I.XZ hH;refine call_meets F.slot_list_append ⟨_,e,rfl⟩ F.entry_list_append (F.args_list_append_2 _ _) (PySem.list_append l its.toArray n u (by rw[aoN];omega)) ⟨e,?_⟩;refine⟨.non,_,I.aaE (Jj:=its++[u]) hH e 1e9 (r.append (.cons ru .nil)) ?_,rfl,q⟩;rw[aoJ,apc];omega
noncomputable def X2:V->List V->Hp->VK->Prop:=λx vs H Q=>∃ l b xs zs,x=.ref l/\vs=[.ref b]/\H l=some 4e9/\H b=some (.lst zs)/\xs.length+zs.length<=sizeLine/\Q .non (upd H l (.lst (xs++zs)))
theorem T1:MtM X "list.extend" X2:=by
  intro pins s σ H x vs v us Q I rx rv h;obtain⟨l,b,xs,zs,rfl,rfl,hH,hB,hz,q⟩:=h;cases rx;obtain⟨u,rfl,ru⟩:=rv.one;cases ru;obtain⟨z,its,n,r,hl,e⟩:=I.XZ hH;obtain⟨z2,Y0,n2,r2,hl2,e2⟩:=I.XZ hB;have hsz:its.toArray.size+Y0.toArray.size<=sizeLine:=by rw[aoN,aoN];omega
  have WD:¬(!its.toArray.isEmpty&&Builtin.List.listTooLong (its.toArray.size+Y0.toArray.size))=true:=by
    rw[Pz hsz,aqu];exact aoO
  refine call_meets F.slot_list_extend ⟨_,e,rfl⟩ F.entry_list_extend (F.args_list_extend_2 _ _)
    (AutoSeq1.list_extend_list_list_0 l its.toArray n b Y0.toArray n2 WD (by rw[aoN];omega) 1e1) ⟨e,e2,?_⟩
  refine⟨.non,_,I.aaE (Jj:=its++Y0) hH e 1e9 (r.append r2) ?_,rfl,q⟩;rw[aoJ];omega
noncomputable def ZP:V->List V->Hp->VK->Prop:=λx vs H Q=>∃ l xs i k y,x=.ref l/\vs=[.int i]/\H l=some 4e9/\-(2 ^ 63)<=i/\i<2 ^ 63/\seqIndex? i xs.length=some k/\xs[k]?=some y/\Q y (upd H l (.lst (xs.eraseIdx k)))
theorem Vi:MtM X "list.pop" ZP:=by
  intro pins s σ H x vs v us Q I rx rv h;obtain⟨l,xs,i,k,y,rfl,rfl,hH,h1,h2,hk,hy,q⟩:=h;cases rx;obtain⟨u,rfl,ru⟩:=rv.one;obtain⟨t,rfl⟩:=ru;obtain⟨z,its,n,r,hl,e⟩:=I.XZ hH;obtain⟨w,hw,rw'⟩:=r.get hy;refine call_meets F.slot_list_pop ⟨_,e,rfl⟩ F.entry_list_pop (F.args_list_pop_2 _ _)
    (MeetsSeq.list_pop_at l its.toArray n i t k w (fitsIndex_both h1 h2) (by rw[aoN,<-hl];exact hk) (by rw[<-Array.getElem?_toList];exact hw) (by rw[aoN];omega)) ⟨e,?_⟩
  refine⟨y,_,I.aaE (Jj:=its.eraseIdx k) hH e ?_ (r.eraseIdx k) ?_,rw',q⟩
  · show its.toArray.eraseIdxIfInBounds k=(its.eraseIdx k).toArray
    rw[List.eraseIdxIfInBounds_toArray]
  · have:=K4 xs k
    omega
noncomputable def aku:R2:=λx y H Q=>∃ l k xs,x=.ref l/\y=.int k/\H l=some 4e9/\-(2 ^ 63)<=k/\k<2 ^ 63/\xs.length*k.toNat<=sizeLine /\
  ∀ p,H p=none->Q 4e3 (upd H p (.lst (List.replicate k.toNat xs).flatten))
theorem len_rep{α:Type}(xs:List α)(k:Nat):(List.replicate k xs).flatten.length=k*xs.length:=by
  induction k with
  | zero=>simp
  | succ k ih=>rw[apl,apQ,aoJ,ih,Nat.succ_mul,Nat.add_comm]
theorem GC:OpR X (binaryOp .Mult) aku:=by
  intro pins s σ H x y v u Q I rx ry h;obtain⟨l,k,xs,rfl,rfl,hH,h1,h2,hz,q⟩:=h;cases rx;obtain⟨t,rfl⟩:=ry;obtain⟨z,its,n,r,hl,e⟩:=I.XZ hH;have hlen:its.toArray.size*k.toNat<=sizeLine:=by rw[aoN,<-hl];exact hz
  have akv:¬its.toArray.size*k.toNat>(2 ^ 63-1)/8:=by
    have:(sizeLine:Nat)<=(2 ^ 63-1)/8:=by decide
    omega
  have akw:¬(!Builtin.List.listFitsIndex k)=true:=by
    rw[fitsIndex_both h1 h2];exact aoO
  have WD:¬Builtin.List.listTooLong (its.toArray.size*k.toNat)=true:=by
    rw[Pz hlen];exact aoO
  have Y1:List.foldl (λx1 x2=>x1++x2) #[] (List.replicate (if its.toArray.isEmpty=true then 0 else k.toNat) its.toArray)=(List.replicate k.toNat its).flatten.toArray:=by
    have f0:∀ m:Nat,List.foldl (λx1 x2=>x1++x2) #[] (List.replicate m its.toArray)=(List.replicate m its).flatten.toArray:=λm=>by
      have:=foldl_rep its m []
      rw[List.nil_append]at this;exact this
    rw[f0];cases its with
    | nil=>simp
    | cons a r'=>rw[if_neg 1e9]
  refine wpAny_binaryOp_repeat_ref (T := "list") (U := "int") 2e0 ⟨_,e,rfl⟩ (λs'=>typeIs_int s' k t) noFill_list_mul F.fills_int_mul F.slot_int_rmul repeat_list F.slot_int_index.lookup
    (call_meets F.slot_int_rmul (typeIs_int s k t) F.entry_int_rmul (F.args_int_rmul_2 _ _) (int___rmul___int_list k t l its.toArray n)
      ⟨e,rfl,⟨_,e,rfl⟩,call_meets F.slot_list_mul ⟨_,e,rfl⟩ F.entry_list_mul (F.args_list_mul_2 _ _) (AutoListH.list___mul___list_int_3 l its.toArray n k t akw akv WD) ⟨e,?_⟩⟩)
  rw[Y1];exact⟨.ref _,_,I.XY (t':=s.toks) (r.rep k.toNat) (by rw[len_rep,Nat.mul_comm];exact hz),rfl,q _ I.fresh⟩
end
section
variable{prog:Program}{w:World}{A:Around}{E:Value->Shared->Prop}{s:Shared}
end
section
variable{X:Cx}
end
end L2
namespace Att
open PySem PySem.W PySem.Calls PyProof.Rows
theorem FD{P:Params}{h:Heap}:∀(ns:List Int) (vs:List Value),WellAll P h vs (ns.map WData.int)->IntsAre vs ns:=by
  intro ns;induction ns with
  | nil =>
    intro vs w;rw[aqk]at w;cases w;exact .nil
  | cons n ns ih =>
    intro vs w;rw[ao8]at w;cases w with
    | cons a b =>
      cases a;exact .cons _ _ (ih _ b)
theorem T2{l:OpenLaw}{n:Nat}(hn:l.most=some n){P:Params}{h:Heap}{args:List WData}{vals:List Value}
    (Y2:l.row.toRowW.claim.pre args=true) (hwl:WellAll P h vals args) :
    ∃ a vs ns,vals=[Value.ref a]/\args=[WData.list (ns.map WData.int)]/\h.get? a=some {cls:=.type "list",data:=.seq vs.toArray}/\IntsAre vs ns/\ns.length<=n:=by
  have hsh:WShape.hasAll [] args [.list .int]=true:=(pre_splitW Y2).1;have hc:l.pre.holds [] {args:=args}=true:=(pre_splitW Y2).2;obtain⟨d,r,rfl,h1,h2⟩:=hasAllW_cons hsh;obtain rfl:=hasAllW_nil h2;obtain⟨xs,rfl,h3⟩:=hasW_list h1;obtain⟨ns,rfl⟩:=items_int h3;have hlen:ns.length<=n:=by
    unfold OpenLaw.pre at hc;have h4:(WTm.not (.lt (.lit (.int (n:Int))) (.len (.arg 0)))).holds [] {args:=[.list (ns.map .int)]}=true:=by
      have h4:=(holds_andW hc).1;rw[hn]at h4;exact h4
    have h5:=condW_of h4 (w_not (w_lt w_lit (w_len_list (w_arg rfl))));rw[aoG]at h5;refine Nat.le_of_not_lt λq=>?_;have q':(n:Int)<((ns.length:Nat):Int):=by omega
    first
      | (rw[decide_eq_true q']at h5;exact absurd h5 2e0)
      | (simp at h5;omega)
  cases hwl with
  | cons w1 w2 =>
    cases w2;cases w1 with
    | list ho GN=>exact⟨_,_,ns,rfl,rfl,ho,FD ns _ GN,hlen⟩
theorem T3(l:OpenLaw)(args:List WData):l.row.toRowW.claim.post args (.bool true) args=true :=
  postW_of (r:=l.row.toRowW) (X:=(true == true))
    (show WShape.has [] (.bool true) .bool=true by first|rfl|decide|simp[WShape.has,WShape.arms,WShape.armsAll])
    (show(WTm.eq .res (.lit (.bool true))).value [] {args:=args,res:=some (.bool true),after:=args}=some (.bool (true == true)) from w_eq_bool (w_res rfl) w_lit) rfl
theorem N5{l:OpenLaw}{n:Nat}{q:Program}{loose:List Str}{XP:(Str->Option Value)->Heap->Prop}{YP:World->Heap->Prop}{d:DefRec}
    (hn:l.most=some n) (hdf:d.params.defaults=[])
    (call:∀(w:World) (s₀ s₁:Shared) (mg mb:Str->Option Value) (fa:Addr) (o:Obj) (pm cd doc:Value) (a:Addr) (vs:List Value) (ns:List Int),
      Ground q loose [] XP w s₀ mg mb s₁.heap->YP w s₁.heap ->
      s₁.heap.get? fa=some o->o.data=.func (docDef d.name d.params d.body d.scope pm cd doc)->s₁.heap.CodeRec cd d.name->mg d.name=some (.ref fa) ->
      s₁.heap.get? a=some {cls:=.type "list",data:=.seq vs.toArray}->IntsAre vs ns->ns.length<=n->s₁.gens=#[] ->
      codeAny (model l.prog w) callerA (.call (.ref fa) ⟨[.ref a],[]⟩) (λr s'=>r=.ok (.ret (.bool true))/\OldK s₁.heap s'.heap/\s'.os=s₁.os/\AllBare s'.gens) s₁) :
    WalkO q loose XP YP l.row.toRowW d [] (λf vs=>PySem.call f vs):=by
  intro w s₀ s₁ mg mb G Y fa o pm cd doc dV kV ho hd hcd hD hmg hg args vals as Y2 hlay hrd hwl hlo;obtain rfl:dV=.none:=Dflts.none hD hdf;obtain rfl:kV=.none:=Dflts.noKw hD;obtain⟨a,vs,ns,rfl,rfl,aaF,hints,hlen⟩:=T2 hn Y2 hwl;refine enter_call (codeAny_mono (call w s₀ s₁ mg mb fa o pm cd doc a vs ns G Y ho (fd_plain hd) hcd hmg aaF hints hlen hg) λr s' hq=>?_);obtain⟨rfl,h2,h3,h4⟩:=hq;exact⟨.inl ⟨.bool true,.bool true,[],rfl,λ_=>rfl,.bool true,T3 l _,λ_=>⟨List.Pairwise.nil,λ_ hm=>(nomatch hm)⟩⟩,h2,h3,h4⟩
section
variable{prog:Program}{w:World}{A:Around}{E:Value->Shared->Prop}{s:Shared}{K:Frag}
end
end Att
namespace L2
open PySem PySem.Spec PyProof.Rows
theorem qL:∀ {vs:List Value} {ns:List Int},IntsAre vs ns->Vals 4e4 vs
  | _,_,.nil=>.nil
  | _,_,.cons n t h=>.cons ⟨t,rfl⟩ (qL h)
noncomputable def aaG(H:Hp):Prop:=∀ b,H b=none\/∃ o xs,H b=some (.frz o 4e9)
theorem Vj{P:Program}{w:World}{K:W.Frag}{mg mb:Str->Option Value}{CX:CXT}{k:Nat}{fa a:Addr}{fd:FuncData}{x:Str}{sp:Sp}{s₁:Shared}{vs:List Value}{ns:List Int}
    (KX:K.In s₁.heap) (hns:s₁.heap.Ns mainGlobals mg) (hb:s₁.heap.Ns builtinsNs mb) (hbb:∀ x:Str,x ≠ "__name__" -> mb x=bootBuiltins x) (akx:s₁.heap.NoLimit) (hg:s₁.gens=#[])
    (ha:s₁.heap.get? a=some {cls:=.type "list",data:=.seq vs.toArray}) (hi:IntsAre vs ns) (hl:ns.length<=sizeLine) (hr:mW k callerA)
    (F:∀ base:Heap,K.In base->base.Ns mainGlobals mg->Dv P w K mg base CX k fa fd [x] sp) (acC:∀(s:Shared) (u:Value),BindsTo s fd ⟨[u],[]⟩ [(x,u)])
    (hsp:∀ H:Hp,aaG H->SqL K H a 4e4->sp [.ref a] H (λv _=>v=.bl true) λ_ _ _=>False)
    (hCX:∀ H e s',CX [] H s₁ (λ_ _ _=>False) e s'->False) :
    codeAny (model P w) callerA (.call (.ref fa) ⟨[.ref a],[]⟩) (λr s'=>r=.ok (.ret (.bool true))/\OldK s₁.heap s'.heap/\s'.os=s₁.os/\AllBare s'.gens) s₁:=by
  have rv:=qL hi;have aky:=hi.length;have core:∀ H:Hp,aaG H->SqL K H a 4e4->HOk P w H s₁.heap->(∀ b,H b≠none->b=a)->(H a≠none->K.lookup a=none) ->
      codeAny (model P w) callerA (.call (.ref fa) ⟨[.ref a],[]⟩) (λr s'=>r=.ok (.ret (.bool true))/\OldK s₁.heap s'.heap/\s'.os=s₁.os/\AllBare s'.gens) s₁:=by
    intro H hO hS hok hA hK;have SD:∀ {b:Addr} {o:Obj},s₁.heap.get? b=some o->H b=none->(QI s₁.heap H).get? b=some o:=λe n=>Vd e n;have noA:∀ {b:Addr} {o:Obj} {es:Array DictEntry} {ep:Nat},s₁.heap.get? b=some o->o.data=.dict es ep->H b=none:=λ{b o es ep} e d=>by
      cases q:H b with
      | none=>rfl
      | some u =>
        have e':b=a:=hA b (by rw[q];simp);subst e';rw[ha]at e;cases e;have d':Data.seq vs.toArray _=Data.dict es ep:=d;cases d'
    have nsK:∀ {b:Addr} {m:Str->Option Value},s₁.heap.Ns b m->(QI s₁.heap H).Ns b m:=λ{b m} ⟨o,es,ep,e,d,r⟩=>⟨o,es,ep,SD e (noA e d),d,r⟩;have hKb:K.In (QI s₁.heap H):=λb o e=>SD (KX b o e) (by
      cases q:H b with
      | none=>rfl
      | some u =>
        have e':b=a:=hA b (by rw[q];simp);subst e';rw[hK (by rw[q];simp)]at e;cases e)
    have hM:Mod K mg (QI s₁.heap H):=⟨hKb,nsK hns,⟨mb,nsK hb,hbb⟩,let ⟨mc,h1,h2⟩:=akx;⟨mc,nsK h1,h2⟩⟩;have e0:UZ P w K mg (QI s₁.heap H) callerA [] s₁ H:=⟨rfl,hM,λb o e=>XJ e,Nat.le_of_eq (TQ _ _),trivial,λb hb=>absurd (show b∈([]:List Addr) from hb) 1e9,hok,.of_eq hg⟩;refine codeAny_mono ((F _ hKb (nsK hns)).run callerA [] s₁ H ⟨[.ref a],[]⟩ [.ref a] [.ref a] _ _ hr e0 (acC s₁ (.ref a)) (.cons rfl .nil) (hsp H hO hS)) λr s' h=>?_;cases r with
    | error e=>exact(hCX H e s' h).elim
    | ok fl =>
      cases fl with
      | next=>exact False.elim h
      | brk=>exact False.elim h
      | cont=>exact False.elim h
      | ret u =>
        obtain⟨v,H',os,bare,un,akz,r',q⟩:=h;have q':v=.bl true:=q;subst q';obtain rfl:u=Value.bool true:=r';refine⟨rfl,OldK.of_keep λb o e=>?_,os,bare⟩;cases q:H b with
        | none=>exact un.keep b o e q (by intro z;exact absurd (show b∈([]:List Addr) from z) 1e9) 1e9
        | some u =>
          rcases hO b with z|⟨ob,xs,z⟩
          · rw[q]at z;cases z
          · have z2:=un.Jh b ob _ z
            obtain⟨e1,_⟩:=hok b _ z;obtain⟨e2,_⟩:=akz b _ z2;rw[e]at e1;cases e1;exact e2
  cases hk:K.lookup a with
  | some o =>
    have e:=KX a o hk;rw[ha]at e;cases e;refine core (λ_=>none) (λ_=>.inl rfl) (.inr ⟨_,vs.toArray,_,hk,rfl,rfl,rfl,by rw[aoN,aky];exact hl,by simpa using rv⟩) (λb u z=>by have z':(none:Option HO)=some u:=z;cases z') (λb z=>absurd rfl z) λz=>absurd rfl z
  | none =>
    refine core (λb=>if b=a then some (.frz {cls:=.type "list",data:=.seq vs.toArray} (.lst 4e4)) else none) (λb=>?_) (.inl (.inr ⟨{cls:=.type "list",data:=.seq vs.toArray},if_pos rfl⟩)) (λb u z=>?_) (λb z=>?_) λ_=>hk
    · by_cases hb:b=a
      · exact .inr ⟨_,_,if_pos hb⟩
      · exact .inl (if_neg hb)
    · by_cases hb:b=a
      · have z':=(if_pos hb).symm.trans z
        cases z';subst hb;exact⟨ha,by rw[aoG];exact hl,vs,_,rv,ha⟩
      · have z':=(if_neg hb).symm.trans z
        cases z'
    · by_cases hb:b=a
      · exact hb
      · exact absurd (if_neg hb) z
end L2
namespace L2
open PySem PySem.Spec PyProof.Rows
theorem X3{l:PySem.W.OpenLaw}{n k:Nat}{q:Program}{loose:List Str}{XP:(Str->Option Value)->Heap->Prop}{YP:World->Heap->Prop}{d:DefRec}{K:Params->W.Frag}{CX:World->CXT}{sp:World->Sp}{x:Str}
    (hn:l.most=some n) (hn2:n<=sizeLine) (hdf:d.params.defaults=[]) (hr:mW k callerA)
    (hY:∀(w:World) (h:Heap),YP w h->(K w.params).In h)
    (F:∀(w:World) (mg:Str->Option Value) (fa:Addr) (h:Heap),(K w.params).In h->h.Ns mainGlobals mg->mg d.name=some (.ref fa) ->
      ∃ fd:FuncData,(∀(s:Shared) (u:Value),BindsTo s fd ⟨[u],[]⟩ [(x,u)]) /\
        ∀ base:Heap,(K w.params).In base->base.Ns mainGlobals mg->Dv l.prog w (K w.params) mg base (CX w) k fa fd [x] (sp w))
    (hsp:∀(w:World) (H:Hp) (a:Addr) (ns:List Int),ns.length<=n->aaG H->SqL (K w.params) H a 4e4->sp w [.ref a] H (λv _=>v=.bl true) λ_ _ _=>False)
    (hCX:∀(w:World) (H:Hp) (s:Shared) (e:Value) (s':Shared),CX w [] H s (λ_ _ _=>False) e s'->False) :
    PySem.W.WalkO q loose XP YP l.row.toRowW d [] (λf vs=>PySem.call f vs):=by
  refine Att.N5 hn hdf λw s₀ s₁ mg mb fa o pm cd doc a vs ns G Y ho hd hcd hmg aaF hints hlen hg=>?_;have KX:=hY w _ Y;obtain⟨fd,hb,hF⟩:=F w mg fa _ KX G.T.g hmg;exact Vj KX G.T.g G.T.b G.T.builtins G.T.nolimit hg aaF hints (ao7 hlen hn2) hr hF hb (λH hO hS=>hsp w H a ns hlen hO hS) λH e s'=>hCX w H s₁ e s'
end L2
namespace L2
open PySem PySem.Spec PyProof.Rows
noncomputable def inClass(s:Stmt)(j:Nat):Stmt:=match s with
  | .ClassDef _ _ _ body _ _ _ _ _ _ _=>body.getD j (.Pass ⟨0,0,0,0⟩)
  | _=>.Pass ⟨0,0,0,0⟩
noncomputable def lG(s:Stmt):Arguments:=match s with
  | .FunctionDef _ a _ _ _ _ _ _ _ _=>a
  | _=>{posonlyargs:=[],args:=[],vararg:=none,kwonlyargs:=[],kw_defaults:=[],kwarg:=none,defaults:=[]}
noncomputable def jZ(s:Stmt):List Stmt:=match s with
  | .FunctionDef _ _ b _ _ _ _ _ _ _=>b
  | _=>[]
noncomputable def ar(s:Stmt):Scope:=match s with
  | .FunctionDef _ _ _ _ _ _ sc _ _ _=>sc
  | _=>{kind:=.function,names:=[],isGenerator:=false,isCoroutine:=false}
structure Fun(K:W.Frag)(x qual:Str)(st:Stmt)(f:Addr)(fd:FuncData):Prop where
  ex:∃(oc:Value) (od:Option Addr) (kV doc pm:Value) (an:Option Addr) (cdv ct:Value) (osl:Array (Option Value)),
    fd=PySem.W.fnOf x qual (lG st) (jZ st) (ar st) .none kV doc pm an cdv ct/\K.lookup f=some ⟨oc,od,.func fd,osl⟩/\PySem.W.codeIn K cdv qual=true
  kp:PySem.W.keepIn K (.ref f)=true
section
variable{P:Program}{w:World}{K:W.Frag}{mg:Str->Option Value}{base:Heap}
theorem Fun.binds{x qual:Str}{st:Stmt}{f:Addr}{fd:FuncData}{ps:List Str}(F:Fun K x qual st f fd)
    (h:∀(kV doc pm:Value) (an:Option Addr) (cdv ct:Value) (us:List Value),us.length=ps.length->bindArgs (PySem.W.fnOf x qual (lG st) (jZ st) (ar st) .none kV doc pm an cdv ct) ⟨us,[]⟩=pure (ps.zip us)):Binds K fd ps []:=by
  obtain⟨oc,od,kV,doc,pm,an,cdv,ct,osl,rfl,lk,hcd⟩:=F.ex;exact .all (h kV doc pm an cdv ct)
theorem ZQ{x qual:Str}{st:Stmt}{f:Addr}{oc:Value}{od an:Option Addr}{osl:Array (Option Value)}{kV doc pm cdv ct:Value}(l:K.lookup f=some ⟨oc,od,.func (PySem.W.fnOf x qual (lG st) (jZ st) (ar st) .none kV doc pm an cdv ct),osl⟩)
    (c:PySem.W.codeIn K cdv qual=true) (k:PySem.W.keepIn K (.ref f)=true):Fun K x qual st f (PySem.W.fnOf x qual (lG st) (jZ st) (ar st) .none kV doc pm an cdv ct):=⟨⟨oc,od,kV,doc,pm,an,cdv,ct,osl,rfl,l,c⟩,k⟩
end
theorem jw{A:Around}{k:Nat}(hr:mW k A):A.units+1<cLine:=apx (Nat.add_le_add_left (by decide:1<=64) _) hr.units
section
variable{X:Cx}
theorem pv(i:Nat){x:Str}{pos:Pos}(hN:X.N[i]?=some x:=by rfl)(hv:Vis X.env.scope x:=by first|exact Or.inl rfl|exact Or.inr (Or.inl rfl)|exact Or.inr (Or.inr rfl))(hd:(x == ("__debug__" : Str))=false:=by decide)
    (hcd:(x == ("__classdict__" : Str))=false:=by decide):PE X (.Name x pos) (adt i):=ZC hN hv hd hcd
end
theorem xI{A B:Prop}(h:B):if false=true then A else B:=by
  rw[if_neg aoO];exact h
theorem vK{A B:Prop}(h:A):if true=true then A else B:=by
  rw[if_pos rfl];exact h
theorem eT{c A B:Prop}[Decidable c](h1:c->A)(h2:¬c->B):if c then A else B:=by
  by_cases h:c
  · rw[if_pos h]
    exact h1 h
  · rw[if_neg h]
    exact h2 h
noncomputable def aw(H H':Hp):Prop:=∀ b o,H b=some o->H' b=some o
theorem aw.refl(H:Hp):aw H H:=λ_ _ h=>h
theorem aw.trans{H H1 H2:Hp}(a:aw H H1)(b:aw H1 H2):aw H H2:=λc o h=>b c o (a c o h)
theorem aw.seq{K:W.Frag}{H H':Hp}{a:Addr}{xs:List V}(e:aw H H')(h:SqL K H a xs):SqL K H' a xs:=by
  rcases h with(h|⟨o,h⟩)|h
  · exact .inl (.inl (e _ _ h))
  · exact .inl (.inr ⟨o,e _ _ h⟩)
  · exact .inr h
end L2
end
section
namespace K39
open PySem PySem.W L2 PySem.PyData
theorem wsd:PySem.Challenge.rw_stillheap_k39_whole_pictures_by_addresse.wellSaid=true:=by kernel_rfl
noncomputable def top(i:Nat):Stmt:=9e9.main.body.getD i (.Pass ⟨0,0,0,0⟩)
noncomputable section
abbrev OO:=Params->Obj
abbrev FN:=Str×Str×Stmt
noncomputable def oF(f:FN)(m:Value)(r:Addr):OO:=λ_=>⟨.type "function",none,.func (fnOf f.1 f.2.1 (lG f.2.2) (jZ f.2.2) (ar f.2.2) .none .none .none m none (.ref r) .none),#[]⟩
noncomputable def oG(f:FN):OO:=λ_=>⟨.none,none,.func ⟨f.1,f.2.1,lG f.2.2,.stmts (jZ f.2.2),ar f.2.2,0,[],.none,.none,.none,.none,none,.none,.none,0⟩,#[]⟩
noncomputable def oT(l:List Value):OO:=λ_=>⟨.type "tuple",none,.seq (List.toArray l) 0,#[]⟩
def oS:List Str->Tok->List Value
 | [],_=>[]
 | x::r,k=>.str x k::oS r (k+1)
noncomputable def oD(l:List (Str×Tok×Value))(n:Nat):OO:=λP=>⟨.type "dict",none,.dict (List.toArray (l.map λe=>⟨keyHash P e.1,.str e.1 e.2.1,e.2.2⟩)) n,#[]⟩
def zB:List String->Tok->List (Str×Tok×Value)
 | [],_=>[]
 | x::r,k=>(Str.ofString x,k,.builtin x)::zB r (k+1)
def zT:List String->Tok->List (Str×Tok×Value)
 | [],_=>[]
 | x::r,k=>(Str.ofString x,k,.type x)::zT r (k+1)
def ap(a b:List (Str×Tok×Value)):List (Str×Tok×Value):=a++b
noncomputable def oC(f:FN)(t:Tok)(l a b c d:Int)(r:Addr)(e:Int)(g h i j:Addr)(z:Int)(u:Tok):OO:=λ_=>⟨.type "code",none,.fields (List.toArray [.str f.1 t,.str f.2.1 (t+1),.str "/claim/cut.py" (t+2),.int l 0,.int a 0,.int b 0,.int c 0,.int d 0,.ref r,.bool true,.int e 0,.ref g,.none,.ref h,.ref i,.ref j,.int z 0,.int l 0,.str "/claim/cut.py" u]),#[]⟩
noncomputable def oN(f:FN)(t:Tok)(l a b c d:Int)(r:Addr)(e:Int)(g j:Addr)(z:Int)(u:Tok):OO:=λ_=>⟨.type "code",none,.fields (List.toArray [.str f.1 t,.str f.2.1 (t+1),.str "/claim/cut.py" (t+2),.int l 0,.int a 0,.int b 0,.int c 0,.int d 0,.ref r,.bool true,.int e 0,.ref g,.none,.none,.none,.ref j,.int z 0,.int l 0,.str "/claim/cut.py" u]),#[]⟩
noncomputable def oM(n:Str)(t:Tok)(l:Int)(r:Addr)(e:Int)(f:Addr)(z:Int)(u:Tok):OO:=λ_=>⟨.type "code",none,.fields (List.toArray [.str n t,.str n (t+1),.str "/claim/cut.py" (t+2),.int l 0,.int 0 0,.int 0 0,.int 0 0,.int 0 0,.ref r,.bool false,.int e 0,.ref f,.none,.none,.none,.none,.int z 0,.int l 0,.str "/claim/cut.py" u]),#[]⟩
def oI:List Nat->List Value
 | a::b::c::r=>.int a 0::.int b 0::.ref c::oI r
 | _=>[]
noncomputable def oX(l:List Nat):OO:=λ_=>⟨.none,none,.fields (List.toArray (oI l)),#[]⟩
noncomputable def oR(a b c:Addr)(m:Value):OO:=λ_=>⟨.type "frame",none,.plain,List.toArray [some (.ref a),some (.ref b),some (.ref c),none,some m,none,some (.ref 0)]⟩
noncomputable def oP(a b:Value):OO:=λ_=>⟨.type "builtin_function_or_method",none,.fields (List.toArray [a,b]),#[]⟩
noncomputable def oY(n:Str)(b m:List Value)(d:Addr)(u:List Value)(k:Option Value)(t1 t2:Tok)(w:Value):OO:=λ_=>⟨.type "type",none,.cls ⟨n,b,m,d,n,true,[],u,false,none,false⟩,List.toArray [k,none,some (.str n t1),some (.str n t2),some w,some (.bool true)]⟩
noncomputable def oU(a:Addr):OO:=λ_=>⟨.type "super",none,.fields (List.toArray [.ref a,.ref a,.ref a]),#[]⟩
def spl:List OO->List OO×List OO
 | []=>([],[])
 | [a]=>([a],[])
 | a::b::r=>(a::(spl r).1,b::(spl r).2)
noncomputable def mkT(P:Params):Nat->List OO->BT
 | 0,_=>.nil
 | _+1,[]=>.nil
 | n+1,x::r=>.node (x P) (mkT P n (spl r).1) (mkT P n (spl r).2)
def stT(l:List OO)(c:List (Nat×OO)):List OO:=c.foldl (λl p=>l.set p.1 p.2) l
def fn0:FN:=("_wall","_wall",top 0)
def fn1:FN:=("__init__","HeapError.__init__",inClass (top 2) 0)
def fn2:FN:=("called","HeapError.called",inClass (top 2) 1)
def fn3:FN:=("called","BadHand.called",inClass (top 3) 0)
def fn4:FN:=("called","BadName.called",inClass (top 4) 0)
def fn5:FN:=("called","BadField.called",inClass (top 5) 0)
def fn6:FN:=("called","BadCount.called",inClass (top 6) 0)
def fn7:FN:=("called","NoRoom.called",inClass (top 7) 0)
def fn8:FN:=("called","TooManyWords.called",inClass (top 8) 0)
def fn9:FN:=("called","RoundOn.called",inClass (top 9) 0)
def aaH:FN:=("called","NoRound.called",inClass (top 10) 0)
def aaI:FN:=("called","BadView.called",inClass (top 11) 0)
def aaJ:FN:=("called","BadAddress.called",inClass (top 12) 0)
def aaK:FN:=("number_value","number_value",top 20)
def aaL:FN:=("thing_value","thing_value",top 21)
def aaM:FN:=("kind_of","kind_of",top 22)
def aaN:FN:=("words_of","words_of",top 23)
def aaO:FN:=("look_at_number","look_at_number",top 24)
def aaP:FN:=("look_at_hand","look_at_hand",top 25)
def aaQ:FN:=("look_at_name","look_at_name",top 26)
def aaR:FN:=("look_at_field","look_at_field",top 27)
def aaS:FN:=("look_at_limits","look_at_limits",top 28)
def aaT:FN:=("lay","lay",top 30)
def aaU:FN:=("thing_at","thing_at",top 31)
def aaV:FN:=("resolved","resolved",top 32)
def aaW:FN:=("move","move",top 33)
def aaX:FN:=("fields_at","fields_at",top 34)
def aaY:FN:=("fields_told","fields_told",top 35)
def aaZ:FN:=("look_at_room","look_at_room",top 36)
def aa0:FN:=("is_picture","is_picture",top 38)
def aa1:FN:=("first_unlike","first_unlike",top 39)
def aa2:FN:=("first_misplaced","first_misplaced",top 40)
def aa3:FN:=("addresses_of","addresses_of",top 41)
def aa4:FN:=("first_headless","first_headless",top 42)
def aa5:FN:=("first_unlike_field","first_unlike_field",top 43)
def aa6:FN:=("first_unlike_word","first_unlike_word",top 44)
def aa7:FN:=("is_like","is_like",top 45)
def aa8:FN:=("place_met","place_met",top 46)
def aa9:FN:=("book_of","book_of",top 48)
def aba:FN:=("address_in","address_in",top 49)
def abb:FN:=("__init__","Hands.__init__",inClass (top 51) 0)
def abc:FN:=("word_in","Hands.word_in",inClass (top 51) 1)
def abd:FN:=("all_words","Hands.all_words",inClass (top 51) 2)
def abe:FN:=("put","Hands.put",inClass (top 51) 3)
def abf:FN:=("copy","Hands.copy",inClass (top 51) 4)
def abg:FN:=("number","Hands.number",inClass (top 51) 5)
def abh:FN:=("kind","Hands.kind",inClass (top 51) 6)
def abi:FN:=("value","Hands.value",inClass (top 51) 7)
def abj:FN:=("same","Hands.same",inClass (top 51) 8)
def abk:FN:=("thing_due","Hands.thing_due",inClass (top 51) 9)
def abl:FN:=("__init__","WordTable.__init__",inClass (top 54) 0)
def abm:FN:=("bear","WordTable.bear",inClass (top 54) 1)
def abn:FN:=("word_of","WordTable.word_of",inClass (top 54) 2)
def abo:FN:=("bearers","WordTable.bearers",inClass (top 54) 3)
def abp:FN:=("settle","WordTable.settle",inClass (top 54) 4)
def abq:FN:=("take","WordTable.take",inClass (top 54) 5)
def abr:FN:=("said","WordTable.said",inClass (top 54) 6)
def abt:FN:=("last_steps","last_steps",top 56)
def abu:FN:=("__init__","NameTable.__init__",inClass (top 58) 0)
def abv:FN:=("name","NameTable.name",inClass (top 58) 1)
def abw:FN:=("named","NameTable.named",inClass (top 58) 2)
def abx:FN:=("all_named","NameTable.all_named",inClass (top 58) 3)
def aby:FN:=("settle","NameTable.settle",inClass (top 58) 4)
def abz:FN:=("__init__","Heap.__init__",inClass 4e5 0)
def abA:FN:=("add_thing","Heap.add_thing",inClass 4e5 1)
def abB:FN:=("load","Heap.load",inClass 4e5 2)
def abC:FN:=("store","Heap.store",inClass 4e5 3)
def abD:FN:=("copy","Heap.copy",inClass 4e5 4)
def abE:FN:=("drop","Heap.drop",inClass 4e5 5)
def abF:FN:=("number","Heap.number",inClass 4e5 6)
def abG:FN:=("name","Heap.name",inClass 4e5 7)
def abH:FN:=("read_thing","Heap.read_thing",inClass 4e5 8)
def abI:FN:=("word","Heap.word",inClass 4e5 9)
def abJ:FN:=("small_round","Heap.small_round",inClass 4e5 10)
def abK:FN:=("let_go","Heap.let_go",inClass 4e5 11)
def abL:FN:=("look_at_held","Heap.look_at_held",inClass 4e5 12)
def abM:FN:=("field_value","Heap.field_value",inClass 4e5 13)
def abN:FN:=("counts_held","Heap.counts_held",inClass 4e5 14)
def abO:FN:=("words_among","Heap.words_among",inClass 4e5 15)
def abP:FN:=("led_among","Heap.led_among",inClass 4e5 16)
def abQ:FN:=("thing_among","thing_among",top 61)
def abR:FN:=("__init__","IdealHeap.__init__",inClass 3e8 0)
def abS:FN:=("make","IdealHeap.make",inClass 3e8 1)
def abT:FN:=("read","IdealHeap.read",inClass 3e8 2)
def abU:FN:=("take","IdealHeap.take",inClass 3e8 3)
def abV:FN:=("kind","IdealHeap.kind",inClass 3e8 4)
def abW:FN:=("value","IdealHeap.value",inClass 3e8 5)
def abX:FN:=("fields","IdealHeap.fields",inClass 3e8 6)
def abY:FN:=("same","IdealHeap.same",inClass 3e8 7)
def abZ:FN:=("held","IdealHeap.held",inClass 3e8 8)
def ab0:FN:=("small","IdealHeap.small",inClass 3e8 9)
def ab1:FN:=("begin","IdealHeap.begin",inClass 3e8 10)
def ab2:FN:=("end","IdealHeap.end",inClass 3e8 11)
def ab3:FN:=("round_on","IdealHeap.round_on",inClass 3e8 12)
def ab4:FN:=("hands","IdealHeap.hands",inClass 3e8 13)
def ab5:FN:=("names","IdealHeap.names",inClass 3e8 14)
def ab6:FN:=("things","IdealHeap.things",inClass 3e8 15)
def ab7:FN:=("fields_of","IdealHeap.fields_of",inClass 3e8 16)
def ab8:FN:=("is_old","IdealHeap.is_old",inClass 3e8 17)
def ab9:FN:=("word_of","IdealHeap.word_of",inClass 3e8 18)
def WE:FN:=("doomed","IdealHeap.doomed",inClass 3e8 19)
def WG:FN:=("said","IdealHeap.said",inClass 3e8 20)
def WH:FN:=("made","IdealHeap.made",inClass 3e8 21)
def WI:FN:=("spare","IdealHeap.spare",inClass 3e8 22)
def WJ:FN:=("__init__","Memory.__init__",inClass (top 65) 0)
def WK:FN:=("size","Memory.size",inClass (top 65) 1)
def WL:FN:=("at","Memory.at",inClass (top 65) 2)
def WM:FN:=("put","Memory.put",inClass (top 65) 3)
def WN:FN:=("copy_of","Memory.copy_of",inClass (top 65) 4)
def WO:FN:=("look_at_address","Memory.look_at_address",inClass (top 65) 5)
def WQ:FN:=("_law_cell","_law_cell",top 67)
def WR:FN:=("_law_mixed","_law_mixed",top 68)
def WS:FN:=("_law_numbers","_law_numbers",top 69)
def WT:FN:=("_law_deed","_law_deed",top 70)
def WU:FN:=("_law_round","_law_round",top 71)
def WW:FN:=("_law_heap","_law_heap",top 72)
def WX:FN:=("_law_places","_law_places",top 73)
def WY:FN:=("_law_spoken","_law_spoken",top 74)
def WZ:FN:=("_law_model","_law_model",top 75)
def W2:FN:=("_law_memory","_law_memory",top 76)
def W3:FN:=("_law_said","_law_said",top 77)
def Xa:FN:=("_law_shape","_law_shape",top 78)
def Xb:FN:=("_law_roomy","_law_roomy",top 79)
def Xc:FN:=("_law_moved","_law_moved",top 80)
def Xd:FN:=("law","law",top 81)
def xs0:List Nat:=[1,0,20,5,0,27,12,0,54,16,0,73,20,0,92,24,0,111,28,0,130,32,0,149,36,0,168,40,0,187,44,0,206,48,0,225,59,0,244,62,0,251,66,0,258,68,0,265,72,0,272,75,0,279,78,0,286,81,0,293,84,0,300,90,0,307,95,0,312,98,0,319,104,0,326,108,0,333,110,0,340,116,0,347,120,0,354,122,0,359,136,0,366,146,0,371,148,0,378,153,0,385,160,0,392,166,0,399,170,0,406,176,0,411,182,0,418,188,0,425,230,0,509,258,0,572,273,0,579,292,0,626,382,0,753,387,0,760,486,0,933,509,0,989,513,0,996,517,0,1003,526,0,1010,551,0,1017,556,0,1024,565,0,1031,574,0,1038,578,0,1043,595,0,1050,600,0,1057,604,0,1062,610,0,1069,612,0,1074,625,0,1079]
def v0:Value:=.str "stillheap.ideal" 1158
def v1:Value:=.str "stillheap.errors" 194
def v2:Value:=.type "object"
def v3:Value:=.str "stillheap.heaps" 973
def v4:Value:=.builtin "object.__init_subclass__"
def v5:Value:=.type "ValueError"
def v6:Value:=.str "law_stillheap_k39_whole_pictures_by_addresse" 1433
def v7:Value:=.type "Exception"
def v8:Value:=.type "BaseException"
def v9:Value:=.builtin "ValueError.__new__"
def v10:Value:=.type "getset_descriptor"
def v11:Value:=.str "stillheap.hands" 713
def v12:Value:=.str "stillheap.values" 459
def v13:Value:=.str "stillheap.pictures" 604
def v14:Value:=.str "stillheap.lastwords" 819
def v15:Value:=.str "stillheap.layout" 538
def v16:Value:=.str "stillheap.memory" 1363
def v17:Value:=.builtin "ExceptionGroup.__weakref__"
def v18:Value:=.builtin "object.__new__"
def v19:Value:=.str "stillheap.weaknames" 913
def v20:Value:=.builtin "function.__dict__"
def v21:Value:=.builtin "function.__dict__#set"
def v22:Value:=.str "__main__" 164
def v23:Value:=.str "stillheap.books" 696
def o0:OO:=oD (ap [("__name__",1,.str "builtins" 160),("__doc__",2,.builtin "builtins.__doc__:str#opaque"),("__package__",3,.builtin "builtins.__package__:str#opaque"),("__loader__",4,.builtin "builtins.__loader__:shared#opaque"),("__spec__",5,.builtin "builtins.__spec__#opaque")] (ap (zB ["__build_class__","__import__","abs","all","any","ascii","bin","breakpoint","callable","chr","compile","delattr","dir","divmod","eval","exec","format","getattr","globals","hasattr","hash","hex","id","input","isinstance","issubclass","iter","aiter","len","locals","max","min","next","anext","oct","ord","pow","print","repr","round","setattr","sorted","sum","vars"] 6) (ap [("None",50,.none),("Ellipsis",51,.ellipsis),("NotImplemented",52,.notImplemented),("False",53,.bool false),("True",54,.bool true)] (ap (zT ["bool","memoryview","bytearray","bytes","classmethod","complex","dict","enumerate","filter","float","frozenset","property","int","list","map","object","range","reversed","set","slice","staticmethod","str","super","tuple","type","zip"] 55) (ap [("__debug__",81,.bool true)] (ap (zT ["BaseException","BaseExceptionGroup","Exception","GeneratorExit","KeyboardInterrupt","SystemExit","ArithmeticError","AssertionError","AttributeError","BufferError","EOFError","ImportError","LookupError","MemoryError","NameError","OSError","ReferenceError","RuntimeError","StopAsyncIteration","StopIteration","SyntaxError","SystemError","TypeError","ValueError","Warning","FloatingPointError","OverflowError","ZeroDivisionError","BytesWarning","DeprecationWarning","EncodingWarning","FutureWarning","ImportWarning","PendingDeprecationWarning","ResourceWarning","RuntimeWarning","SyntaxWarning","UnicodeWarning","UserWarning","BlockingIOError","ChildProcessError","ConnectionError","FileExistsError","FileNotFoundError","InterruptedError","IsADirectoryError","NotADirectoryError","PermissionError","ProcessLookupError","TimeoutError","IndentationError","_IncompleteInputError","IndexError","KeyError","ModuleNotFoundError","NotImplementedError","PythonFinalizationError","RecursionError","UnboundLocalError","UnicodeError"] 82) (ap (zT ["BrokenPipeError","ConnectionAbortedError","ConnectionRefusedError","ConnectionResetError","TabError","UnicodeDecodeError","UnicodeEncodeError","UnicodeTranslateError","ExceptionGroup"] 142) [("EnvironmentError",151,.type "OSError"),("IOError",152,.type "OSError"),("open",153,.builtin "open"),("quit",154,.builtin "builtins.quit#opaque"),("exit",155,.builtin "builtins.exit#opaque"),("copyright",156,.builtin "builtins.copyright#opaque"),("credits",157,.builtin "builtins.credits#opaque"),("license",158,.builtin "builtins.license#opaque"),("help",159,.builtin "builtins.help#opaque")]))))))) 159
def o1:OO:=oD [("builtins",162,.ref 4),("__main__",163,.ref 5)] 2
def o2:OO:=λ_=>⟨.none,none,(.dict #[] 0),#[]⟩
def o3:OO:=oD [("__name__",165,.str "__main__" 164),("__doc__",166,.none),("__package__",167,.none),("__loader__",168,.builtin "__main__.__loader__#opaque"),("__spec__",169,.none),("__annotations__",170,.ref 6),("__builtins__",171,.ref 4),("__file__",173,.str "/claim/cut.py" 172),("__cached__",174,.none)] 9
def o4:OO:=λ_=>⟨(.type "module"),(.some 0),.plain,#[]⟩
def o5:OO:=λ_=>⟨(.type "module"),(.some 3),.plain,#[]⟩
def o6:OO:=λ_=>⟨(.type "dict"),none,(.dict #[] 0),#[]⟩
def o7:OO:=λ_=>⟨(.type "tuple"),none,(.seq #[] 0),#[]⟩
def o8:OO:=λ_=>⟨.none,none,(.fields #[]),#[]⟩
def o9:OO:=oM "<module>" 176 1 7 175 8 179 180
def o10:OO:=oR 9 3 3 v22
def o11:OO:=oM "<module>" 182 1 11 181 12 185 186
def o12:OO:=oR 13 3 3 v22
def o13:OO:=oD [("__name__",165,.str "stillheap.errors" 194),("__doc__",166,.none),("__package__",167,.none),("__loader__",168,.builtin "__main__.__loader__#opaque"),("__spec__",169,.none),("__annotations__",170,.ref 6),("__builtins__",171,.ref 4),("__file__",173,.str "/claim/cut.py" 172),("__cached__",174,.none),("_wall",193,.ref 21),("HeapError",228,.ref 45),("BadHand",251,.ref 65),("BadName",274,.ref 84),("BadField",297,.ref 103),("BadCount",320,.ref 122),("NoRoom",343,.ref 141),("TooManyWords",366,.ref 160),("RoundOn",389,.ref 179)] 18
def o14:OO:=oX (xs0.take 27)
def o15:OO:=oT (oS ["k"] 190)
def o16:OO:=oG fn0
def o17:OO:=oC fn0 187 1 1 0 0 3 15 181 16 17 18 19 191 192
def o18:OO:=oF fn0 v22 20
def o19:OO:=oT [v5]
def o20:OO:=oP (.builtin "type.__prepare__") (.type "type")
def o21:OO:=oD [("__module__",203,.str "stillheap.errors" 194),("__qualname__",205,.str "HeapError" 204),("__firstlineno__",207,.int 5 206),("__init__",215,.ref 35),("called",222,.ref 42),("__static_attributes__",223,.ref 43)] 6
def o22:OO:=oX [7,4,34,10,4,41]
def o23:OO:=oM "HeapError" 198 5 25 181 26 201 202
def o24:OO:=oR 27 3 24 v1
def o25:OO:=oT (oS ["self","text"] 211)
def o26:OO:=oG fn1
def o27:OO:=oC fn1 208 7 2 0 0 3 29 181 30 31 32 33 213 214
def o28:OO:=oF fn1 v1 34
def o29:OO:=oT (oS ["self"] 219)
def o30:OO:=oG fn2
def o31:OO:=oC fn2 216 10 1 0 0 3 36 181 37 38 39 40 220 221
def o32:OO:=oF fn2 v1 41
def o33:OO:=oD [("__module__",203,.str "stillheap.errors" 194),("__firstlineno__",207,.int 5 206),("__init__",215,.ref 35),("called",222,.ref 42),("__static_attributes__",223,.ref 43),("__weakref__",225,.ref 46),("__doc__",226,.none)] 3
def o34:OO:=oY "HeapError" [v5] [5e4,v5,v7,v8,v2] 44 [(.ref 65),(.ref 84),(.ref 103),(.ref 122),(.ref 141),(.ref 160),(.ref 179)] (.some (.ref 22)) 196 204 v9
def o35:OO:=λ_=>⟨v10,none,(.fields (List.toArray [(.str "__weakref__" 224),5e4,v17,.none])),#[]⟩
def o36:OO:=oU 45
def o37:OO:=oP v4 5e4
def o38:OO:=oT [5e4]
def o39:OO:=oD [("__module__",236,.str "stillheap.errors" 194),("__qualname__",238,.str "BadHand" 237),("__firstlineno__",240,.int 12 239),("called",247,.ref 62),("__static_attributes__",248,.ref 63)] 5
def o40:OO:=oX [14,4,61]
def o41:OO:=oM "BadHand" 231 12 52 181 53 234 235
def o42:OO:=oR 54 3 51 v1
def o43:OO:=oT (oS ["self"] 244)
def o44:OO:=oG fn3
def o45:OO:=oC fn3 241 14 1 0 0 3 56 181 57 58 59 60 245 246
def o46:OO:=oF fn3 v1 61
def o47:OO:=oD [("__module__",236,.str "stillheap.errors" 194),("__firstlineno__",240,.int 12 239),("called",247,.ref 62),("__static_attributes__",248,.ref 63),("__doc__",249,.none)] 2
def o48:OO:=oY "BadHand" [5e4] [(.ref 65),5e4,v5,v7,v8,v2] 64 [] (.some (.ref 49)) 229 237 v9
def o49:OO:=oU 65
def o50:OO:=oP v4 (.ref 65)
def o51:OO:=oD [("__module__",259,.str "stillheap.errors" 194),("__qualname__",261,.str "BadName" 260),("__firstlineno__",263,.int 16 262),("called",270,.ref 81),("__static_attributes__",271,.ref 82)] 5
def o52:OO:=oX [18,4,80]
def o53:OO:=oM "BadName" 254 16 71 181 72 257 258
def o54:OO:=oR 73 3 70 v1
def o55:OO:=oT (oS ["self"] 267)
def o56:OO:=oG fn4
def o57:OO:=oC fn4 264 18 1 0 0 3 75 181 76 77 78 79 268 269
def o58:OO:=oF fn4 v1 80
def o59:OO:=oD [("__module__",259,.str "stillheap.errors" 194),("__firstlineno__",263,.int 16 262),("called",270,.ref 81),("__static_attributes__",271,.ref 82),("__doc__",272,.none)] 2
def o60:OO:=oY "BadName" [5e4] [(.ref 84),5e4,v5,v7,v8,v2] 83 [] (.some (.ref 68)) 252 260 v9
def o61:OO:=oU 84
def o62:OO:=oP v4 (.ref 84)
def o63:OO:=oD [("__module__",282,.str "stillheap.errors" 194),("__qualname__",284,.str "BadField" 283),("__firstlineno__",286,.int 20 285),("called",293,.ref 100),("__static_attributes__",294,.ref 101)] 5
def o64:OO:=oX [22,4,99]
def o65:OO:=oM "BadField" 277 20 90 181 91 280 281
def o66:OO:=oR 92 3 89 v1
def o67:OO:=oT (oS ["self"] 290)
def o68:OO:=oG fn5
def o69:OO:=oC fn5 287 22 1 0 0 3 94 181 95 96 97 98 291 292
def o70:OO:=oF fn5 v1 99
def o71:OO:=oD [("__module__",282,.str "stillheap.errors" 194),("__firstlineno__",286,.int 20 285),("called",293,.ref 100),("__static_attributes__",294,.ref 101),("__doc__",295,.none)] 2
def o72:OO:=oY "BadField" [5e4] [(.ref 103),5e4,v5,v7,v8,v2] 102 [] (.some (.ref 87)) 275 283 v9
def o73:OO:=oU 103
def o74:OO:=oP v4 (.ref 103)
def o75:OO:=oD [("__module__",305,.str "stillheap.errors" 194),("__qualname__",307,.str "BadCount" 306),("__firstlineno__",309,.int 24 308),("called",316,.ref 119),("__static_attributes__",317,.ref 120)] 5
def o76:OO:=oX [26,4,118]
def o77:OO:=oM "BadCount" 300 24 109 181 110 303 304
def o78:OO:=oR 111 3 108 v1
def o79:OO:=oT (oS ["self"] 313)
def o80:OO:=oG fn6
def o81:OO:=oC fn6 310 26 1 0 0 3 113 181 114 115 116 117 314 315
def o82:OO:=oF fn6 v1 118
def o83:OO:=oD [("__module__",305,.str "stillheap.errors" 194),("__firstlineno__",309,.int 24 308),("called",316,.ref 119),("__static_attributes__",317,.ref 120),("__doc__",318,.none)] 2
def o84:OO:=oY "BadCount" [5e4] [(.ref 122),5e4,v5,v7,v8,v2] 121 [] (.some (.ref 106)) 298 306 v9
def o85:OO:=oU 122
def o86:OO:=oP v4 (.ref 122)
def o87:OO:=oD [("__module__",328,.str "stillheap.errors" 194),("__qualname__",330,.str "NoRoom" 329),("__firstlineno__",332,.int 28 331),("called",339,.ref 138),("__static_attributes__",340,.ref 139)] 5
def o88:OO:=oX [30,4,137]
def o89:OO:=oM "NoRoom" 323 28 128 181 129 326 327
def o90:OO:=oR 130 3 127 v1
def o91:OO:=oT (oS ["self"] 336)
def o92:OO:=oG fn7
def o93:OO:=oC fn7 333 30 1 0 0 3 132 181 133 134 135 136 337 338
def o94:OO:=oF fn7 v1 137
def o95:OO:=oD [("__module__",328,.str "stillheap.errors" 194),("__firstlineno__",332,.int 28 331),("called",339,.ref 138),("__static_attributes__",340,.ref 139),("__doc__",341,.none)] 2
def o96:OO:=oY "NoRoom" [5e4] [(.ref 141),5e4,v5,v7,v8,v2] 140 [] (.some (.ref 125)) 321 329 v9
def o97:OO:=oU 141
def o98:OO:=oP v4 (.ref 141)
def o99:OO:=oD [("__module__",351,.str "stillheap.errors" 194),("__qualname__",353,.str "TooManyWords" 352),("__firstlineno__",355,.int 32 354),("called",362,.ref 157),("__static_attributes__",363,.ref 158)] 5
def akA:OO:=oX [34,4,156]
def akB:OO:=oM "TooManyWords" 346 32 147 181 148 349 350
def akC:OO:=oR 149 3 146 v1
def adE:OO:=oT (oS ["self"] 359)
def akD:OO:=oG fn8
def adF:OO:=oC fn8 356 34 1 0 0 3 151 181 152 153 154 155 360 361
def adG:OO:=oF fn8 v1 156
def adH:OO:=oD [("__module__",351,.str "stillheap.errors" 194),("__firstlineno__",355,.int 32 354),("called",362,.ref 157),("__static_attributes__",363,.ref 158),("__doc__",364,.none)] 2
def adI:OO:=oY "TooManyWords" [5e4] [(.ref 160),5e4,v5,v7,v8,v2] 159 [] (.some (.ref 144)) 344 352 v9
def akE:OO:=oU 160
def akF:OO:=oP v4 (.ref 160)
def akG:OO:=oD [("__module__",374,.str "stillheap.errors" 194),("__qualname__",376,.str "RoundOn" 375),("__firstlineno__",378,.int 36 377),("called",385,.ref 176),("__static_attributes__",386,.ref 177)] 5
def akH:OO:=oX [38,4,175]
def akI:OO:=oM "RoundOn" 369 36 166 181 167 372 373
def akJ:OO:=oR 168 3 165 v1
def adJ:OO:=oT (oS ["self"] 382)
def akK:OO:=oG fn9
def adK:OO:=oC fn9 379 38 1 0 0 3 170 181 171 172 173 174 383 384
def adL:OO:=oF fn9 v1 175
def adM:OO:=oD [("__module__",374,.str "stillheap.errors" 194),("__firstlineno__",378,.int 36 377),("called",385,.ref 176),("__static_attributes__",386,.ref 177),("__doc__",387,.none)] 2
def adN:OO:=oY "RoundOn" [5e4] [(.ref 179),5e4,v5,v7,v8,v2] 178 [] (.some (.ref 163)) 367 375 v9
def akL:OO:=oU 179
def akM:OO:=oP v4 (.ref 179)
def akN:OO:=oD (ap [("__name__",165,.str "stillheap.hands" 713),("__doc__",166,.none),("__package__",167,.none),("__loader__",168,.builtin "__main__.__loader__#opaque"),("__spec__",169,.none),("__annotations__",170,.ref 6),("__builtins__",171,.ref 4),("__file__",173,.str "/claim/cut.py" 172),("__cached__",174,.none),("_wall",193,.ref 21),("HeapError",228,.ref 45),("BadHand",251,.ref 65),("BadName",274,.ref 84),("BadField",297,.ref 103),("BadCount",320,.ref 122),("NoRoom",343,.ref 141),("TooManyWords",366,.ref 160),("RoundOn",389,.ref 179),("NoRound",412,.ref 198),("BadView",435,.ref 217),("BadAddress",458,.ref 236),("HANDS",462,.int 8 461),("WEAK_NAMES",464,.int 8 463),("MOST_FIELDS",466,.int 6 465),("LEAST_ROOM",468,.int 7 467),("MOST_YOUNG",470,.int 64 469),("MOST_LIMIT",472,.int 400 471),("number_value",479,.ref 245)] [("thing_value",486,.ref 252),("kind_of",493,.ref 259),("words_of",500,.ref 266),("look_at_number",507,.ref 273),("look_at_hand",514,.ref 280),("look_at_name",521,.ref 287),("look_at_field",529,.ref 294),("look_at_limits",537,.ref 301),("lay",551,.ref 308),("thing_at",557,.ref 313),("resolved",566,.ref 320),("move",576,.ref 327),("fields_at",584,.ref 334),("fields_told",594,.ref 341),("look_at_room",603,.ref 348),("is_picture",616,.ref 355),("first_unlike",622,.ref 360),("first_misplaced",634,.ref 367),("addresses_of",640,.ref 372),("first_headless",650,.ref 379),("first_unlike_field",663,.ref 386),("first_unlike_word",677,.ref 393),("is_like",687,.ref 400),("place_met",695,.ref 407),("book_of",703,.ref 412),("address_in",712,.ref 419)]) 54
def akO:OO:=oX (xs0.take 117)
def adO:OO:=oY "HeapError" [v5] [5e4,v5,v7,v8,v2] 44 [(.ref 65),(.ref 84),(.ref 103),(.ref 122),(.ref 141),(.ref 160),(.ref 179),(.ref 198),(.ref 217),(.ref 236)] (.some (.ref 22)) 196 204 v9
def akP:OO:=oD [("__module__",397,.str "stillheap.errors" 194),("__qualname__",399,.str "NoRound" 398),("__firstlineno__",401,.int 40 400),("called",408,.ref 195),("__static_attributes__",409,.ref 196)] 5
def akQ:OO:=oX [42,4,194]
def akR:OO:=oM "NoRound" 392 40 185 181 186 395 396
def akS:OO:=oR 187 3 184 v1
def adP:OO:=oT (oS ["self"] 405)
def akT:OO:=oG aaH
def adQ:OO:=oC aaH 402 42 1 0 0 3 189 181 190 191 192 193 406 407
def adR:OO:=oF aaH v1 194
def adS:OO:=oD [("__module__",397,.str "stillheap.errors" 194),("__firstlineno__",401,.int 40 400),("called",408,.ref 195),("__static_attributes__",409,.ref 196),("__doc__",410,.none)] 2
def adT:OO:=oY "NoRound" [5e4] [(.ref 198),5e4,v5,v7,v8,v2] 197 [] (.some (.ref 182)) 390 398 v9
def akU:OO:=oU 198
def akV:OO:=oP v4 (.ref 198)
def akW:OO:=oD [("__module__",420,.str "stillheap.errors" 194),("__qualname__",422,.str "BadView" 421),("__firstlineno__",424,.int 44 423),("called",431,.ref 214),("__static_attributes__",432,.ref 215)] 5
def akX:OO:=oX [46,4,213]
def akY:OO:=oM "BadView" 415 44 204 181 205 418 419
def akZ:OO:=oR 206 3 203 v1
def adU:OO:=oT (oS ["self"] 428)
def ak0:OO:=oG aaI
def adV:OO:=oC aaI 425 46 1 0 0 3 208 181 209 210 211 212 429 430
def adW:OO:=oF aaI v1 213
def adX:OO:=oD [("__module__",420,.str "stillheap.errors" 194),("__firstlineno__",424,.int 44 423),("called",431,.ref 214),("__static_attributes__",432,.ref 215),("__doc__",433,.none)] 2
def adY:OO:=oY "BadView" [5e4] [(.ref 217),5e4,v5,v7,v8,v2] 216 [] (.some (.ref 201)) 413 421 v9
def ak1:OO:=oU 217
def ak2:OO:=oP v4 (.ref 217)
def ak3:OO:=oD [("__module__",443,.str "stillheap.errors" 194),("__qualname__",445,.str "BadAddress" 444),("__firstlineno__",447,.int 48 446),("called",454,.ref 233),("__static_attributes__",455,.ref 234)] 5
def ak4:OO:=oX [50,4,232]
def ak5:OO:=oM "BadAddress" 438 48 223 181 224 441 442
def ak6:OO:=oR 225 3 222 v1
def adZ:OO:=oT (oS ["self"] 451)
def ak7:OO:=oG aaJ
def ad0:OO:=oC aaJ 448 50 1 0 0 3 227 181 228 229 230 231 452 453
def ad1:OO:=oF aaJ v1 232
def ad2:OO:=oD [("__module__",443,.str "stillheap.errors" 194),("__firstlineno__",447,.int 48 446),("called",454,.ref 233),("__static_attributes__",455,.ref 234),("__doc__",456,.none)] 2
def ad3:OO:=oY "BadAddress" [5e4] [(.ref 236),5e4,v5,v7,v8,v2] 235 [] (.some (.ref 220)) 436 444 v9
def ak8:OO:=oU 236
def ak9:OO:=oP v4 (.ref 236)
def ad4:OO:=oT (oS ["x"] 476)
def ala:OO:=oG aaK
def ad5:OO:=oC aaK 473 59 1 0 0 3 239 181 240 241 242 243 477 478
def ad6:OO:=oF aaK v12 244
def ad7:OO:=oT (oS ["t"] 483)
def alb:OO:=oG aaL
def ad8:OO:=oC aaL 480 62 1 0 0 3 246 181 247 248 249 250 484 485
def ad9:OO:=oF aaL v12 251
def aea:OO:=oT (oS ["value"] 490)
def alc:OO:=oG aaM
def aeb:OO:=oC aaM 487 66 1 0 0 3 253 181 254 255 256 257 491 492
def aec:OO:=oF aaM v12 258
def aed:OO:=oT (oS ["fields"] 497)
def ald:OO:=oG aaN
def aee:OO:=oC aaN 494 68 1 0 0 3 260 181 261 262 263 264 498 499
def aef:OO:=oF aaN v12 265
def aeg:OO:=oT (oS ["x"] 504)
def ale:OO:=oG aaO
def aeh:OO:=oC aaO 501 72 1 0 0 3 267 181 268 269 270 271 505 506
def aei:OO:=oF aaO v12 272
def aej:OO:=oT (oS ["h"] 511)
def alf:OO:=oG aaP
def aek:OO:=oC aaP 508 75 1 0 0 3 274 181 275 276 277 278 512 513
def ael:OO:=oF aaP v12 279
def aem:OO:=oT (oS ["w"] 518)
def alg:OO:=oG aaQ
def aen:OO:=oC aaQ 515 78 1 0 0 3 281 181 282 283 284 285 519 520
def aeo:OO:=oF aaQ v12 286
def aep:OO:=oT (oS ["k","fields"] 525)
def alh:OO:=oG aaR
def aeq:OO:=oC aaR 522 81 2 0 0 3 288 181 289 290 291 292 527 528
def aer:OO:=oF aaR v12 293
def aes:OO:=oT (oS ["young","limit"] 533)
def ali:OO:=oG aaS
def aet:OO:=oC aaS 530 84 2 0 0 3 295 181 296 297 298 299 535 536
def aeu:OO:=oF aaS v12 300
def aev:OO:=oT (oS ["memory","a","t","values","k","value"] 543)
def alj:OO:=oG aaT
def aew:OO:=oC aaT 540 90 4 0 0 3 302 181 303 304 305 306 549 550
def aex:OO:=oF aaT v15 307
def alk:OO:=oG aaU
def aey:OO:=oN aaU 552 95 2 0 0 3 309 181 310 311 555 556
def aez:OO:=oF aaU v15 312
def aeA:OO:=oT (oS ["memory","a","word"] 561)
def alm:OO:=oG aaV
def aeB:OO:=oC aaV 558 98 2 0 0 3 314 181 315 316 317 318 564 565
def aeC:OO:=oF aaV v15 319
def aeD:OO:=oT (oS ["memory","a","b","thing"] 570)
def aln:OO:=oG aaW
def aeE:OO:=oC aaW 567 104 3 0 0 3 321 181 322 323 324 325 574 575
def aeF:OO:=oF aaW v15 326
def aeG:OO:=oT (oS ["memory","a"] 580)
def alo:OO:=oG aaX
def aeH:OO:=oC aaX 577 108 2 0 0 3 328 181 329 330 331 332 582 583
def aeI:OO:=oF aaX v15 333
def aeJ:OO:=oT (oS ["memory","a","kinds","word"] 588)
def alp:OO:=oG aaY
def aeK:OO:=oC aaY 585 110 3 0 0 3 335 181 336 337 338 339 592 593
def aeL:OO:=oF aaY v15 340
def aeM:OO:=oT (oS ["memory","a","fields"] 598)
def alq:OO:=oG aaZ
def aeN:OO:=oC aaZ 595 116 3 0 0 3 342 181 343 344 345 346 601 602
def aeO:OO:=oF aaZ v15 347
def aeP:OO:=oT (oS ["ideal","memory","hands","names","book"] 609)
def alr:OO:=oG aa0
def aeQ:OO:=oC aa0 606 120 5 0 0 3 349 181 350 351 352 353 614 615
def aeR:OO:=oF aa0 v13 354
def als:OO:=oG aa1
def aeS:OO:=oN aa1 617 122 5 0 0 3 356 181 357 358 620 621
def aeT:OO:=oF aa1 v13 359
def aeU:OO:=oT (oS ["ideal","memory","book","uses","pair","a"] 626)
def alu:OO:=oG aa2
def aeV:OO:=oC aa2 623 136 3 0 0 3 361 181 362 363 364 365 632 633
def aeW:OO:=oF aa2 v13 366
def alv:OO:=oG aa3
def aeX:OO:=oN aa3 635 146 2 0 0 3 368 181 369 370 638 639
def aeY:OO:=oF aa3 v13 371
def aeZ:OO:=oT (oS ["ideal","memory","book","pair"] 644)
def alw:OO:=oG aa4
def ae0:OO:=oC aa4 641 148 3 0 0 3 373 181 374 375 376 377 648 649
def ae1:OO:=oF aa4 v13 378
def ae2:OO:=oT (oS ["ideal","memory","book","stands","pair","k","value"] 654)
def alx:OO:=oG aa5
def ae3:OO:=oC aa5 651 153 3 0 0 3 380 181 381 382 383 384 661 662
def ae4:OO:=oF aa5 v13 385
def ae5:OO:=oT (oS ["kind","told","memory","words","book","stands","i","value"] 667)
def aly:OO:=oG aa6
def ae6:OO:=oC aa6 664 160 5 0 0 3 387 181 388 389 390 391 675 676
def ae7:OO:=oF aa6 v13 392
def ae8:OO:=oT (oS ["value","memory","word","stands"] 681)
def alz:OO:=oG aa7
def ae9:OO:=oC aa7 678 166 4 0 0 3 394 181 395 396 397 398 685 686
def afa:OO:=oF aa7 v13 399
def afb:OO:=oT (oS ["memory","a"] 691)
def alA:OO:=oG aa8
def afc:OO:=oC aa8 688 170 2 0 0 3 401 181 402 403 404 405 693 694
def afd:OO:=oF aa8 v13 406
def alB:OO:=oG aa9
def afe:OO:=oN aa9 698 176 2 0 0 3 408 181 409 410 701 702
def aff:OO:=oF aa9 v23 411
def afg:OO:=oT (oS ["book","t","pair"] 707)
def alC:OO:=oG aba
def afi:OO:=oC aba 704 182 2 0 0 3 413 181 414 415 416 417 710 711
def afj:OO:=oF aba v23 418
def alD:OO:=oD (ap [("__name__",165,.str "stillheap.heaps" 973),("__doc__",166,.none),("__package__",167,.none),("__loader__",168,.builtin "__main__.__loader__#opaque"),("__spec__",169,.none),("__annotations__",170,.ref 6),("__builtins__",171,.ref 4),("__file__",173,.str "/claim/cut.py" 172),("__cached__",174,.none),("_wall",193,.ref 21),("HeapError",228,.ref 45),("BadHand",251,.ref 65),("BadName",274,.ref 84),("BadField",297,.ref 103),("BadCount",320,.ref 122),("NoRoom",343,.ref 141),("TooManyWords",366,.ref 160),("RoundOn",389,.ref 179),("NoRound",412,.ref 198),("BadView",435,.ref 217),("BadAddress",458,.ref 236),("HANDS",462,.int 8 461),("WEAK_NAMES",464,.int 8 463),("MOST_FIELDS",466,.int 6 465),("LEAST_ROOM",468,.int 7 467),("MOST_YOUNG",470,.int 64 469),("MOST_LIMIT",472,.int 400 471),("number_value",479,.ref 245)] (ap [("thing_value",486,.ref 252),("kind_of",493,.ref 259),("words_of",500,.ref 266),("look_at_number",507,.ref 273),("look_at_hand",514,.ref 280),("look_at_name",521,.ref 287),("look_at_field",529,.ref 294),("look_at_limits",537,.ref 301),("lay",551,.ref 308),("thing_at",557,.ref 313),("resolved",566,.ref 320),("move",576,.ref 327),("fields_at",584,.ref 334),("fields_told",594,.ref 341),("look_at_room",603,.ref 348),("is_picture",616,.ref 355),("first_unlike",622,.ref 360),("first_misplaced",634,.ref 367),("addresses_of",640,.ref 372),("first_headless",650,.ref 379),("first_unlike_field",663,.ref 386),("first_unlike_word",677,.ref 393),("is_like",687,.ref 400),("place_met",695,.ref 407),("book_of",703,.ref 412),("address_in",712,.ref 419),("Hands",818,.ref 499),("MOST_BEARERS",822,.int 12 821)] [("WordTable",898,.ref 562),("last_steps",912,.ref 573),("NameTable",972,.ref 616)])) 59
def alE:OO:=oX (xs0.take 129)
def alF:OO:=oD [("__module__",722,.str "stillheap.hands" 713),("__qualname__",724,.str "Hands" 723),("__firstlineno__",726,.int 188 725),("__init__",733,.ref 433),("word_in",741,.ref 440),("all_words",748,.ref 447),("put",757,.ref 454),("copy",766,.ref 461),("number",775,.ref 468),("kind",784,.ref 475),("value",792,.ref 482),("same",801,.ref 489),("thing_due",809,.ref 496),("__static_attributes__",811,.ref 497)] 14
def alG:OO:=oX [190,4,432,193,4,439,197,4,446,200,4,453,204,4,460,208,4,467,212,4,474,216,4,481,221,4,488,224,4,495]
def alH:OO:=oM "Hands" 717 188 423 181 424 720 721
def alI:OO:=oR 425 3 422 v11
def afk:OO:=oT (oS ["self"] 730)
def alJ:OO:=oG abb
def afm:OO:=oC abb 727 190 1 0 0 3 427 181 428 429 430 431 731 732
def afn:OO:=oF abb v11 432
def afo:OO:=oT (oS ["self","h"] 737)
def alK:OO:=oG abc
def afp:OO:=oC abc 734 193 2 0 0 3 434 181 435 436 437 438 739 740
def afq:OO:=oF abc v11 439
def afr:OO:=oT (oS ["self"] 745)
def alL:OO:=oG abd
def afs:OO:=oC abd 742 197 1 0 0 3 441 181 442 443 444 445 746 747
def aft:OO:=oF abd v11 446
def afu:OO:=oT (oS ["self","h","word"] 752)
def alM:OO:=oG abe
def afv:OO:=oC abe 749 200 3 0 0 3 448 181 449 450 451 452 755 756
def afw:OO:=oF abe v11 453
def afx:OO:=oT (oS ["self","h","g"] 761)
def alN:OO:=oG abf
def afy:OO:=oC abf 758 204 3 0 0 3 455 181 456 457 458 459 764 765
def afz:OO:=oF abf v11 460
def afA:OO:=oT (oS ["self","h","x"] 770)
def alO:OO:=oG abg
def afB:OO:=oC abg 767 208 3 0 0 3 462 181 463 464 465 466 773 774
def afC:OO:=oF abg v11 467
def afD:OO:=oT (oS ["self","h","kind"] 779)
def alP:OO:=oG abh
def afE:OO:=oC abh 776 212 2 0 0 3 469 181 470 471 472 473 782 783
def afF:OO:=oF abh v11 474
def afG:OO:=oT (oS ["self","h"] 788)
def alQ:OO:=oG abi
def afH:OO:=oC abi 785 216 2 0 0 3 476 181 477 478 479 480 790 791
def afI:OO:=oF abi v11 481
def afJ:OO:=oT (oS ["self","h","g"] 796)
def alR:OO:=oG abj
def afK:OO:=oC abj 793 221 3 0 0 3 483 181 484 485 486 487 799 800
def afL:OO:=oF abj v11 488
def afM:OO:=oT (oS ["self","h"] 805)
def alS:OO:=oG abk
def afN:OO:=oC abk 802 224 2 0 0 3 490 181 491 492 493 494 807 808
def afO:OO:=oF abk v11 495
def afP:OO:=oT (oS ["words_held"] 810)
def afQ:OO:=oD [("__module__",722,.str "stillheap.hands" 713),("__firstlineno__",726,.int 188 725),("__init__",733,.ref 433),("word_in",741,.ref 440),("all_words",748,.ref 447),("put",757,.ref 454),("copy",766,.ref 461),("number",775,.ref 468),("kind",784,.ref 475),("value",792,.ref 482),("same",801,.ref 489),("thing_due",809,.ref 496),("__static_attributes__",811,.ref 497),("__dict__",813,.ref 500),("__weakref__",815,.ref 501),("__doc__",816,.none)] 4
def afR:OO:=oY "Hands" [v2] [(.ref 499),v2] 498 [] none 715 723 v18
def afS:OO:=λ_=>⟨v10,none,(.fields (List.toArray [(.str "__dict__" 812),(.ref 499),v20,v21])),#[]⟩
def afT:OO:=λ_=>⟨v10,none,(.fields (List.toArray [(.str "__weakref__" 814),(.ref 499),v17,.none])),#[]⟩
def alT:OO:=oU 499
def alU:OO:=oP v4 (.ref 499)
def alV:OO:=oD [("__module__",830,.str "stillheap.lastwords" 819),("__qualname__",832,.str "WordTable" 831),("__firstlineno__",834,.int 230 833),("__init__",841,.ref 517),("bear",850,.ref 524),("word_of",858,.ref 531),("bearers",865,.ref 538),("settle",874,.ref 545),("take",881,.ref 552),("said",888,.ref 559),("__static_attributes__",891,.ref 560)] 11
def alW:OO:=oX [232,4,516,236,4,523,241,4,530,244,4,537,247,4,544,252,4,551,255,4,558]
def alX:OO:=oM "WordTable" 825 230 507 181 508 828 829
def alY:OO:=oR 509 3 506 v14
def afU:OO:=oT (oS ["self"] 838)
def alZ:OO:=oG abl
def afV:OO:=oC abl 835 232 1 0 0 3 511 181 512 513 514 515 839 840
def afW:OO:=oF abl v14 516
def afX:OO:=oT (oS ["self","t","x"] 845)
def al0:OO:=oG abm
def afY:OO:=oC abm 842 236 3 0 0 3 518 181 519 520 521 522 848 849
def afZ:OO:=oF abm v14 523
def af0:OO:=oT (oS ["self","t"] 854)
def al1:OO:=oG abn
def af1:OO:=oC abn 851 241 2 0 0 3 525 181 526 527 528 529 856 857
def af2:OO:=oF abn v14 530
def af3:OO:=oT (oS ["self"] 862)
def al2:OO:=oG abo
def af4:OO:=oC abo 859 244 1 0 0 3 532 181 533 534 535 536 863 864
def af5:OO:=oF abo v14 537
def af6:OO:=oT (oS ["self","things","t"] 869)
def al3:OO:=oG abp
def af7:OO:=oC abp 866 247 2 0 0 3 539 181 540 541 542 543 872 873
def af8:OO:=oF abp v14 544
def af9:OO:=oT (oS ["self"] 878)
def al4:OO:=oG abq
def aga:OO:=oC abq 875 252 1 0 0 3 546 181 547 548 549 550 879 880
def agb:OO:=oF abq v14 551
def agc:OO:=oT (oS ["self"] 885)
def al5:OO:=oG abr
def agd:OO:=oC abr 882 255 1 0 0 3 553 181 554 555 556 557 886 887
def age:OO:=oF abr v14 558
def agf:OO:=oT (oS ["words_borne","words_said"] 889)
def agg:OO:=oD [("__module__",830,.str "stillheap.lastwords" 819),("__firstlineno__",834,.int 230 833),("__init__",841,.ref 517),("bear",850,.ref 524),("word_of",858,.ref 531),("bearers",865,.ref 538),("settle",874,.ref 545),("take",881,.ref 552),("said",888,.ref 559),("__static_attributes__",891,.ref 560),("__dict__",893,.ref 563),("__weakref__",895,.ref 564),("__doc__",896,.none)] 4
def agh:OO:=oY "WordTable" [v2] [(.ref 562),v2] 561 [] none 823 831 v18
def agi:OO:=λ_=>⟨v10,none,(.fields (List.toArray [(.str "__dict__" 892),(.ref 562),v20,v21])),#[]⟩
def agj:OO:=λ_=>⟨v10,none,(.fields (List.toArray [(.str "__weakref__" 894),(.ref 562),v17,.none])),#[]⟩
def al6:OO:=oU 562
def al7:OO:=oP v4 (.ref 562)
def agk:OO:=oT (oS ["view","steps","place","thing","met","done"] 904)
def al8:OO:=oG abt
def agl:OO:=oC abt 901 258 1 0 0 3 567 181 568 569 570 571 910 911
def agm:OO:=oF abt (.str "stillheap.reach" 899) 572
def al9:OO:=oD [("__module__",922,.str "stillheap.weaknames" 913),("__qualname__",924,.str "NameTable" 923),("__firstlineno__",926,.int 273 925),("__init__",933,.ref 587),("name",942,.ref 594),("named",950,.ref 601),("all_named",957,.ref 608),("settle",963,.ref 613),("__static_attributes__",965,.ref 614)] 9
def ama:OO:=oX [275,4,586,278,4,593,282,4,600,286,4,607,289,4,612]
def amb:OO:=oM "NameTable" 917 273 577 181 578 920 921
def amc:OO:=oR 579 3 576 v19
def agn:OO:=oT (oS ["self"] 930)
def amd:OO:=oG abu
def ago:OO:=oC abu 927 275 1 0 0 3 581 181 582 583 584 585 931 932
def agp:OO:=oF abu v19 586
def agq:OO:=oT (oS ["self","w","t"] 937)
def ame:OO:=oG abv
def agr:OO:=oC abv 934 278 3 0 0 3 588 181 589 590 591 592 940 941
def ags:OO:=oF abv v19 593
def agt:OO:=oT (oS ["self","w"] 946)
def amf:OO:=oG abw
def agu:OO:=oC abw 943 282 2 0 0 3 595 181 596 597 598 599 948 949
def agv:OO:=oF abw v19 600
def agw:OO:=oT (oS ["self"] 954)
def amh:OO:=oG abx
def agx:OO:=oC abx 951 286 1 0 0 3 602 181 603 604 605 606 955 956
def agy:OO:=oF abx v19 607
def ami:OO:=oG aby
def agz:OO:=oN aby 958 289 2 0 0 3 609 181 610 611 961 962
def agA:OO:=oF aby v19 612
def agB:OO:=oT (oS ["things_named"] 964)
def agC:OO:=oD [("__module__",922,.str "stillheap.weaknames" 913),("__firstlineno__",926,.int 273 925),("__init__",933,.ref 587),("name",942,.ref 594),("named",950,.ref 601),("all_named",957,.ref 608),("settle",963,.ref 613),("__static_attributes__",965,.ref 614),("__dict__",967,.ref 617),("__weakref__",969,.ref 618),("__doc__",970,.none)] 4
def agD:OO:=oY "NameTable" [v2] [(.ref 616),v2] 615 [] none 915 923 v18
def agE:OO:=λ_=>⟨v10,none,(.fields (List.toArray [(.str "__dict__" 966),(.ref 616),v20,v21])),#[]⟩
def agF:OO:=λ_=>⟨v10,none,(.fields (List.toArray [(.str "__weakref__" 968),(.ref 616),v17,.none])),#[]⟩
def amj:OO:=oU 616
def amk:OO:=oP v4 (.ref 616)
def aml:OO:=oD (ap [("__name__",165,.str "stillheap.memory" 1363),("__doc__",166,.none),("__package__",167,.none),("__loader__",168,.builtin "__main__.__loader__#opaque"),("__spec__",169,.none),("__annotations__",170,.ref 6),("__builtins__",171,.ref 4),("__file__",173,.str "/claim/cut.py" 172),("__cached__",174,.none),("_wall",193,.ref 21),("HeapError",228,.ref 45),("BadHand",251,.ref 65),("BadName",274,.ref 84),("BadField",297,.ref 103),("BadCount",320,.ref 122),("NoRoom",343,.ref 141),("TooManyWords",366,.ref 160),("RoundOn",389,.ref 179),("NoRound",412,.ref 198),("BadView",435,.ref 217),("BadAddress",458,.ref 236),("HANDS",462,.int 8 461),("WEAK_NAMES",464,.int 8 463),("MOST_FIELDS",466,.int 6 465),("LEAST_ROOM",468,.int 7 467),("MOST_YOUNG",470,.int 64 469),("MOST_LIMIT",472,.int 400 471),("number_value",479,.ref 245)] (ap [("thing_value",486,.ref 252),("kind_of",493,.ref 259),("words_of",500,.ref 266),("look_at_number",507,.ref 273),("look_at_hand",514,.ref 280),("look_at_name",521,.ref 287),("look_at_field",529,.ref 294),("look_at_limits",537,.ref 301),("lay",551,.ref 308),("thing_at",557,.ref 313),("resolved",566,.ref 320),("move",576,.ref 327),("fields_at",584,.ref 334),("fields_told",594,.ref 341),("look_at_room",603,.ref 348),("is_picture",616,.ref 355),("first_unlike",622,.ref 360),("first_misplaced",634,.ref 367),("addresses_of",640,.ref 372),("first_headless",650,.ref 379),("first_unlike_field",663,.ref 386),("first_unlike_word",677,.ref 393),("is_like",687,.ref 400),("place_met",695,.ref 407),("book_of",703,.ref 412),("address_in",712,.ref 419),("Hands",818,.ref 499),("MOST_BEARERS",822,.int 12 821)] [("WordTable",898,.ref 562),("last_steps",912,.ref 573),("NameTable",972,.ref 616),("Heap",1149,.ref 743),("thing_among",1157,.ref 754),("IdealHeap",1362,.ref 925)])) 62
def amm:OO:=oX (xs0.take 138)
def amn:OO:=oD [("__module__",982,.str "stillheap.heaps" 973),("__qualname__",984,.str "Heap" 983),("__firstlineno__",986,.int 292 985),("__init__",994,.ref 634),("add_thing",1004,.ref 641),("load",1015,.ref 648),("store",1027,.ref 655),("copy",1036,.ref 662),("drop",1044,.ref 669),("number",1053,.ref 676),("name",1063,.ref 683),("read_thing",1073,.ref 690),("word",1083,.ref 697),("small_round",1089,.ref 702),("let_go",1098,.ref 709),("look_at_held",1106,.ref 716),("field_value",1115,.ref 723),("counts_held",1122,.ref 730),("words_among",1128,.ref 735),("led_among",1134,.ref 740),("__static_attributes__",1142,.ref 741)] 21
def amo:OO:=oX [294,4,633,303,4,640,311,4,647,317,4,654,323,4,661,326,4,668,329,4,675,332,4,682,336,4,689,342,4,696,347,4,701,358,4,708,364,4,715,368,4,722,371,4,729,374,4,734,377,4,739]
def amq:OO:=oM "Heap" 977 292 624 181 625 980 981
def amr:OO:=oR 626 3 623 v3
def agG:OO:=oT (oS ["self","makes_young"] 990)
def ams:OO:=oG abz
def agH:OO:=oC abz 987 294 2 0 0 3 628 181 629 630 631 632 992 993
def agI:OO:=oF abz v3 633
def agJ:OO:=oT (oS ["self","h","n","t"] 998)
def amt:OO:=oG abA
def agK:OO:=oC abA 995 303 3 0 0 3 635 181 636 637 638 639 1002 1003
def agL:OO:=oF abA v3 640
def agM:OO:=oT (oS ["self","h","g","k","fields"] 1008)
def amu:OO:=oG abB
def agN:OO:=oC abB 1005 311 4 0 0 3 642 181 643 644 645 646 1013 1014
def agO:OO:=oF abB v3 647
def agP:OO:=oT (oS ["self","g","k","h","fields","value"] 1019)
def amv:OO:=oG abC
def agQ:OO:=oC abC 1016 317 4 0 0 3 649 181 650 651 652 653 1025 1026
def agR:OO:=oF abC v3 654
def agS:OO:=oT (oS ["self","h","g"] 1031)
def amw:OO:=oG abD
def agT:OO:=oC abD 1028 323 3 0 0 3 656 181 657 658 659 660 1034 1035
def agU:OO:=oF abD v3 661
def agV:OO:=oT (oS ["self","h"] 1040)
def amx:OO:=oG abE
def agW:OO:=oC abE 1037 326 2 0 0 3 663 181 664 665 666 667 1042 1043
def agX:OO:=oF abE v3 668
def agY:OO:=oT (oS ["self","h","x"] 1048)
def amy:OO:=oG abF
def agZ:OO:=oC abF 1045 329 3 0 0 3 670 181 671 672 673 674 1051 1052
def ag0:OO:=oF abF v3 675
def ag1:OO:=oT (oS ["self","w","h","t"] 1057)
def amz:OO:=oG abG
def ag2:OO:=oC abG 1054 332 3 0 0 3 677 181 678 679 680 681 1061 1062
def ag3:OO:=oF abG v3 682
def ag4:OO:=oT (oS ["self","h","w","t"] 1067)
def amA:OO:=oG abH
def ag5:OO:=oC abH 1064 336 3 0 0 3 684 181 685 686 687 688 1071 1072
def ag6:OO:=oF abH v3 689
def ag7:OO:=oT (oS ["self","h","x","t"] 1077)
def amB:OO:=oG abI
def ag8:OO:=oC abI 1074 342 3 0 0 3 691 181 692 693 694 695 1081 1082
def ag9:OO:=oF abI v3 696
def amC:OO:=oG abJ
def aha:OO:=oN abJ 1084 347 1 0 0 3 698 181 699 700 1087 1088
def ahb:OO:=oF abJ v3 701
def ahc:OO:=oT (oS ["self","gone","t"] 1093)
def amD:OO:=oG abK
def ahe:OO:=oC abK 1090 358 2 0 0 3 703 181 704 705 706 707 1096 1097
def ahf:OO:=oF abK v3 708
def ahg:OO:=oT (oS ["self","t"] 1102)
def amE:OO:=oG abL
def ahh:OO:=oC abL 1099 364 2 0 0 3 710 181 711 712 713 714 1104 1105
def ahi:OO:=oF abL v3 715
def ahj:OO:=oT (oS ["self","t","k"] 1110)
def amF:OO:=oG abM
def ahk:OO:=oC abM 1107 368 3 0 0 3 717 181 718 719 720 721 1113 1114
def ahm:OO:=oF abM v3 722
def ahn:OO:=oT (oS ["self"] 1119)
def amG:OO:=oG abN
def aho:OO:=oC abN 1116 371 1 0 0 3 724 181 725 726 727 728 1120 1121
def ahp:OO:=oF abN v3 729
def amH:OO:=oG abO
def ahq:OO:=oN abO 1123 374 2 0 0 3 731 181 732 733 1126 1127
def ahr:OO:=oF abO v3 734
def amI:OO:=oG abP
def ahs:OO:=oN abP 1129 377 3 0 0 3 736 181 737 738 1132 1133
def aht:OO:=oF abP v3 739
def ahu:OO:=oT (oS ["fields_held","in_hands","last_words","makes_young","next_thing","weak_names","young_things"] 1135)
def ahv:OO:=oD [("__module__",982,.str "stillheap.heaps" 973),("__firstlineno__",986,.int 292 985),("__init__",994,.ref 634),("add_thing",1004,.ref 641),("load",1015,.ref 648),("store",1027,.ref 655),("copy",1036,.ref 662),("drop",1044,.ref 669),("number",1053,.ref 676),("name",1063,.ref 683),("read_thing",1073,.ref 690),("word",1083,.ref 697),("small_round",1089,.ref 702),("let_go",1098,.ref 709),("look_at_held",1106,.ref 716),("field_value",1115,.ref 723),("counts_held",1122,.ref 730),("words_among",1128,.ref 735),("led_among",1134,.ref 740),("__static_attributes__",1142,.ref 741),("__dict__",1144,.ref 744),("__weakref__",1146,.ref 745),("__doc__",1147,.none)] 4
def ahw:OO:=oY "Heap" [v2] [(.ref 743),v2] 742 [(.ref 925)] none 975 983 v18
def ahx:OO:=λ_=>⟨v10,none,(.fields (List.toArray [(.str "__dict__" 1143),(.ref 743),v20,v21])),#[]⟩
def ahy:OO:=λ_=>⟨v10,none,(.fields (List.toArray [(.str "__weakref__" 1145),(.ref 743),v17,.none])),#[]⟩
def amJ:OO:=oU 743
def amK:OO:=oP v4 (.ref 743)
def ahz:OO:=oT (oS ["value","things"] 1153)
def amL:OO:=oG abQ
def ahA:OO:=oC abQ 1150 382 2 0 0 3 748 181 749 750 751 752 1155 1156
def ahB:OO:=oF abQ v3 753
def ahC:OO:=oT [(.ref 743)]
def amM:OO:=oD [("__module__",1167,.str "stillheap.ideal" 1158),("__qualname__",1169,.str "IdealHeap" 1168),("__firstlineno__",1171,.int 387 1170),("__init__",1180,.ref 768),("make",1190,.ref 775),("read",1200,.ref 782),("take",1207,.ref 789),("kind",1215,.ref 796),("value",1223,.ref 803),("fields",1231,.ref 810),("same",1240,.ref 817),("held",1247,.ref 824),("small",1254,.ref 831),("begin",1263,.ref 838),("end",1271,.ref 845),("round_on",1278,.ref 852),("hands",1285,.ref 859),("names",1292,.ref 866),("things",1299,.ref 873),("fields_of",1307,.ref 880),("is_old",1315,.ref 887),("word_of",1323,.ref 894),("doomed",1330,.ref 901),("said",1337,.ref 908),("made",1344,.ref 915),("spare",1354,.ref 922),("__static_attributes__",1359,.ref 923)] 27
def amN:OO:=oX [389,4,767,397,4,774,406,4,781,411,4,788,414,4,795,417,4,802,420,4,809,423,4,816,426,4,823,429,4,830,432,4,837,442,4,844,450,4,851,453,4,858,456,4,865,459,4,872,462,4,879,466,4,886,469,4,893,472,4,900,475,4,907,478,4,914,481,4,921]
def amO:OO:=oM "IdealHeap" 1162 387 758 181 759 1165 1166
def amP:OO:=oR 760 3 757 v0
def ahD:OO:=oT (oS ["self","young","limit"] 1175)
def amQ:OO:=oG abR
def ahE:OO:=oC abR 1172 389 3 0 0 3 762 181 763 764 765 766 1178 1179
def ahF:OO:=oF abR v0 767
def ahG:OO:=oT (oS ["self","h","n","size"] 1184)
def amR:OO:=oG abS
def ahH:OO:=oC abS 1181 397 3 0 0 3 769 181 770 771 772 773 1188 1189
def ahI:OO:=oF abS v0 774
def ahJ:OO:=oT (oS ["self","h","w","t"] 1194)
def amS:OO:=oG abT
def ahK:OO:=oC abT 1191 406 3 0 0 3 776 181 777 778 779 780 1198 1199
def ahL:OO:=oF abT v0 781
def ahM:OO:=oT (oS ["self"] 1204)
def amT:OO:=oG abU
def ahN:OO:=oC abU 1201 411 1 0 0 3 783 181 784 785 786 787 1205 1206
def ahO:OO:=oF abU v0 788
def ahP:OO:=oT (oS ["self","h"] 1211)
def amU:OO:=oG abV
def ahQ:OO:=oC abV 1208 414 2 0 0 3 790 181 791 792 793 794 1213 1214
def ahR:OO:=oF abV v0 795
def ahS:OO:=oT (oS ["self","h"] 1219)
def amV:OO:=oG abW
def ahT:OO:=oC abW 1216 417 2 0 0 3 797 181 798 799 800 801 1221 1222
def ahU:OO:=oF abW v0 802
def ahV:OO:=oT (oS ["self","h"] 1227)
def amW:OO:=oG abX
def ahW:OO:=oC abX 1224 420 2 0 0 3 804 181 805 806 807 808 1229 1230
def ahX:OO:=oF abX v0 809
def ahY:OO:=oT (oS ["self","h","g"] 1235)
def amX:OO:=oG abY
def ahZ:OO:=oC abY 1232 423 3 0 0 3 811 181 812 813 814 815 1238 1239
def ah0:OO:=oF abY v0 816
def ah1:OO:=oT (oS ["self"] 1244)
def amY:OO:=oG abZ
def ah2:OO:=oC abZ 1241 426 1 0 0 3 818 181 819 820 821 822 1245 1246
def ah3:OO:=oF abZ v0 823
def ah4:OO:=oT (oS ["self"] 1251)
def amZ:OO:=oG ab0
def ah5:OO:=oC ab0 1248 429 1 0 0 3 825 181 826 827 828 829 1252 1253
def ah6:OO:=oF ab0 v0 830
def ah7:OO:=oT (oS ["self","kept","t"] 1258)
def am0:OO:=oG ab1
def ah8:OO:=oC ab1 1255 432 1 0 0 3 832 181 833 834 835 836 1261 1262
def ah9:OO:=oF ab1 v0 837
def aia:OO:=oT (oS ["self","gone"] 1267)
def am1:OO:=oG ab2
def aib:OO:=oC ab2 1264 442 1 0 0 3 839 181 840 841 842 843 1269 1270
def aic:OO:=oF ab2 v0 844
def aid:OO:=oT (oS ["self"] 1275)
def am2:OO:=oG ab3
def aie:OO:=oC ab3 1272 450 1 0 0 3 846 181 847 848 849 850 1276 1277
def aif:OO:=oF ab3 v0 851
def aih:OO:=oT (oS ["self"] 1282)
def am3:OO:=oG ab4
def aii:OO:=oC ab4 1279 453 1 0 0 3 853 181 854 855 856 857 1283 1284
def aij:OO:=oF ab4 v0 858
def aik:OO:=oT (oS ["self"] 1289)
def am4:OO:=oG ab5
def ail:OO:=oC ab5 1286 456 1 0 0 3 860 181 861 862 863 864 1290 1291
def aim:OO:=oF ab5 v0 865
def ain:OO:=oT (oS ["self"] 1296)
def am5:OO:=oG ab6
def aio:OO:=oC ab6 1293 459 1 0 0 3 867 181 868 869 870 871 1297 1298
def aip:OO:=oF ab6 v0 872
def aiq:OO:=oT (oS ["self","t"] 1303)
def am6:OO:=oG ab7
def air:OO:=oC ab7 1300 462 2 0 0 3 874 181 875 876 877 878 1305 1306
def ais:OO:=oF ab7 v0 879
def ait:OO:=oT (oS ["self","t"] 1311)
def am7:OO:=oG ab8
def aiu:OO:=oC ab8 1308 466 2 0 0 3 881 181 882 883 884 885 1313 1314
def aiv:OO:=oF ab8 v0 886
def aiw:OO:=oT (oS ["self","t"] 1319)
def am8:OO:=oG ab9
def aix:OO:=oC ab9 1316 469 2 0 0 3 888 181 889 890 891 892 1321 1322
def aiy:OO:=oF ab9 v0 893
def aiz:OO:=oT (oS ["self"] 1327)
def am9:OO:=oG WE
def aiA:OO:=oC WE 1324 472 1 0 0 3 895 181 896 897 898 899 1328 1329
def aiB:OO:=oF WE v0 900
def aiC:OO:=oT (oS ["self"] 1334)
def ana:OO:=oG WG
def aiD:OO:=oC WG 1331 475 1 0 0 3 902 181 903 904 905 906 1335 1336
def aiE:OO:=oF WG v0 907
def aiF:OO:=oT (oS ["self"] 1341)
def anb:OO:=oG WH
def aiG:OO:=oC WH 1338 478 1 0 0 3 909 181 910 911 912 913 1342 1343
def aiH:OO:=oF WH v0 914
def aiI:OO:=oT (oS ["self","t","spared","other"] 1348)
def anc:OO:=oG WI
def aiJ:OO:=oC WI 1345 481 2 0 0 3 916 181 917 918 919 920 1352 1353
def aiK:OO:=oF WI v0 921
def aiL:OO:=oT (oS ["doomed_things","in_round","limit","young_room"] 1355)
def aiM:OO:=oD [("__module__",1167,.str "stillheap.ideal" 1158),("__firstlineno__",1171,.int 387 1170),("__init__",1180,.ref 768),("make",1190,.ref 775),("read",1200,.ref 782),("take",1207,.ref 789),("kind",1215,.ref 796),("value",1223,.ref 803),("fields",1231,.ref 810),("same",1240,.ref 817),("held",1247,.ref 824),("small",1254,.ref 831),("begin",1263,.ref 838),("end",1271,.ref 845),("round_on",1278,.ref 852),("hands",1285,.ref 859),("names",1292,.ref 866),("things",1299,.ref 873),("fields_of",1307,.ref 880),("is_old",1315,.ref 887),("word_of",1323,.ref 894),("doomed",1330,.ref 901),("said",1337,.ref 908),("made",1344,.ref 915),("spare",1354,.ref 922),("__static_attributes__",1359,.ref 923),("__doc__",1360,.none)] 2
def aiN:OO:=oY "IdealHeap" [(.ref 743)] [(.ref 925),(.ref 743),v2] 924 [] (.some (.ref 755)) 1160 1168 v18
def ane:OO:=oU 925
def anf:OO:=oP v4 (.ref 925)
def aiO:OO:=oD (ap [("__name__",165,.str "law_stillheap_k39_whole_pictures_by_addresse" 1433),("__doc__",166,.none),("__package__",167,.none),("__loader__",168,.builtin "__main__.__loader__#opaque"),("__spec__",169,.none),("__annotations__",170,.ref 6),("__builtins__",171,.ref 4),("__file__",173,.str "/claim/cut.py" 172),("__cached__",174,.none),("_wall",193,.ref 21),("HeapError",228,.ref 45),("BadHand",251,.ref 65),("BadName",274,.ref 84),("BadField",297,.ref 103),("BadCount",320,.ref 122),("NoRoom",343,.ref 141),("TooManyWords",366,.ref 160),("RoundOn",389,.ref 179),("NoRound",412,.ref 198),("BadView",435,.ref 217),("BadAddress",458,.ref 236),("HANDS",462,.int 8 461),("WEAK_NAMES",464,.int 8 463),("MOST_FIELDS",466,.int 6 465),("LEAST_ROOM",468,.int 7 467),("MOST_YOUNG",470,.int 64 469),("MOST_LIMIT",472,.int 400 471),("number_value",479,.ref 245)] (ap [("thing_value",486,.ref 252),("kind_of",493,.ref 259),("words_of",500,.ref 266),("look_at_number",507,.ref 273),("look_at_hand",514,.ref 280),("look_at_name",521,.ref 287),("look_at_field",529,.ref 294),("look_at_limits",537,.ref 301),("lay",551,.ref 308),("thing_at",557,.ref 313),("resolved",566,.ref 320),("move",576,.ref 327),("fields_at",584,.ref 334),("fields_told",594,.ref 341),("look_at_room",603,.ref 348),("is_picture",616,.ref 355),("first_unlike",622,.ref 360),("first_misplaced",634,.ref 367),("addresses_of",640,.ref 372),("first_headless",650,.ref 379),("first_unlike_field",663,.ref 386),("first_unlike_word",677,.ref 393),("is_like",687,.ref 400),("place_met",695,.ref 407),("book_of",703,.ref 412),("address_in",712,.ref 419),("Hands",818,.ref 499),("MOST_BEARERS",822,.int 12 821)] [("WordTable",898,.ref 562),("last_steps",912,.ref 573),("NameTable",972,.ref 616),("Heap",1149,.ref 743),("thing_among",1157,.ref 754),("IdealHeap",1362,.ref 925),("Memory",1432,.ref 979),("_law_cell",1442,.ref 990),("_law_mixed",1452,.ref 997),("_law_numbers",1466,.ref 1004),("_law_deed",1478,.ref 1011),("_law_round",1486,.ref 1018),("_law_heap",1497,.ref 1025),("_law_places",1509,.ref 1032),("_law_spoken",1518,.ref 1039),("_law_model",1524,.ref 1044),("_law_memory",1533,.ref 1051),("_law_said",1541,.ref 1058),("_law_shape",1547,.ref 1063),("_law_roomy",1555,.ref 1070),("_law_moved",1561,.ref 1075),("law",1567,.ref 1080)])) 78
def ang:OO:=oX (xs0.take 186)
def anh:OO:=oD [("__module__",1372,.str "stillheap.memory" 1363),("__qualname__",1374,.str "Memory" 1373),("__firstlineno__",1376,.int 486 1375),("__init__",1384,.ref 941),("size",1391,.ref 948),("at",1399,.ref 955),("put",1408,.ref 962),("copy_of",1415,.ref 969),("look_at_address",1423,.ref 976),("__static_attributes__",1425,.ref 977)] 10
def ani:OO:=oX [488,4,940,491,4,947,494,4,954,498,4,961,502,4,968,505,4,975]
def anj:OO:=oM "Memory" 1367 486 931 181 932 1370 1371
def ank:OO:=oR 933 3 930 v16
def aiP:OO:=oT (oS ["self","size"] 1380)
def anm:OO:=oG WJ
def aiQ:OO:=oC WJ 1377 488 2 0 0 3 935 181 936 937 938 939 1382 1383
def aiR:OO:=oF WJ v16 940
def aiS:OO:=oT (oS ["self"] 1388)
def ano:OO:=oG WK
def aiT:OO:=oC WK 1385 491 1 0 0 3 942 181 943 944 945 946 1389 1390
def aiU:OO:=oF WK v16 947
def aiV:OO:=oT (oS ["self","a"] 1395)
def anp:OO:=oG WL
def aiW:OO:=oC WL 1392 494 2 0 0 3 949 181 950 951 952 953 1397 1398
def aiX:OO:=oF WL v16 954
def aiY:OO:=oT (oS ["self","a","word"] 1403)
def anq:OO:=oG WM
def aiZ:OO:=oC WM 1400 498 3 0 0 3 956 181 957 958 959 960 1406 1407
def ai0:OO:=oF WM v16 961
def ai1:OO:=oT (oS ["self"] 1412)
def anr:OO:=oG WN
def ai2:OO:=oC WN 1409 502 1 0 0 3 963 181 964 965 966 967 1413 1414
def ai3:OO:=oF WN v16 968
def ai4:OO:=oT (oS ["self","a"] 1419)
def ans:OO:=oG WO
def ai5:OO:=oC WO 1416 505 2 0 0 3 970 181 971 972 973 974 1421 1422
def ai6:OO:=oF WO v16 975
def ai7:OO:=oT (oS ["cells"] 1424)
def ai8:OO:=oD [("__module__",1372,.str "stillheap.memory" 1363),("__firstlineno__",1376,.int 486 1375),("__init__",1384,.ref 941),("size",1391,.ref 948),("at",1399,.ref 955),("put",1408,.ref 962),("copy_of",1415,.ref 969),("look_at_address",1423,.ref 976),("__static_attributes__",1425,.ref 977),("__dict__",1427,.ref 980),("__weakref__",1429,.ref 981),("__doc__",1430,.none)] 4
def ai9:OO:=oY "Memory" [v2] [(.ref 979),v2] 978 [] none 1365 1373 v18
def aja:OO:=λ_=>⟨v10,none,(.fields (List.toArray [(.str "__dict__" 1426),(.ref 979),v20,v21])),#[]⟩
def ajb:OO:=λ_=>⟨v10,none,(.fields (List.toArray [(.str "__weakref__" 1428),(.ref 979),v17,.none])),#[]⟩
def anu:OO:=oU 979
def anv:OO:=oP v4 (.ref 979)
def ajc:OO:=oT (oS ["script","k"] 1438)
def anw:OO:=oG WQ
def ajd:OO:=oC WQ 1435 509 2 0 0 3 984 181 985 986 987 988 1440 1441
def aje:OO:=oF WQ v6 989
def ajf:OO:=oT (oS ["cell","k","first","second"] 1446)
def anx:OO:=oG WR
def ajg:OO:=oC WR 1443 513 2 0 0 3 991 181 992 993 994 995 1450 1451
def ajh:OO:=oF WR v6 996
def aji:OO:=oT (oS ["script","most","numbers","way","k","cell","rest","turn"] 1456)
def anz:OO:=oG WS
def ajj:OO:=oC WS 1453 517 2 0 0 3 998 181 999 1000 1001 1002 1464 1465
def ajk:OO:=oF WS v6 1003
def ajl:OO:=oT (oS ["heap","number","way","h","g","k"] 1470)
def anA:OO:=oG WT
def ajm:OO:=oC WT 1467 526 2 0 0 3 1005 181 1006 1007 1008 1009 1476 1477
def ajn:OO:=oF WT v6 1010
def ajo:OO:=oT (oS ["heap","way"] 1482)
def anB:OO:=oG WU
def ajp:OO:=oC WU 1479 551 2 0 0 3 1012 181 1013 1014 1015 1016 1484 1485
def ajq:OO:=oF WU v6 1017
def ajr:OO:=oT (oS ["script","most","heap","refused","number"] 1490)
def anC:OO:=oG WW
def ajs:OO:=oC WW 1487 556 2 0 0 3 1019 181 1020 1021 1022 1023 1495 1496
def ajt:OO:=oF WW v6 1024
def aju:OO:=oT (oS ["heap","seed","things","places","a","t"] 1501)
def anD:OO:=oG WX
def ajv:OO:=oC WX 1498 565 2 0 0 3 1026 181 1027 1028 1029 1030 1507 1508
def ajw:OO:=oF WX v6 1031
def ajx:OO:=oT (oS ["value","leads","m"] 1513)
def anE:OO:=oG WY
def ajy:OO:=oC WY 1510 574 3 0 0 3 1033 181 1034 1035 1036 1037 1516 1517
def ajz:OO:=oF WY v6 1038
def anF:OO:=oG WZ
def ajA:OO:=oN WZ 1519 578 2 0 0 3 1040 181 1041 1042 1522 1523
def ajB:OO:=oF WZ v6 1043
def ajC:OO:=oT (oS ["model","memory","a"] 1528)
def anG:OO:=oG W2
def ajD:OO:=oC W2 1525 595 1 0 0 3 1045 181 1046 1047 1048 1049 1531 1532
def ajE:OO:=oF W2 v6 1050
def ajF:OO:=oT (oS ["memory","word"] 1537)
def anH:OO:=oG W3
def ajG:OO:=oC W3 1534 600 2 0 0 3 1052 181 1053 1054 1055 1056 1539 1540
def ajH:OO:=oF W3 v6 1057
def anI:OO:=oG Xa
def ajI:OO:=oN Xa 1542 604 4 0 0 3 1059 181 1060 1061 1545 1546
def ajJ:OO:=oF Xa v6 1062
def ajK:OO:=oT (oS ["model","more"] 1551)
def anJ:OO:=oG Xb
def ajL:OO:=oC Xb 1548 610 2 0 0 3 1064 181 1065 1066 1067 1068 1553 1554
def ajM:OO:=oF Xb v6 1069
def anK:OO:=oG Xc
def ajN:OO:=oN Xc 1556 612 5 0 0 3 1071 181 1072 1073 1559 1560
def ajO:OO:=oF Xc v6 1074
def anL:OO:=oG Xd
def ajP:OO:=oN Xd 1562 625 1 0 0 3 1076 181 1077 1078 1565 1566
def ajQ:OO:=oF Xd v6 1079
def hL:List OO:=o0::o1::o2::aiO::o4::o5::o6::o7::o8::o9::o10::o7::ang::o11::o12::o7::o8::o15::o7::o16::o17::o18::o19::o20::o21::o7::o22::o23::o24::o7::o8::o25::o7::o26::o27::o28::o7::o8::o29::o7::o30::o31::o32::o7::o33::adO::o35::o36::o37::o38::o20::o39::o7::o40::o41::o42::o7::o8::o43::o7::o44::o45::o46::o7::o47::o48::o49::o50::o38::o20::o51::o7::o52::o53::o54::o7::o8::o55::o7::o56::o57::o58::o7::o59::o60::o61::o62::o38::o20::o63::o7::o64::o65::o66::o7::o8::o67::o7::o68::o69::o70::o7::o71::o72::o73::o74::o38::o20::o75::o7::o76::o77::o78::o7::o8::o79::o7::o80::o81::o82::o7::o83::o84::o85::o86::o38::o20::o87::o7::o88::o89::o90::o7::o8::o91::o7::o92::o93::o94::o7::o95::o96::o97::o98::o38::o20::o99::o7::akA::akB::akC::o7::o8::adE::o7::akD::adF::adG::o7::adH::adI::akE::akF::o38::o20::akG::o7::akH::akI::akJ::o7::o8::adJ::o7::akK::adK::adL::o7::adM::adN::akL::akM::o38::o20::akP::o7::akQ::akR::akS::o7::o8::adP::o7::akT::adQ::adR::o7::adS::adT::akU::akV::o38::o20::akW::o7::akX::akY::akZ::o7::o8::adU::o7::ak0::adV::adW::o7::adX::adY::ak1::ak2::o38::o20::ak3::o7::ak4::ak5::ak6::o7::o8::adZ::o7::ak7::ad0::ad1::o7::ad2::ad3::ak8::ak9::o7::o8::ad4::o7::ala::ad5::ad6::o7::o8::ad7::o7::alb::ad8::ad9::o7::o8::aea::o7::alc::aeb::aec::o7::o8::aed::o7::ald::aee::aef::o7::o8::aeg::o7::ale::aeh::aei::o7::o8::aej::o7::alf::aek::ael::o7::o8::aem::o7::alg::aen::aeo::o7::o8::aep::o7::alh::aeq::aer::o7::o8::aes::o7::ali::aet::aeu::o7::o8::aev::o7::alj::aew::aex::o7::o8::alk::aey::aez::o7::o8::aeA::o7::alm::aeB::aeC::o7::o8::aeD::o7::aln::aeE::aeF::o7::o8::aeG::o7::alo::aeH::aeI::o7::o8::aeJ::o7::alp::aeK::aeL::o7::o8::aeM::o7::alq::aeN::aeO::o7::o8::aeP::o7::alr::aeQ::aeR::o7::o8::als::aeS::aeT::o7::o8::aeU::o7::alu::aeV::aeW::o7::o8::alv::aeX::aeY::o7::o8::aeZ::o7::alw::ae0::ae1::o7::o8::ae2::o7::alx::ae3::ae4::o7::o8::ae5::o7::aly::ae6::ae7::o7::o8::ae8::o7::alz::ae9::afa::o7::o8::afb::o7::alA::afc::afd::o7::o8::alB::afe::aff::o7::o8::afg::o7::alC::afi::afj::o7::o20::alF::o7::alG::alH::alI::o7::o8::afk::o7::alJ::afm::afn::o7::o8::afo::o7::alK::afp::afq::o7::o8::afr::o7::alL::afs::aft::o7::o8::afu::o7::alM::afv::afw::o7::o8::afx::o7::alN::afy::afz::o7::o8::afA::o7::alO::afB::afC::o7::o8::afD::o7::alP::afE::afF::o7::o8::afG::o7::alQ::afH::afI::o7::o8::afJ::o7::alR::afK::afL::o7::o8::afM::o7::alS::afN::afO::afP::afQ::afR::afS::afT::alT::alU::o7::o20::alV::o7::alW::alX::alY::o7::o8::afU::o7::alZ::afV::afW::o7::o8::afX::o7::al0::afY::afZ::o7::o8::af0::o7::al1::af1::af2::o7::o8::af3::o7::al2::af4::af5::o7::o8::af6::o7::al3::af7::af8::o7::o8::af9::o7::al4::aga::agb::o7::o8::agc::o7::al5::agd::age::agf::agg::agh::agi::agj::al6::al7::o7::o8::agk::o7::al8::agl::agm::o7::o20::al9::o7::ama::amb::amc::o7::o8::agn::o7::amd::ago::agp::o7::o8::agq::o7::ame::agr::ags::o7::o8::agt::o7::amf::agu::agv::o7::o8::agw::o7::amh::agx::agy::o7::o8::ami::agz::agA::agB::agC::agD::agE::agF::amj::amk::o7::o20::amn::o7::amo::amq::amr::o7::o8::agG::o7::ams::agH::agI::o7::o8::agJ::o7::amt::agK::agL::o7::o8::agM::o7::amu::agN::agO::o7::o8::agP::o7::amv::agQ::agR::o7::o8::agS::o7::amw::agT::agU::o7::o8::agV::o7::amx::agW::agX::o7::o8::agY::o7::amy::agZ::ag0::o7::o8::ag1::o7::amz::ag2::ag3::o7::o8::ag4::o7::amA::ag5::ag6::o7::o8::ag7::o7::amB::ag8::ag9::o7::o8::amC::aha::ahb::o7::o8::ahc::o7::amD::ahe::ahf::o7::o8::ahg::o7::amE::ahh::ahi::o7::o8::ahj::o7::amF::ahk::ahm::o7::o8::ahn::o7::amG::aho::ahp::o7::o8::amH::ahq::ahr::o7::o8::amI::ahs::aht::ahu::ahv::ahw::ahx::ahy::amJ::amK::o7::o8::ahz::o7::amL::ahA::ahB::ahC::o20::amM::o7::amN::amO::amP::o7::o8::ahD::o7::amQ::ahE::ahF::o7::o8::ahG::o7::amR::ahH::ahI::o7::o8::ahJ::o7::amS::ahK::ahL::o7::o8::ahM::o7::amT::ahN::ahO::o7::o8::ahP::o7::amU::ahQ::ahR::o7::o8::ahS::o7::amV::ahT::ahU::o7::o8::ahV::o7::amW::ahW::ahX::o7::o8::ahY::o7::amX::ahZ::ah0::o7::o8::ah1::o7::amY::ah2::ah3::o7::o8::ah4::o7::amZ::ah5::ah6::o7::o8::ah7::o7::am0::ah8::ah9::o7::o8::aia::o7::am1::aib::aic::o7::o8::aid::o7::am2::aie::aif::o7::o8::aih::o7::am3::aii::aij::o7::o8::aik::o7::am4::ail::aim::o7::o8::ain::o7::am5::aio::aip::o7::o8::aiq::o7::am6::air::ais::o7::o8::ait::o7::am7::aiu::aiv::o7::o8::aiw::o7::am8::aix::aiy::o7::o8::aiz::o7::am9::aiA::aiB::o7::o8::aiC::o7::ana::aiD::aiE::o7::o8::aiF::o7::anb::aiG::aiH::o7::o8::aiI::o7::anc::aiJ::aiK::aiL::aiM::aiN::ane::anf::o7::o20::anh::o7::ani::anj::ank::o7::o8::aiP::o7::anm::aiQ::aiR::o7::o8::aiS::o7::ano::aiT::aiU::o7::o8::aiV::o7::anp::aiW::aiX::o7::o8::aiY::o7::anq::aiZ::ai0::o7::o8::ai1::o7::anr::ai2::ai3::o7::o8::ai4::o7::ans::ai5::ai6::ai7::ai8::ai9::aja::ajb::anu::anv::o7::o8::ajc::o7::anw::ajd::aje::o7::o8::ajf::o7::anx::ajg::ajh::o7::o8::aji::o7::anz::ajj::ajk::o7::o8::ajl::o7::anA::ajm::ajn::o7::o8::ajo::o7::anB::ajp::ajq::o7::o8::ajr::o7::anC::ajs::ajt::o7::o8::aju::o7::anD::ajv::ajw::o7::o8::ajx::o7::anE::ajy::ajz::o7::o8::anF::ajA::ajB::o7::o8::ajC::o7::anG::ajD::ajE::o7::o8::ajF::o7::anH::ajG::ajH::o7::o8::anI::ajI::ajJ::o7::o8::ajK::o7::anJ::ajL::ajM::o7::o8::anK::ajN::ajO::o7::o8::anL::ajP::ajQ::[]
def hTa(P:Params):BT:=mkT P 12 (stT (hL.take 15) [(3,o3),(12,o8)])
def hSa(w:World)(os:OsState):SharedT:=⟨hTa w.params,15,9e8,#[],⟨0,0,0,0⟩,187,os⟩
def hTb(P:Params):BT:=mkT P 12 (stT (hL.take 15) [(3,o3),(12,o8)])
def hSb(w:World)(os:OsState):SharedT:=⟨hTb w.params,15,9e8,#[],⟨0,0,0,0⟩,187,os⟩
def hT0(P:Params):BT:=mkT P 12 (stT (hL.take 182) [(3,o13),(12,o14),(45,o34)])
def hS0(w:World)(os:OsState):SharedT:=⟨hT0 w.params,182,9e8,#[],⟨0,0,0,0⟩,390,os⟩
def hT1(P:Params):BT:=mkT P 12 (stT (hL.take 420) [(3,akN),(12,akO)])
def hS1(w:World)(os:OsState):SharedT:=⟨hT1 w.params,420,9e8,#[],⟨0,0,0,0⟩,715,os⟩
def hT2(P:Params):BT:=mkT P 12 (stT (hL.take 621) [(3,alD),(12,alE)])
def hS2(w:World)(os:OsState):SharedT:=⟨hT2 w.params,621,9e8,#[],⟨0,0,0,0⟩,975,os⟩
def hT3(P:Params):BT:=mkT P 12 (stT (hL.take 928) [(3,aml),(12,amm)])
def hS3(w:World)(os:OsState):SharedT:=⟨hT3 w.params,928,9e8,#[],⟨0,0,0,0⟩,1365,os⟩
def hT4(P:Params):BT:=mkT P 12 hL
def hS4(w:World)(os:OsState):SharedT:=⟨hT4 w.params,1081,9e8,#[],⟨0,0,0,0⟩,1568,os⟩
def hTf(P:Params):BT:=mkT P 12 hL
def hSf(w:World)(os:OsState):SharedT:=⟨hTf w.params,1081,9e8,#[],⟨0,0,0,0⟩,1568,os⟩
def U0:Env:={scope:=(9e9).main.scope,locals:=mainNs,globals:=mainNs,cells:=[],code:=(.ref 13),frame:=some 14}
def hG0:List Stmt:=[top 0,top 1,top 2,top 3,top 4,top 5,top 6,top 7,top 8,top 9]
def hG1:List Stmt:=[top 10,top 11,top 12,top 13,top 14,top 15,top 16,top 17,top 18,top 19,top 20,top 21,top 22,top 23,top 24,top 25,top 26,top 27,top 28,top 29,top 30,top 31,top 32,top 33,top 34,top 35,top 36,top 37,top 38,top 39,top 40,top 41,top 42,top 43,top 44,top 45,top 46,top 47,top 48,top 49,top 50]
def hG2:List Stmt:=[top 51,top 52,top 53,top 54,top 55,top 56,top 57,top 58,top 59]
def hG3:List Stmt:=[top 60,top 61,top 62,top 63,top 64]
def hG4:List Stmt:=[top 65,top 66,top 67,top 68,top 69,top 70,top 71,top 72,top 73,top 74,top 75,top 76,top 77,top 78,top 79,top 80,top 81]
def hB:List Stmt:=hG0++(hG1++(hG2++(hG3++(hG4++[]))))
def hC:Code:=.body hB U0
abbrev hF:List Frame:=[topFrame ⟨0,0,0,0⟩]
theorem anM(w:World)(os:OsState):topGo treeTable 9e9 w 11 (.some (.ref 6)) 12 ⟨boot_heap w.params,#[],boot_drawn,boot_toks,os⟩ (topStub 9e9)=some ((hSa w os).abs,⟨denote treeTable hC,hC,⟨0,0,0,0⟩,hF⟩):=by kernel_rfl
theorem anN(w:World)(os:OsState):segRun treeTable 9e9 w 11 (.some (.ref 6)) 1 1 (hSa w os).abs (blockOf hB U0 hC ⟨0,0,0,0⟩ hF)=some (.next,(hSb w os).abs,hC,⟨0,0,0,0⟩):=by kernel_rfl
theorem hR0(w:World)(os:OsState):segRunT treeTable 9e9 w 11 (.some (.ref 6)) 1 1988 (hSb w os) (piecesOf hG0 U0 hC ⟨0,0,0,0⟩ hF)=some (.next,hS0 w os,hC,⟨36,0,39,16⟩):=by kernel_rfl
theorem hR1(w:World)(os:OsState):segRunT treeTable 9e9 w 11 (.some (.ref 6)) 1 1649 (hS0 w os) (piecesOf hG1 U0 hC ⟨36,0,39,16⟩ hF)=some (.next,hS1 w os,hC,⟨187,0,187,8⟩):=by kernel_rfl
theorem hR2(w:World)(os:OsState):segRunT treeTable 9e9 w 11 (.some (.ref 6)) 1 1351 (hS1 w os) (piecesOf hG2 U0 hC ⟨187,0,187,8⟩ hF)=some (.next,hS2 w os,hC,⟨291,0,291,8⟩):=by kernel_rfl
theorem hR3(w:World)(os:OsState):segRunT treeTable 9e9 w 11 (.some (.ref 6)) 1 1746 (hS2 w os) (piecesOf hG3 U0 hC ⟨291,0,291,8⟩ hF)=some (.next,hS3 w os,hC,⟨485,0,485,8⟩):=by kernel_rfl
theorem hR4(w:World)(os:OsState):segRunT treeTable 9e9 w 11 (.some (.ref 6)) 1 846 (hS3 w os) (piecesOf hG4 U0 hC ⟨485,0,485,8⟩ hF)=some (.next,hS4 w os,hC,⟨625,0,641,56⟩):=by kernel_rfl
theorem anO(w:World)(os:OsState):topRun treeTable 9e9 w 11 (.some (.ref 6)) 2 (hS4 w os).abs ⟨doneF .next,hC,⟨625,0,641,56⟩,hF⟩=some (hSf w os).abs:=by kernel_rfl
theorem anP(w:World)(os:OsState):topRun treeTable 9e9 w 11 (.some (.ref 6)) (12+(1+(1988+(1649+(1351+(1746+(846+2))))))) ⟨boot_heap w.params,#[],boot_drawn,boot_toks,os⟩ (topStub 9e9)=some (hSf w os).abs:=go_top (anM w os) (piece_block (anN w os) (piece_app (segRun_of (hR0 w os)) (piece_app (segRun_of (hR1 w os)) (piece_app (segRun_of (hR2 w os)) (piece_app (segRun_of (hR3 w os)) (piece_app (segRun_of (hR4 w os)) (anO w os)))))))
def hK(P:Params):Frag:=(nat_lit 2,o2 P)::(nat_lit 3,aiO P)::(nat_lit 15,o7 P)::(nat_lit 17,o15 P)::(nat_lit 18,o7 P)::(nat_lit 20,o17 P)::(nat_lit 21,o18 P)::(nat_lit 22,o19 P)::(nat_lit 29,o7 P)::(nat_lit 31,o25 P)::(nat_lit 32,o7 P)::(nat_lit 34,o27 P)::(nat_lit 35,o28 P)::(nat_lit 36,o7 P)::(nat_lit 38,o29 P)::(nat_lit 39,o7 P)::(nat_lit 41,o31 P)::(nat_lit 42,o32 P)::(nat_lit 43,o7 P)::(nat_lit 44,o33 P)::(nat_lit 45,adO P)::(nat_lit 46,o35 P)::(nat_lit 49,o38 P)::(nat_lit 56,o7 P)::(nat_lit 58,o43 P)::(nat_lit 59,o7 P)::(nat_lit 61,o45 P)::(nat_lit 62,o46 P)::(nat_lit 63,o7 P)::(nat_lit 64,o47 P)::(nat_lit 65,o48 P)::(nat_lit 68,o38 P)::(nat_lit 75,o7 P)::(nat_lit 77,o55 P)::(nat_lit 78,o7 P)::(nat_lit 80,o57 P)::(nat_lit 81,o58 P)::(nat_lit 82,o7 P)::(nat_lit 83,o59 P)::(nat_lit 84,o60 P)::(nat_lit 87,o38 P)::(nat_lit 94,o7 P)::(nat_lit 96,o67 P)::(nat_lit 97,o7 P)::(nat_lit 99,o69 P)::(nat_lit 100,o70 P)::(nat_lit 101,o7 P)::(nat_lit 102,o71 P)::(nat_lit 103,o72 P)::(nat_lit 106,o38 P)::(nat_lit 113,o7 P)::(nat_lit 115,o79 P)::(nat_lit 116,o7 P)::(nat_lit 118,o81 P)::(nat_lit 119,o82 P)::(nat_lit 120,o7 P)::(nat_lit 121,o83 P)::(nat_lit 122,o84 P)::(nat_lit 125,o38 P)::(nat_lit 132,o7 P)::(nat_lit 134,o91 P)::(nat_lit 135,o7 P)::(nat_lit 137,o93 P)::(nat_lit 138,o94 P)::(nat_lit 139,o7 P)::(nat_lit 140,o95 P)::(nat_lit 141,o96 P)::(nat_lit 144,o38 P)::(nat_lit 151,o7 P)::(nat_lit 153,adE P)::(nat_lit 154,o7 P)::(nat_lit 156,adF P)::(nat_lit 157,adG P)::(nat_lit 158,o7 P)::(nat_lit 159,adH P)::(nat_lit 160,adI P)::(nat_lit 163,o38 P)::(nat_lit 170,o7 P)::(nat_lit 172,adJ P)::(nat_lit 173,o7 P)::(nat_lit 175,adK P)::(nat_lit 176,adL P)::(nat_lit 177,o7 P)::(nat_lit 178,adM P)::(nat_lit 179,adN P)::(nat_lit 182,o38 P)::(nat_lit 189,o7 P)::(nat_lit 191,adP P)::(nat_lit 192,o7 P)::(nat_lit 194,adQ P)::(nat_lit 195,adR P)::(nat_lit 196,o7 P)::(nat_lit 197,adS P)::(nat_lit 198,adT P)::(nat_lit 201,o38 P)::(nat_lit 208,o7 P)::(nat_lit 210,adU P)::(nat_lit 211,o7 P)::(nat_lit 213,adV P)::(nat_lit 214,adW P)::(nat_lit 215,o7 P)::(nat_lit 216,adX P)::(nat_lit 217,adY P)::(nat_lit 220,o38 P)::(nat_lit 227,o7 P)::(nat_lit 229,adZ P)::(nat_lit 230,o7 P)::(nat_lit 232,ad0 P)::(nat_lit 233,ad1 P)::(nat_lit 234,o7 P)::(nat_lit 235,ad2 P)::(nat_lit 236,ad3 P)::(nat_lit 239,o7 P)::(nat_lit 241,ad4 P)::(nat_lit 242,o7 P)::(nat_lit 244,ad5 P)::(nat_lit 245,ad6 P)::(nat_lit 246,o7 P)::(nat_lit 248,ad7 P)::(nat_lit 249,o7 P)::(nat_lit 251,ad8 P)::(nat_lit 252,ad9 P)::(nat_lit 253,o7 P)::(nat_lit 255,aea P)::(nat_lit 256,o7 P)::(nat_lit 258,aeb P)::(nat_lit 259,aec P)::(nat_lit 260,o7 P)::(nat_lit 262,aed P)::(nat_lit 263,o7 P)::(nat_lit 265,aee P)::(nat_lit 266,aef P)::(nat_lit 267,o7 P)::(nat_lit 269,aeg P)::(nat_lit 270,o7 P)::(nat_lit 272,aeh P)::(nat_lit 273,aei P)::(nat_lit 274,o7 P)::(nat_lit 276,aej P)::(nat_lit 277,o7 P)::(nat_lit 279,aek P)::(nat_lit 280,ael P)::(nat_lit 281,o7 P)::(nat_lit 283,aem P)::(nat_lit 284,o7 P)::(nat_lit 286,aen P)::(nat_lit 287,aeo P)::(nat_lit 288,o7 P)::(nat_lit 290,aep P)::(nat_lit 291,o7 P)::(nat_lit 293,aeq P)::(nat_lit 294,aer P)::(nat_lit 295,o7 P)::(nat_lit 297,aes P)::(nat_lit 298,o7 P)::(nat_lit 300,aet P)::(nat_lit 301,aeu P)::(nat_lit 302,o7 P)::(nat_lit 304,aev P)::(nat_lit 305,o7 P)::(nat_lit 307,aew P)::(nat_lit 308,aex P)::(nat_lit 309,o7 P)::(nat_lit 312,aey P)::(nat_lit 313,aez P)::(nat_lit 314,o7 P)::(nat_lit 316,aeA P)::(nat_lit 317,o7 P)::(nat_lit 319,aeB P)::(nat_lit 320,aeC P)::(nat_lit 321,o7 P)::(nat_lit 323,aeD P)::(nat_lit 324,o7 P)::(nat_lit 326,aeE P)::(nat_lit 327,aeF P)::(nat_lit 328,o7 P)::(nat_lit 330,aeG P)::(nat_lit 331,o7 P)::(nat_lit 333,aeH P)::(nat_lit 334,aeI P)::(nat_lit 335,o7 P)::(nat_lit 337,aeJ P)::(nat_lit 338,o7 P)::(nat_lit 340,aeK P)::(nat_lit 341,aeL P)::(nat_lit 342,o7 P)::(nat_lit 344,aeM P)::(nat_lit 345,o7 P)::(nat_lit 347,aeN P)::(nat_lit 348,aeO P)::(nat_lit 349,o7 P)::(nat_lit 351,aeP P)::(nat_lit 352,o7 P)::(nat_lit 354,aeQ P)::(nat_lit 355,aeR P)::(nat_lit 356,o7 P)::(nat_lit 359,aeS P)::(nat_lit 360,aeT P)::(nat_lit 361,o7 P)::(nat_lit 363,aeU P)::(nat_lit 364,o7 P)::(nat_lit 366,aeV P)::(nat_lit 367,aeW P)::(nat_lit 368,o7 P)::(nat_lit 371,aeX P)::(nat_lit 372,aeY P)::(nat_lit 373,o7 P)::(nat_lit 375,aeZ P)::(nat_lit 376,o7 P)::(nat_lit 378,ae0 P)::(nat_lit 379,ae1 P)::(nat_lit 380,o7 P)::(nat_lit 382,ae2 P)::(nat_lit 383,o7 P)::(nat_lit 385,ae3 P)::(nat_lit 386,ae4 P)::(nat_lit 387,o7 P)::(nat_lit 389,ae5 P)::(nat_lit 390,o7 P)::(nat_lit 392,ae6 P)::(nat_lit 393,ae7 P)::(nat_lit 394,o7 P)::(nat_lit 396,ae8 P)::(nat_lit 397,o7 P)::(nat_lit 399,ae9 P)::(nat_lit 400,afa P)::(nat_lit 401,o7 P)::(nat_lit 403,afb P)::(nat_lit 404,o7 P)::(nat_lit 406,afc P)::(nat_lit 407,afd P)::(nat_lit 408,o7 P)::(nat_lit 411,afe P)::(nat_lit 412,aff P)::(nat_lit 413,o7 P)::(nat_lit 415,afg P)::(nat_lit 416,o7 P)::(nat_lit 418,afi P)::(nat_lit 419,afj P)::(nat_lit 427,o7 P)::(nat_lit 429,afk P)::(nat_lit 430,o7 P)::(nat_lit 432,afm P)::(nat_lit 433,afn P)::(nat_lit 434,o7 P)::(nat_lit 436,afo P)::(nat_lit 437,o7 P)::(nat_lit 439,afp P)::(nat_lit 440,afq P)::(nat_lit 441,o7 P)::(nat_lit 443,afr P)::(nat_lit 444,o7 P)::(nat_lit 446,afs P)::(nat_lit 447,aft P)::(nat_lit 448,o7 P)::(nat_lit 450,afu P)::(nat_lit 451,o7 P)::(nat_lit 453,afv P)::(nat_lit 454,afw P)::(nat_lit 455,o7 P)::(nat_lit 457,afx P)::(nat_lit 458,o7 P)::(nat_lit 460,afy P)::(nat_lit 461,afz P)::(nat_lit 462,o7 P)::(nat_lit 464,afA P)::(nat_lit 465,o7 P)::(nat_lit 467,afB P)::(nat_lit 468,afC P)::(nat_lit 469,o7 P)::(nat_lit 471,afD P)::(nat_lit 472,o7 P)::(nat_lit 474,afE P)::(nat_lit 475,afF P)::(nat_lit 476,o7 P)::(nat_lit 478,afG P)::(nat_lit 479,o7 P)::(nat_lit 481,afH P)::(nat_lit 482,afI P)::(nat_lit 483,o7 P)::(nat_lit 485,afJ P)::(nat_lit 486,o7 P)::(nat_lit 488,afK P)::(nat_lit 489,afL P)::(nat_lit 490,o7 P)::(nat_lit 492,afM P)::(nat_lit 493,o7 P)::(nat_lit 495,afN P)::(nat_lit 496,afO P)::(nat_lit 497,afP P)::(nat_lit 498,afQ P)::(nat_lit 499,afR P)::(nat_lit 500,afS P)::(nat_lit 501,afT P)::(nat_lit 511,o7 P)::(nat_lit 513,afU P)::(nat_lit 514,o7 P)::(nat_lit 516,afV P)::(nat_lit 517,afW P)::(nat_lit 518,o7 P)::(nat_lit 520,afX P)::(nat_lit 521,o7 P)::(nat_lit 523,afY P)::(nat_lit 524,afZ P)::(nat_lit 525,o7 P)::(nat_lit 527,af0 P)::(nat_lit 528,o7 P)::(nat_lit 530,af1 P)::(nat_lit 531,af2 P)::(nat_lit 532,o7 P)::(nat_lit 534,af3 P)::(nat_lit 535,o7 P)::(nat_lit 537,af4 P)::(nat_lit 538,af5 P)::(nat_lit 539,o7 P)::(nat_lit 541,af6 P)::(nat_lit 542,o7 P)::(nat_lit 544,af7 P)::(nat_lit 545,af8 P)::(nat_lit 546,o7 P)::(nat_lit 548,af9 P)::(nat_lit 549,o7 P)::(nat_lit 551,aga P)::(nat_lit 552,agb P)::(nat_lit 553,o7 P)::(nat_lit 555,agc P)::(nat_lit 556,o7 P)::(nat_lit 558,agd P)::(nat_lit 559,age P)::(nat_lit 560,agf P)::(nat_lit 561,agg P)::(nat_lit 562,agh P)::(nat_lit 563,agi P)::(nat_lit 564,agj P)::(nat_lit 567,o7 P)::(nat_lit 569,agk P)::(nat_lit 570,o7 P)::(nat_lit 572,agl P)::(nat_lit 573,agm P)::(nat_lit 581,o7 P)::(nat_lit 583,agn P)::(nat_lit 584,o7 P)::(nat_lit 586,ago P)::(nat_lit 587,agp P)::(nat_lit 588,o7 P)::(nat_lit 590,agq P)::(nat_lit 591,o7 P)::(nat_lit 593,agr P)::(nat_lit 594,ags P)::(nat_lit 595,o7 P)::(nat_lit 597,agt P)::(nat_lit 598,o7 P)::(nat_lit 600,agu P)::(nat_lit 601,agv P)::(nat_lit 602,o7 P)::(nat_lit 604,agw P)::(nat_lit 605,o7 P)::(nat_lit 607,agx P)::(nat_lit 608,agy P)::(nat_lit 609,o7 P)::(nat_lit 612,agz P)::(nat_lit 613,agA P)::(nat_lit 614,agB P)::(nat_lit 615,agC P)::(nat_lit 616,agD P)::(nat_lit 617,agE P)::(nat_lit 618,agF P)::(nat_lit 628,o7 P)::(nat_lit 630,agG P)::(nat_lit 631,o7 P)::(nat_lit 633,agH P)::(nat_lit 634,agI P)::(nat_lit 635,o7 P)::(nat_lit 637,agJ P)::(nat_lit 638,o7 P)::(nat_lit 640,agK P)::(nat_lit 641,agL P)::(nat_lit 642,o7 P)::(nat_lit 644,agM P)::(nat_lit 645,o7 P)::(nat_lit 647,agN P)::(nat_lit 648,agO P)::(nat_lit 649,o7 P)::(nat_lit 651,agP P)::(nat_lit 652,o7 P)::(nat_lit 654,agQ P)::(nat_lit 655,agR P)::(nat_lit 656,o7 P)::(nat_lit 658,agS P)::(nat_lit 659,o7 P)::(nat_lit 661,agT P)::(nat_lit 662,agU P)::(nat_lit 663,o7 P)::(nat_lit 665,agV P)::(nat_lit 666,o7 P)::(nat_lit 668,agW P)::(nat_lit 669,agX P)::(nat_lit 670,o7 P)::(nat_lit 672,agY P)::(nat_lit 673,o7 P)::(nat_lit 675,agZ P)::(nat_lit 676,ag0 P)::(nat_lit 677,o7 P)::(nat_lit 679,ag1 P)::(nat_lit 680,o7 P)::(nat_lit 682,ag2 P)::(nat_lit 683,ag3 P)::(nat_lit 684,o7 P)::(nat_lit 686,ag4 P)::(nat_lit 687,o7 P)::(nat_lit 689,ag5 P)::(nat_lit 690,ag6 P)::(nat_lit 691,o7 P)::(nat_lit 693,ag7 P)::(nat_lit 694,o7 P)::(nat_lit 696,ag8 P)::(nat_lit 697,ag9 P)::(nat_lit 698,o7 P)::(nat_lit 701,aha P)::(nat_lit 702,ahb P)::(nat_lit 703,o7 P)::(nat_lit 705,ahc P)::(nat_lit 706,o7 P)::(nat_lit 708,ahe P)::(nat_lit 709,ahf P)::(nat_lit 710,o7 P)::(nat_lit 712,ahg P)::(nat_lit 713,o7 P)::(nat_lit 715,ahh P)::(nat_lit 716,ahi P)::(nat_lit 717,o7 P)::(nat_lit 719,ahj P)::(nat_lit 720,o7 P)::(nat_lit 722,ahk P)::(nat_lit 723,ahm P)::(nat_lit 724,o7 P)::(nat_lit 726,ahn P)::(nat_lit 727,o7 P)::(nat_lit 729,aho P)::(nat_lit 730,ahp P)::(nat_lit 731,o7 P)::(nat_lit 734,ahq P)::(nat_lit 735,ahr P)::(nat_lit 736,o7 P)::(nat_lit 739,ahs P)::(nat_lit 740,aht P)::(nat_lit 741,ahu P)::(nat_lit 742,ahv P)::(nat_lit 743,ahw P)::(nat_lit 744,ahx P)::(nat_lit 745,ahy P)::(nat_lit 748,o7 P)::(nat_lit 750,ahz P)::(nat_lit 751,o7 P)::(nat_lit 753,ahA P)::(nat_lit 754,ahB P)::(nat_lit 755,ahC P)::(nat_lit 762,o7 P)::(nat_lit 764,ahD P)::(nat_lit 765,o7 P)::(nat_lit 767,ahE P)::(nat_lit 768,ahF P)::(nat_lit 769,o7 P)::(nat_lit 771,ahG P)::(nat_lit 772,o7 P)::(nat_lit 774,ahH P)::(nat_lit 775,ahI P)::(nat_lit 776,o7 P)::(nat_lit 778,ahJ P)::(nat_lit 779,o7 P)::(nat_lit 781,ahK P)::(nat_lit 782,ahL P)::(nat_lit 783,o7 P)::(nat_lit 785,ahM P)::(nat_lit 786,o7 P)::(nat_lit 788,ahN P)::(nat_lit 789,ahO P)::(nat_lit 790,o7 P)::(nat_lit 792,ahP P)::(nat_lit 793,o7 P)::(nat_lit 795,ahQ P)::(nat_lit 796,ahR P)::(nat_lit 797,o7 P)::(nat_lit 799,ahS P)::(nat_lit 800,o7 P)::(nat_lit 802,ahT P)::(nat_lit 803,ahU P)::(nat_lit 804,o7 P)::(nat_lit 806,ahV P)::(nat_lit 807,o7 P)::(nat_lit 809,ahW P)::(nat_lit 810,ahX P)::(nat_lit 811,o7 P)::(nat_lit 813,ahY P)::(nat_lit 814,o7 P)::(nat_lit 816,ahZ P)::(nat_lit 817,ah0 P)::(nat_lit 818,o7 P)::(nat_lit 820,ah1 P)::(nat_lit 821,o7 P)::(nat_lit 823,ah2 P)::(nat_lit 824,ah3 P)::(nat_lit 825,o7 P)::(nat_lit 827,ah4 P)::(nat_lit 828,o7 P)::(nat_lit 830,ah5 P)::(nat_lit 831,ah6 P)::(nat_lit 832,o7 P)::(nat_lit 834,ah7 P)::(nat_lit 835,o7 P)::(nat_lit 837,ah8 P)::(nat_lit 838,ah9 P)::(nat_lit 839,o7 P)::(nat_lit 841,aia P)::(nat_lit 842,o7 P)::(nat_lit 844,aib P)::(nat_lit 845,aic P)::(nat_lit 846,o7 P)::(nat_lit 848,aid P)::(nat_lit 849,o7 P)::(nat_lit 851,aie P)::(nat_lit 852,aif P)::(nat_lit 853,o7 P)::(nat_lit 855,aih P)::(nat_lit 856,o7 P)::(nat_lit 858,aii P)::(nat_lit 859,aij P)::(nat_lit 860,o7 P)::(nat_lit 862,aik P)::(nat_lit 863,o7 P)::(nat_lit 865,ail P)::(nat_lit 866,aim P)::(nat_lit 867,o7 P)::(nat_lit 869,ain P)::(nat_lit 870,o7 P)::(nat_lit 872,aio P)::(nat_lit 873,aip P)::(nat_lit 874,o7 P)::(nat_lit 876,aiq P)::(nat_lit 877,o7 P)::(nat_lit 879,air P)::(nat_lit 880,ais P)::(nat_lit 881,o7 P)::(nat_lit 883,ait P)::(nat_lit 884,o7 P)::(nat_lit 886,aiu P)::(nat_lit 887,aiv P)::(nat_lit 888,o7 P)::(nat_lit 890,aiw P)::(nat_lit 891,o7 P)::(nat_lit 893,aix P)::(nat_lit 894,aiy P)::(nat_lit 895,o7 P)::(nat_lit 897,aiz P)::(nat_lit 898,o7 P)::(nat_lit 900,aiA P)::(nat_lit 901,aiB P)::(nat_lit 902,o7 P)::(nat_lit 904,aiC P)::(nat_lit 905,o7 P)::(nat_lit 907,aiD P)::(nat_lit 908,aiE P)::(nat_lit 909,o7 P)::(nat_lit 911,aiF P)::(nat_lit 912,o7 P)::(nat_lit 914,aiG P)::(nat_lit 915,aiH P)::(nat_lit 916,o7 P)::(nat_lit 918,aiI P)::(nat_lit 919,o7 P)::(nat_lit 921,aiJ P)::(nat_lit 922,aiK P)::(nat_lit 923,aiL P)::(nat_lit 924,aiM P)::(nat_lit 925,aiN P)::(nat_lit 935,o7 P)::(nat_lit 937,aiP P)::(nat_lit 938,o7 P)::(nat_lit 940,aiQ P)::(nat_lit 941,aiR P)::(nat_lit 942,o7 P)::(nat_lit 944,aiS P)::(nat_lit 945,o7 P)::(nat_lit 947,aiT P)::(nat_lit 948,aiU P)::(nat_lit 949,o7 P)::(nat_lit 951,aiV P)::(nat_lit 952,o7 P)::(nat_lit 954,aiW P)::(nat_lit 955,aiX P)::(nat_lit 956,o7 P)::(nat_lit 958,aiY P)::(nat_lit 959,o7 P)::(nat_lit 961,aiZ P)::(nat_lit 962,ai0 P)::(nat_lit 963,o7 P)::(nat_lit 965,ai1 P)::(nat_lit 966,o7 P)::(nat_lit 968,ai2 P)::(nat_lit 969,ai3 P)::(nat_lit 970,o7 P)::(nat_lit 972,ai4 P)::(nat_lit 973,o7 P)::(nat_lit 975,ai5 P)::(nat_lit 976,ai6 P)::(nat_lit 977,ai7 P)::(nat_lit 978,ai8 P)::(nat_lit 979,ai9 P)::(nat_lit 980,aja P)::(nat_lit 981,ajb P)::(nat_lit 984,o7 P)::(nat_lit 986,ajc P)::(nat_lit 987,o7 P)::(nat_lit 989,ajd P)::(nat_lit 990,aje P)::(nat_lit 991,o7 P)::(nat_lit 993,ajf P)::(nat_lit 994,o7 P)::(nat_lit 996,ajg P)::(nat_lit 997,ajh P)::(nat_lit 998,o7 P)::(nat_lit 1000,aji P)::(nat_lit 1001,o7 P)::(nat_lit 1003,ajj P)::(nat_lit 1004,ajk P)::(nat_lit 1005,o7 P)::(nat_lit 1007,ajl P)::(nat_lit 1008,o7 P)::(nat_lit 1010,ajm P)::(nat_lit 1011,ajn P)::(nat_lit 1012,o7 P)::(nat_lit 1014,ajo P)::(nat_lit 1015,o7 P)::(nat_lit 1017,ajp P)::(nat_lit 1018,ajq P)::(nat_lit 1019,o7 P)::(nat_lit 1021,ajr P)::(nat_lit 1022,o7 P)::(nat_lit 1024,ajs P)::(nat_lit 1025,ajt P)::(nat_lit 1026,o7 P)::(nat_lit 1028,aju P)::(nat_lit 1029,o7 P)::(nat_lit 1031,ajv P)::(nat_lit 1032,ajw P)::(nat_lit 1033,o7 P)::(nat_lit 1035,ajx P)::(nat_lit 1036,o7 P)::(nat_lit 1038,ajy P)::(nat_lit 1039,ajz P)::(nat_lit 1040,o7 P)::(nat_lit 1043,ajA P)::(nat_lit 1044,ajB P)::(nat_lit 1045,o7 P)::(nat_lit 1047,ajC P)::(nat_lit 1048,o7 P)::(nat_lit 1050,ajD P)::(nat_lit 1051,ajE P)::(nat_lit 1052,o7 P)::(nat_lit 1054,ajF P)::(nat_lit 1055,o7 P)::(nat_lit 1057,ajG P)::(nat_lit 1058,ajH P)::(nat_lit 1059,o7 P)::(nat_lit 1062,ajI P)::(nat_lit 1063,ajJ P)::(nat_lit 1064,o7 P)::(nat_lit 1066,ajK P)::(nat_lit 1067,o7 P)::(nat_lit 1069,ajL P)::(nat_lit 1070,ajM P)::(nat_lit 1071,o7 P)::(nat_lit 1074,ajN P)::(nat_lit 1075,ajO P)::(nat_lit 1076,o7 P)::(nat_lit 1079,ajP P)::(nat_lit 1080,ajQ P)::[]
def hAs:List Addr:=[2,3,15,17,18,20,21,22,29,31,32,34,35,36,38,39,41,42,43,44,45,46,49,56,58,59,61,62,63,64,65,68,75,77,78,80,81,82,83,84,87,94,96,97,99,100,101,102,103,106,113,115,116,118,119,120,121,122,125,132,134,135,137,138,139,140,141,144,151,153,154,156,157,158,159,160,163,170,172,173,175,176,177,178,179,182,189,191,192,194,195,196,197,198,201,208,210,211,213,214,215,216,217,220,227,229,230,232,233,234,235,236,239,241,242,244,245,246,248,249,251,252,253,255,256,258,259,260,262,263,265,266,267,269,270,272,273,274,276,277,279,280,281,283,284,286,287,288,290,291,293,294,295,297,298,300,301,302,304,305,307,308,309,312,313,314,316,317,319,320,321,323,324,326,327,328,330,331,333,334,335,337,338,340,341,342,344,345,347,348,349,351,352,354,355,356,359,360,361,363,364,366,367,368,371,372,373,375,376,378,379,380,382,383,385,386,387,389,390,392,393,394,396,397,399,400,401,403,404,406,407,408,411,412,413,415,416,418,419,427,429,430,432,433,434,436,437,439,440,441,443,444,446,447,448,450,451,453,454,455,457,458,460,461,462,464,465,467,468,469,471,472,474,475,476,478,479,481,482,483,485,486,488,489,490,492,493,495,496,497,498,499,500,501,511,513,514,516,517,518,520,521,523,524,525,527,528,530,531,532,534,535,537,538,539,541,542,544,545,546,548,549,551,552,553,555,556,558,559,560,561,562,563,564,567,569,570,572,573,581,583,584,586,587,588,590,591,593,594,595,597,598,600,601,602,604,605,607,608,609,612,613,614,615,616,617,618,628,630,631,633,634,635,637,638,640,641,642,644,645,647,648,649,651,652,654,655,656,658,659,661,662,663,665,666,668,669,670,672,673,675,676,677,679,680,682,683,684,686,687,689,690,691,693,694,696,697,698,701,702,703,705,706,708,709,710,712,713,715,716,717,719,720,722,723,724,726,727,729,730,731,734,735,736,739,740,741,742,743,744,745,748,750,751,753,754,755,762,764,765,767,768,769,771,772,774,775,776,778,779,781,782,783,785,786,788,789,790,792,793,795,796,797,799,800,802,803,804,806,807,809,810,811,813,814,816,817,818,820,821,823,824,825,827,828,830,831,832,834,835,837,838,839,841,842,844,845,846,848,849,851,852,853,855,856,858,859,860,862,863,865,866,867,869,870,872,873,874,876,877,879,880,881,883,884,886,887,888,890,891,893,894,895,897,898,900,901,902,904,905,907,908,909,911,912,914,915,916,918,919,921,922,923,924,925,935,937,938,940,941,942,944,945,947,948,949,951,952,954,955,956,958,959,961,962,963,965,966,968,969,970,972,973,975,976,977,978,979,980,981,984,986,987,989,990,991,993,994,996,997,998,1000,1001,1003,1004,1005,1007,1008,1010,1011,1012,1014,1015,1017,1018,1019,1021,1022,1024,1025,1026,1028,1029,1031,1032,1033,1035,1036,1038,1039,1040,1043,1044,1045,1047,1048,1050,1051,1052,1054,1055,1057,1058,1059,1062,1063,1064,1066,1067,1069,1070,1071,1074,1075,1076,1079,1080]
theorem se(P:Params):hAs=(hK P).map (·.1):=rfl
def hQ:Program:={9e9 with main:={(9e9).main with body:=[top 0,top 2,top 3,top 4,top 5,top 6,top 7,top 8,top 9,top 10,top 11,top 12,top 14,top 15,top 16,top 17,top 18,top 19,top 20,top 21,top 22,top 23,top 24,top 25,top 26,top 27,top 28,top 30,top 31,top 32,top 33,top 34,top 35,top 36,top 38,top 39,top 40,top 41,top 42,top 43,top 44,top 45,top 46,top 48,top 49,top 51,top 53,top 54,top 56,top 58,top 60,top 61,top 63,top 65,top 67,top 68,top 69,top 70,top 71,top 72,top 73,top 74,top 75,top 76,top 77,top 78,top 79,top 80,top 81]}}
def hLo:List Str:=[]
theorem acD(w:World):(fencedOpening treeTable 9e9 w 15276).map (λs=>(s.heap,s.gens,s.drawn,s.toks))=some (boot_heap w.params,#[],boot_drawn,boot_toks):=by kernel_rfl
theorem acE(w:World):((boot_heap w.params).isNs mainGlobals&&(#[]:Array GenState).size == 0,(boot_heap w.params).objs.size,(boot_heap w.params).nsMap mainGlobals "__annotations__")=(true,11,((.some (.ref 6)):Option Value)):=by kernel_rfl
abbrev hXt(s:Shared):Bool:=xlAt hQ [] s&&recOk (RowW.records (OpenRow.toRowW (OpenLaw.row PySem.Challenge.rw_stillheap_k39_whole_pictures_by_addresse))) s
noncomputable abbrev hFH(w:World):Heap:=(absHeap (hTf w.params) 1081 9e8)
noncomputable abbrev hFS(w:World)(os:OsState):Shared:=⟨hFH w,#[],⟨0,0,0,0⟩,1568,os⟩
theorem hK1(w:World)(os:OsState):staticsOk (importedModules (9e9).main.body) (boot_heap w.params) (hFH w)=true:=by kernel_rfl
theorem hK2(w:World)(os:OsState):namesBound 9e9 (hFH w)=true:=by kernel_rfl
theorem hK3(w:World)(os:OsState):gensDone (hFS w os)=true:=by kernel_rfl
theorem hK4(w:World)(os:OsState):laidKept (boot_heap w.params) (hFH w)=true:=by kernel_rfl
theorem hK5(w:World)(os:OsState):openSeen hQ hLo (importedModules (9e9).main.body) hXt true (hFS w os)=openGood hQ hLo:=by kernel_rfl
theorem hK6(w:World)(os:OsState):Hook.obs (kHook hK hAs se) (hFS w os)=Hook.val (kHook hK hAs se) w:=by kernel_rfl
theorem ZR(w:World):(λos:OsState=>((staticsOk (importedModules (9e9).main.body) (boot_heap w.params) (hFH w)&&namesBound 9e9 (hFH w)&&gensDone (hFS w os)&&laidKept (boot_heap w.params) (hFH w)),
  openSeen hQ hLo (importedModules (9e9).main.body) hXt true (hFS w os),Hook.obs (kHook hK hAs se) (hFS w os)))=λ_=>(true,openGood hQ hLo,Hook.val (kHook hK hAs se) w):=by
 funext os
 rw[hK1 w os,hK2 w os,hK3 w os,hK4 w os,hK5 w os,hK6 w os];rfl
theorem acF:LeftO 9e9 hQ hLo hXt (Hook.obs (kHook hK hAs se)) (Hook.val (kHook hK hAs se)) 15276 :=
 LeftO.of_pieces (H₁:=λP=>absHeap (hTf P) 1081 9e8) acD acE anP (by rfl) ZR
end
end K39
end
section
namespace L2
open PySem PySem.Spec PyProof.Rows
section
variable{κ:Type}[DecidableEq κ]
noncomputable def ir(kvs:List (κ×V))(k:κ):Option V:=(kvs.find? λkv=>decide (kv.1=k)).map (·.2)
noncomputable def putK(kvs:List (κ×V))(k:κ)(v:V):List (κ×V) :=
  if(kvs.any λkv=>decide (kv.1=k))=true then kvs.map (λkv=>if kv.1=k then(kv.1,v) else kv) else kvs++[(k,v)]
noncomputable def vN(kvs:List (κ×V))(k:κ):List (κ×V):=kvs.filter λkv=>decide (kv.1≠k)
theorem fP{p:κ×V}{r:List (κ×V)}{k:κ}(e:p.1=k):ir (p::r) k=some p.2:=by simp[ir,apY,e]
theorem fz{p:κ×V}{r:List (κ×V)}{k:κ}(e:¬p.1=k):ir (p::r) k=ir r k:=by simp[ir,apY,e]
theorem ub(k:κ):∀ kvs:List (κ×V),(kvs.any λkv=>decide (kv.1=k))=(ir kvs k).isSome
  | []=>rfl
  | p::r=>by
    rw[aqe];by_cases e:p.1=k
    · simp only[fP e,decide_eq_true e,Bool.true_or,Option.isSome_some]
    · rw[fz e,decide_eq_false e,Bool.false_or];exact ub k r
theorem PB(k j:κ)(y:V):∀ kvs:List (κ×V),ir (kvs.map λkv=>if kv.1=k then(kv.1,y) else kv) j=(ir kvs j).map λx=>if j=k then y else x
  | []=>rfl
  | p::r=>by
    have ih:=PB k j y r;rw[ao8];by_cases h:p.1=k
    · rw[if_pos h]
      by_cases e:p.1=j
      · rw[fP (p:=(p.1,y)) e,fP e,apy,if_pos (e.symm.trans h)]
      · rw[fz (p:=(p.1,y)) e,fz e,ih]
    · rw[if_neg h]
      by_cases e:p.1=j
      · rw[fP (p:=p) e,fP e,apy,if_neg (λz=>h (e.trans z))]
      · rw[fz (p:=p) e,fz e,ih]
theorem K5(k j:κ)(y:V):∀ kvs:List (κ×V),ir kvs k=none->ir (kvs++[(k,y)]) j=if j=k then some y else ir kvs j
  | [],_=>by
    by_cases e:k=j
    · rw[if_pos e.symm];exact fP (p:=(k,y)) e
    · rw[if_neg (λz=>e z.symm)];exact fz (p:=(k,y)) e
  | p::r,hn=>by
    rw[List.cons_append];have hk:¬p.1=k:=λz=>by rw[fP z]at hn;cases hn
    rw[fz hk]at hn;have ih:=K5 k j y r hn;by_cases e:p.1=j
    · rw[fP e,fP e,if_neg (λz=>hk (e.trans z))]
    · rw[fz e,fz e,ih]
theorem uc(kvs:List (κ×V))(k j:κ)(y:V):ir (putK kvs k y) j=if j=k then some y else ir kvs j:=by
  unfold putK;by_cases a:(kvs.any λkv=>decide (kv.1=k))=true
  · rw[if_pos a,PB]
    rw[ub]at a;by_cases e:j=k
    · obtain⟨x,hx⟩:=aqa.mp a
      rw[if_pos e,e,hx,apy,if_pos rfl]
    · rw[if_neg e]
      cases ir kvs j with
      | none=>rfl
      | some x=>rw[apy,if_neg e]
  · rw[if_neg a]
    refine K5 k j y kvs ?_;rw[ub]at a;cases q:ir kvs k with
    | none=>rfl
    | some x=>rw[q]at a;exact(a rfl).elim
theorem Ff(kvs:List (κ×V))(k:κ)(v:V):(putK kvs k v).length<=kvs.length+1:=by
  unfold putK;split
  · rw[aoG];omega
  · rw[aoJ,aph,List.length_nil];omega
theorem ue{kvs:List (κ×V)}{k:κ}(v:V)(h:ir kvs k=none):putK kvs k v=kvs++[(k,v)]:=by
  unfold putK;rw[ub,h];exact if_neg 2e0
theorem AJ.qM{o:Option V}{u:Option Value}(r:AJ o u):o.isSome=u.isSome:=by
  cases o with
  | none=>cases u with
    | none=>rfl
    | some _=>exact(show False from r).elim
  | some _=>cases u with
    | none=>exact(show False from r).elim
    | some _=>rfl
theorem AJ.getD{o:Option V}{u:Option Value}{d:V}{d':Value}(r:AJ o u)(rd:RelV d d'):RelV (o.getD d) (u.getD d'):=by
  cases o with
  | none=>cases u with
    | none=>exact rd
    | some _=>exact(show False from r).elim
  | some _=>cases u with
    | none=>exact(show False from r).elim
    | some _=>exact r
theorem KV.val{kvs:List (κ×V)}{vs:List (κ×Value)}(r:KV kvs vs)(k:κ):AJ (ir kvs k) (valueAt vs k):=by
  unfold KV at r;induction r with
  | nil=>exact True.intro
  | @cons p q ps qs h t ih =>
    obtain⟨h1,h2⟩:=h;by_cases e:p.1=k
    · have e':q.1=k:=h1.symm.trans e
      have b:valueAt (q::qs) k=some q.2:=(by simp[valueAt,apY,e']);rw[fP e,b];exact h2
    · have e':¬q.1=k:=λz=>e (h1.trans z)
      have b:valueAt (q::qs) k=valueAt qs k:=(by simp[valueAt,apY,e']);rw[fz e,b];exact ih
theorem KV.any{kvs:List (κ×V)}{vs:List (κ×Value)}(r:KV kvs vs)(k:κ):(kvs.any λkv=>decide (kv.1=k))=vs.any λkv=>decide (kv.1=k):=by
  unfold KV at r;induction r with
  | nil=>rfl
  | cons h t ih=>rw[aqe,aqe,ih,h.1]
theorem KV.aca{kvs:List (κ×V)}{vs:List (κ×Value)}(r:KV kvs vs)(k:κ){y:V}{u:Value}(ry:RelV y u) :
    KV (kvs.map λkv=>if kv.1=k then(kv.1,y) else kv) (vs.map λkv=>if kv.1=k then(kv.1,u) else kv):=by
  unfold KV at r ⊢;induction r with
  | nil=>exact .nil
  | @cons p q ps qs h t ih =>
    rw[ao8,ao8];refine .cons ?_ ih;obtain⟨h1,h2⟩:=h;by_cases e:p.1=k
    · rw[if_pos e,if_pos (h1.symm.trans e)];exact⟨h1,ry⟩
    · rw[if_neg e,if_neg (λz=>e (h1.trans z))];exact⟨h1,h2⟩
theorem KV.put{kvs:List (κ×V)}{vs:List (κ×Value)}(r:KV kvs vs)(k:κ){y:V}{u:Value}(ry:RelV y u):KV (putK kvs k y) (stored vs k u):=by
  unfold putK stored;rw[r.any k];by_cases e:(vs.any λkv=>decide (kv.1=k))=true
  · rw[if_pos e,if_pos e];exact r.aca k ry
  · rw[if_neg e,if_neg e];exact Paired.snoc r ⟨rfl,ry⟩
theorem KV.drop{kvs:List (κ×V)}{vs:List (κ×Value)}(r:KV kvs vs)(k:κ):KV (vN kvs k) (without vs k):=by
  unfold KV at r ⊢;unfold vN without;induction r with
  | nil=>exact .nil
  | @cons p q ps qs h t ih =>
    obtain⟨h1,h2⟩:=h;rw[List.filter_cons,List.filter_cons];by_cases e:p.1=k
    · have a:¬decide (p.1≠k)=true:=by simp[e]
      have b:¬decide (q.1≠k)=true:=(by simp[h1.symm.trans e]);rw[if_neg a,if_neg b];exact ih
    · have e':¬q.1=k:=λz=>e (h1.trans z)
      have a:decide (p.1≠k)=true:=(by simp[e]);have b:decide (q.1≠k)=true:=(by simp[e']);rw[if_pos a,if_pos b];exact .cons ⟨h1,h2⟩ ih
theorem KV.keys{kvs:List (κ×V)}{vs:List (κ×Value)}(r:KV kvs vs):kvs.map (·.1)=vs.map (·.1):=by
  unfold KV at r;induction r with
  | nil=>rfl
  | cons h t ih=>rw[ao8,ao8,ih,h.1]
theorem KV.length{kvs:List (κ×V)}{vs:List (κ×Value)}(r:KV kvs vs):kvs.length=vs.length:=aqy r
theorem Vk(kvs:List (κ×V))(k:κ):(vN kvs k).length<=kvs.length:=apM _ _
end
theorem FE{P:Program}{w:World}{k:Key}{u:Value}(r:RelV (kV k) u):(cH P w).is k u=true:=by
  cases k with
  | inl i=>obtain⟨t,e⟩:=(show ∃ t,u=Value.int i t from r);subst e;exact N2 P w i t
  | inr x=>obtain⟨t,e⟩:=(show ∃ t,u=Value.str x t from r);subst e;exact N3 P w x t
theorem K6{P:Program}{w:World}:∀ {ks:List Key} {us:List Value},Vals (ks.map kV) us->ItemsAre (cH P w) ks us
  | [],_,r=>by rw[aqk]at r;cases r;exact .nil
  | k::ks,_,r=>by
    rw[ao8]at r;cases r with
    | cons h t=>exact .cons (FE h) (K6 t)
noncomputable abbrev KT(H:Hp):List (List Key×V)->List (List Key×Addr×Value)->Prop:=Paired λp q=>p.1=q.1/\H q.2.1=some (.tup (p.1.map kV))/\RelV p.2 q.2.2
theorem KT.val{H:Hp}{kvs:List (List Key×V)}{xs:List (List Key×Addr×Value)}(r:KT H kvs xs)(k:List Key):AJ (ir kvs k) ((atKey xs k).map (·.2)):=by
  induction r with
  | nil=>exact True.intro
  | @cons p q ps qs h t ih =>
    obtain⟨h1,_,h2⟩:=h;by_cases e:p.1=k
    · have e':q.1=k:=h1.symm.trans e
      have b:atKey (q::qs) k=some q.2:=(by simp[atKey,apY,e']);rw[fP e,b];exact h2
    · have e':¬q.1=k:=λz=>e (h1.trans z)
      have b:atKey (q::qs) k=atKey qs k:=(by simp[atKey,apY,e']);rw[fz e,b];exact ih
theorem KT.aca{H:Hp}{kvs:List (List Key×V)}{xs:List (List Key×Addr×Value)}(r:KT H kvs xs)(k:List Key){y:V}{u:Value}(ry:RelV y u) :
    KT H (kvs.map λkv=>if kv.1=k then(kv.1,y) else kv) (xs.map (putAt k u)):=by
  induction r with
  | nil=>exact .nil
  | @cons p q ps qs h t ih =>
    rw[ao8,ao8];refine .cons ?_ ih;obtain⟨h1,h2,h3⟩:=h;unfold putAt;by_cases e:p.1=k
    · rw[if_pos e,if_pos (h1.symm.trans e)];exact⟨h1,h2,ry⟩
    · rw[if_neg e,if_neg (λz=>e (h1.trans z))];exact⟨h1,h2,h3⟩
theorem KT.put{H:Hp}{kvs:List (List Key×V)}{xs:List (List Key×Addr×Value)}(r:KT H kvs xs)(k:List Key){b:Addr}{y:V}{u:Value}(hb:H b=some (.tup (k.map kV)))(ry:RelV y u) :
    KT H (putK kvs k y) (storedH xs k b u):=by
  have e:(kvs.any λkv=>decide (kv.1=k))=(atKey xs k).isSome:=by
    rw[ub,(r.val k).qM,apR]
  unfold putK storedH;rw[e];by_cases q:(atKey xs k).isSome=true
  · rw[if_pos q,if_pos q];exact r.aca k ry
  · rw[if_neg q,if_neg q];exact Paired.snoc r ⟨rfl,hb,ry⟩
theorem KT.keeps{H H':Hp}{kvs:List (List Key×V)}{xs:List (List Key×Addr×Value)}(r:KT H kvs xs)(ht:∀ b ys,H b=some (.tup ys)->H' b=some (.tup ys)):KT H' kvs xs :=
  Paired.aax r λ_ _ z=>⟨z.1,ht _ _ z.2.1,z.2.2⟩
section
variable{P:Program}{w:World}{H:Hp}{h:Heap}{a:Addr}
theorem Y3{u:HO}(ok:HOk P w H h)(e:Rd H a u):jd P w H h a u:=e.ok ok
theorem AL{kvs:List (Key×V)}(ok:HOk P w H h)(e:Rd H a (.dK kvs)):kvs.length<=sizeLine/\(a == sysModules)=false/\∃ vs,KV kvs vs/\h.DictOf (cH P w) a vs :=
  show jd P w H h a 2e6 from Y3 ok e
theorem UM{kvs:List (Key×V)}(ok:HOk P w H h)(e:H a=some (.dK kvs)):kvs.length<=sizeLine/\(a == sysModules)=false/\∃ vs,KV kvs vs/\h.DictOf (cH P w) a vs:=AL ok (.inl e)
theorem GD{ks:List Key}(ok:HOk P w H h)(e:H a=some (.tup (ks.map kV))):(tupleKind (cH P w)).is h ks a:=by
  obtain⟨_,its,r,o,h1,h2,n,h3⟩:=(show jd P w H h a (.tup (ks.map kV)) from ok a _ e);exact⟨o,its.toArray,n,h1,h2,h3,by simpa using K6 r⟩
theorem KQ{kvs:List (List Key×V)}(ok:HOk P w H h)(e:Rd H a (.dT kvs)):kvs.length<=sizeLine/\(a == sysModules)=false /\
    ∃ xs,KT H kvs xs/\h.DictOfH (tupleKind (cH P w)) a xs:=by
  obtain⟨z,y,xs,r,o,es,ep,h1,h2,h3,h4,h5⟩:=(show jd P w H h a (.dT kvs) from Y3 ok e);refine⟨z,y,xs,r,o,es,ep,h1,h2,h3,h4,λx hx=>?_,h5⟩;have all:∀ {l:List (List Key×V)} {m:List (List Key×Addr×Value)},KT H l m->∀ x∈m,(tupleKind (cH P w)).is h x.1 x.2.1:=by
    intro l m q;induction q with
    | nil=>intro x hx;exact nomatch hx
    | @cons p q ps qs hq t ih =>
      intro x hx;rcases ao2.mp hx with e|hx
      · subst e
        exact GD ok (by rw[<-hq.1];exact hq.2.1)
      · exact ih x hx
  exact all r x hx
theorem acG{kvs:List (List Key×V)}(ok:HOk P w H h)(e:H a=some (.dT kvs)):kvs.length<=sizeLine/\(a == sysModules)=false /\
    ∃ xs,KT H kvs xs/\h.DictOfH (tupleKind (cH P w)) a xs:=KQ ok (.inl e)
end
noncomputable def tM(H:Hp)(a:Addr)(y:V)(r:Option V):Prop :=
  (∃ kvs k,Rd H a 2e6/\y=kV k/\r=ir kvs k)\/∃ kvs k b,Rd H a (.dT kvs)/\y=.ref b/\H b=some (.tup (k.map kV))/\r=ir kvs k
noncomputable def Fg(H:Hp)(a:Addr)(y v:V)(H':Hp):Prop :=
  (∃ kvs k,H a=some 2e6/\y=kV k/\kvs.length<sizeLine/\H'=upd H a (.dK (putK kvs k v))) \/
  ∃ kvs k b,H a=some (.dT kvs)/\y=.ref b/\H b=some (.tup (k.map kV))/\kvs.length<sizeLine/\H'=upd H a (.dT (putK kvs k v))
theorem tM.k{H:Hp}{a:Addr}{kvs:List (Key×V)}{k:Key}(e:H a=some (.dK kvs)):tM H a (kV k) (ir kvs k):=.inl ⟨kvs,k,.inl e,rfl,rfl⟩
theorem Fg.k{H:Hp}{a:Addr}{kvs:List (Key×V)}{k:Key}{v:V}(e:H a=some (.dK kvs))(hl:kvs.length<sizeLine):Fg H a (kV k) v (upd H a (.dK (putK kvs k v))):=.inl ⟨kvs,k,e,rfl,hl,rfl⟩
section
variable{X:Cx}{pins:List (Addr×Obj)}{σ:St}{H:Hp}{s:Shared}{a:Addr}{y v:V}{u r:Value}{o:Option V}{A:Around}{E:Value->Shared->Prop}
theorem Inv.big(I:Inv X pins σ H s):sysModules<s.heap.objs.size:=by
  have h:mainGlobals<s.heap.objs.size:=(I.mod.glob.keeps I.bk).lt;exact Nat.lt_trans 2e0 h
theorem T4{Q:Value->Shared->Prop}(hu:A.units+1<cLine)(I:Inv X pins σ H s)(g:tM H a y (some v))(ry:RelV y u)(h:∀ w' s',Inv X pins σ H s'->RelV v w'->Q w' s') :
    wpAny 1e6 A (getItem (.ref a) u) Q E s:=by
  rcases g with⟨kvs,k,e,ey,l⟩|⟨kvs,k,b,e,ey,eb,l⟩
  · subst ey
    obtain⟨z,hd,vs,rel,dd⟩:=AL I.hok e;obtain⟨w',hw,rw'⟩:=AJ.some_of (v:=v) (o:=valueAt vs k) (by rw[l];exact rel.val k);exact wpAny_getItem_of (FE ry) dd.mapOf hw (h w' _ (I.tok _) rw')
  · subst ey
    cases (show u=Value.ref b from ry);obtain⟨z,hd,xs,rel,dd⟩:=KQ I.hok e;obtain⟨w',hw,rw'⟩:=AJ.some_of (v:=v) (o:=(atKey xs k).map (·.2)) (by rw[l];exact rel.val k);obtain⟨p,hp,hp2⟩:=aoZ.mp hw;refine wpAny_getItem_heap (tupleKind_room_in1 hu) (GD I.hok eb) dd hp ?_;rw[hp2];exact h w' _ (I.tok _) rw'
theorem anQ{Q:Value->Shared->Prop}(hu:A.units+1<cLine)(I:Inv X pins σ H s)(g:tM H a y o)(ry:RelV y u)(h:∀ s',Inv X pins σ H s'->Q (.bool o.isSome) s') :
    wpAny 1e6 A (compareOp .In u (.ref a)) Q E s:=by
  rcases g with⟨kvs,k,e,ey,l⟩|⟨kvs,k,b,e,ey,eb,l⟩
  · subst ey
    obtain⟨z,hd,vs,rel,dd⟩:=AL I.hok e;refine wpAny_in_of (FE ry) hd dd.mapOf ?_;rw[<-(rel.val k).qM,<-l];exact h _ (I.tok _)
  · subst ey
    cases (show u=Value.ref b from ry);obtain⟨z,hd,xs,rel,dd⟩:=KQ I.hok e;refine wpAny_in_heap (tupleKind_room_in1 hu) (GD I.hok eb) hd dd ?_;have q:=(rel.val k).qM;rw[apR]at q;rw[<-q,<-l];exact h _ (I.tok _)
theorem X4{Q:Value->Shared->Prop}(hu:A.units+1<cLine)(I:Inv X pins σ H s)(g:tM H a y o)(ry:RelV y u)(h:∀ s',Inv X pins σ H s'->Q (.bool (!o.isSome)) s') :
    wpAny 1e6 A (compareOp .NotIn u (.ref a)) Q E s:=by
  rcases g with⟨kvs,k,e,ey,l⟩|⟨kvs,k,b,e,ey,eb,l⟩
  · subst ey
    obtain⟨z,hd,vs,rel,dd⟩:=AL I.hok e;refine wpAny_notIn_of (FE ry) hd dd.mapOf ?_;rw[<-(rel.val k).qM,<-l];exact h _ (I.tok _)
  · subst ey
    cases (show u=Value.ref b from ry);obtain⟨z,hd,xs,rel,dd⟩:=KQ I.hok e;refine wpAny_notIn_heap (tupleKind_room_in1 hu) (GD I.hok eb) hd dd ?_;have q:=(rel.val k).qM;rw[apR]at q;rw[<-q,<-l];exact h _ (I.tok _)
theorem Nx{h':Heap}{t':Nat}{ob:HO}(I:Inv X pins σ H s)(mu:Mut (H a))(hs:Heap.SameBut a s.heap h')(he:∃ q,h'.get? a=some q)(new:jd X.prog X.w (upd H a ob) h' a ob) :
    Inv X pins σ (upd H a ob) {s with heap:=h',toks:=t'} :=
  I.write (x:=a) (e:=a) mu 2e9 (λb q hb z=>(hs.2 b hb).trans z) he new
theorem R1{P:Program}{w:World}{H':Hp}{h':Heap}{kvs:List (Key×V)}{vs:List (Key×Value)}(z:kvs.length<=sizeLine)(hd:(a == sysModules)=false)(rel:KV kvs vs)(dd:h'.DictOf (cH P w) a vs) :
    jd P w H' h' a 2e6:=⟨z,hd,vs,rel,dd⟩
theorem T5{H':Hp}{Q:Unit->Shared->Prop}(hu:A.units+1<cLine)(I:Inv X pins σ H s)(g:Fg H a y v H')(ry:RelV y u)(rv:RelV v r)(h:∀ s',Inv X pins σ H' s'->Q () s') :
    wpAny 1e6 A (setItem (.ref a) u r) Q E s:=by
  rcases g with⟨kvs,k,e,ey,l,eH⟩|⟨kvs,k,b,e,ey,eb,l,eH⟩
  · subst ey eH
    obtain⟨z,hd,vs,rel,dd⟩:=UM I.hok e;have hz:vs.length<=sizeLine:=(by rw[<-rel.length];exact z);have hl:(putK kvs k v).length<=sizeLine:=(by have:=Ff kvs k v;omega);refine wpAny_setItem_pairs (hsz:=hz) (FE ry) dd λh' dd' hs=>h _ ?_;have he:∃ q,h'.get? a=some q:=let ⟨q,_,_,hq,_⟩:=dd';⟨q,hq⟩;exact Nx I (by rw[e];exact True.intro) hs he (R1 hl hd (rel.put k rv) dd')
  · subst ey eH
    cases (show u=Value.ref b from ry);obtain⟨z,hd,xs,rel,dd⟩:=acG I.hok e;have hz:xs.length<=sizeLine:=(by rw[<-aqy rel];exact z);have hl:(putK kvs k v).length<=sizeLine:=(by have:=Ff kvs k v;omega);refine wpAny_setItem_heap (hsz:=hz) (tupleKind_room_in1 hu) (GD I.hok eb) dd λh' dd' hs=>h _ ?_;obtain⟨q,es,ep,hq,h2,h3,h4,_,h5⟩:=dd';refine Nx I (by rw[e];exact True.intro) hs ⟨q,hq⟩ ⟨hl,hd,_,(rel.put k eb rv).keeps λc ys ec=>?_,q,es,ep,hq,h2,h3,h4,h5⟩;rw[af (az ec e (λz=>nomatch z))];exact ec
end
section
variable{X:Cx}{pins:List (Addr×Obj)}{σ:St}{H:Hp}{s:Shared}{a:Addr}{kvs:List (Key×V)}{k:Key}{u:Value}{A:Around}{E:Value->Shared->Prop}
theorem acH{v:V}{more:List Value}{Q:Value->Shared->Prop}(I:Inv X pins σ H s)(e:H a=some (.dK kvs))(ry:RelV (kV k) u)(l:ir kvs k=some v)(hm:more=[]\/∃ x,more=[x])
    (h:∀ w' s',Inv X pins σ (upd H a (.dK (vN kvs k))) s'->RelV v w'->Q w' s'):wpAny 1e6 A (call (.builtin "dict.pop") (.ref a::u::more)) Q E s:=by
  obtain⟨z,hd,vs,rel,dd⟩:=UM I.hok e;obtain⟨w',hw,rw'⟩:=AJ.some_of (v:=v) (o:=valueAt vs k) (by rw[<-l];exact rel.val k);have hp:(keyPart u).isSome=true:=by
    cases k with
    | inl i=>obtain⟨t,q⟩:=(show ∃ t,u=Value.int i t from ry);subst q;rfl
    | inr x=>obtain⟨t,q⟩:=(show ∃ t,u=Value.str x t from ry);subst q;rfl
  have ha:argsOk "dict.pop" ⟨.ref a::u::more,[]⟩:=by
    rcases hm with q|⟨x,q⟩
    · subst q;exact PySem.F.args_dict_pop_2 _ _
    · subst q;exact PySem.F.args_dict_pop_3 _ _ _
  refine call_meetsIn PySem.F.slot_dict_pop dd.typeIs PySem.F.entry_dict_pop ha (meets_dict_pop_there (cH X.prog X.w) a (FE ry) more hm hp)
    ⟨vs,w',dd,by rw[<-rel.length];exact z,hw,λh' dd' hs=>h w' _ ?_ rw'⟩
  have he:∃ q,h'.get? a=some q:=let ⟨q,_,_,hq,_⟩:=dd';⟨q,hq⟩;exact Nx I (by rw[e];exact True.intro) hs he (R1 (ao7 (Vk kvs k) z) hd (rel.drop k) dd')
theorem acI{Q:Value->Shared->Prop}(I:Inv X pins σ H s)(e:Rd H a (.dK kvs))(h:∀ t s',Inv X pins σ H s'->Q (.int kvs.length t) s'):wpAny 1e6 A (call (.builtin "len") [.ref a]) Q E s:=by
  obtain⟨z,hd,vs,rel,dd⟩:=AL I.hok e;refine call_len_dict hd dd (by rw[<-rel.length];rw[sizeLine_eq]at z;omega) ?_;rw[<-rel.length];exact h _ _ (I.tok _)
end
noncomputable def ajR(i:Expr):Prop:=∀ ov iv,subscripted i false ov iv=operate [ov,iv] (getItem ov iv)
theorem X5{prog:Program}{w:World}{A:Around}{E:Value->Shared->Prop}{s:Shared}{env:Env}{value slice:Expr}{pos:Pos}{T id:String}{Q:Value->Shared->Prop}
    (hl:typeLookup (.type T) "__getitem__" = pure (some (.builtin id))) (hs:ajR slice)
    (h:wpAny 1e8 A (eval value env) (λo s₁=>wpAny 1e8 A (eval slice env) (λi s₂=>s₂.TypeIs o T/\wpAny 1e8 A (getItem o i) Q E s₂) E s₁) E s) :
    wpAny 1e8 A (eval (.Subscript value slice pos) env) Q E s:=by
  refine Subscript_ (wpAny_mono h (λo s₁ h₁=>wpAny_mono h₁ (λi s₂ h₂=>?_) λ_ _ x=>x) λ_ _ x=>x);obtain⟨hT,h₂⟩:=h₂;unfold subscriptTail;refine wpAny_bind ?_;rw[getitemInPython_of_ne hT.not_modules];refine wpAny_bind (wpAny_specialOf hT hl ?_);have fin:wpAny 1e8 A (subscripted slice false o i) (λr s₃=>wpAny 1e8 A (letTemporaryGo value o r >>= λ_=>pure r) Q E s₃) E s₂:=by
    rw[hs o i];exact wpAny_operating (wpAny_mono h₂ (λr s₃ h₃=>wpAny_bind (wpAny_letTemporaryGo (wpAny_pure h₃))) λ_ _ x=>x)
  first
    | exact wpAny_pure (wpAny_bind fin)
    | exact wpAny_bind (wpAny_pure (wpAny_bind fin))
    | exact wpAny_bind fin
theorem N6{X:Cx}{pins:List (Addr×Obj)}{σ:St}{H:Hp}{s:Shared}{a:Addr}{y:V}{o:Option V}(I:Inv X pins σ H s)(g:tM H a y o):s.TypeIs (.ref a) "dict" := by
  rcases g with⟨kvs,k,e,_,_⟩|⟨kvs,k,b,e,_,_,_⟩
  · obtain⟨_,_,vs,_,dd⟩:=AL I.hok e
    exact dd.typeIs
  · obtain⟨_,_,xs,_,dd⟩:=KQ I.hok e
    exact dd.typeIs
noncomputable def acJ(td ty:TE):TE:=λσ H Q=>td σ H λx H1=>ty σ H1 λy H2=>∃ a v,x=.ref a/\tM H2 a y (some v)/\Q v H2
noncomputable def anR(ty td:TE):TE:=λσ H Q=>ty σ H λy H1=>td σ H1 λx H2=>∃ a o,x=.ref a/\tM H2 a y o/\Q (.bl o.isSome) H2
noncomputable def X6(ty td:TE):TE:=λσ H Q=>ty σ H λy H1=>td σ H1 λx H2=>∃ a o,x=.ref a/\tM H2 a y o/\Q (.bl (!o.isSome)) H2
noncomputable def acK(td ty tv:TE):TS:=λD σ H=>tv σ H λv H1=>td σ H1 λx H2=>ty σ H2 λy H3=>∃ a H4,x=.ref a/\Fg H3 a y v H4/\D.nx σ H4
section
variable{X:Cx}{o i e value:Expr}{pos pos' akq:Pos}{td ty tv:TE}
theorem hG(hu:X.A.units+1<cLine)(ho:PE X o td)(hi:PE X i ty)(hs:ajR i):PE X (.Subscript o i pos) (acJ td ty):=by
  intro pins s σ H Q I h;refine X5 PySem.F.slot_dict_getitem.lookup hs (thn (ho pins s σ H _ I h) λu s1 ⟨x,H1,I1,rx,q1⟩=>thn (hi pins s1 σ H1 _ I1 q1) λiv s2 ⟨y,H2,I2,ry,a,v,ex,g,q2⟩=>?_);subst ex;obtain rfl:u=Value.ref a:=rx;exact⟨N6 I2 g,T4 hu I2 g ry λw' s3 I3 rw'=>⟨v,H2,I3,rw',q2⟩⟩
theorem V0(hu:X.A.units+1<cLine)(hi:PE X i ty)(ho:PE X o td):PC X .In i o (anR ty td):=by
  intro pins s σ H Q I h;refine thn (hi pins s σ H _ I h) λiv s1 ⟨y,H1,I1,ry,q1⟩=>thn (ho pins s1 σ H1 _ I1 q1) λu s2 ⟨x,H2,I2,rx,a,ov,ex,g,q2⟩=>?_;subst ex;obtain rfl:u=Value.ref a:=rx;exact anQ hu I2 g ry λs3 I3=>⟨.bl ov.isSome,H2,I3,rfl,q2⟩
theorem ow(hu:X.A.units+1<cLine)(hi:PE X i ty)(ho:PE X o td):PC X .NotIn i o (X6 ty td):=by
  intro pins s σ H Q I h;refine thn (hi pins s σ H _ I h) λiv s1 ⟨y,H1,I1,ry,q1⟩=>thn (ho pins s1 σ H1 _ I1 q1) λu s2 ⟨x,H2,I2,rx,a,ov,ex,g,q2⟩=>?_;subst ex;obtain rfl:u=Value.ref a:=rx;exact X4 hu I2 g ry λs3 I3=>⟨.bl (!ov.isSome),H2,I3,rfl,q2⟩
theorem mY(hu:X.A.units+1<cLine)(ho:PE X o td)(hi:PE X i ty)(hv:PE X value tv)(hs:swapsWith value (some (.Subscript o i pos')) pos.line X.env=pure false) :
    PS X (.Assign [.Subscript o i pos'] value pos) (acK td ty tv):=by
  intro pins s σ H D I h;refine wpAny_Assign_Subscript (thn (hv pins s σ H _ I h) λr s1 ⟨v,H1,I1,rv,q1⟩=>thn (ho pins s1 σ H1 _ I1 q1) λu s2 ⟨x,H2,I2,rx,q2⟩=>thn (hi pins s2 σ H2 _ I2 q2) λiv s3 ⟨y,H3,I3,ry,a,H4,ex,g,q3⟩=>?_) hs;subst ex;obtain rfl:u=Value.ref a:=rx;exact T5 hu I3 g ry rv λs4 I4=>⟨σ,H4,I4,q3⟩
end
theorem Vm{P:Program}{w:World}{H:Hp}(h:Heap)(hb:sysModules<h.objs.size):jd P w H (h.push {cls:=.type "dict",data:=.dict #[]}) h.objs.size 5e1 :=
  ⟨apq _,beq_eq_false_iff_ne.mpr (aoT (aoW hb)),[],.nil,Heap.DictOf.new h⟩
noncomputable def ZS:TE:=λ_ H Q=>∀ p,H p=none->Q 4e3 (upd H p 5e1)
section
variable{X:Cx}{pos:Pos}
theorem jE:PE X (.Dict [] [] pos) ZS:=λpins s σ H Q I h =>
  wpAny_Dict_empty ⟨.ref s.heap.objs.size,_,I.laid (a:=s.heap.objs.size) (o:=.dK []) (t':=s.toks) (λ_ _ q=>aoK _ q) (aoL _) (Vm s.heap I.big),rfl,h _ (I.hok.fresh (aoL _))⟩
end
structure M1(X:Cx)(o:Expr)(m:Str)(apos:Pos)(e:Expr)(wI:Pos):Prop where
  base:attributeBase o m X.env (eval o X.env)=eval o X.env
  few:((backTo wI (starEach [e] X.env)).all (λx=>!x.1)&&(backToKw wI (keywordEach [] X.env)).all (λx=>x.1.isSome)
    && decide (([e]:List Expr).length+([]:List Keyword).length+(if([]:List Keyword).isEmpty then 0 else 1)<30))=true
  line:(apos.endLine == wI.line)=true
  trees:backTo wI (starEach [e] X.env)=[(false,eval e X.env)]
structure M2(X:Cx)(o:Expr)(m:Str)(apos:Pos)(e f:Expr)(wI:Pos):Prop where
  base:attributeBase o m X.env (eval o X.env)=eval o X.env
  few:((backTo wI (starEach [e,f] X.env)).all (λx=>!x.1)&&(backToKw wI (keywordEach [] X.env)).all (λx=>x.1.isSome)
    && decide (([e,f]:List Expr).length+([]:List Keyword).length+(if([]:List Keyword).isEmpty then 0 else 1)<30))=true
  line:(apos.endLine == wI.line)=true
  trees:backTo wI (starEach [e,f] X.env)=[(false,eval e X.env),(false,eval f X.env)]
noncomputable def IsD(H:Hp)(a:Addr):Prop:=(∃ kvs,Rd H a 2e6)\/∃ kvs,Rd H a (.dT kvs)
theorem V2{X:Cx}{pins:List (Addr×Obj)}{σ:St}{H:Hp}{s:Shared}{a:Addr}(I:Inv X pins σ H s)(d:IsD H a) :
    s.TypeIs (.ref a) "dict" /\ (∀ b,Value.ref a=.ref b->∃ ob,s.heap.get? b=some ob/\ob.dict=none)/\(a == sysModules)=false:=by
  rcases d with⟨kvs,e⟩|⟨kvs,e⟩
  · obtain⟨_,hd,vs,_,dd⟩:=AL I.hok e
    refine⟨dd.typeIs,λb q=>?_,hd⟩;cases q;obtain⟨ob,_,_,h1,h2,_⟩:=dd;exact⟨ob,h1,h2.2.1⟩
  · obtain⟨_,hd,xs,_,dd⟩:=KQ I.hok e
    refine⟨dd.typeIs,λb q=>?_,hd⟩;cases q;obtain⟨ob,_,_,h1,h2,_⟩:=dd;exact⟨ob,h1,h2.2.1⟩
section
variable{X:Cx}{pins:List (Addr×Obj)}{σ:St}{H:Hp}{s:Shared}{a:Addr}{y d:V}{u r:Value}{o:Option V}{A:Around}{E:Value->Shared->Prop}
theorem ZT{Q:Value->Shared->Prop}(hu:A.units+1<cLine)(I:Inv X pins σ H s)(g:tM H a y o)(ry:RelV y u)(rd:RelV d r)(h:∀ w' s',Inv X pins σ H s'->RelV (o.getD d) w'->Q w' s') :
    wpAny 1e6 A (call (.builtin "dict.get") [.ref a,u,r]) Q E s:=by
  rcases g with⟨kvs,k,e,ey,l⟩|⟨kvs,k,b,e,ey,eb,l⟩
  · subst ey
    obtain⟨z,hd,vs,rel,dd⟩:=AL I.hok e;refine call_meetsIn PySem.F.slot_dict_get dd.typeIs PySem.F.entry_dict_get (PySem.F.args_dict_get_3 _ _ _) (meets_dict_get_default (cH X.prog X.w) a (FE ry) hd r) ⟨_,dd.mapOf,h _ _ (I.tok _) ?_⟩;rw[l];exact(rel.val k).getD rd
  · subst ey
    cases (show u=Value.ref b from ry);obtain⟨z,hd,xs,rel,dd⟩:=KQ I.hok e;refine call_meetsIn PySem.F.slot_dict_get dd.typeIs PySem.F.entry_dict_get (PySem.F.args_dict_get_3 _ _ _) (meetsH_dict_get_default (tupleKind (cH X.prog X.w)) a b hd r) ⟨tupleKind_room_in1 hu,k,xs,GD I.hok eb,dd,h _ _ (I.tok _) ?_⟩;rw[l];exact(rel.val k).getD rd
end
noncomputable def ZU(td ty tx:TE):TE:=λσ H Q=>td σ H λx H1=>∃ a,x=.ref a/\IsD H1 a/\ty σ H1 λy H2=>tx σ H2 λz H3=>∃ o,tM H3 a y o/\Q (o.getD z) H3
noncomputable def ZV(td ty:TE):TE:=λσ H Q=>td σ H λx H1=>∃ a,x=.ref a/\IsD H1 a/\ty σ H1 λy H2=>∃ kvs k v,H2 a=some 2e6/\y=kV k/\ir kvs k=some v/\Q v (upd H2 a (.dK (vN kvs k)))
section
variable{X:Cx}{o e f:Expr}{apos wI:Pos}{td ty tx:TE}
theorem Vn(hu:X.A.units+1<cLine)(ho:PE X o td)(he:PE X e ty)(hf:PE X f tx)(m:M2 X o "get" apos e f wI):PE X (.Call (.Attribute o "get" apos) [e,f] [] wI) (ZU td ty tx):=by
  intro pins s σ H Q I h;refine wpAny_Call_method m.base m.few m.line PySem.F.plainAttrs_dict PySem.F.slot_dict_get PySem.F.type_dict_get (thn (ho pins s σ H _ I h) λu s1 ⟨x,H1,I1,rx,a,ex,d,q1⟩=>?_);subst ex;obtain rfl:u=Value.ref a:=rx;obtain⟨t1,t2,_⟩:=V2 I1 d;refine⟨t1,t2,?_⟩;rw[m.trees];refine aqj rfl (aqo (aqd (thn (he pins s1 σ H1 _ I1 q1) λiv s2 ⟨y,H2,I2,ry,q2⟩ =>
    aqd (thn (hf pins s2 σ H2 _ I2 q2) λfv s3 ⟨z,H3,I3,rz,ov,g,q3⟩=>aqv ?_))))
  exact ZT hu I3 g ry rz λw' s4 I4 rw'=>⟨_,H3,I4,rw',q3⟩
theorem IU(ho:PE X o td)(he:PE X e ty)(m:M1 X o "pop" apos e wI):PE X (.Call (.Attribute o "pop" apos) [e] [] wI) (ZV td ty):=by
  intro pins s σ H Q I h;refine wpAny_Call_method m.base m.few m.line PySem.F.plainAttrs_dict PySem.F.slot_dict_pop PySem.F.type_dict_pop (thn (ho pins s σ H _ I h) λu s1 ⟨x,H1,I1,rx,a,ex,d,q1⟩=>?_);subst ex;obtain rfl:u=Value.ref a:=rx;obtain⟨t1,t2,_⟩:=V2 I1 d;refine⟨t1,t2,?_⟩;rw[m.trees];refine aqj rfl (aqo (aqd (thn (he pins s1 σ H1 _ I1 q1) λiv s2 ⟨y,H2,I2,ry,kvs,k,v,ea,ey,l,q2⟩=>aqv ?_)));subst ey;exact acH I2 ea ry l 2e9 λw' s3 I3 rw'=>⟨v,_,I3,rw',q2⟩
end
section
variable{X:Cx}{pins:List (Addr×Obj)}{σ:St}{H:Hp}{s:Shared}{a:Addr}{kvs:List (Key×V)}{A:Around}{E:Value->Shared->Prop}
end
section
variable{X:Cx}{pins:List (Addr×Obj)}{σ:St}{H:Hp}{s:Shared}{a:Addr}{y:V}{u:Value}{A:Around}{E:Value->Shared->Prop}
end
end L2
namespace L2
open PySem PySem.Spec PyProof.Rows
section
variable{X:Cx}
theorem K7:uV X (.builtin "len") (λxs H Q=>∃ a kvs,xs=[V.ref a]/\H a=some 2e6/\Q (.int kvs.length) H):=by
  intro pins s σ H xs us Q I r h;obtain⟨a,kvs,rfl,ha,q⟩:=h;obtain⟨u,rfl,ru⟩:=vals1 r;cases ru;exact acI I (.inl ha) λt s' I'=>⟨.int kvs.length,H,I',⟨t,rfl⟩,q⟩
end
end L2
end
section
namespace LX
open PySem PySem.W
noncomputable def fL(c:Value)(od:Option Addr)(fs:Array Value)(sl:Array (Option Value)):Obj:={cls:=c,dict:=od,data:=.fields fs,slots:=sl}
noncomputable def ZW(dd:Option Addr)(cd:ClassData)(k0 k1 k2 k3 k5:Option Value):Obj:={cls:=.type "type",dict:=dd,data:=.cls cd,slots:=#[k0,k1,k2,k3,some (.builtin "ValueError.__new__"),k5]}
structure jC(K:Frag)(C:Addr)(cd:ClassData):Prop where
 ob:∃ dd k0 k1 k2 k3 k5,K.lookup C=some (ZW dd cd k0 k1 k2 k3 k5)
 del:cd.hasDel=false
 line:∃ r,cd.mro=.ref C::r
 val:cd.mro.contains 2e8=true
 bas:cd.mro.contains (.type "BaseException")=true
 obj:cd.mro.contains (.type "object")=true
 atr:cd.mro.contains (.type "AttributeError")=false
 nam:cd.mro.contains (.type "NameError")=false
noncomputable def NK(K:Frag)(C:Addr):Bool:=match K.lookup C with
 | some ⟨.type "type",_,.cls cd,sl⟩=>(match cd.mro,sl.toList with
  | .ref D::_,[_,_,_,_,some (.builtin n),_]=>D == C&&n == "ValueError.__new__" && !cd.hasDel&&cd.mro.contains 2e8&&cd.mro.contains (.type "BaseException") &&
    cd.mro.contains (.type "object")&&!cd.mro.contains (.type "AttributeError")&&!cd.mro.contains (.type "NameError")
  | _,_=>false)
 | _=>false
theorem mZ{K:Frag}{C:Addr}(e:NK K C=true):∃ cd,clsIn K C=some cd/\jC K C cd:=by
 unfold NK at e;split at e
 ·rename_i dd cd sl ho
  split at e
  ·rename_i D r k0 k1 k2 k3 n k5 hm hs
   simp only[aqn,beq_iff_eq,Bool.not_eq_true']at e;obtain⟨⟨⟨⟨⟨⟨⟨rfl,rfl⟩,e1⟩,e2⟩,e3⟩,e4⟩,e5⟩,e6⟩:=e;obtain⟨sl⟩:=sl;simp only at hs;subst hs;exact⟨cd,by unfold clsIn;rw[ho],⟨dd,k0,k1,k2,k3,k5,ho⟩,e1,⟨r,hm⟩,e2,e3,e4,e5,e6⟩
  ·cases e
 ·cases e
section
variable{K:Frag}{C:Addr}{cd:ClassData}{M:Model}{h:Heap}
theorem jC.cls(x:jC K C cd):clsIn K C=some cd:=by
 obtain⟨dd,k0,k1,k2,k3,k5,e⟩:=x.ob;unfold clsIn;rw[e];rfl
theorem jC.IV(x:jC K C cd):cd.mro.isEmpty=false:=by
 obtain⟨r,e⟩:=x.line;rw[e];rfl
theorem jC.sub(x:jC K C cd)(X:K.In h)(v:Value):Looks M h (isSubtype 3e7 v) (cd.mro.contains v) :=
 looks_mroIn X (by unfold mroIn;rw[x.cls,Option.bind_some,if_neg (by rw[x.IV];decide)])
theorem jC.mro(x:jC K C cd)(X:K.In h):Looks M h (mroOf 3e7) cd.mro:=(looks_clsIn X x.cls).andThen .now
theorem jC.typ(x:jC K C cd)(X:K.In h):Looks M h (typeOf 3e7) (.type "type"):=by
 obtain⟨dd,k0,k1,k2,k3,k5,e⟩:=x.ob;exact(Looks.ld (X _ _ e)).andThen .now
theorem jC.ajS(x:jC K C cd)(X:K.In h):Looks M h (isType 3e7) true:=by
 obtain⟨dd,k0,k1,k2,k3,k5,e⟩:=x.ob;intro A Q E s k q;unfold isType loadHead;exact wpAny_bind (wpAny_loadPart (k _ _ (X _ _ e)) (wpAny_pure q))
theorem jC.madeBy(x:jC K C cd)(X:K.In h):Looks M h (Bind.madeBy 3e7) (some "ValueError.__new__"):=by
 obtain⟨dd,k0,k1,k2,k3,k5,e⟩:=x.ob;obtain⟨r,hr⟩:=x.line;intro A Q E s k q;unfold Bind.madeBy;refine wpAny_bind (x.mro X A _ E s k ?_);rw[hr,List.forIn_cons];refine wpAny_bind (wpAny_bind (wpAny_bind (wpAny_bind (wpAny_loadPart (k _ _ (X _ _ e)) (wpAny_pure ?_)))));exact wpAny_pure (wpAny_pure (wpAny_pure q))
theorem jC.static(x:jC K C cd)(X:K.In h):Looks M h (Bind.staticBase 3e7) 3e7:=by
 obtain⟨r,hr⟩:=x.line;intro A Q E s k q;unfold Bind.staticBase;refine wpAny_bind (x.mro X A _ E s k ?_);rw[hr,List.forIn_cons];exact wpAny_bind (wpAny_bind (wpAny_bind (x.madeBy X A _ E s k (wpAny_pure (wpAny_pure (wpAny_pure q))))))
theorem X7:Manifest.canonical "ValueError.__new__" = Manifest.canonical "BaseException.__new__" := PySem.F.excBase_ValueError.canon
theorem jC.here(x:jC K C cd)(X:K.In h):Looks M h (Bind.madeHere "BaseException.__new__" 3e7) () :=
 (x.static X).andThen ((x.madeBy X).andThen (Looks.of_pure (by simp only[apy,X7,bne_self_eq_false,apr,if_false])))
end
noncomputable def Back(x:Addr)(R:Result->Shared->Prop)(r:Result)(s':Shared):Prop:=match r with
 | .ok (.ret v)=>v=.none/\R (.ok (.ret 5e2)) s'
 | .ok _=>False
 | .error e=>R (.error e) s'
noncomputable abbrev R3(C t:Addr):Obj:=fL 3e7 none #[.ref t,.none,.none,.none,.bool false,.none] #[]
noncomputable abbrev yL(vs:List Value):Obj:={cls:=.type "tuple",data:=.seq vs.toArray}
noncomputable abbrev tj(h:Heap)(C:Addr)(vs:List Value):Heap:=(h.push (yL vs)).push (R3 C h.objs.size)
section
variable{prog:Program}{w:World}{A:Around}{R:Result->Shared->Prop}{h:Heap}{g:Array GenState}{d:Drawn}{t:Nat}{os:OsState}{K:Frag}{C:Addr}{cd:ClassData}{vs:List Value}
theorem Vo(x:jC K C cd)(X:K.In h)(hv:vs.length<=sizeLine)(k:R (.ok (.ret (.ref (h.objs.size+1)))) ⟨tj h C vs,g,d,t,os⟩) :
  codeAny 1e8 A (.call (.builtin "ValueError.__new__") ⟨.ref C::vs,[]⟩) R ⟨h,g,d,t,os⟩:=by
 have F:=PySem.F.excBase_ValueError;have st:=x.static (M:=model prog w) X;have ty:=x.ajS (M:=model prog w) X;have mb:=x.madeBy (M:=model prog w) X;have hh:=x.here (M:=model prog w) X;have s1:=x.sub (M:=model prog w) X 2e8;rw[x.val]at s1;have s2:=x.sub (M:=model prog w) X (.type "AttributeError");rw[x.atr]at s2;have s3:=x.sub (M:=model prog w) X (.type "NameError");rw[x.nam]at s3;refine codeAny_call_builtin_code (Code.quiet_builtin _ F.quiet) ?_;have star:=F.noStar;simp only[checkBuiltinCall,F.newKind,F.newSplit,F.newRow]
 repeat (first|simp only[bne_self_eq_false,apr,if_false,Bool.not_true]|lk)
 refine codeAny_builtinAt F.entry ?_;unfold Builtin.«BaseException.__new__»;refine wpAt_bind ?_;show wpAt _ _ _ (stack >>= _) _ _ _;refine wpAt_bind (wpAt_stack λp below=>wpAt_of_wpAny ?_);have aox:=F.ends;wp_walk
 refine wpAt_of_wpAny ?_;rw[F.owner]
 repeat (first|simp only[bne_self_eq_false,apr,if_false,Bool.not_true]|lk)
 rw[if_neg (by rw[aoN];omega)];obtain⟨dd,k0,k1,k2,k3,k5,ho⟩:=x.ob
 repeat lk
 refine nd_load (aoK _ (aoK _ (X _ _ ho))) (wpAny_pure (wpAny_pure ?_));rw[x.del,if_neg aoO];refine wpAny_pure (wpAny_pure ?_);show R _ _;rw[ap4];exact k
theorem Vp{f:Addr}(x:jC K C cd)(X:K.In h)(hi:findIn K (.ref C) "__init__" = some (some (.ref f)))(hf:typeIn K (.ref f)=some (.type "function"))(hv:vs.length<=sizeLine)
  (k:codeAny (model prog w) (A.under (.builtin "type.__call__" ⟨.ref C::vs,[]⟩)) (.call (.ref f) ⟨.ref (h.objs.size+1)::vs,[]⟩) (Back (h.objs.size+1) R) ⟨tj h C vs,g,d,t,os⟩) :
  codeAny 1e8 A (.call 3e7 ⟨vs,[]⟩) R ⟨h,g,d,t,os⟩:=by
 obtain⟨dd,k0,k1,k2,k3,k5,ho⟩:=x.ob;have hC:=X _ _ ho;have ht:=x.typ (M:=model prog w) X;refine codeAny_of_tree ?_;show wpAny _ _ (callAny 3e7 _) _ _ _;refine nd_load hC ?_;show wpAny _ _ (callAny.viaDunder 3e7 _) _ _ _;unfold callAny.viaDunder;have sp:Looks 1e8 h (specialOf 3e7 "__call__") (some (.builtin "type.__call__")):=ht.andThen (Looks.of_pure tc_lookup);refine wpAny_bind (sp.at ?_);dsimp only;rw[tc_bind];refine wpAny_bind (wpAny_pure (wpAny_bind (wpAny_pure ?_)));refine wpAny_pure (a:=Fin.again (.call (.builtin "type.__call__") ⟨.ref C::vs,[]⟩)) (And.intro rfl ?_);refine codeAny_call_builtin_at (Code.quiet_builtin _ 2e4) entry_typeCall (check_slot tc_kind tc_split (ht.andThen (Looks.of_pure tc_sub)) (tc_args _ _ _) ?_);unfold Builtin.«type.__call__»;have hm:=x.mro (M:=model prog w) X;have em:=x.IV;have mb:=x.madeBy (M:=model prog w) X
 repeat (first|simp only[em,apr,if_false]|with_reducible refine wpAny_call ?_|lk)
 refine Vo x X hv ?_;have kp:∀ b o,h.get? b=some o->(tj h C vs).get? b=some o:=λb o e=>aoK _ (aoK _ e);have X1:K.In (tj h C vs):=X.keeps kp;have hx:(tj h C vs).get? (h.objs.size+1)=some (R3 C h.objs.size):=by heap_get
 have t1:Looks 1e8 (tj h C vs) (typeOf (.ref (h.objs.size+1))) 3e7:=(Looks.ld hx).andThen .now;have s1:=x.sub (M:=model prog w) X1 3e7;obtain⟨r,hr⟩:=x.line;rw[show cd.mro.contains 3e7=true by rw[hr];simp]at s1;have i1:=looks_findIn (M:=model prog w) X1 hi;have b1:=bind_fn (M:=model prog w) X1 (.ref (h.objs.size+1)) hf;unfold isInstance callSpecial? specialOf
 repeat (first|with_reducible refine wpAny_call ?_|lk)
 refine codeAny_mono k λr s' z=>?_;rcases r with e|(v|_|_|_)<;>first|exact z|exact z.elim|skip;obtain⟨rfl,z⟩:=z;exact wpAny_pure (wpAny_pure z)
end
section
variable{prog:Program}{w:World}{A:Around}{E:Value->Shared->Prop}{h:Heap}{g:Array GenState}{d:Drawn}{t:Nat}{os:OsState}{K:Frag}{C e t0:Addr}{cd:ClassData}{vs:List Value}{od:Option Addr}{fs:Array Value}{sl:Array (Option Value)}
theorem IW{M:Model}(he:h.get? e=some (fL (.ref C) od fs sl)):Looks M h (typeOf (.ref e)) 3e7:=(Looks.ld he).andThen .now
theorem N7{Q:Value->Shared->Prop}(x:jC K C cd)(X:K.In h)(he:h.get? e=some (fL (.ref C) od fs sl))(h0:fs[0]?=some (.ref t0))(hv:vs.length<=sizeLine)
  (k:Q .none ⟨(h.push (yL vs)).update e (Obj.mapFields (·.setIfInBounds 0 (.ref h.objs.size))),g,d,t,os⟩) :
  wpAny 1e8 A (call (.builtin "ValueError.__init__") (.ref e::vs)) Q E ⟨h,g,d,t,os⟩:=by
 have F:=PySem.F.excBase_ValueError;have ty:=IW (M:=model prog w) he;have s1:=x.sub (M:=model prog w) X 2e8;rw[x.val]at s1;obtain⟨dd,k0,k1,k2,k3,k5,ho⟩:=x.ob;have hC:h.get? C=some ⟨.type "type",dd,.cls cd,#[k0,k1,k2,k3,some (.builtin "ValueError.__new__"),k5]⟩:=X _ _ ho;have star:=F.noStar;refine wpAny_call (codeAny_call_builtin F.init.plain F.initEntry ?_);simp only[checkBuiltinCall,F.initKind,F.initSplit,F.initRow];unfold isInstance Bind.checkArgs;refine wpAny_bind (wpAny_bind (ty.at (s1.at ?_)));simp only[apr,if_false,Bool.not_true];refine wpAny_bind (m:=Bind.printed "*" true _ _) ?_;unfold Bind.printed Bind.receiverType typeNameWhole;rw[if_neg 2e0];dsimp only;rw[if_neg 2e0];refine wpAny_bind (ty.at ?_);refine wpAny_bind (wpAny_bind ((looks_clsIn X x.cls).at (wpAny_pure (wpAny_pure ?_))));refine wpAny_bind (m:=if("ValueError" != "*")=true then pure "ValueError" else _) ?_;rw[if_pos star];refine wpAny_pure (wpAny_onRaise ?_);show wpAny _ _ (Bind.check _ _ _ _ []) _ _ _;rw[PyProof.Rows.check_varPos];refine wpAny_pure ?_;unfold Builtin.«BaseException.__init__»;dsimp only;rw[if_neg 1e9];unfold newTuple Builtin.BaseException.bexcPut;have hsz:0<fs.size:=(ao9.mp h0).1;have e1:=aoK (h:=h) (yL vs) he;refine wpAny_bind (wpAny_newObj_type ?_ (by show vs.toArray.size<=sizeLine;rw[aoN];exact hv));refine wpAny_bind (wpAny_bind (wpAny_field (s:=⟨h.push (yL vs),g,d,t,os⟩) e1 rfl h0 ?_));refine wpAny_bind (wpAny_setField (s:=⟨h.push (yL vs),g,d,t,os⟩) e1 rfl hsz ?_);exact wpAny_letGo (wpAny_pure k)
end
section
variable{prog:Program}{w:World}{A:Around}{E:Value->Shared->Prop}{s:Shared}{K:Frag}
theorem X8:findCls K 2e8 (.type "type") "__init__" = some (.val (.builtin "ValueError.__init__")):=by kernel_rfl
theorem Y4:findIn K (.type "type") "__getattribute__" = some (some (.builtin "type.__getattribute__")):=by kernel_rfl
theorem V3{M:Model}{h:Heap}:Looks M h (typeOf 2e8) (.type "type"):=Looks.of_pure 1e4
theorem ZX:subIn K (.type "type") (.type "type")=some true:=by kernel_rfl
theorem ZY{M:Model}{h:Heap}:Looks M h (opaqueClassAbove 2e8) none:=Looks.of_pure 1e4
theorem X9{pl:Sem Bool}{Q:Value×List Value->Shared->Prop}(X:K.In s.heap)(k:Q (.builtin "ValueError.__init__",[]) {s with toks:=s.toks+1}) :
  wpAny 1e8 A (getMethod 2e8 "__init__" pl) Q E s:=by
 have sp:Looks 1e8 s.heap (specialOf 2e8 "__getattribute__") (some (.builtin "type.__getattribute__")):=V3.andThen (looks_findIn X Y4);unfold getMethod;refine wpAny_bind (sp.here ?_);dsimp only;rw[if_pos canon_tga];refine wpAny_bind (cls_open (hook:=none) X ZY V3 Y4 (Looks.of_pure 1e4) ZX X8 ?_);refine wpAny_pure ?_;show wpAny _ _ (handedOut _) _ _ _;rw[handedOut_of 1e4];exact wpAny_pure (wpAny_pure k)
end
section
variable{prog:Program}{w:World}{A:Around}{E:Value->Shared->Prop}{s:Shared}{K:Frag}{env:Env}
noncomputable def T6(K:Frag)(E:Value->Shared->Prop)(v:Value)(s1:Shared):Prop :=
 ∃(ea C:Addr) (cd:ClassData) (od:Option Addr) (fs:Array Value) (sl:Array (Option Value)),v=.ref ea/\s1.heap.get? ea=some (fL 3e7 od fs sl)/\fs[1]?=some .none/\jC K C cd/\K.In s1.heap/\E (.ref ea) s1
theorem T7{e:Expr}{pos:Pos}{Q:Flow->Shared->Prop}(hh:A.handled=none)(k:wpAny (model prog w) A (eval e env) (T6 K E) E s) :
  wpAny 1e8 A (exec (.Raise (some e) none pos) env) Q E s:=by
 show wpAny 1e8 A (do standAt pos;raiseStmt env (some (do let v <-eval e env;standAt pos;pure v)) none) Q E s
 refine wpAny_bind (wpAny_standAt ?_);unfold raiseStmt;dsimp only;refine wpAny_bind (wpAny_bind (wpAny_mono k (λv s1 q=>wpAny_bind (wpAny_standAt (wpAny_pure ?_))) λ_ _ z=>z));obtain⟨ea,C,cd,od,fs,sl,rfl,he,h1,x,X,hE⟩:=q;obtain⟨hp,g,d,tk,os⟩:=s1;have ty:=IW (M:=model prog w) he;have nt:Looks 1e8 hp (isType (.ref ea)) false:=by
  intro A' Q' E' s' kk q;unfold isType loadHead;exact wpAny_bind (wpAny_loadPart (kk _ _ he) (wpAny_pure q))
 have sb:=x.sub (M:=model prog w) X (.type "BaseException");rw[x.bas]at sb;have ct:=x.typ (M:=model prog w) X;have f1:Looks 1e8 hp (field (.ref ea) 1) .none:=looks_field he 1 h1;refine wpAny_bind (wpAny_pure ?_);dsimp only;refine wpAny_bind (wpAny_holding ?_);unfold excFromValue isExcClass isInstance
 repeat (first|simp only[apr,if_false,if_true]|lk)
 show wpAny _ _ handled _ _ _;refine wpAny_handled ?_;rw[hh];exact wpAny_throw hE
theorem N8{ea C D:Addr}{cd cd':ClassData}{od:Option Addr}{fs:Array Value}{sl:Array (Option Value)}{h:Heap}{g:Array GenState}{d:Drawn}{t:Nat}{os:OsState}{Q:Bool->Shared->Prop}{M:Model}(x:jC K C cd)(y:jC K D cd')(X:K.In h)
  (he:h.get? ea=some (fL (.ref C) od fs sl)) (q:Q (cd.mro.contains (.ref D)) ⟨h,g,d,t,os⟩):wpAny M A (excMatches (.ref ea) (.ref D)) Q E ⟨h,g,d,t,os⟩:=by
 have ty:=IW (M:=M) he;have td:=y.typ (M:=M) X;have ti:=y.ajS (M:=M) X;have tn:Looks M h (isSubtype (.type "type") (.type "tuple")) false:=Looks.of_pure tc_notTuple;have yb:=y.sub (M:=M) X (.type "BaseException");rw[y.bas]at yb;have xs:=x.sub (M:=M) X (.ref D);unfold excMatches isInstance isExcClass
 repeat (first|simp only[apr,if_false,if_true,Bool.not_true]|lk)
 cases hb:cd.mro.contains (.ref D) with
 | true =>
  rw[hb]at q;simp only[if_true]
  repeat lk
  exact q
 | false =>
  rw[hb]at q;simp only[apr,if_false]
  repeat lk
  exact q
end
structure anS(K:Frag)(C:Addr):Prop where
 ga:findIn K 3e7 "__getattribute__" = some (some (.builtin "BaseException.__getattribute__"))
 gt:findIn K 3e7 "__getattr__" = some none
section
variable{prog:Program}{w:World}{A:Around}{E:Value->Shared->Prop}{h:Heap}{g:Array GenState}{d:Drawn}{t:Nat}{os:OsState}{K:Frag}{C ea:Addr}{cd:ClassData}{ox:Obj}{od:Option Obj}{name:Str}
end
section
variable{prog:Program}{w:World}{A:Around}{E:Value->Shared->Prop}{h:Heap}{g:Array GenState}{d:Drawn}{t:Nat}{os:OsState}{K:Frag}{C CH ea:Addr}{cd:ClassData}{fs:Array Value}{sl:Array (Option Value)}{name:Str}{v:Value}
end
end LX
end
section
namespace LX
open PySem
structure Kept(fr xs:List Addr)(h k:Heap):Prop where
 plain:∀ b o,h.get? b=some o->b∉fr->b∉xs->k.get? b=some o
 frame:∀ b o,h.get? b=some o->b∈fr->b∉xs->∃ sl,k.get? b=some {o with slots:=sl}
theorem Kept.trans{fr xs ys:List Addr}{h k m:Heap}(x:Kept fr xs h k)(y:Kept fr ys k m):Kept fr (xs++ys) h m where
 plain:=λb o e hb hx=>y.plain b o (x.plain b o e hb λz=>hx (apf _ z)) hb λz=>hx (aoP _ z)
 frame:=λb o e hb hx=>by
  obtain⟨sl,e1⟩:=x.frame b o e hb λz=>hx (apf _ z);obtain⟨sm,e2⟩:=y.frame b _ e1 hb λz=>hx (aoP _ z);exact⟨sm,e2⟩
theorem Kept.weak{fr xs ys:List Addr}{h k:Heap}(x:Kept fr xs h k)(s:∀ b o,h.get? b=some o->b∈xs->b∈ys):Kept fr ys h k :=
 ⟨λb o e hb hy=>x.plain b o e hb λz=>hy (s b o e z),λb o e hb hy=>x.frame b o e hb λz=>hy (s b o e z)⟩
noncomputable abbrev gO(l:List Env):List Addr:=l.filterMap (·.frame)
section
variable{M:Model}{A:Around}{E:Value->Shared->Prop}{s:Shared}{base:Heap}{env:Env}{outer:List Env}{L e:Addr}{c:Value}{od:Option Addr}{fs:Array Value}{sl:Array (Option Value)}
theorem PD{l:List Env}(F:s.heap.FunFrames base l)(he:s.heap.get? e=some (fL c od fs sl)):e∉gO l:=λz=>by
 obtain⟨_,o,ho,hn⟩:=F.mem z;rw[he]at ho;cases ho;exact hn fs rfl
theorem Dx{h:Heap}{a:Addr}{i:Nat}{x:Value}(ha:h.get? a=some (fL c od fs sl)) :
  (h.update a (Obj.mapFields (·.setIfInBounds i x))).get? a=some (fL c od (fs.setIfInBounds i x) sl):=Heap.get?_update_self _ ha rfl
theorem Ig{head:Value}{had:Bool}{Q:Unit->Shared->Prop}(hA:A.frames=some (env::outer))(F:s.heap.FunFrames base (env::outer))(hL:env.frame=some L)
  (he:s.heap.get? e=some (fL c od fs sl)) (h1:1<fs.size)
  (k:∀ m T oc ts,s.heap.objs.size<=T->Kept (gO (env::outer)) [e] s.heap m->m.get? e=some (fL c od (fs.setIfInBounds 1 (.ref T)) sl)->m.get? T=some (fL oc none ts #[])->ts[3]?=some (rawInt L)->Q () {s with heap:=m}) :
  wpAny M A (do let a <-frameOf env;let pl <-entryPlaceOf L had;let b <-EntryCells.newEntry head a .none (rawInt L) .none pl;setField (.ref e) 1 b) Q E s:=by
 have ne:=PD F he;refine wpAny_bind (wpAny_frameOf_fun hA F hL λg hg=>?_);obtain⟨g0,g1,g2⟩:=hg;refine wpAny_bind (wpAny_entryPlaceOf λpl hp=>?_);unfold EntryCells.newEntry newFields;refine wpAny_bind (wpAny_newObj_type ?_ (hp.sizeOk5 _ _ _ _ _));have e1:g.get? e=some (fL c od fs sl):=(g1 e ne).trans he;have e2:=aoK (h:=g) {cls:=.type "traceback",dict:=none,data:=.fields ([head,.ref L,.none,rawInt L,.none]++(if pl.isEmpty then List.replicate 6 Value.none else pl)).toArray} e1;refine wpAny_setField e2 rfl h1 ?_;have Te:g.objs.size≠e:=apX (aoQ e1);refine k _ g.objs.size (.type "traceback") ([head,.ref L,.none,rawInt L,.none]++(if pl.isEmpty then List.replicate 6 Value.none else pl)).toArray (Nat.le_of_eq g0.symm) ⟨λb o q hb hx=>?_,λb o q hb hx=>?_⟩ (Dx e2) ?_ ?_
 ·have be:b≠e:=λz=>hx (by rw[z];exact aoH.mpr rfl)
  rw[apj _ _ (aoT be)];exact aoK _ ((g1 b hb).trans q)
 ·have be:b≠e:=λz=>hx (by rw[z];exact aoH.mpr rfl)
  obtain⟨sm,q2⟩:=g2 b o q;refine⟨sm,?_⟩;rw[apj _ _ (aoT be)];exact aoK _ q2
 ·rw[apj _ _ (aoT Te)]
  exact apa g rfl
 ·first|(simp;done)|(rcases hp with rfl|⟨_,_,_,_,_,_,_,rfl⟩<;>simp)
inductive yz(h:Heap)(e:Addr)(fs:Array Value):Option Addr->Prop where
 | none (h1:fs[1]?=some .none):yz h e fs none
 | some {T:Addr} {oc:Value} {ts:Array Value} {d:Option Addr} {sl:Array (Option Value)} (h1:fs[1]?=some (.ref T)) (ne:T≠e) (hT:h.get? T=some (fL oc d ts sl)) (h3:ts[3]?=some .none):yz h e fs (some T)
theorem yz.size{h:Heap}{fs:Array Value}{T:Option Addr}(t:yz h e fs T):1<fs.size:=by
 cases t with
 | none h1=>exact(ao9.mp h1).1
 | some h1=>exact(ao9.mp h1).1
theorem Ny{T0:Option Addr}{Q:Unit->Shared->Prop}(hA:A.frames=some (env::outer))(F:s.heap.FunFrames base (env::outer))(hL:env.frame=some L)(he:s.heap.get? e=some (fL c od fs sl))(t:yz s.heap e fs T0)
  (k:∀ m T oc ts,s.heap.objs.size<=T->Kept (gO (env::outer)) (e::T0.toList) s.heap m->m.get? e=some (fL c od (fs.setIfInBounds 1 (.ref T)) sl)->m.get? T=some (fL oc none ts #[])->ts[3]?=some (rawInt L)->Q () {s with heap:=m}) :
  wpAny M A (noteFrame (.ref e) env) Q E s:=by
 unfold noteFrame;simp only[hL];have h1s:=t.size;cases t with
 | none h1 =>
  refine wpAny_bind (wpAny_field he rfl h1 ?_);rw[if_neg 2e0];exact Ig hA F hL he h1s k
 | @some T oc ts d sm h1 ne hT h3 =>
  refine wpAny_bind (wpAny_field he rfl h1 ?_);rw[if_pos (show(Value.ref T != Value.none)=true by simp)];refine wpAny_bind (wpAny_field hT rfl h3 ?_);rw[if_neg (show ¬((Value.none == rawInt L)=true) by simp[rawInt])];have h3s:3<ts.size:=(ao9.mp h3).1;refine wpAny_bind (wpAny_setField hT rfl h3s ?_);have oth:∀ b,b≠T->(s.heap.update T (Obj.mapFields (·.setIfInBounds 3 Value.none))).get? b=s.heap.get? b:=λb hb=>apj _ _ (aoT hb);have nT:=PD F hT;have F1:(s.heap.update T (Obj.mapFields (·.setIfInBounds 3 Value.none))).FunFrames base (env::outer):=F.of_keeps λb o hb hn=>⟨o,(oth b λz=>by rw[z,hT]at hb;cases hb;exact hn ts rfl).trans hb,rfl⟩;refine Ig (s:={s with heap:=s.heap.update T (Obj.mapFields (·.setIfInBounds 3 Value.none))}) hA F1 hL ((oth e (aoT ne)).trans he) h1s λm T' oc' ts' z1 z2 z3 z4 z5=>k m T' oc' ts' ?_ ?_ z3 z4 z5
  ·have zz:(s.heap.update T (Obj.mapFields (·.setIfInBounds 3 Value.none))).objs.size=s.heap.objs.size:=(Heap.SameBut.update (h:=s.heap) (a:=T) (f:=Obj.mapFields (·.setIfInBounds 3 Value.none))).1
   rw[<-zz];exact z1
  ·have kk:Kept (gO (env::outer)) [T] s.heap (s.heap.update T (Obj.mapFields (·.setIfInBounds 3 Value.none))) :=
    ⟨λb o q _ hx=>(oth b λz=>hx (by rw[z];exact aoH.mpr rfl)).trans q,λb o q _ hx=>⟨o.slots,(oth b λz=>hx (by rw[z];exact aoH.mpr rfl)).trans q⟩⟩
   refine(kk.trans z2).weak λb o _ q=>?_;simp only[aoU,aoH]at q;simp only[Option.toList_some,ao2,ap7,or_false];exact q.symm
theorem uW{T:Addr}{oc:Value}{ts:Array Value}{d:Option Addr}{sm:Array (Option Value)}{Q:Unit->Shared->Prop}(he:s.heap.get? e=some (fL c od fs sl))(h1:fs[1]?=some (.ref T))(ne:T≠e)
  (hT:s.heap.get? T=some (fL oc d ts sm)) (h3:3<ts.size)
  (k:∀ m,(∀ b o,b≠T->s.heap.get? b=some o->m.get? b=some o)->yz m e fs (some T)->m.get? e=some (fL c od fs sl)->Q () {s with heap:=m}):wpAny M A (setFlight (.ref e) none) Q E s:=by
 unfold setFlight;refine wpAny_bind (wpAny_field he rfl h1 ?_);rw[if_pos (show(Value.ref T != Value.none)=true by simp)];have oth:∀ b o,b≠T->s.heap.get? b=some o->(s.heap.update T (Obj.mapFields (·.setIfInBounds 3 Value.none))).get? b=some o:=λb o hb q=>(apj _ _ (aoT hb)).trans q;exact wpAny_setField hT rfl h3 (k _ oth (.some h1 ne (Dx hT) (by simp[h3])) (oth e _ (aoT ne) he))
theorem R4{T0:Option Addr}{Q:Unit->Shared->Prop}(hA:A.frames=some (env::outer))(F:s.heap.FunFrames base (env::outer))(hL:env.frame=some L)(he:s.heap.get? e=some (fL c od fs sl))(t:yz s.heap e fs T0)
  (k:∀ m T fs',s.heap.objs.size<=T->Kept (gO (env::outer)) (e::T0.toList) s.heap m->m.get? e=some (fL c od fs' sl)->fs'[0]?=fs[0]?->yz m e fs' (some T)->Q () {s with heap:=m}) :
  wpAny M A (leaving env (.ref e)) Q E s:=by
 unfold leaving;refine wpAny_bind (Ny hA F hL he t λm T oc ts z1 z2 z3 z4 z5=>?_);have Te:T≠e:=apX (ao0 (aoQ he) z1);have f1:(fs.setIfInBounds 1 (Value.ref T))[1]?=some (.ref T):=by
  have:=t.size
  simp[this]
 refine uW (s:={s with heap:=m}) z3 f1 Te z4 (ao9.mp z5).1 λm' q1 q2 q3=>k m' T _ z1 ⟨λb o q hb hx=>?_,λb o q hb hx=>?_⟩ q3 1e9 q2
 ·exact q1 b o (aoW (ao0 (aoQ q) z1)) (z2.plain b o q hb hx)
 ·obtain⟨sm,r⟩:=z2.frame b o q hb hx
  exact⟨sm,q1 b _ (aoW (ao0 (aoQ q) z1)) r⟩
end
end LX
end
section
namespace L2
open PySem PySem.Spec PyProof.Rows LX
noncomputable def ExP(fresh:Bool)(C e:Addr)(od:Option Addr)(h:Heap):Prop:=∃ fs sl t0,h.get? e=some (fL 3e7 od fs sl)/\fs[0]?=some (.ref t0)/\(fresh=true->fs[1]?=some .none)
noncomputable def exo(fresh:Bool)(C e:Addr)(od:Option Addr):HO:=.ext (ExP fresh C e od)
section
variable{P:Program}{w:World}{H:Hp}{h:Heap}{b:Bool}{C e:Addr}{od:Option Addr}
theorem V4(x:ExP b C e od h):jd P w H h e (exo b C e od):=by
 refine⟨x,?_,λh1 h2 p k=>?_⟩
 ·obtain⟨fs,sl,t0,z,_⟩:=x
  exact⟨_,z⟩
 ·obtain⟨fs,sl,t0,z,r⟩:=p
  exact⟨fs,sl,t0,k _ z,r⟩
theorem Nz(ok:HOk P w H h)(z:H e=some (exo b C e od)):ExP b C e od h:=(show jd P w H h e (exo b C e od) from ok e _ z).1
end
noncomputable def del(H:Hp)(a:Addr):Hp:=λb=>if b=a then none else H b
theorem PH{H:Hp}{a:Addr}:del H a a=none:=by unfold del;rw[if_pos rfl]
theorem yM{H:Hp}{a b:Addr}(h:b≠a):del H a b=H b:=by unfold del;rw[if_neg h]
theorem PJ{H:Hp}{a b:Addr}{o:HO}(h:del H a b=some o):H b=some o/\b≠a:=by
 unfold del at h;by_cases q:b=a
 ·rw[if_pos q]at h;cases h
 ·rw[if_neg q]at h;exact⟨h,q⟩
section
variable{P:Program}{w:World}{H H':Hp}{h h':Heap}{a:Addr}
theorem HOk.keeps(ok:HOk P w H h)(k:∀ b u o,H b=some u->h.get? b=some o->h'.get? b=some o):HOk P w H h':=λb u q =>
 (ok b u q).Pp (λc v hc r=>by
  rcases hc with rfl|hc
  ·exact k c u v q r
  ·exact k c _ v hc r) (λ_ z=>z) λ_ _ z=>z
theorem HOk.del(ok:HOk P w H h)(ha:∀ y,H a≠some (.own y))(hb:∀ xs,H a≠some (.tup xs)):HOk P w (del H a) h:=λb u q=>by
 obtain⟨q1,q2⟩:=PJ q;refine(ok b u q1).Pp (λ_ _ _ r=>r) (λc z=>?_) λc xs z=>?_
 ·rw[yM λe=>ha b (by rw[<-e];exact z)];exact z
 ·rw[yM λe=>hb xs (by rw[<-e];exact z)];exact z
end
theorem wJ{h k base:Heap}:∀ {l:List Env},h.FunFrames base l->(∀ b∈frs l,∀ o,h.get? b=some o->∃ sl,k.get? b=some {o with slots:=sl})->k.FunFrames base l
 | [],_,_=>True.intro
 | env::r,⟨h1,⟨L,o,e1,e2,e3,e4⟩,h2⟩,q=>by
  have hm:L∈frs (env::r):=apG.mpr ⟨env,ao3,e1⟩;obtain⟨sl,z⟩:=q L hm o e3;refine⟨h1,⟨L,_,e1,e2,z,e4⟩,wJ h2 λb hb o' z'=>q b ?_ o' z'⟩;obtain⟨x,hx,hy⟩:=apG.mp hb;exact apG.mpr ⟨x,ao6 _ hx,hy⟩
structure Lies(P:Program)(w:World)(outer:List Env)(H H':Hp)(s:Shared)(ea C T:Addr)(od:Option Addr)(fs:Array Value)(sl:Array (Option Value))(s':Shared):Prop where
 os:s'.os=s.os
 bare:AllBare s'.gens
 un:Un (frs outer) [] H H' s.heap s'.heap
 hok:HOk P w H' s'.heap
 acb:s.heap.get? ea=none
 anT:s.heap.get? T=none
 Xe:H' ea=none
 acL:H' T=none
 at_:s'.heap.get? ea=some (fL 3e7 od fs sl)
 args:∃ t0,fs[0]?=some (.ref t0)
 trail:yz s'.heap ea fs (some T)
noncomputable def CXE(P:Program)(w:World):CXT:=λouter H s E e s'=>∃ ea C T od fs sl H',e=.ref ea/\Lies P w outer H H' s ea C T od fs sl s'/\E 3e7 od H'
section
variable{X:Cx}{pins:List (Addr×Obj)}{σ:St}{H H':Hp}{s s':Shared}{ea C T:Addr}{od:Option Addr}{fs:Array Value}{sl:Array (Option Value)}
theorem Lies.frames(I:Inv X pins σ H s)(l:Lies X.prog X.w X.stack H H' s ea C T od fs sl s'):s'.heap.FunFrames X.base X.stack :=
 wJ I.stack λb hb o z=>l.un.any z (I.Du b hb) 1e9
theorem Lies.on{m:Heap}{t':Nat}(I:Inv X pins σ H s)(l:Lies X.prog X.w X.stack H H' s ea C T od fs sl s')(k:Kept (gO X.stack) [ea,T] s'.heap m) :
  Un (frs X.stack) [] H H' s.heap m/\HOk X.prog X.w H' m:=by
 have fr:∀ b,b∈frs X.stack->H' b=none:=λb hb=>by
  obtain⟨_,o,z,_⟩:=I.stack.mem hb;exact l.un.free b o z (I.Du b hb) 1e9
 have ne:∀ b o,s.heap.get? b=some o->b∉[ea,T]:=λb o z q=>by
  rcases ao2.mp q with e|q
  ·rw[e,l.acb]at z;cases z
  ·rw[aoH.mp q,l.anT]at z;cases z
 refine⟨⟨λb o z n hb hx=>?_,λb o z n hb hx=>?_,l.un.free,λb o z hx=>?_,l.un.KW,l.un.Jh,l.un.KY⟩,?_⟩
 ·exact k.plain b o (l.un.keep b o z n hb hx) hb (ne b o z)
 ·obtain⟨s1,z1⟩:=l.un.slot b o z n hb hx
  obtain⟨s2,z2⟩:=k.frame b _ z1 hb (ne b o z);exact⟨s2,z2⟩
 ·obtain⟨o1,z1⟩:=l.un.there b o z hx
  by_cases hb:b∈gO X.stack
  ·obtain⟨s2,z2⟩:=k.frame b _ z1 hb (ne b o z)
   exact⟨_,z2⟩
  ·exact⟨_,k.plain b _ z1 hb (ne b o z)⟩
 ·refine l.hok.keeps λb u o z q=>k.plain b o q (λhb=>?_) λhx=>?_
  ·rw[fr b hb]at z;cases z
  ·rcases ao2.mp hx with e|hx
   ·rw[e,l.Xe]at z;cases z
   ·rw[aoH.mp hx,l.acL]at z;cases z
end
section
variable{P:Program}{w:World}{K:W.Frag}{mg:Str->Option Value}{base:Heap}{N:List Str}{qual:Str}{scope:Scope}{f:Addr}{cdv:Value}{A:Around}{outer:List Env}{s₀:Shared}{H₀:Hp}{E₀:XK}
noncomputable abbrev cxE(P:Program)(w:World)(K:W.Frag)(mg:Str->Option Value)(base:Heap)(N:List Str)(qual:Str)(scope:Scope)(f:Addr)(cdv:Value)(A:Around)(outer:List Env)(s₀:Shared)(H₀:Hp)(E₀:XK):Cx :=
 VX (CXE P w) P w K mg base N qual scope f cdv A outer s₀ H₀ E₀
theorem QU{pins:List (Addr×Obj)}{σ:St}{H H':Hp}{s s':Shared}{ea C T:Addr}{od:Option Addr}{fs:Array Value}{sl:Array (Option Value)}(I:Inv (cxE P w K mg base N qual scope f cdv A outer s₀ H₀ E₀) pins σ H s)
  (l:Lies P w (cxE P w K mg base N qual scope f cdv A outer s₀ H₀ E₀).stack H H' s ea C T od fs sl s') (hE:E₀ (.ref C) od H'):(cxE P w K mg base N qual scope f cdv A outer s₀ H₀ E₀).xe (.ref ea) s':=by
 refine R4 I.ok.frames (Lies.frames I l) rfl l.at_ l.trail λm T' fs' z1 z2 z3 z4 z5=>?_;obtain⟨un,hok⟩:=l.on (t':=s'.toks) I z2;have J:Inv (cxE P w K mg base N qual scope f cdv A outer s₀ H₀ E₀) pins σ H' {s' with heap:=m}:=I.NI l.os un hok l.bare (λb z=>absurd z 1e9);have old:∀ b o,s₀.heap.get? b=some o->∃ o',s.heap.get? b=some o':=λb o z=>I.base.there b o z (ap7);have e0:s₀.heap.get? ea=none:=by
  cases q:s₀.heap.get? ea with
  | none=>rfl
  | some o =>
   obtain⟨o',z⟩:=old ea o q;rw[l.acb]at z;cases z
 have t0:s₀.heap.get? T'=none:=by
  cases q:s₀.heap.get? T' with
  | none=>rfl
  | some o =>
   obtain⟨o1,y1⟩:=old T' o q;obtain⟨o2,y2⟩:=l.un.there T' o1 y1 1e9;exact absurd (aoQ y2) (Nat.not_lt.mpr z1)
 obtain⟨a0,ha⟩:=l.args;exact⟨ea,C,T',od,fs',sl,H',rfl,⟨J.os,J.bare,J.base,J.hok,e0,t0,l.Xe,l.hok.fresh z1,z3,⟨a0,by rw[z4];exact ha⟩,z5⟩,hE⟩
theorem UN{E:XK}(hE:∀ c od H',E c od H'->E₀ c od H'):Passes (CXE P w) (cxE P w K mg base N qual scope f cdv A outer s₀ H₀ E₀) E:=λpins σ H s e s' I h=>by
 obtain⟨ea,C,T,od,fs,sl,H',rfl,l,q⟩:=h;exact QU I l (hE _ _ _ q)
theorem leave_new{pins:List (Addr×Obj)}{σ:St}{H:Hp}{s:Shared}{ea C:Addr}{od:Option Addr}(I:Inv (cxE P w K mg base N qual scope f cdv A outer s₀ H₀ E₀) pins σ H s)(h1:H ea=some (exo true C ea od))(h0:H₀ ea=none)
  (hE:E₀ (.ref C) od (del H ea)):(cxE P w K mg base N qual scope f cdv A outer s₀ H₀ E₀).xe (.ref ea) s:=by
 obtain⟨fs,sl,a0,z,ha,hf⟩:=Nz I.hok h1;have frz:∀ b,b∈frs (cxE P w K mg base N qual scope f cdv A outer s₀ H₀ E₀).stack->H b=none:=I.Du;have e0:s₀.heap.get? ea=none:=by
  cases q:s₀.heap.get? ea with
  | none=>rfl
  | some o =>
   have:=I.base.free ea o q h0 ap7
   rw[h1]at this;cases this
 refine R4 I.ok.frames I.stack rfl z (.none (hf rfl)) λm T' fs' z1 z2 z3 z4 z5=>?_;have hd:HOk P w (del H ea) s.heap:=I.hok.del (λy q=>by rw[h1]at q;cases q) λxs q=>by rw[h1]at q;cases q
 have hm:HOk P w (del H ea) m:=hd.keeps λb u o q r=>by
  obtain⟨q1,q2⟩:=PJ q;exact z2.plain b o r (λhb=>by rw[frz b hb]at q1;cases q1) (by simpa using q2)
 have neE:∀ b o,s₀.heap.get? b=some o->b≠ea:=λb o q r=>by rw[r,e0]at q;cases q
 have t0:s₀.heap.get? T'=none:=by
  cases q:s₀.heap.get? T' with
  | none=>rfl
  | some o =>
   obtain⟨o2,y2⟩:=I.base.there T' o q ap7;exact absurd (aoQ y2) (Nat.not_lt.mpr z1)
 have neL:∀ b o,s₀.heap.get? b=some o->b∈gO (cxE P w K mg base N qual scope f cdv A outer s₀ H₀ E₀).stack->b∈frs outer:=λb o q hb=>by
  rcases ao2.mp (I.C9 b hb) with r|r
  ·exact absurd (aoQ q) (by rw[r];exact Nat.not_lt.mpr I.ok.above)
  ·exact r
 have sub:∀ b,b∈frs outer->b∈gO (cxE P w K mg base N qual scope f cdv A outer s₀ H₀ E₀).stack:=λb hb=>by
  obtain⟨x,hx,hy⟩:=apG.mp hb;exact apG.mpr ⟨x,ao6 _ hx,hy⟩
 refine⟨ea,C,T',od,fs',sl,del H ea,rfl,⟨I.os,I.bare,⟨λb o q n hb hx=>?_,λb o q n hb hx=>?_,λb o q n hx=>?_,λb o q hx=>?_,λb xs q=>?_,λb o u q=>?_,λb ps q=>?_⟩,hm,e0,t0,PH,?_,z3,⟨a0,by rw[z4];exact ha⟩,z5⟩,hE⟩
 ·exact z2.plain b o (I.base.keep b o q n hb hx) (λz=>hb (neL b o q z)) (by simpa using neE b o q)
 ·obtain⟨s1,y1⟩:=I.base.slot b o q n hb hx
  obtain⟨s2,y2⟩:=z2.frame b _ y1 (sub b hb) (by simpa using neE b o q);exact⟨s2,y2⟩
 ·rw[yM (neE b o q)]
  exact I.base.free b o q n hx
 ·obtain⟨o1,y1⟩:=I.base.there b o q hx
  by_cases hb:b∈gO (cxE P w K mg base N qual scope f cdv A outer s₀ H₀ E₀).stack
  ·obtain⟨s2,y2⟩:=z2.frame b _ y1 hb (by simpa using neE b o q)
   exact⟨_,y2⟩
  ·exact⟨_,z2.plain b _ y1 hb (by simpa using neE b o q)⟩
 ·have r:=I.base.KW b xs q
  rw[yM λe=>by rw[e,h1]at r;cases r];exact r
 ·have r:=I.base.Jh b o u q
  rw[yM λe=>by rw[e,h1]at r;cases r];exact r
 ·obtain⟨more,r⟩:=I.base.KY b ps q
  exact⟨more,by rw[yM λe=>by rw[e,h1]at r;cases r];exact r⟩
 ·by_cases q:T'=ea
  ·rw[q];exact PH
  ·rw[yM q];exact I.hok.fresh z1
end
theorem Fun.okE{P:Program}{w:World}{K:W.Frag}{mg:Str->Option Value}{base:Heap}{x qual:Str}{st:Stmt}{f:Addr}{fd:FuncData}{N ps:List Str}{k:Nat}{sp:Sp}(F:Fun K x qual st f fd)(S:av N ps (ar st))(len:∀ vs H Q E,sp vs H Q E->vs.length=ps.length)
  (QS:∀(cdv:Value) (A:Around) (outer:List Env) (s:Shared) (H:Hp) (vs:List V) (Q:VK) (E:XK),mW k (A.deeper (envOfC qual (ar st) s.heap.objs.size f cdv))->sp vs H Q E ->
   ∃ t,PSs (cxE P w K mg base N qual (ar st) f cdv A outer s H E) (jZ st) t/\t {nx:=λ_ H'=>Q .non H',rt:=Q} (start N vs) H):Dv P w K mg base (CXE P w) (k+1) f fd ps sp:=by
 obtain⟨oc,od,kV,doc,pm,an,cdv,ct,osl,rfl,lk,hcd⟩:=F.ex;exact acw lk hcd S len λA outer s H vs Q E hr hsp=>QS cdv A outer s H vs Q E hr hsp
noncomputable def PL(X:Cx)(E:XK):Prop:=∀(pins:List 3e5) (σ:St) (H:Hp) (s:Shared) (ea C:Addr) (od:Option Addr),Inv X pins σ H s->H ea=some (exo true C ea od)->X.H₀ ea=none->E 3e7 od (del H ea)->X.xe (.ref ea) s
theorem kj{P:Program}{w:World}{K:W.Frag}{mg:Str->Option Value}{base:Heap}{N:List Str}{qual:Str}{scope:Scope}{f:Addr}{cdv:Value}{A:Around}{outer:List Env}{s₀:Shared}{H₀:Hp}{E₀:XK} :
  PL (cxE P w K mg base N qual scope f cdv A outer s₀ H₀ E₀) E₀:=λ_ _ _ _ _ _ _ I h1 h0 q=>leave_new I h1 h0 q
noncomputable def ZZ(H₀:Hp)(K:W.Frag)(E:XK)(te:TE):TS:=λ_ σ H=>te σ H λv H1=>∃ ea C od,v=.ref ea/\H1 ea=some (exo true C ea od)/\(∃ cd,jC K C cd)/\H₀ ea=none/\E 3e7 od (del H1 ea)
section
variable{X:Cx}
theorem fA{e:Expr}{te:TE}{pos:Pos}{E:XK}(hc:X.calm=true)(hx:PL X E)(he:PE X e te):PS X (.Raise (some e) none pos) (ZZ X.H₀ X.K E te):=by
 intro pins s σ H D I h;refine T7 (K:=X.K) (I.ok.hd hc) (thn 5e7 λu s1 ⟨v,H1,I1,r,ea,C,od,ev,h1,⟨cd,xc⟩,h0,q⟩=>?_);subst ev;obtain rfl:u=Value.ref ea:=r;obtain⟨fs,sl,a0,z,ha,hf⟩:=Nz I1.hok h1;exact⟨ea,C,cd,od,fs,sl,rfl,z,hf rfl,xc,I1.kIn,hx pins σ H1 s1 ea C od I1 h1 h0 q⟩
noncomputable def iA(CX:CXT)(X:Cx)(EK:St->XK):Prop:=∀(pins:List 3e5) (σ:St) (H:Hp) (s:Shared) (e:Value) (s':Shared),Inv X pins σ H s->CX X.stack H s (EK σ) e s'->X.xe e s'
theorem Passes.x{CX:CXT}{E:XK}(h:Passes CX X E):iA CX X (λ_=>E):=λpins σ H s e s' I q=>h pins σ H s e s' I q
noncomputable def Xf(sp:Sp)(dvs:List V)(EK:St->XK)(t:TA):TE:=λσ H Q=>t σ H λvs H1=>sp (vs++dvs) H1 Q (EK σ)
inductive Y5(C:Addr)(m:Str)(x:V)(H:Hp)(k:Prop):Prop where
 | mk (a dx:Addr) (fs:List (Str×V)):x=.ref a->H a=some (.ins C dx fs)->fs.lookup m=none->k->Y5 C m x H k
noncomputable def UO(C:Addr)(m:Str)(sp:Sp)(dvs:List V)(EK:St->XK)(ta:TE)(t:TA):TE:=λσ H Q=>ta σ H λx H1=>Y5 C m x H1
 (t σ H1 λvs H2=>sp (x::(vs++dvs)) H2 Q (EK σ))
noncomputable def ajT(C:Addr)(sp:Sp)(EK:St->XK)(t:TA):TE:=λσ H Q=>t σ H λvs H1=>∀ ea,H1 ea=none->sp (.ref ea::vs) (upd H1 ea (exo true C ea none)) (λv H2=>v=.non/\Q (.ref ea) H2) (EK σ)
variable{CX:CXT}{k:Nat}{f C:Addr}{fd:FuncData}{ps:List Str}{sp:Sp}{dvs:List V}{ds:List Value}{EK:St->XK}{x m:Str}{p pos apos:Pos}{e o:Expr}{es:List Expr}{ta:TE}{t:TA}
theorem Y6{pins:List (Addr×Obj)}{σ:St}{H:Hp}{s:Shared}{Q:VK}{us:List Value}{vs:List V}(F:Dv X.prog X.w X.K X.mg X.base CX k f fd ps sp)(hr:mW k X.A)(hb:Binds X.K fd ps ds)(hd:Vals dvs ds)(hx:iA CX X EK)
  (I:Inv X pins σ H s) (r:Vals vs us) (h:sp (vs++dvs) H Q (EK σ)):wpAny 1e6 X.A (call (.ref f) us) 4e8 X.xe s:=by
 have r2:Vals (vs++dvs) (us++ds):=r.append hd;have hl:(us++ds).length=ps.length:=by rw[<-r2.length];exact F.len _ _ _ _ h
 refine wpAny_call (codeAny_mono (F.run X.A X.stack s H ⟨us,[]⟩ (us++ds) (vs++dvs) Q (EK σ) hr I.aaC (hb s us I.kIn hl) r2 h) λr s' hq=>?_);cases r with
 | error e=>exact hx pins σ H s e s' I hq
 | ok fl =>
  cases fl with
  | ret u=>exact I.after hq
  | _=>exact False.elim hq
theorem vL(F:Dv X.prog X.w X.K X.mg X.base CX k f fd ps sp)(hr:mW k X.A)(hg:Gl X x)(hm:X.mg x=some (.ref f))(hk:PySem.W.keepIn X.K (.ref f)=true)(hb:Binds X.K fd ps ds)(hd:Vals dvs ds)(hx:iA CX X EK)
  (ha:PA X (e::es) t) (hdb:(x == ("__debug__" : Str))=false:=by decide) (he:starEach (e::es) X.env=(false,eval e X.env)::starEach es X.env:=by rfl) (hpl:(backTo pos (starEach es X.env)).any (·.1)=false:=by rfl) :
  PE X (.Call (.Name x p) (e::es) [] pos) (Xf sp dvs EK t):=by
 intro pins s σ H Q I h;refine wpAny_Call_Name_kw (vI I hg hm ?_ hdb);exact PySem.W.callWith_K (h₀:=X.base) I.ok.mod.kin hk (thn (ha pos pins s σ H _ I h) λus s1 ⟨vs,H1,I1,r,q⟩=>⟨I1.kIn,Y6 F hr hb hd hx I1 r q⟩) he hpl
theorem Yb{pl:Sem Bool}(he:PE X o ta)(c:Cls X.K C)(hm:Meth X.K C m f)(F:Dv X.prog X.w X.K X.mg X.base CX k f fd ps sp)(hr:mW k X.A)(hb:Binds X.K fd ps ds)(hd:Vals dvs ds)(hx:iA CX X EK)(ha:PA X (e::es) t)
  (hst:starEach (e::es) X.env=(false,eval e X.env)::starEach es X.env:=by rfl) (hpl:(backTo pos (starEach es X.env)).any (·.1)=false:=by rfl)
  (ht:eval (.Call (.Attribute o m apos) (e::es) [] pos) X.env=(do
   let ov <-eval o X.env
   standAt apos.atName
   let (f,first) <-holding [ov] (getMethod ov m pl)
   callWith pos f first (backTo pos (starEach (e::es) X.env)) (backToKw pos (keywordEach [] X.env))):=by rfl) :
  PE X (.Call (.Attribute o m apos) (e::es) [] pos) (UO C m sp dvs EK ta t):=by
 intro pins s σ H Q I h;refine PySem.W.methodCall_KW (pl:=pl) (thn 5e7 λu s1 ⟨x,H1,I1,rx,a,dx,fs,ex,ea,l,q⟩=>?_) ht;subst ex;obtain rfl:u=Value.ref a:=rx;refine Ic I1 ea c hm l ?_;exact PySem.W.callWith_K (first:=[.ref a]) (h₀:=X.base) I.ok.mod.kin hm.kp (thn (ha pos pins s1 σ H1 _ I1 q) λus s2 ⟨vs,H2,I2,r,q2⟩=>⟨I2.kIn,Y6 (us:=.ref a::us) (vs:=.ref a::vs) F hr hb hd hx I2 (.cons rfl r) q2⟩) hst hpl
theorem Vq{pl:Sem Bool}(he:PE X o ta)(c:Cls X.K C)(hm:Meth X.K C m f)(F:Dv X.prog X.w X.K X.mg X.base CX k f fd ps sp)(hr:mW k X.A)(hb:Binds X.K fd ps ds)(hd:Vals dvs ds)(hx:iA CX X EK)
  (ht:eval (.Call (.Attribute o m apos) [] [] pos) X.env=(do
   let ov <-eval o X.env
   standAt apos.atName
   let (f,first) <-holding [ov] (getMethod ov m pl)
   callWith pos f first (backTo pos (starEach [] X.env)) (backToKw pos (keywordEach [] X.env))):=by rfl) :
  PE X (.Call (.Attribute o m apos) [] [] pos) (UO C m sp dvs EK ta YY):=by
 intro pins s σ H Q I h;refine PySem.W.methodCall_KW (pl:=pl) (thn 5e7 λu s1 ⟨x,H1,I1,rx,a,dx,fs,ex,ea,l,q⟩=>?_) ht;subst ex;obtain rfl:u=Value.ref a:=rx;refine Ic I1 ea c hm l ?_;exact PySem.W.callWith_K0 (first:=[.ref a]) I1.kIn hm.kp (Y6 (us:=[.ref a]) (vs:=[.ref a]) F hr hb hd hx I1 (.cons rfl .nil) q)
structure MkX(K:W.Frag)(C f:Addr):Prop where
 cls:∃ cd,jC K C cd
 init:PySem.W.findIn K 3e7 "__init__" = some (some (.ref f))
 fn:PySem.W.isFn K (.ref f)=true
 kp:PySem.W.keepIn K 3e7=true
theorem Yc{pins:List (Addr×Obj)}{σ:St}{H:Hp}{s:Shared}{Q:VK}{us:List Value}{vs:List V}(M:MkX X.K C f)(F:Dv X.prog X.w X.K X.mg X.base CX k f fd ps sp)(hr:mW (k+1) X.A)(hb:Binds X.K fd ps [])(hx:iA CX X EK)(hps:ps.length<=1000)
  (I:Inv X pins σ H s) (r:Vals vs us) (h:∀ ea,H ea=none->sp (.ref ea::vs) (upd H ea (exo true C ea none)) (λv H2=>v=.non/\Q (.ref ea) H2) (EK σ)) :
  wpAny 1e6 X.A (call 3e7 us) 4e8 X.xe s:=by
 have hq:=h 2e3 (I.hok.fresh (ap8 _));obtain⟨cd,xc⟩:=M.cls;have r2:Vals (V.ref 2e3::vs) (Value.ref 2e3::us):=.cons rfl r;have hl:(Value.ref 2e3::us).length=ps.length:=by rw[<-r2.length];exact F.len _ _ _ _ hq
 have hz:us.length<=sizeLine:=by rw[aph]at hl;rw[sizeLine_eq];omega
 have I2:Inv X pins σ (upd H 2e3 (exo true C 2e3 none)) {s with heap:=tj s.heap C us}:=by
  refine I.laid (t':=s.toks) (λb u q=>aoK _ (aoK _ q)) (ap8 _) (V4 ⟨#[.ref s.heap.objs.size,.none,.none,.none,.bool false,.none],#[],s.heap.objs.size,?_,rfl,λ_=>rfl⟩);show(tj s.heap C us).get? 2e3=some (R3 C s.heap.objs.size);heap_get
 obtain⟨hh,g,d,tk,os⟩:=s;refine wpAny_call (Vp xc I.kIn M.init (beq_iff_eq.mp M.fn) hz (codeAny_mono (F.run _ X.stack _ _ ⟨Value.ref (hh.objs.size+1)::us,[]⟩ (Value.ref (hh.objs.size+1)::us) _ _ (EK σ) (hr.make C us []) (I2.aaC.make C us [])
  (by have:=hb _ (Value.ref (hh.objs.size+1)::us) I2.kIn (by rw[apw];exact hl);rw[apw]at this;exact this) r2 hq) λr s' hq'=>?_))
 cases r with
 | error e=>exact hx pins σ _ _ e s' I2 hq'
 | ok fl =>
  cases fl with
  | ret u =>
   obtain⟨v,H',I3,rv,ev,q3⟩:=I2.after hq';subst ev;exact⟨rv,⟨V.ref (hh.objs.size+1),H',I3,rfl,q3⟩⟩
  | _=>exact False.elim hq'
theorem Z0(M:MkX X.K C f)(F:Dv X.prog X.w X.K X.mg X.base CX k f fd ps sp)(hr:mW (k+1) X.A)(hg:Gl X x)(hm:X.mg x=some (.ref C))(hb:Binds X.K fd ps [])(hx:iA CX X EK)
  (ha:PA X (e::es) t) (hps:ps.length<=1000:=by decide) (hdb:(x == ("__debug__" : Str))=false:=by decide) (he:starEach (e::es) X.env=(false,eval e X.env)::starEach es X.env:=by rfl) (hpl:(backTo pos (starEach es X.env)).any (·.1)=false:=by rfl) :
  PE X (.Call (.Name x p) (e::es) [] pos) (ajT C sp EK t):=by
 intro pins s σ H Q I h;refine wpAny_Call_Name_kw (vI I hg hm ?_ hdb);exact PySem.W.callWith_K (h₀:=X.base) I.ok.mod.kin M.kp (thn (ha pos pins s σ H _ I h) λus s1 ⟨vs,H1,I1,r,q⟩=>⟨I1.kIn,Yc M F hr hb hx hps I1 r q⟩) he hpl
end
theorem Vr{H:Hp}{a:Addr}{o:HO}(h:H a=some o):upd H a o=H:=by
 funext b
 by_cases e:b=a
 ·rw[e,ag,h]
 ·rw[af e]
section
variable{X:Cx}
noncomputable def tVe(K:W.Frag)(t:TA):TE:=λσ H Q=>t σ H λvs H1=>∃ ea C od r,vs=.ref ea::r/\r.length<=1000/\H1 ea=some (exo true C ea od)/\(∃ cd,jC K C cd)/\Q .non H1
theorem acM{p apos pos:Pos}{e:Expr}{es:List Expr}{t:TA}{pl:Sem Bool}(hg:Gl X "ValueError")(hm:X.mg "ValueError" = none)(ha:PA X (e::es) t)
  (hst:starEach (e::es) X.env=(false,eval e X.env)::starEach es X.env:=by rfl) (hpl:(backTo pos (starEach es X.env)).any (·.1)=false:=by rfl)
  (ht:eval (.Call (.Attribute (.Name "ValueError" p) "__init__" apos) (e::es) [] pos) X.env=(do
   let ov <-eval (.Name "ValueError" p) X.env
   standAt apos.atName
   let (f,first) <-holding [ov] (getMethod ov "__init__" pl)
   callWith pos f first (backTo pos (starEach (e::es) X.env)) (backToKw pos (keywordEach [] X.env))):=by rfl) :
  PE X (.Call (.Attribute (.Name "ValueError" p) "__init__" apos) (e::es) [] pos) (tVe X.K t):=by
 intro pins s σ H Q I h;refine PySem.W.methodCall_KW (pl:=pl) (Ji I hg hm PyProof.Rows.Boot.«ValueError» ?_) ht;refine X9 I.kIn ?_;refine PyProof.Rows.callWith_builtin1 (thn (ha pos pins _ σ H _ (I.tok _) h) λus s1 ⟨vs,H1,I1,r,ea,C,od,rr,ev,hl,h1,⟨cd,xc⟩,q⟩=>?_) hst hpl;subst ev;cases r with
 | @cons _ u _ us' r1 r2 =>
 obtain rfl:u=Value.ref ea:=r1;obtain⟨fs,sl,a0,z,ha,hf⟩:=Nz I1.hok h1;have hz:us'.length<=sizeLine:=by rw[<-r2.length,sizeLine_eq];omega
 have I2:Inv X pins σ H1 {s1 with heap:=s1.heap.push (yL us')}:=I1.kept (t':=s1.toks) λb u q=>aoK _ q;have z2:=aoK (h:=s1.heap) (yL us') z;have hs0:0<fs.size:=(ao9.mp ha).1;have I3:Inv X pins σ (upd H1 ea (exo true C ea od)) {s1 with heap:=(s1.heap.push (yL us')).update ea (Obj.mapFields (·.setIfInBounds 0 (.ref s1.heap.objs.size)))}:=by
  refine I2.write (x:=ea) (e:=ea) (t':=s1.toks) (by rw[h1];exact True.intro) 2e9 (λb u hb q=>(apj _ _ (aoT hb)).trans q) ⟨_,Dx z2⟩ (V4 ⟨_,_,s1.heap.objs.size,Dx z2,by simp[hs0],λ_=>?_⟩)
  have:=hf rfl
  simpa using this
 rw[Vr h1]at I3;obtain⟨hh,g,d,tk,os⟩:=s1;exact N7 xc I1.kIn z ha hz ⟨.non,H1,I3,rfl,q⟩
noncomputable abbrev TF:=St->Hp->(Hp->Prop)->Prop
noncomputable def PF(X:Cx)(e:Expr)(t:TF):Prop :=
 ∀(pins:List 3e5) (s:Shared) (σ:St) (H:Hp) (Q:Hp->Prop),Inv X pins σ H s->t σ H Q->wpAny 1e6 X.A (eval e X.env) (λv s1=>∃ y tk H1,v=.str y tk/\y.length<=2000/\Inv X pins σ H1 s1/\Q H1) X.xe s
noncomputable def PFs(X:Cx)(es:List Expr)(t:TF):Prop :=
 ∀(out:Str) (pins:List 3e5) (s:Shared) (σ:St) (H:Hp) (Q:V->Hp->Prop),out.length+2000*es.length<=100000->Inv X pins σ H s->t σ H (λH1=>∀ y,y.length<=100000->Q (.str y) H1) ->
  wpAny 1e6 X.A (joinParts out (evalEach es X.env)) 4e8 X.xe s
noncomputable def Y7:TF:=λ_ H Q=>Q H
noncomputable def anU(te:TE):TF:=λσ H Q=>te σ H λv H1=>∃ i,v=.int i/\i.natAbs.log2<1920/\Q H1
noncomputable def Z1(t u:TF):TF:=λσ H Q=>t σ H λH1=>u σ H1 Q
theorem PM:(100000:Nat)<=sizeLine:=by rw[sizeLine_eq];omega
theorem gj{x j pos}(hl:x.length<=2000:=by decide +kernel):PF X (.Constant (.str x) j pos) Y7:=λ_ _ _ H _ I h=>Calls.Constant_str ⟨_,_,H,rfl,hl,I.tok _,h⟩
theorem km{e:Expr}{te:TE}{pos:Pos}(he:PE X e te):PF X (.FormattedValue e (-1) none pos) (anU te):=by
 intro pins s σ H Q I h;refine FormattedValue_plain (thn 5e7 λu s1 ⟨v,H1,I1,r,i,ev,hi,q⟩=>?_);subst ev;obtain⟨t,rfl⟩:=(show ∃ t,u=Value.int i t from r);exact formatField_int_small hi ⟨_,_,H1,rfl,ao7 (int_text_len_1921 hi) 2e0,I1.tok _,q⟩
theorem i3:PFs X [] Y7:=λout pins s σ H Q hl I h =>
 joinParts_nil ⟨.str out,H,I.tok _,⟨_,rfl⟩,h out (by simpa using hl)⟩ (ao7 (by simpa using hl) PM)
theorem aY{e:Expr}{es:List Expr}{t u:TF}(h1:PF X e t)(h2:PFs X es u):PFs X (e::es) (Z1 t u):=by
 intro out pins s σ H Q hl I h;rw[aph]at hl;refine joinParts_consE (joinParts_cons (thn (h1 pins s σ H _ I h) λv s1 ⟨y,tk,H1,ev,hy,I1,q⟩=>?_));subst ev;have hz:(out++y).length+2000*es.length<=100000:=by rw[strLen_append];omega
 exact⟨ao7 1e1 PM,h2 (out++y) pins s1 σ H1 Q hz I1 q⟩
noncomputable def acN(t:TF):TE:=λσ H Q=>t σ H λH1=>∀ y,y.length<=100000->Q (.str y) H1
theorem i4{e e':Expr}{es:List Expr}{t:TF}{pos:Pos}(h:PFs X (e::e'::es) t)(hl:2000*(e::e'::es).length<=100000:=by decide):PE X (.JoinedStr (e::e'::es) pos) (acN t) :=
 λpins s σ H Q I q=>JoinedStr_many (h Str.empty pins s σ H Q (by have z:Str.empty.length=0:=rfl;rw[z];omega) I q)
end
noncomputable abbrev Cx.NL(X:Cx)(pins:List (Addr×Obj))(E:Value->Shared->Prop):Cx:={X with xe:=E,pn:=X.pn++pins}
noncomputable abbrev Cx.Dh(X:Cx)(ea:Addr):Cx:={X with A:=X.A.mark (some (.ref ea)),calm:=false,xe:=λ_ _=>False}
section
variable{X:Cx}{pins:List (Addr×Obj)}{σ:St}{H:Hp}{s:Shared}{E:Value->Shared->Prop}{ea:Addr}
theorem Inv.NL(I:Inv X pins σ H s)(E:Value->Shared->Prop):Inv (X.NL pins E) [] σ H s :=
 ⟨⟨I.ok.mod,I.ok.kind,I.ok.glob,I.ok.blt,I.ok.above,I.ok.inj,I.ok.has,I.ok.cab,I.ok.hd,I.ok.frames,I.ok.stk,I.ok.exf,I.ok.bs,I.ok.bsz,I.ok.Sl,I.ok.UX,I.ok.GJ,I.ok.frf⟩,
  I.os,I.bare,I.base,I.loc,I.cell,I.free,I.rU,λp hp=>I.pin p (by simpa using hp),I.hok,I.len⟩
theorem Inv.Dy{QJ:List (Addr×Obj)}(I:Inv (X.NL pins E) QJ σ H s):Inv X pins σ H s :=
 ⟨⟨I.ok.mod,I.ok.kind,I.ok.glob,I.ok.blt,I.ok.above,I.ok.inj,I.ok.has,I.ok.cab,I.ok.hd,I.ok.frames,I.ok.stk,I.ok.exf,I.ok.bs,I.ok.bsz,I.ok.Sl,I.ok.UX,I.ok.GJ,I.ok.frf⟩,
  I.os,I.bare,I.base,I.loc,I.cell,I.free,I.rU,λp hp=>I.pin p (apf _ hp),I.hok,I.len⟩
theorem Inv.Dh(I:Inv X pins σ H s)(ea:Addr):Inv (X.Dh ea) pins σ H s :=
 ⟨⟨I.ok.mod,I.ok.kind,I.ok.glob,I.ok.blt,I.ok.above,I.ok.inj,I.ok.has,I.ok.cab,(λz=>nomatch z),I.ok.frames,I.ok.stk,I.ok.exf,I.ok.bs,I.ok.bsz,I.ok.Sl,I.ok.UX,I.ok.GJ,I.ok.frf⟩,
  I.os,I.bare,I.base,I.loc,I.cell,I.free,I.rU,I.pin,I.hok,I.len⟩
theorem Inv.uncaught{Y:Cx}(I:Inv (Y.Dh ea) pins σ H s)(ok:Y.Ok):Inv Y pins σ H s:=⟨ok,I.os,I.bare,I.base,I.loc,I.cell,I.free,I.rU,I.pin,I.hok,I.len⟩
end
section
variable{X:Cx}
end
section
variable{X:Cx}
noncomputable def acO(K:W.Frag):R2:=λx y H Q=>∃ l b xs zs,x=.ref l/\y=.ref b/\SqL K H l xs/\SqL K H b zs/\xs.length+zs.length<=sizeLine/\∀ p,H p=none->Q 4e3 (upd H p (.lst (xs++zs)))
theorem SE:OpR X (binaryOp .Add) (acO X.K):=by
 intro pins s σ H x y v u Q I rx ry h;obtain⟨l,b,xs,zs,rfl,rfl,hx,hy,hz,q⟩:=h;cases rx;cases ry;obtain⟨vs,r1,⟨⟨c1,d1,da1,s1⟩,n1,e1,f1,_,g1⟩,_⟩:=I.list hx;obtain⟨ws,r2,⟨⟨c2,d2,da2,s2⟩,n2,e2,f2,_,g2⟩,_⟩:=I.list hy;simp only at f1 g1 f2 g2;subst f1 g1 f2 g2;have hl:vs.length+ws.length<=sizeLine:=by rw[<-r1.length,<-r2.length];exact hz
 have ea:vs.toArray++ws.toArray=(vs++ws).toArray:=by simp
 refine concat_meets ⟨_,e1,rfl⟩ ⟨_,e2,rfl⟩ noFill_list_add seq_list_add PySem.F.slot_list_add PySem.F.entry_list_add (PySem.F.args_list_add_2 _ _) (list_addW l b vs.toArray ws.toArray n1 n2 d1 d2 s1 s2 (by simpa using hl)) ⟨e1,e2,?_⟩;rw[ea];exact⟨.ref _,_,I.XY (t':=s.toks) (r1.append r2) (by rw[aoJ];exact hz),rfl,q _ I.fresh⟩
end
theorem aw.upd{H:Hp}{a:Addr}{o:HO}(h:H a=none):aw H (L2.upd H a o):=λb u q=>by rw[af λe=>by rw[e,h]at q;cases q];exact q
structure NA(K:W.Frag)(C:Addr):Prop where
 cls:∃ cd,jC K C cd
 get:anS K C
 own:PySem.W.findIn K 3e7 "__class__" = some (some (.builtin "object.__class__"))
noncomputable def AM(K:W.Frag):Sp:=λvs H Q _=>∃ ea C od x,vs=[.ref ea,x]/\H ea=some (exo true C ea od)/\(∃ cd,jC K C cd)/\Q .non H
theorem aV{P:Program}{w:World}{X:Cx}:iA (CXE P w) X.nox (λ_ _ _ _=>False):=λ_ _ _ _ _ _ _ ⟨_,_,_,_,_,_,_,_,_,q⟩=>q.elim
theorem K8{n:Int}(h:n.natAbs<2 ^ 1920):n.natAbs.log2<1920:=by
 by_cases z:n.natAbs=0
 ·rw[z];decide
 ·exact(Nat.log2_lt z).mpr h
theorem acP{P:Program}{w:World}{outer:List Env}{H:Hp}{s:Shared}{e:Value}{s':Shared}(h:CXE P w outer H s (λ_ _ _=>False) e s'):False:=by
 obtain⟨_,_,_,_,_,_,_,_,_,q⟩:=h;exact q
noncomputable def Xg(xs ys:List V):Bool:=(List.range xs.length).all λj=>eqV (xs.getD j .non) (ys.getD j .non)
section
variable{X:Cx}
variable{o e value:Expr}{f:Str}{pos pos':Pos}{ta tv:TE}
structure Y8(K:W.Frag)(C:Addr)(m:Str)(f:Addr):Prop where
 rd:PySem.W.readsIn K C (.type "type")=true
 fc:PySem.W.findCls K 3e7 (.type "type") m=some (.val (.ref f))
 ga:PySem.W.specialIn K 3e7 "__getattribute__" = some (some (.builtin "type.__getattribute__"))
 kp:PySem.W.keepIn K (.ref f)=true
theorem Z2{CX:CXT}{k:Nat}{f C:Addr}{fd:FuncData}{ps:List Str}{sp:Sp}{EK:St->XK}{x m:Str}{p apos pos:Pos}{e:Expr}{es:List Expr}{t:TA}{pl:Sem Bool}(hg:Gl X x)(hm:X.mg x=some (.ref C))(c:Y8 X.K C m f)(F:Dv X.prog X.w X.K X.mg X.base CX k f fd ps sp)(hr:mW k X.A)(hb:Binds X.K fd ps [])
  (hx:iA CX X EK) (ha:PA X (e::es) t) (hdb:(x == ("__debug__" : Str))=false:=by decide) (hst:starEach (e::es) X.env=(false,eval e X.env)::starEach es X.env:=by rfl) (hpl:(backTo pos (starEach es X.env)).any (·.1)=false:=by rfl)
  (ht:eval (.Call (.Attribute (.Name x p) m apos) (e::es) [] pos) X.env=(do
   let ov <-eval (.Name x p) X.env
   standAt apos.atName
   let (f,first) <-holding [ov] (getMethod ov m pl)
   callWith pos f first (backTo pos (starEach (e::es) X.env)) (backToKw pos (keywordEach [] X.env))):=by rfl) :
  PE X (.Call (.Attribute (.Name x p) m apos) (e::es) [] pos) (Xf sp [] EK t):=by
 intro pins s σ H Q I h;refine PySem.W.methodCall_KW (pl:=pl) (vI I hg hm ?_ hdb) ht;refine PySem.W.method_cls I.kIn c.ga (PySem.W.cls_value I.kIn c.rd c.fc rfl ?_);exact PySem.W.callWith_K (first:=[]) (h₀:=X.base) I.ok.mod.kin c.kp (thn (ha pos pins _ σ H _ (I.tok _) h) λus s1 ⟨vs,H1,I1,r,q⟩=>⟨I1.kIn,Y6 F hr hb .nil hx I1 r q⟩) hst hpl
end
theorem CY{prog:Program}{w:World}{A:Around}{R:Result->Shared->Prop}{s:Shared}{elt target iter:Expr}{scope:Scope}{pos:Pos}{it acc:Value}{env:Env}(I:Nat->Shared->Prop)
  (turn:∀ n s,I n s->wpAny (model prog w) A (pyNext it) (λr s₁=>match r with
   | none=>R (.ok .next) s₁
   | some v=>wpAny 1e8 A (letOwnedTupleGo target it v) (λ_ s5=>wpAny 1e8 A (assign target env v) (λ_ s₂=>wpAny 1e8 A (eval elt env) (λx s₃ =>
     wpAny 1e8 A (call (.builtin "list.append") [acc,x]) (λ_ s₄=>∃ m,m<n/\I m s₄) 3e1 s₃)
     3e1 s₂) 3e1 s5) 3e1 s₁) 3e1 s)
  (n:Nat) (h:I n s):codeAny 1e8 A (.compLoop (.ListComp elt [⟨target,iter,[],0⟩] scope pos) 0 it acc env) R s:=by
 refine codeAny_loop rfl I (λn s hI=>?_) n h;show wpAny _ _ ((compTurn (.ListComp elt [⟨target,iter,[],0⟩] scope pos) 0 it acc env).onRaise (λx=>do noteFrame x env;theTreesLotGoes x)) _ _ s
 refine wpAny_noted ?_;rw[compTurn_list1];refine wpAny_bind (wpAny_standAt (wpAny_bind (wpAny_mono (turn n s hI) (λr s₁ h₁=>?_) λ_ _ h'=>h')));cases r with
 | none=>exact wpAny_pure h₁
 | some v =>
  refine wpAny_bind (wpAny_mono h₁ (λ_ s5 h5=>?_) λ_ _ h'=>h');exact wpAny_bind (wpAny_mono h5 (λ_ s₂ h₂=>wpAny_bind (wpAny_bind (wpAny_mono h₂ (λx s₃ h₃=>wpAny_bind (wpAny_mono h₃
   (λ_ s₄ h₄=>wpAny_pure (wpAny_pure ⟨rfl,h₄⟩)) λ_ _ h'=>h')) λ_ _ h'=>h'))) λ_ _ h'=>h')
noncomputable abbrev cxC(X:Cx)(scope:Scope)(cl:List (Str×Addr))(NC:List Str)(C:Addr)(fp:List Addr)(s₀:Shared)(H₀:Hp):Cx :=
 {X with N:=NC,s₀:=s₀,H₀:=H₀,env:=compEnvC scope cl C X.env,outer:=X.stack,ex:=fp,fn:=λ_=>false,pn:=[],xe:=λ_ _=>False}
noncomputable def AN(σ:St)(idx:List Nat):St:=idx.map λi=>(σ[i]?).getD none
structure GF(X:Cx)(scope:Scope)(cl:List (Str×Addr))(x:Str)(idx:List Nat)(NC:List Str):Prop where
 acd:closureFor scope X.env=pure cl
 sub:∀ y c,cl.lookup y=some c->X.env.cells.lookup y=some c
 has:∀ y,((relabel scope X.env).names.lookup y=some .cell\/(relabel scope X.env).names.lookup y=some .free)->∃ c,cl.lookup y=some c
 R5:∀ y∈scope.names,y.2≠.cell
 kind:scope.kind=.function
 loc:∀ y∈scope.names,y.2=.local->scope.names.lookup y.1=some .local
 xl:scope.names.lookup x=some .local
 nc:NC=x::idx.map λi=>X.N.getD i x
 nd:NC.Nodup
 cap:∀ i∈idx,i<X.N.length/\((X.env.scope.names.lookup (X.N.getD i x)=some .cell\/X.env.scope.names.lookup (X.N.getD i x)=some .free)/\((relabel scope X.env).names.lookup (X.N.getD i x)=some .cell\/(relabel scope X.env).names.lookup (X.N.getD i x)=some .free))
section
variable{X:Cx}{scope:Scope}{cl:List (Str×Addr)}{x:Str}{idx:List Nat}{NC:List Str}{C:Addr}{fp:List Addr}{pins:List (Addr×Obj)}{σ:St}{H:Hp}{s:Shared}
theorem IX{h1:Heap}{t':Nat}(c:GF X scope cl x idx NC)(I:Inv X pins σ H s)(hf:∀ b∈fp,GK X pins H b)(hlt:∀ b∈fp,b<s.heap.objs.size)(ns:h1.Ns s.heap.objs.size (λ_=>none))
  (k:∀ b o,s.heap.get? b=some o->h1.get? b=some o):Inv (cxC X scope cl NC s.heap.objs.size fp s H) [] (none::AN σ idx) H {s with heap:=h1,toks:=t'}:=by
 have sub:∀ b,b∈frs X.stack->b∈X.env.locals::X.fs:=I.C9;refine⟨⟨I.ok.mod,c.kind,I.ok.glob,I.ok.blt,aoL _,λy z a h1 h2=>I.ok.inj y z a (c.sub _ _ h1) (c.sub _ _ h2),c.has,λy a z=>(by cases z),I.ok.hd,I.ok.frames,.inl rfl,λb hb=>⟨aoW (hlt b hb),λy a q=>(hf b hb).2.2.2.2.1 y a (c.sub _ _ q)⟩,
  λb o q=>I.bs b o q,ao7 I.ok.bsz I.sz,λb o q hb=>?_,λb hb z=>?_,I.stack,I.Du⟩,rfl,I.bare,Un.kept k,⟨_,ns,λi y v e1 e2 e3=>?_⟩,λy a q=>?_,I.hok.fresh (aoL _),λy a q=>I.rU _ _ (c.sub _ _ q),λp hp=>(by cases hp),I.hok.keeps λb u o _ q=>k b o q,?_⟩
 ·rcases(hf b hb).2.2.2.1 with z|z
  ·exact I.ok.Sl b o q z
  ·exact absurd (ao0 (aoQ (I.ok.bs b o q).1) z) (apL _)
 ·rcases ao2.mp (sub b z) with r|r
  ·exact(hf b hb).2.1 r
  ·exact(hf b hb).2.2.1 r
 ·cases i with
  | zero=>cases e2
  | succ j =>
   have e1':(idx.map λi=>X.N.getD i x)[j]?=some y:=by
    have:(cxC X scope cl NC s.heap.objs.size fp s H).N=NC:=rfl
    rw[this,c.nc]at e1;exact e1
   have e2':(AN σ idx)[j]?=some (some v):=e2;rw[aoR]at e1';unfold AN at e2';rw[aoR]at e2';cases ei:idx[j]? with
   | none=>rw[ei]at e1';cases e1'
   | some i =>
    rw[ei]at e1' e2';simp only[apy,Option.some.injEq]at e1' e2';obtain⟨hi,h2,h3⟩:=c.cap i (aoI ei);rw[e1']at h2 h3;have hN:X.N[i]?=some y:=by
     rw[<-e1'];simp[List.getD,aoF hi]
    have hσ:σ[i]?=some (some v):=by
     cases q:σ[i]? with
     | none=>rw[q]at e2';cases e2'
     | some o=>rw[q]at e2';simp only[Option.getD_some]at e2';rw[e2']
    obtain⟨m,hn,hl⟩:=I.loc;obtain⟨u,r,l⟩:=hl i y v hN hσ (h2.elim (λz=>.inr (.inl z)) λz=>.inr (.inr z));refine⟨u,r,.inr ⟨h3,?_⟩⟩;rcases l with⟨l,_⟩|⟨_,a,ha,hc⟩
    ·exfalso
     have l':X.env.scope.names.lookup y=some .local:=l;rcases h2 with z|z<;>(rw[l']at z;cases z)
    ·obtain⟨a',ha'⟩:=c.has y h3
     have:=c.sub _ _ ha'
     rw[ha]at this;cases this;exact⟨a,ha',hc.keeps k⟩
 ·obtain⟨v,z⟩:=I.cell _ _ (c.sub _ _ q)
  exact⟨v,z.keeps k⟩
 ·show _=NC.length
  rw[c.nc];simp[AN]
noncomputable def NM(J:It)(D:Addr)(τ:St)(te:TE)(Q:VK)(H:Hp):Prop:=∃ W:Nat->Nat->List V->Hp->Prop,(∃ m,W 0 m [] H)/\∀ i m ys H2,W i m ys H2->H2 D=some 5e0 /\
 ((J.stop i H2/\Q (.ref D) H2)\/(J.go i H2/\ys.length<sizeLine/\∃ N:List V->Hp->Prop,(∀ zs H',N zs H'->∃ m',m'<m/\W (i+1) m' zs H')/\∀ y H3,J.yld i H2 y H3->te (some y::τ) H3 λv H4=>H4 D=some 5e0/\N (ys++[v]) (upd H4 D (.lst (ys++[v])))))
noncomputable def Y9(wi:TI)(idx:List Nat)(te:TE):TE:=λσ H Q=>wi σ H λJ H1=>∀ D,H1 D=none->NM J D (AN σ idx) te Q (upd H1 D (.lst []))
theorem IY{X:Cx}{pins:List (Addr×Obj)}{σ:St}{H:Hp}{s:Shared}{D:Addr}{ys:List V}{v:V}{u:Value}(I:Inv X pins σ H s)(h:H D=some (.lst ys))(hz:ys.length<sizeLine)(r:RelV v u) :
  wpAny 1e6 X.A (call (.builtin "list.append") [.ref D,u]) (λ_ s'=>Inv X pins σ (upd H D (.lst (ys++[v]))) s') X.xe s:=by
 refine thn (ou pins s σ H (.ref D) [v] (.ref D) [u] (λ_ H'=>H'=upd H D (.lst (ys++[v]))) I rfl (.cons r .nil) ⟨D,ys,v,rfl,rfl,h,hz,rfl⟩) λw s' ⟨_,H',I',_,e⟩=>?_;rw[<-e];exact I'
theorem jD{elt iter:Expr}{px pos:Pos}{wi:TI}{te:TE}(c:GF X scope cl x idx NC)(hc:X.calm=true)(hi:PI X (.Name x px) iter wi)(he:∀ C fp s₀ H₀,PE (cxC X scope cl NC C fp s₀ H₀) elt te)
  (hs:∀ x,foldedSetIterable iter X.env x=pure x:=by intro _;rfl):PE X (.ListComp elt [⟨.Name x px,iter,[],0⟩] scope pos) (Y9 wi idx te):=by
 intro pins s σ H Q I h;rw[eval_ListComp];refine wpAny_comprehension_free (use:=none) rfl hs c.acd c.kind c.loc (thn (hi pins s σ H _ I h) λv s1 h1=>thn h1 λitv s2 h2=>?_);obtain⟨it,fp,tn,J,H2,rfl,I2,T,st2,f2,q⟩:=h2;refine wpAny_newObj_type (wpAny_newFunctionEnv c.R5 (by intro y hy;simp at hy) (λh₁ hns₁ hsb₁=>?_) c.kind);dsimp only at hns₁ hsb₁ ⊢;have I3:Inv X pins σ (upd H2 s2.heap.objs.size (.lst [])) {s2 with heap:=s2.heap.push {cls:=.type "list",data:=.seq ([]:List Value).toArray},toks:=s2.toks}:=I2.XY (ys:=[]) (its:=[]) .nil (apq _);obtain⟨W,⟨m0,w0⟩,turn⟩:=q s2.heap.objs.size I2.fresh;generalize hD:s2.heap.objs.size=D at *;generalize hH:s2.heap.push {cls:=.type "list",data:=.seq ([]:List Value).toArray}=h3 at *;have SF:∀ b∈fp,b<D:=λb hb=>by
  obtain⟨o,e,_⟩:=T.obj _ _ st2 b hb;rw[<-hD];exact aoQ e
 have hlt:∀ b∈fp,b<h3.objs.size:=λb hb=>by
  rw[<-hH,ap4,hD];exact ap2 (SF b hb)
 have hf:∀ b∈fp,GK X pins (upd H2 D (.lst [])) b:=λb hb=>⟨by rw[af (aoW (SF b hb))];exact(f2 b hb).1,(f2 b hb).2⟩;have kp:∀ b o,h3.get? b=some o->h₁.get? b=some o:=λb o e=>hsb₁.extBut b o (aoW (aoQ e)) (aoK _ e);have I4:Inv 1e2 [] (none::AN σ idx) (upd H2 D (.lst [])) {s2 with heap:=h₁,toks:=s2.toks+([]:List (Str×Value)).length} :=
  IX (s:={s2 with heap:=h3,toks:=s2.toks}) c I3 hf hlt hns₁ kp
 have GL:∀ {H':Hp},5e9->∀ b∈fp,GK 1e2 [] H' b:=λhn b hb =>
  ⟨hn b hb,aoW (hlt b hb),λz=>(ao2.mp (I3.C9 b z)).elim (hf b hb).2.1 (hf b hb).2.2.1,.inl hb,λy a q=>(hf b hb).2.2.2.2.1 y a (c.sub _ _ q),λp hp=>(by cases hp)⟩
 have st1:tn 0 h₁:=T.keep 0 _ _ st2 λb hb o e=>kp b o (by rw[<-hH];exact aoK _ e);have loop:∀ s4:Shared,s4={s2 with heap:=h₁,toks:=s2.toks+([]:List (Str×Value)).length} ->
   codeAny 1e6 X.A (.compLoop (.ListComp elt [⟨.Name x px,iter,[],0⟩] scope pos) 0 (.ref it) (.ref D) (compEnvC scope cl h3.objs.size X.env)) (compPost 1e6 X.A X.xe none 4e8 (.ref D) h3.objs.size) s4:=by
  rintro s4 rfl;refine CY (λn s'=>∃ i ys H' v0,Inv 1e2 [] (v0::AN σ idx) H' s'/\tn i s'.heap/\5e9/\W i n ys H')
   ?_ m0 ⟨0,[],_,none,I4,st1,λb hb=>(hf b hb).1,w0⟩
  rintro n s5 ⟨i,ys,H5,v0,I5,st5,fr5,w5⟩;obtain⟨hDl,alt⟩:=turn i n ys H5 w5;rcases alt with⟨stop,qn⟩|⟨go,hz,N,hN,step⟩
  ·refine thn (T.done 1e2 rfl rfl rfl hc i [] s5 _ H5 _ I5 (GL fr5) st5 stop) λr s6 ⟨hr,I6⟩=>?_
   subst hr;obtain⟨m,ns6,_⟩:=id I6.loc;refine⟨m,ns6,λh' hs'=>⟨.ref D,H5,?_,rfl,qn⟩⟩;have J6:Inv X pins σ H5 s6:=I3.NI (ch:=fp) I6.os I6.base I6.hok I6.bare λb hb=>⟨(hf b hb).2.2.2.1,(hf b hb).2.1,(hf b hb).2.2.2.2.1,(hf b hb).2.2.2.2.2⟩;refine J6.turned (t':=s6.toks) (it:=h3.objs.size) (λb o hb e=>hs'.extBut b o hb e) I6.free (apX I3.lt) (.inr I3.sz) (λy a q z=>?_) (λp hp z=>?_)
   ·obtain⟨v,q'⟩:=I3.cell y a q
    exact absurd q'.lt (by rw[z];exact apL _)
   ·exact absurd (aoQ (I3.pin p hp).1) (by rw[z];exact apL _)
  ·refine thn (T.item 1e2 rfl rfl rfl hc i [] s5 _ H5 _ I5 (GL fr5) st5 go) λr s6 ⟨u,hr,h6⟩=>?_
   subst hr;refine thn h6 λ_ s7 ⟨y,H7,I7,r7,y7,st7,fr7⟩=>?_;have I7':=I7.pinned (GL fr7) (T.obj _ _ st7);have hnl:(relabel scope X.env).names.lookup x=some .local:=lookup_relabel_local c.xl;refine wpAny_mono (aK (X:=cxC X scope cl NC h3.objs.size fp {s2 with heap:=h3,toks:=s2.toks} (upd H2 D (.lst []))) (i:=0) (x:=x) (pos:=px) c.nd (by show NC[0]?=some x;rw[c.nc];rfl) (.inl hnl) (.inr hnl) _ s7 _ H7 y u
    (λσ' H'=>σ'=some y::AN σ idx/\H'=H7) I7' r7 ⟨rfl,rfl⟩) (λ_ s8 ⟨σ8,H8,I8,e8,e8'⟩=>?_) λ_ _ z=>z.elim
   subst e8 e8';refine wpAny_mono (he _ _ _ _ _ s8 _ H8 _ I8 (step y H8 y7)) (λw s9 ⟨v,H9,I9,r9,hD9,n9⟩=>?_) λ_ _ z=>z.elim;obtain⟨m',hm,w9⟩:=hN _ _ n9;refine wpAny_mono (IY (X:=1e2) I9 hD9 hz r9) (λ_ s10 I10=>?_) λ_ _ z=>z.elim;refine⟨m',hm,i+1,ys++[v],_,some y,I10.pD,T.keep _ _ _ st7 λb hb o e=>(I10.pin (b,o) (aoP _ (aoP _ (iq hb e)))).1,λb hb=>?_,w9⟩;obtain⟨o,e,d⟩:=T.obj _ _ st7 b hb;exact(I10.pin (b,o) (aoP _ (aoP _ (iq hb e)))).2.1
 exact codeAny_compStart_list (loop _ rfl) (T.self _ 0 _ _ _ st1 (loop _ rfl))
end
section
variable{X:Cx}
theorem PN:∀ {bs:List Bool} {us:List Value},Vals (bs.map V.bl) us->us=bs.map Value.bool
 | [],_,.nil=>rfl
 | b::r,_,.cons h t=>by
  cases h;rw[PN t];rfl
noncomputable def anV(K:W.Frag):List V->Hp->VK->Prop:=λvs H Q=>∃(p:Addr) (bs:List Bool),vs=[.ref p]/\SqL K H p (bs.map V.bl)/\Q (.bl (bs.all id)) H
theorem Vs(hc:X.calm=true):uV X (.builtin "all") (anV X.K):=by
 rintro pins s σ H xs us Q I r ⟨p,bs,rfl,hq,q⟩;obtain⟨u,rfl,ru⟩:=r.one;cases (show u=Value.ref p from ru);obtain⟨its,rv,⟨o,n,e1,e2,e3,e4⟩,hz⟩:=I.list hq;have e:=PN rv;have hl:s.heap.IsList p (bs.map Value.bool).toArray:=by
  rw[<-e];exact⟨o,e1,e2,n,e4⟩
 have hlt:p<s.heap.objs.size:=aoQ e1;refine call_all_walk (wpAny_pyIter_list hl ?_);refine⟨s.heap.objs.size,[s.heap.objs.size,p],[s.heap.objs.size],(bs.map Value.bool).toArray.size,_,_,λi=>(bs[i]?).getD true,rfl,Walks.list (A:=X.A.in1) (I.ok.hd hc) _ p (aoW hlt) _,
  ⟨⟨_,apa _ rfl,rfl,rfl⟩,hl.push _⟩,λi v s' Q' E' hP hQ=>?_,λh' tk hk=>?_⟩
 ·simp only[List.getElem?_toArray,aoR]at hP
  cases eb:bs[i]? with
  | none=>rw[eb]at hP;cases hP
  | some b =>
   rw[eb]at hP;cases hP;simp only[eb,Option.getD_some]at hQ;exact wpAny_truthy_bool hQ
 ·have e:((List.range (bs.map Value.bool).toArray.size).all λi=>(bs[i]?).getD true)=bs.all id:=by
   rw[aoN,aoG];exact LSm.range_all bs
  rw[e];refine⟨.bl _,H,I.kept (t':=tk) λb x q=>hk b x (λhm=>?_) (aoK _ q),rfl,q⟩;rw[aoH.mp hm]at q;exact apL _ (aoQ q)
theorem Jo{prog:Program}{w:World}{A:Around}{R:Result->Shared->Prop}{s:Shared}{elt target iter c:Expr}{scope:Scope}{pos:Pos}{it acc:Value}{env:Env}(I:Nat->Shared->Prop)
  (turn:∀ n s,I n s->wpAny (model prog w) A (pyNext it) (λr s₁=>match r with
   | none=>R (.ok .next) s₁
   | some v=>wpAny 1e8 A (letOwnedTupleGo target it v) (λ_ s5=>wpAny 1e8 A (assign target env v) (λ_ s₂=>wpAny 1e8 A (isTrue c env (eval c env)) (λok s6=>if ok=true then wpAny 1e8 A (eval elt env) (λx s₃ =>
     wpAny 1e8 A (call (.builtin "list.append") [acc,x]) (λ_ s₄=>∃ m,m<n/\I m s₄) 3e1 s₃)
     3e1 s6 else ∃ m,m<n/\I m s6) 3e1 s₂) 3e1 s5) 3e1 s₁) 3e1 s)
  (n:Nat) (h:I n s):codeAny 1e8 A (.compLoop (.ListComp elt [⟨target,iter,[c],0⟩] scope pos) 0 it acc env) R s:=by
 refine codeAny_loop rfl I (λn s hI=>?_) n h;show wpAny _ _ ((compTurn (.ListComp elt [⟨target,iter,[c],0⟩] scope pos) 0 it acc env).onRaise (λx=>do noteFrame x env;theTreesLotGoes x)) _ _ s
 refine wpAny_noted ?_;rw[compTurn_list];refine wpAny_bind (wpAny_standAt (wpAny_bind (wpAny_mono (turn n s hI) (λr s₁ h₁=>?_) λ_ _ h'=>h')));cases r with
 | none=>exact wpAny_pure h₁
 | some v =>
  refine wpAny_bind (wpAny_mono h₁ (λ_ s5 h5=>?_) λ_ _ h'=>h');refine wpAny_bind (wpAny_mono h5 (λ_ s₂ h₂=>wpAny_bind (wpAny_mono (wpAny_tests_one h₂) (λok s₃ h₃=>?_) λ_ _ h'=>h')) λ_ _ h'=>h');cases ok with
  | false=>exact wpAny_pure ⟨rfl,h₃⟩
  | true =>
   exact wpAny_bind (wpAny_bind (wpAny_mono h₃ (λx s₄ h₄=>wpAny_bind (wpAny_mono h₄ (λ_ s₅ h₅=>wpAny_pure (wpAny_pure ⟨rfl,h₅⟩)) λ_ _ h'=>h')) λ_ _ h'=>h'))
variable{scope:Scope}{cl:List (Str×Addr)}{x:Str}{idx:List Nat}{NC:List Str}{C:Addr}{fp:List Addr}{pins:List (Addr×Obj)}{σ:St}{H:Hp}{s:Shared}
noncomputable def Z3(wi:TI)(idx:List Nat)(tc:TT)(te:TE):TE:=λσ H Q=>wi σ H λJ H1=>∀ D,H1 D=none->∃ W:Nat->Nat->List V->Hp->Prop,(∃ m,W 0 m [] (upd H1 D (.lst [])))/\∀ i m ys H2,W i m ys H2->H2 D=some 5e0 /\
 ((J.stop i H2/\Q (.ref D) H2)\/(J.go i H2/\ys.length<sizeLine/\∃ N:List V->Hp->Prop,(∀ zs H',N zs H'->∃ m',m'<m/\W (i+1) m' zs H')/\∀ y H3,J.yld i H2 y H3->tc (some y::AN σ idx) H3 λb H4=>if b=true then te (some y::AN σ idx) H4 λv H5=>H5 D=some 5e0/\N (ys++[v]) (upd H5 D (.lst (ys++[v])))
  else N ys H4))
end
noncomputable def Ite(K:W.Frag)(a:Addr):It :=
 ⟨λi H=>∃ xs x,SqL K H a xs/\xs[i]?=some x,λi H y H'=>∃ t x,H t=none/\y=.ref t/\(∀ xs,SqL K H a xs->xs[i]?=some x)/\H'=upd H t (.tup [.int (i:Int),x]),λi H=>∃ xs,SqL K H a xs/\xs.length<=i⟩
theorem T8{P:Program}{w:World}{K:W.Frag}{es:List Expr}{x1:Nat}{pos:Pos}(a it e:Addr)(hne:e≠it) :
  Turn P w K (.Tuple es x1 pos) (Ite K a) [e,it] e (λi h=>∃ old,IsEnum h e it i old/\h.IsListIter it a i) where
 mem:=by simp
 obj:=λi h st b hb=>by
  obtain⟨old,h1,o,q,c,d⟩:=st;rcases ao2.mp hb with z|z
  ·rw[z]
   exact⟨_,h1,λv z=>by
    have z':Data.fields _=Data.cell v:=z;cases z'⟩
  ·rw[aoH.mp z]
   exact⟨o,q,λv z=>by rw[d]at z;cases z⟩
 keep:=λi h h' st k=>by
  obtain⟨old,h1,h2⟩:=st;exact⟨old,k e 1e9 _ h1,h2.at λo q=>k it 1e9 o q⟩
 item:=by
  intro X hP hw hK hc i pins s σ H E I hf st hg;subst hP hw hK;obtain⟨xs,x,hq,hx⟩:=hg;obtain⟨its,rv,p,hz⟩:=I.list hq;obtain⟨u,hu,ru⟩:=rv.get hx;obtain⟨old,he,hit⟩:=st;have fr:H s.heap.objs.size=none:=I.hok.fresh (aoL _);refine wpAny_pyNext_enum_item he hit p.isList (x:=u) (by simpa using hu) hne λh1 heo hit1 ht1 hz1 hk1=>⟨_,rfl,wpAny_letOwnedTupleGo_enum heo λh2 he2 hs2=>?_⟩;replace hs2:Heap.SameBut e h1 h2:=hs2;have hel:e<s.heap.objs.size:=aoQ he;have k2:∀ b o,b≠e->b≠it->s.heap.get? b=some o->h2.get? b=some o:=λb o z1 z2 q=>(hs2.2 b z1).trans (hk1 b o z1 z2 q);have ht2:h2.get? s.heap.objs.size=some {cls:=.type "tuple",data:=.seq #[.int i s.toks,u]}:=(hs2.2 _ (apX hel)).trans ht1;have anW:h2.IsListIter it a (i+1):=hit1.extBut hs2.extBut (aoT hne);have nt:∀ b o,s.heap.get? b=some o->b≠s.heap.objs.size:=λb o q=>aoW (aoQ q);have nh:∀ b v,H b=some v->b≠s.heap.objs.size:=λb v q=>ao q fr;have ne':∀ b v,H b=some v->b≠e/\b≠it:=λb v q=>⟨ao q (hf e 1e9).1,ao q (hf it 1e9).1⟩;refine⟨.ref s.heap.objs.size,upd H s.heap.objs.size (.tup [.int (i:Int),x]),?_,rfl,⟨_,x,fr,rfl,λys hy=>by rw[I.Pt hy hq];exact hx,rfl⟩,⟨_,he2,anW⟩,λb hb=>?_⟩
  ·refine Inv.step (s:=s) (h':=h2) (t':=s.toks+1) (H:=H) (g':=s.gens) (d':=s.drawn) (ch:=[e,it]) I (λb hb=>⟨(hf b hb).2.2.2.1,(hf b hb).2.1,(hf b hb).2.2.2.2.1,(hf b hb).2.2.2.2.2⟩)
    (λb o _ _ z q _=>k2 b o (λy=>z (by simp[y])) (λy=>z (by simp[y])) q) (λb o _ _ z q _=>⟨o.slots,k2 b o (λy=>z (by simp[y])) (λy=>z (by simp[y])) q⟩)
    (λb o _ q n=>by rw[af (nt b o q)];exact n) (λb o z q=>⟨o,k2 b o (λy=>z (by simp[y])) (λy=>z (by simp[y])) q⟩)
    (λb xs q=>by rw[af (nh b _ q)];exact q) (λb o v q=>by rw[af (nh b _ q)];exact q) (λb ps q=>⟨#[],by rw[af (nh b _ q),q];simp⟩) (λm hm=>?_) (λb v q=>?_) I.bare
   ·obtain⟨o,es',ep,ho,r⟩:=hm
    exact⟨o,es',ep,k2 _ o (aoT (hf e 1e9).2.1) (aoT (hf it 1e9).2.1) ho,r⟩
   ·by_cases z:b=s.heap.objs.size
    ·subst z
     rw[ag]at q;cases q;exact⟨by show 2<=sizeLine;decide,[.int i s.toks,u],.cons ⟨_,rfl⟩ (.cons ru .nil),_,ht2,rfl,_,rfl⟩
    ·rw[af z]at q
     refine(I.hok b v q).Pp (λc o hc w=>?_) (λc w=>by rw[af (nh c _ w)];exact w) λc xs w=>by rw[af (nh c _ w)];exact w
     rcases hc with y|y
     ·rw[y]at w ⊢
      exact k2 b o (ne' b v q).1 (ne' b v q).2 w
     ·exact k2 c o (ne' c _ y).1 (ne' c _ y).2 w
  ·have hb':b<s.heap.objs.size:=by
    rcases ao2.mp hb with z|z
    ·rw[z];exact hel
    ·rw[aoH.mp z]
     obtain⟨o,q,_⟩:=hit;exact aoQ q
   rw[af (aoW hb')];exact(hf b hb).1
 done:=by
  intro X hP hw hK hc i pins s σ H E I hf st hg;subst hP hw hK;obtain⟨xs,hq,hx⟩:=hg;obtain⟨its,rv,p,hz⟩:=I.list hq;obtain⟨f0,f1,f2,f3,f4,f5⟩:=hf it 1e9;have hl:=rv.length;obtain⟨old,he,hit⟩:=st;exact wpAny_pyNext_enum_end (I.ok.hd hc) he hit p.isList (by simp;omega) λh' eb=>⟨rfl,I.turned (t':=s.toks) (λb o hb q=>eb b o hb q) f0 f1 f3 f4 f5⟩
 self:=λA i s Q E st h=>by
  obtain⟨old,he,hit⟩:=st;exact wpAny_pyIter_enum he h
section
variable{X:Cx}{es:List Expr}{x1:Nat}{tp:Pos}
noncomputable def acQ(K:W.Frag)(ta:TA):TI:=λσ H R=>ta σ H λvs H1=>∃ a,vs=[.ref a]/\(∃ xs,SqL K H1 a xs)/\R (Ite K a) H1
theorem vM{a:Expr}{ta:TA}{p pos:Pos}(hg:Gl X "enumerate")(hm:X.mg "enumerate" = none)(ha:PA X [a] ta)(hs:starEach [a] X.env=[(false,eval a X.env)]:=by rfl):PI X (.Tuple es x1 tp) (.Call (.Name "enumerate" p) [a] [] pos) (acQ X.K ta):=by
 intro pins s σ H R I h;refine Call_ (Ji I hg hm PyProof.Rows.Boot.«enumerate» (PyProof.Rows.callWith_type1 (thn (ha pos pins s σ H _ I h) λus s1 ⟨vs,H1,I1,r1,q1⟩=>?_) hs rfl));obtain⟨l,e,⟨xs,hq⟩,q⟩:=q1;subst e;cases r1 with
 | cons r rr =>
  cases rr;cases r;obtain⟨its,rv,pl,hz⟩:=I1.list hq;refine call_enumerate_list pl.isList λh' he hit hsz hk=>?_;refine wpAny_pyIter_enum he ?_;refine⟨s1.heap.objs.size+1,[s1.heap.objs.size+1,s1.heap.objs.size],_,_,H1,rfl,I1.kept (t':=s1.toks) hk,T8 l s1.heap.objs.size (s1.heap.objs.size+1) (Nat.succ_ne_self _),⟨_,he,hit⟩,λb hb=>?_,q⟩;have hb':s1.heap.objs.size<=b:=by
   rcases ao2.mp hb with z|z
   ·rw[z];exact ap8 _
   ·rw[aoH.mp z]
    exact aoL _
  exact I1.VU hb' (I1.hok.fresh hb')
end
theorem rj{K:W.Frag}{a:Addr}{xs:List V}{g:TG}{tb:TS}{D:Ends}{σ:St}{H:Hp}(Pv:Nat->St->Hp->Prop)(h0:Pv 0 σ H)(hl:∀ i σ H,i<=xs.length->Pv i σ H->SqL K H a xs)
  (hs:∀ i x σ H t,xs[i]?=some x->Pv i σ H->H t=none->g (.ref t) σ (upd H t (.tup [.int (i:Int),x])) λσ2 H2=>tb {D with nx:=Pv (i+1),ct:=Pv (i+1),bk:=D.nx} σ2 H2) (hd:∀ σ H,Pv xs.length σ H->D.nx σ H) :
  ∃ W:Nat->Nat->St->Hp->Prop,(∃ m,W 0 m σ H)/\∀ i m σ H,W i m σ H ->
   ((Ite K a).stop i H/\D.nx σ H)\/((Ite K a).go i H/\∃ N:St->Hp->Prop,(∀ σ' H',N σ' H'->∃ m',m'<m/\W (i+1) m' σ' H')/\∀ x H',(Ite K a).yld i H x H'->g x σ H' λσ2 H2=>tb {D with nx:=N,ct:=N,bk:=D.nx} σ2 H2):=by
 refine⟨λi m σ H=>m=xs.length-i/\i<=xs.length/\Pv i σ H,⟨xs.length,by simp,apq _,h0⟩,?_⟩;rintro i m σ H ⟨rfl,hi,p⟩;by_cases hlt:i<xs.length
 ·refine .inr ⟨⟨xs,xs[i],hl i σ H hi p,aoF hlt⟩,Pv (i+1),λσ' H' p'=>⟨xs.length-(i+1),by omega,rfl,hlt,p'⟩,λx H' y=>?_⟩
  obtain⟨t,v,e1,e2,e3,e4⟩:=y;subst e2 e4;exact hs i v σ H t (e3 xs (hl i σ H hi p)) p e1
 ·have e:i=xs.length:=by omega
  subst e;exact .inl ⟨⟨xs,hl _ σ H hi p,aoL _⟩,hd σ H p⟩
end L2
namespace L2
open PySem
theorem Ih{lo:Int}{n:Nat}{te:TE}{Q:VK}{D:Addr}{τ:St}{H:Hp}(Pv:Nat->List V->Hp->Prop)(h0:Pv 0 [] H)(hD:∀ i ys H,i<=n->Pv i ys H->H D=some (.lst ys)/\ys.length=i)(hn:n<=sizeLine)
  (hs:∀ i ys H,i<n->Pv i ys H->te (some (.int (lo+i))::τ) H λv H4=>H4 D=some (.lst ys)/\Pv (i+1) (ys++[v]) (upd H4 D (.lst (ys++[v])))) (hd:∀ ys H,Pv n ys H->Q (.ref D) H):NM (Itr lo n) D τ te Q H:=by
 refine⟨λi m ys H=>m=n-i/\i<=n/\Pv i ys H,⟨n,by simp,apq _,h0⟩,?_⟩;rintro i m ys H2 ⟨rfl,hi,p⟩;obtain⟨hd1,hd2⟩:=hD i ys H2 hi p;refine⟨hd1,?_⟩;by_cases hlt:i<n
 ·refine .inr ⟨hlt,by omega,Pv (i+1),λzs H' p'=>⟨n-(i+1),by omega,rfl,hlt,p'⟩,λy H3 e=>?_⟩
  obtain⟨e1,e2⟩:=e;subst e1 e2;exact hs i ys _ hlt p
 ·have e:i=n:=by omega
  subst e;exact .inl ⟨aoL _,hd ys H2 p⟩
theorem fG{K:W.Frag}{a:Addr}{xs:List V}{te:TE}{Q:VK}{D:Addr}{τ:St}{H:Hp}(Pv:Nat->List V->Hp->Prop)(h0:Pv 0 [] H)(hD:∀ i ys H,i<=xs.length->Pv i ys H->H D=some (.lst ys)/\ys.length=i)(hl:∀ i ys H,i<=xs.length->Pv i ys H->SqL K H a xs)(hn:xs.length<=sizeLine)
  (hs:∀ i x ys H,xs[i]?=some x->Pv i ys H->te (some x::τ) H λv H4=>H4 D=some (.lst ys)/\Pv (i+1) (ys++[v]) (upd H4 D (.lst (ys++[v])))) (hd:∀ ys H,Pv xs.length ys H->Q (.ref D) H):NM (Itl K a) D τ te Q H:=by
 refine⟨λi m ys H=>m=xs.length-i/\i<=xs.length/\Pv i ys H,⟨xs.length,by simp,apq _,h0⟩,?_⟩;rintro i m ys H2 ⟨rfl,hi,p⟩;obtain⟨hd1,hd2⟩:=hD i ys H2 hi p;refine⟨hd1,?_⟩;by_cases hlt:i<xs.length
 ·refine .inr ⟨⟨xs,xs[i],hl i ys H2 hi p,aoF hlt⟩,by omega,Pv (i+1),λzs H' p'=>⟨xs.length-(i+1),by omega,rfl,hlt,p'⟩,λy H3 e=>?_⟩
  obtain⟨e1,e2⟩:=e;subst e1;exact hs i y ys _ (e2 xs (hl i ys _ hi p)) p
 ·have e:i=xs.length:=by omega
  subst e;exact .inl ⟨⟨xs,hl _ ys H2 hi p,aoL _⟩,hd ys H2 p⟩
end L2
end
section
namespace L2
open PySem PySem.Spec PyProof.Rows LX
noncomputable def Za(sc:Scope)(names:List (Str×NameKind)):List (Str×NameKind):=names.map λ(n,k)=>if(k == .free&&sc.kind == .function&&sc.names.lookup n == some .cell) then(n,.cell) else(n,k)
noncomputable def Xh(sc scope:Scope)(x:Str)(ns N:List Str)(idx:List Nat):Prop :=
 (∀ y∈scope.names,y.2≠.cell)/\(∀ y∈scope.names,y.2=.local->scope.names.lookup y.1=some .local)/\scope.names.lookup x=some .local/\(∀ p∈Za sc scope.names,p.2=.cell\/p.2=.free->p.1∈ns)/\(x::idx.map λi=>N.getD i x).Nodup /\
 ∀ i∈idx,i<N.length/\((sc.names.lookup (N.getD i x)=some .cell\/sc.names.lookup (N.getD i x)=some .free)/\((Za sc scope.names).lookup (N.getD i x)=some .cell\/(Za sc scope.names).lookup (N.getD i x)=some .free))
noncomputable instance (sc scope:Scope) (x:Str) (ns N:List Str) (idx:List Nat):Decidable (Xh sc scope x ns N idx):=by unfold Xh;infer_instance
theorem Fh{y:Str}:∀ {cl:List (Str×Addr)},y∈cl.map (·.1)->∃ c,cl.lookup y=some c
 | [],h=>by simp at h
 | (n,c)::r,h=>by
  by_cases e:y=n
  ·exact⟨c,by simp[List.lookup,e]⟩
  ·have h':y∈r.map (·.1):=by
    rw[ao8]at h;rcases ao2.mp h with z|z
    ·exact absurd z e
    ·exact z
   obtain⟨c',q⟩:=Fh h';have hb:(y == n)=false:=beq_eq_false_iff_ne.mpr e;exact⟨c',by simp only[List.lookup,hb];exact q⟩
theorem gk{X:Cx}{sc scope:Scope}{cl:List (Str×Addr)}{x:Str}{ns N:List Str}{idx:List Nat}(hsc:X.env.scope=sc)(hN:X.N=N)(hk:scope.kind=.function)(p:Xh sc scope x ns N idx)(hn:cl.map (·.1)=ns)
  (acR:closureFor scope X.env=pure cl) (anY:∀ q∈cl,X.env.cells.lookup q.1=some q.2):GF X scope cl x idx (x::idx.map λi=>N.getD i x):=by
 obtain⟨p1,p2,p3,p4,p5,p6⟩:=p;have re:(relabel scope X.env).names=Za sc scope.names:=by subst hsc;rfl
 subst hsc hN hn;refine⟨acR,λy c q=>anY (y,c) (apu q),λy h=>?_,p1,hk,p2,p3,rfl,p5,λi hi=>?_⟩
 ·rw[re]at h
  refine Fh ?_;rcases h with h|h
  ·exact p4 (y,.cell) (apu h) 2e9
  ·exact p4 (y,.free) (apu h) (.inr rfl)
 ·rw[re]
  exact p6 i hi
theorem yA{P:Program}{w:World}{X:Cx}:iA (CXE P w) X (λ_ _ _ _=>False):=λ_ _ _ _ _ _ _ ⟨_,_,_,_,_,_,_,_,_,q⟩=>q.elim
section
variable{X:Cx}{scope:Scope}{cl:List (Str×Addr)}{x:Str}{idx:List Nat}{NC:List Str}{pins:List (Addr×Obj)}{σ:St}{H:Hp}{s:Shared}
theorem Ii{i:Nat}{y:Str}{elt iter:Expr}{px py pos SG:Pos}{wi:TI}{te:TE}(hN:X.N.Nodup)(hi':X.N[i]?=some y)(hx:X.env.scope.names.lookup y=some .local)(c:GF X scope cl x idx NC)(hc:X.calm=true)(hi:PI X (.Name x px) iter wi)
  (he:∀ C fp s₀ H₀,PE (cxC X scope cl NC C fp s₀ H₀) elt te) (hsw:swapsWith (.ListComp elt [⟨.Name x px,iter,[],0⟩] scope pos) (some (.Name y py)) SG.line X.env=pure true:=by rfl)
  (hs:∀ x,foldedSetIterable iter X.env x=pure x:=by intro _;rfl):PS X (.Assign [.Name y py] (.ListComp elt [⟨.Name x px,iter,[],0⟩] scope pos) SG) (XM (Y9 wi idx te) (yw i)):=by
 intro pins s σ H D0 I h;rw[exec_Assign_Name_used _ _ _ _ hsw];refine wpAny_bind (wpAny_standAt (wpAny_bind ?_));show wpAny _ _ (do let _ <-comprehension (.ListComp elt [⟨.Name x px,iter,[],0⟩] scope pos) scope X.env _ (newList []) false (eval iter X.env) (some (assign (.Name y py) X.env))) _ _ s
 refine wpAny_bind (wpAny_mono (wpAny_comprehension_free (use:=some (assign (.Name y py) X.env)) (Q:=λ_ s'=>SP X pins D0 .next s') rfl hs c.acd c.kind c.loc
  (thn (hi pins s σ H _ I h) λv s1 h1=>thn h1 λitv s2 h2=>?_)) (λ_ s' hq=>wpAny_pure (wpAny_pure hq)) λ_ _ e=>e)
 obtain⟨it,fp,tn,J,H2,rfl,I2,T,st2,f2,q⟩:=h2;refine wpAny_newObj_type (wpAny_newFunctionEnv c.R5 (by intro y hy;simp at hy) (λh₁ hns₁ hsb₁=>?_) c.kind);dsimp only at hns₁ hsb₁ ⊢;have I3:Inv X pins σ (upd H2 s2.heap.objs.size (.lst [])) {s2 with heap:=s2.heap.push {cls:=.type "list",data:=.seq ([]:List Value).toArray},toks:=s2.toks}:=I2.XY (ys:=[]) (its:=[]) .nil (apq _);obtain⟨W,⟨m0,w0⟩,turn⟩:=q s2.heap.objs.size I2.fresh;generalize hD:s2.heap.objs.size=D at *;generalize hH:s2.heap.push {cls:=.type "list",data:=.seq ([]:List Value).toArray}=h3 at *;have SF:∀ b∈fp,b<D:=λb hb=>by
  obtain⟨o,e,_⟩:=T.obj _ _ st2 b hb;rw[<-hD];exact aoQ e
 have hlt:∀ b∈fp,b<h3.objs.size:=λb hb=>by
  rw[<-hH,ap4,hD];exact ap2 (SF b hb)
 have hf:∀ b∈fp,GK X pins (upd H2 D (.lst [])) b:=λb hb=>⟨by rw[af (aoW (SF b hb))];exact(f2 b hb).1,(f2 b hb).2⟩;have kp:∀ b o,h3.get? b=some o->h₁.get? b=some o:=λb o e=>hsb₁.extBut b o (aoW (aoQ e)) (aoK _ e);have I4:Inv 1e2 [] (none::AN σ idx) (upd H2 D (.lst [])) {s2 with heap:=h₁,toks:=s2.toks+([]:List (Str×Value)).length} :=
  IX (s:={s2 with heap:=h3,toks:=s2.toks}) c I3 hf hlt hns₁ kp
 have GL:∀ {H':Hp},5e9->∀ b∈fp,GK 1e2 [] H' b:=λhn b hb =>
  ⟨hn b hb,aoW (hlt b hb),λz=>(ao2.mp (I3.C9 b z)).elim (hf b hb).2.1 (hf b hb).2.2.1,.inl hb,λy a q=>(hf b hb).2.2.2.2.1 y a (c.sub _ _ q),λp hp=>(by cases hp)⟩
 have st1:tn 0 h₁:=T.keep 0 _ _ st2 λb hb o e=>kp b o (by rw[<-hH];exact aoK _ e);have loop:∀ s4:Shared,s4={s2 with heap:=h₁,toks:=s2.toks+([]:List (Str×Value)).length} ->
   codeAny 1e6 X.A (.compLoop (.ListComp elt [⟨.Name x px,iter,[],0⟩] scope pos) 0 (.ref it) (.ref D) (compEnvC scope cl h3.objs.size X.env)) (compPost 1e6 X.A X.xe (some (assign (.Name y py) X.env)) (λ_ s'=>SP X pins D0 .next s') (.ref D) h3.objs.size) s4:=by
  rintro s4 rfl;refine CY (λn s'=>∃ i ys H' v0,Inv 1e2 [] (v0::AN σ idx) H' s'/\tn i s'.heap/\5e9/\W i n ys H')
   ?_ m0 ⟨0,[],_,none,I4,st1,λb hb=>(hf b hb).1,w0⟩
  rintro n s5 ⟨i5,ys,H5,v0,I5,st5,fr5,w5⟩;obtain⟨hDl,alt⟩:=turn i5 n ys H5 w5;rcases alt with⟨stop,qn⟩|⟨go,hz,N,hN',step⟩
  ·refine thn (T.done 1e2 rfl rfl rfl hc i5 [] s5 _ H5 _ I5 (GL fr5) st5 stop) λr s6 ⟨hr,I6⟩=>?_
   subst hr;obtain⟨m,ns6,_⟩:=id I6.loc;have J6:Inv X pins σ H5 s6:=I3.NI (ch:=fp) I6.os I6.base I6.hok I6.bare λb hb=>⟨(hf b hb).2.2.2.1,(hf b hb).2.1,(hf b hb).2.2.2.2.1,(hf b hb).2.2.2.2.2⟩;have fC:GK X pins H5 h3.objs.size:=I3.VU (aoL _) I6.free;obtain⟨o,es,ep,ho,rr⟩:=ns6;have od:∀ v,o.data≠.cell v:=λv z=>by
    rw[rr.1]at z;cases z
   show wpAny _ _ (assign (.Name y py) X.env (.ref D)) (λ_ s''=>∃ m,s''.heap.Ns h3.objs.size m/\∀ h',Heap.SameBut h3.objs.size s''.heap h'->SP X pins D0 .next {s'' with heap:=h'}) X.xe s6;have J7:=J6.pinned (fp:=[h3.objs.size]) (λb hb=>by rw[aoH.mp hb];exact fC) (λb hb=>by rw[aoH.mp hb];exact⟨o,ho,od⟩);refine wpAny_mono (aK (pos:=py) hN hi' (.inl hx) (.inr hx) _ s6 _ H5 (.ref D) (.ref D) D0.nx J7 rfl qn) (λ_ s7 ⟨σ7,H7,I7,q7⟩=>?_) (λ_ _ z=>z);have pC:=I7.pin (h3.objs.size,o) (aoP _ (aoP _ (iq (aoH.mpr rfl) ho)));refine⟨m,⟨o,es,ep,pC.1,rr⟩,λh' hs'=>⟨σ7,H7,?_,q7⟩⟩;exact I7.pD.turned (t':=s7.toks) (it:=h3.objs.size) (λb o hb e=>hs'.extBut b o hb e) pC.2.1 fC.2.1 fC.2.2.2.1 fC.2.2.2.2.1 fC.2.2.2.2.2
  ·refine thn (T.item 1e2 rfl rfl rfl hc i5 [] s5 _ H5 _ I5 (GL fr5) st5 go) λr s6 ⟨u,hr,h6⟩=>?_
   subst hr;refine thn h6 λ_ s7 ⟨y,H7,I7,r7,y7,st7,fr7⟩=>?_;have I7':=I7.pinned (GL fr7) (T.obj _ _ st7);have hnl:(relabel scope X.env).names.lookup x=some .local:=lookup_relabel_local c.xl;refine wpAny_mono (aK (X:=cxC X scope cl NC h3.objs.size fp {s2 with heap:=h3,toks:=s2.toks} (upd H2 D (.lst []))) (i:=0) (x:=x) (pos:=px) c.nd (by show NC[0]?=some x;rw[c.nc];rfl) (.inl hnl) (.inr hnl) _ s7 _ H7 y u
    (λσ' H'=>σ'=some y::AN σ idx/\H'=H7) I7' r7 ⟨rfl,rfl⟩) (λ_ s8 ⟨σ8,H8,I8,e8,e8'⟩=>?_) λ_ _ z=>z.elim
   subst e8 e8';refine wpAny_mono (he _ _ _ _ _ s8 _ H8 _ I8 (step y H8 y7)) (λw s9 ⟨v,H9,I9,r9,hD9,n9⟩=>?_) λ_ _ z=>z.elim;obtain⟨m',hm,w9⟩:=hN' _ _ n9;refine wpAny_mono (IY (X:=1e2) I9 hD9 hz r9) (λ_ s10 I10=>?_) λ_ _ z=>z.elim;refine⟨m',hm,i5+1,ys++[v],_,some y,I10.pD,T.keep _ _ _ st7 λb hb o e=>(I10.pin (b,o) (aoP _ (aoP _ (iq hb e)))).1,λb hb=>?_,w9⟩;obtain⟨o,e,d⟩:=T.obj _ _ st7 b hb;exact(I10.pin (b,o) (aoP _ (aoP _ (iq hb e)))).2.1
 exact codeAny_compStart_list (loop _ rfl) (T.self _ 0 _ _ _ st1 (loop _ rfl))
noncomputable def anZ(K:W.Frag):R2:=λx y H Q=>∃ a b xs ys,x=.ref a/\y=.ref b/\SqL K H a xs/\SqL K H b ys/\xs.length=ys.length/\xs.all lr=true/\ys.all lr=true/\Q (.bl (!Xg xs ys)) H
theorem V5{X:Cx}(hu:X.A.units<cLine):OpR X (compareOp .NotEq) (anZ X.K):=by
 intro pins s σ H x y v u Q I rx ry h;obtain⟨a,b,xs,ys,rfl,rfl,ha,hb,hl,fx,fy,q⟩:=h;cases rx;cases ry;obtain⟨vs,r1,⟨o1,n1,e1,c1,_,g1⟩,_⟩:=I.list ha;obtain⟨ws,r2,⟨o2,n2,e2,c2,_,g2⟩,_⟩:=I.list hb;have l1:=r1.length;have l2:=r2.length;refine SeqAt.RcNeAt.lists (e:=λj=>eqV (xs.getD j .non) (ys.getD j .non)) ⟨o1,e1,c1,n1,g1⟩ ⟨o2,e2,c2,n2,g2⟩ (by simp only[aoN];omega) hu (λj h1 h2=>?_) _ _ _ _ ⟨.bl _,H,I,rfl,?_⟩
 ·simp only[aoN]at h1 h2
  obtain⟨w1,z1,rz1⟩:=r1.get (i:=j) (x:=xs[j]' 1e1) (aoF 1e1);obtain⟨w2,z2,rz2⟩:=r2.get (i:=j) (x:=ys[j]' 1e1) (aoF 1e1);have a1:vs.toArray[j]=w1:=by
   have:=(aoE.mp z1).2
   simpa using this
  have a2:ws.toArray[j]=w2:=by
   have:=(aoE.mp z2).2
   simpa using this
  rw[a1,a2];have d1:xs.getD j .non=xs[j]' 1e1:=by simp[List.getD,aoF (show j<xs.length by omega)]
  have d2:ys.getD j .non=ys[j]' 1e1:=by simp[List.getD,aoF (show j<ys.length by omega)]
  show SeqAt.EqAt _ _ _ _ (eqV (xs.getD j .non) (ys.getD j .non));rw[d1,d2];exact NJ rz1 rz2 (apJ.mp fx _ (apA _)) (apJ.mp fy _ (apA _))
 ·have:vs.toArray.size=xs.length:=by simp only[aoN];omega
  rw[this];exact q
end
theorem SI:∀ {us:List Value} {ks:List Int},us.length=ks.length->(∀(j:Nat) (v:Value),us[j]?=some v->∃ t,v=Value.int (ks.getD j 0) t)->IntsAre us ks
 | [],[],_,_=>.nil
 | [],_::_,h,_=>by simp at h
 | _::_,[],h,_=>by simp at h
 | u::us,k::ks,h,f=>by
  obtain⟨t,e⟩:=f 0 u rfl;subst e;exact .cons k t (SI (by simpa using h) λj v q=>f (j+1) v q)
section
variable{X:Cx}
noncomputable def Z4:List V->Hp->VK->Prop:=λvs H Q=>∃(p:Addr) (kvs:List (Key×V)) (ks:List Int),vs=[.ref p]/\H p=some 2e6/\kvs.map (·.1)=ks.map Sum.inl/\ks.length<64 /\
 ∀(l:Addr) (ns':List Int),H l=none->ns'.Perm ks->ns'.Pairwise (·<=·)->Q (.ref l) (upd H l (.lst (ns'.map V.int)))
theorem EU{P:Program}{w:World}{vs:List (Key×Value)}{ks:List Int}{acc:Array Value}(hk:vs.map (·.1)=ks.map Sum.inl)(ha:acc.size=vs.length)(h:∀(j:Nat) (v:Value),acc[j]?=some v->∃ k x,vs[j]?=some (k,x)/\(cH P w).is k v=true):IntsAre acc.toList ks:=by
 have hl:vs.length=ks.length:=by
  have:=congrArg List.length hk
  simpa using this
 refine SI (by rw[aqq];omega) λj v e=>?_;obtain⟨k,x,h1,h2⟩:=h j v (by rw[<-Array.getElem?_toList];exact e);have h3:(vs.map (·.1))[j]?=some k:=by rw[aoR,h1];rfl
 rw[hk,aoR]at h3;obtain⟨i,hi,rfl⟩:=aoZ.mp h3;have h4:uU (.inl i) v=true:=h2;rcases cG h4 with⟨i',t,e1,e2⟩|⟨y,t,e1,_⟩
 ·injection e1 with e1
  subst e1;exact⟨t,by rw[e2];simp[List.getD,hi]⟩
 ·cases e1
theorem LA(hc:X.calm=true):uV X (.builtin "sorted") Z4:=by
 rintro pins s σ H xs us Q I r ⟨p,kvs,ks,rfl,hp,hk,h64,q⟩;obtain⟨u,rfl,ru⟩:=r.one;cases (show u=Value.ref p from ru);obtain⟨hz,hd,vs,rel,dd⟩:=UM I.hok hp;obtain⟨ep,hat⟩:=dd.dictAt;have hh:=I.ok.hd hc;have hl:ks.length=kvs.length:=by
  have:=congrArg List.length hk
  simpa using this.symm
 refine ap5 kind_sorted plain_sorted entry_sorted (args_sorted1 _) ?_;unfold Builtin.«sorted»;refine wpAny_bind (m:=checkCount "sorted" 1 1 _) (wpAny_pure ?_);refine wpAny_bind (PySem.W.kdu_collect (A:=X.A.in1) (PySem.W.kdl_dict (knd:=cH X.prog X.w) (kvs:=vs) (ep:=ep) hd) hh hat (by rw[<-rel.length];exact hz) λh' tk acc hkp hacc=>?_);have hI:IntsAre acc.toList ks:=EU (by rw[<-rel.keys];exact hk) hacc.1 hacc.2;have hlen:=hI.length;have I1:Inv X pins σ H {s with heap:=h',toks:=tk}:=I.kept (t':=tk) hkp;refine wpAny_bind (wpAny_newList ?_);have hoL:(h'.push (seqObj "list" acc.toList.toArray 0)).get? h'.objs.size=some (seqObj "list" acc.toList.toArray 0):=apa _ rfl;show wpAny _ _ _ _ _ {s with heap:=h'.push (seqObj "list" acc.toList.toArray 0),toks:=tk};refine wpAny_bind (wpAny_holding (wpAny_call_entry slot_list_sort ⟨_,hoL,rfl⟩ entry_list_sort (list_sort_tree hoL hI 1e1 λout ns' a1 a2 a3=>⟨_,rfl,?_⟩) (args_list_sort _)));refine wpAny_pure ⟨_,rfl,?_⟩;obtain⟨e,he⟩:=sortedHeap_at (out:=out) hoL;refine⟨.ref h'.objs.size,_,I1.laid (a:=h'.objs.size) (o:=.lst (ns'.map V.int)) (t':=tk) (λb o hb=>?_) (aoL _) ?_,rfl,q _ ns' (I1.hok.fresh (aoL _)) a2 a3⟩
 ·have hlt:=aoQ hb
  rw[sortedHeap_old (aoW hlt) (by rw[size_push'];exact ap2 hlt),Heap.get?_push_ne _ _ _ (aoW hlt)];exact hb
 ·refine⟨by rw[aoG,a2.length_eq,hl];exact hz,out.toList,e,qL a1,?_⟩
  rw[he]
end
theorem K9{xs ys:List Int}(p:xs.Perm ys)(hx:xs.Pairwise (·<=·))(hy:ys.Pairwise (·<=·)):xs=ys :=
 p.eq_of_pairwise (λa b _ _ h1 h2=>Int.le_antisymm h1 h2) hx hy
theorem V6{v:V}(h:lr v=true):eqV v v=true:=by
 cases v with
 | non=>rfl
 | bl b=>cases b<;>rfl
 | int n=>simp[eqV]
 | str z=>simp[eqV]
 | _=>exact absurd (show false=true from h) aoO
section
variable{X:Cx}
end
section
variable{X:Cx}{tg:Expr}
theorem PS.nox{st:Stmt}{t:TS}(h:PS X.nox st t):PS X st t:=λpins s σ H D I hw =>
 wpAny_mono (h pins s σ H D (I.Jk _) hw) (λ_ _ q=>q.r6) λ_ _ z=>False.elim z
end
section
variable{X:Cx}{scope:Scope}{cl:List (Str×Addr)}{x:Str}{idx:List Nat}{NC:List Str}{pins:List (Addr×Obj)}{σ:St}{H:Hp}{s:Shared}
theorem Vt{i:Nat}{y:Str}{elt iter ct:Expr}{px py pos SG:Pos}{wi:TI}{tc:TT}{te:TE}(hN:X.N.Nodup)(hi':X.N[i]?=some y)(hx:X.env.scope.names.lookup y=some .local)(c:GF X scope cl x idx NC)(hc:X.calm=true)(hi:PI X (.Name x px) iter wi)
  (ht:∀ C fp s₀ H₀,PT (cxC X scope cl NC C fp s₀ H₀) ct tc) (he:∀ C fp s₀ H₀,PE (cxC X scope cl NC C fp s₀ H₀) elt te) (hsw:swapsWith (.ListComp elt [⟨.Name x px,iter,[ct],0⟩] scope pos) (some (.Name y py)) SG.line X.env=pure true:=by rfl)
  (hs:∀ x,foldedSetIterable iter X.env x=pure x:=by intro _;rfl):PS X (.Assign [.Name y py] (.ListComp elt [⟨.Name x px,iter,[ct],0⟩] scope pos) SG) (XM (Z3 wi idx tc te) (yw i)):=by
 intro pins s σ H D0 I h;rw[exec_Assign_Name_used _ _ _ _ hsw];refine wpAny_bind (wpAny_standAt (wpAny_bind ?_));show wpAny _ _ (do let _ <-comprehension (.ListComp elt [⟨.Name x px,iter,[ct],0⟩] scope pos) scope X.env _ (newList []) false (eval iter X.env) (some (assign (.Name y py) X.env))) _ _ s
 refine wpAny_bind (wpAny_mono (wpAny_comprehension_free (use:=some (assign (.Name y py) X.env)) (Q:=λ_ s'=>SP X pins D0 .next s') rfl hs c.acd c.kind c.loc
  (thn (hi pins s σ H _ I h) λv s1 h1=>thn h1 λitv s2 h2=>?_)) (λ_ s' hq=>wpAny_pure (wpAny_pure hq)) λ_ _ e=>e)
 obtain⟨it,fp,tn,J,H2,rfl,I2,T,st2,f2,q⟩:=h2;refine wpAny_newObj_type (wpAny_newFunctionEnv c.R5 (by intro y hy;simp at hy) (λh₁ hns₁ hsb₁=>?_) c.kind);dsimp only at hns₁ hsb₁ ⊢;have I3:Inv X pins σ (upd H2 s2.heap.objs.size (.lst [])) {s2 with heap:=s2.heap.push {cls:=.type "list",data:=.seq ([]:List Value).toArray},toks:=s2.toks}:=I2.XY (ys:=[]) (its:=[]) .nil (apq _);obtain⟨W,⟨m0,w0⟩,turn⟩:=q s2.heap.objs.size I2.fresh;generalize hD:s2.heap.objs.size=D at *;generalize hH:s2.heap.push {cls:=.type "list",data:=.seq ([]:List Value).toArray}=h3 at *;have SF:∀ b∈fp,b<D:=λb hb=>by
  obtain⟨o,e,_⟩:=T.obj _ _ st2 b hb;rw[<-hD];exact aoQ e
 have hlt:∀ b∈fp,b<h3.objs.size:=λb hb=>by
  rw[<-hH,ap4,hD];exact ap2 (SF b hb)
 have hf:∀ b∈fp,GK X pins (upd H2 D (.lst [])) b:=λb hb=>⟨by rw[af (aoW (SF b hb))];exact(f2 b hb).1,(f2 b hb).2⟩;have kp:∀ b o,h3.get? b=some o->h₁.get? b=some o:=λb o e=>hsb₁.extBut b o (aoW (aoQ e)) (aoK _ e);have I4:Inv 1e2 [] (none::AN σ idx) (upd H2 D (.lst [])) {s2 with heap:=h₁,toks:=s2.toks+([]:List (Str×Value)).length} :=
  IX (s:={s2 with heap:=h3,toks:=s2.toks}) c I3 hf hlt hns₁ kp
 have GL:∀ {H':Hp},5e9->∀ b∈fp,GK 1e2 [] H' b:=λhn b hb =>
  ⟨hn b hb,aoW (hlt b hb),λz=>(ao2.mp (I3.C9 b z)).elim (hf b hb).2.1 (hf b hb).2.2.1,.inl hb,λy a q=>(hf b hb).2.2.2.2.1 y a (c.sub _ _ q),λp hp=>(by cases hp)⟩
 have st1:tn 0 h₁:=T.keep 0 _ _ st2 λb hb o e=>kp b o (by rw[<-hH];exact aoK _ e);have loop:∀ s4:Shared,s4={s2 with heap:=h₁,toks:=s2.toks+([]:List (Str×Value)).length} ->
   codeAny 1e6 X.A (.compLoop (.ListComp elt [⟨.Name x px,iter,[ct],0⟩] scope pos) 0 (.ref it) (.ref D) (compEnvC scope cl h3.objs.size X.env)) (compPost 1e6 X.A X.xe (some (assign (.Name y py) X.env)) (λ_ s'=>SP X pins D0 .next s') (.ref D) h3.objs.size) s4:=by
  rintro s4 rfl;refine Jo (λn s'=>∃ i ys H' v0,Inv 1e2 [] (v0::AN σ idx) H' s'/\tn i s'.heap/\5e9/\W i n ys H')
   ?_ m0 ⟨0,[],_,none,I4,st1,λb hb=>(hf b hb).1,w0⟩
  rintro n s5 ⟨i5,ys,H5,v0,I5,st5,fr5,w5⟩;obtain⟨hDl,alt⟩:=turn i5 n ys H5 w5;rcases alt with⟨stop,qn⟩|⟨go,hz,N,hN',step⟩
  ·refine thn (T.done 1e2 rfl rfl rfl hc i5 [] s5 _ H5 _ I5 (GL fr5) st5 stop) λr s6 ⟨hr,I6⟩=>?_
   subst hr;obtain⟨m,ns6,_⟩:=id I6.loc;have J6:Inv X pins σ H5 s6:=I3.NI (ch:=fp) I6.os I6.base I6.hok I6.bare λb hb=>⟨(hf b hb).2.2.2.1,(hf b hb).2.1,(hf b hb).2.2.2.2.1,(hf b hb).2.2.2.2.2⟩;have fC:GK X pins H5 h3.objs.size:=I3.VU (aoL _) I6.free;obtain⟨o,es,ep,ho,rr⟩:=ns6;have od:∀ v,o.data≠.cell v:=λv z=>by
    rw[rr.1]at z;cases z
   show wpAny _ _ (assign (.Name y py) X.env (.ref D)) (λ_ s''=>∃ m,s''.heap.Ns h3.objs.size m/\∀ h',Heap.SameBut h3.objs.size s''.heap h'->SP X pins D0 .next {s'' with heap:=h'}) X.xe s6;have J7:=J6.pinned (fp:=[h3.objs.size]) (λb hb=>by rw[aoH.mp hb];exact fC) (λb hb=>by rw[aoH.mp hb];exact⟨o,ho,od⟩);refine wpAny_mono (aK (pos:=py) hN hi' (.inl hx) (.inr hx) _ s6 _ H5 (.ref D) (.ref D) D0.nx J7 rfl qn) (λ_ s7 ⟨σ7,H7,I7,q7⟩=>?_) (λ_ _ z=>z);have pC:=I7.pin (h3.objs.size,o) (aoP _ (aoP _ (iq (aoH.mpr rfl) ho)));refine⟨m,⟨o,es,ep,pC.1,rr⟩,λh' hs'=>⟨σ7,H7,?_,q7⟩⟩;exact I7.pD.turned (t':=s7.toks) (it:=h3.objs.size) (λb o hb e=>hs'.extBut b o hb e) pC.2.1 fC.2.1 fC.2.2.2.1 fC.2.2.2.2.1 fC.2.2.2.2.2
  ·refine thn (T.item 1e2 rfl rfl rfl hc i5 [] s5 _ H5 _ I5 (GL fr5) st5 go) λr s6 ⟨u,hr,h6⟩=>?_
   subst hr;refine thn h6 λ_ s7 ⟨y,H7,I7,r7,y7,st7,fr7⟩=>?_;have I7':=I7.pinned (GL fr7) (T.obj _ _ st7);have hnl:(relabel scope X.env).names.lookup x=some .local:=lookup_relabel_local c.xl;refine wpAny_mono (aK (X:=cxC X scope cl NC h3.objs.size fp {s2 with heap:=h3,toks:=s2.toks} (upd H2 D (.lst []))) (i:=0) (x:=x) (pos:=px) c.nd (by show NC[0]?=some x;rw[c.nc];rfl) (.inl hnl) (.inr hnl) _ s7 _ H7 y u
    (λσ' H'=>σ'=some y::AN σ idx/\H'=H7) I7' r7 ⟨rfl,rfl⟩) (λ_ s8 ⟨σ8,H8,I8,e8,e8'⟩=>?_) λ_ _ z=>z.elim
   subst e8 e8';refine wpAny_mono (ht _ _ _ _ _ s8 _ H8 _ I8 (step y H8 y7)) (λbb s11 ⟨H11,I11,q11⟩=>?_) λ_ _ z=>z.elim;have fin:∀ {H12:Hp} {s12:Shared} {zs:List V} {m':Nat},Inv 1e2 ([]++Jl fp s7.heap) (some y::AN σ idx) H12 s12->m'<n->W (i5+1) m' zs H12 ->
     ∃ m,m<n/\∃ i ys H' v0,Inv 1e2 [] (v0::AN σ idx) H' s12/\tn i s12.heap/\5e9/\W i m ys H':=λ{H12 s12 zs m'} I12 hm w12=>by
    refine⟨m',hm,i5+1,zs,_,some y,I12.pD,T.keep _ _ _ st7 λb hb o e=>(I12.pin (b,o) (aoP _ (aoP _ (iq hb e)))).1,λb hb=>?_,w12⟩;obtain⟨o,e,d⟩:=T.obj _ _ st7 b hb;exact(I12.pin (b,o) (aoP _ (aoP _ (iq hb e)))).2.1
   cases bb with
   | false =>
    obtain⟨m',hm,w9⟩:=hN' _ _ q11;exact fin I11 hm w9
   | true =>
    refine wpAny_mono (he _ _ _ _ _ s11 _ H11 _ I11 q11) (λw s9 ⟨v,H9,I9,r9,hD9,n9⟩=>?_) λ_ _ z=>z.elim;obtain⟨m',hm,w9⟩:=hN' _ _ n9;refine wpAny_mono (IY (X:=1e2) I9 hD9 hz r9) (λ_ s10 I10=>?_) λ_ _ z=>z.elim;exact fin I10 hm w9
 exact codeAny_compStart_list (loop _ rfl) (T.self _ 0 _ _ _ st1 (loop _ rfl))
noncomputable def SJ(J:It)(D:Addr)(τ:St)(tc:TT)(te:TE)(Q:VK)(H:Hp):Prop:=∃ W:Nat->Nat->List V->Hp->Prop,(∃ m,W 0 m [] H)/\∀ i m ys H2,W i m ys H2->H2 D=some 5e0 /\
 ((J.stop i H2/\Q (.ref D) H2)\/(J.go i H2/\ys.length<sizeLine/\∃ N:List V->Hp->Prop,(∀ zs H',N zs H'->∃ m',m'<m/\W (i+1) m' zs H')/\∀ y H3,J.yld i H2 y H3->tc (some y::τ) H3 λb H4=>if b=true then te (some y::τ) H4 λv H5=>H5 D=some 5e0/\N (ys++[v]) (upd H5 D (.lst (ys++[v])))
  else N ys H4))
noncomputable def Z5(wi:TI)(idx:List Nat)(tc:TT)(te:TE):TE:=λσ H Q=>wi σ H λJ H1=>∀ D,H1 D=none->SJ J D (AN σ idx) tc te Q (upd H1 D (.lst []))
theorem Vu{i:Nat}{y:Str}{elt iter ct:Expr}{px py pos SG:Pos}{wi:TI}{tc:TT}{te:TE}(hN:X.N.Nodup)(hi':X.N[i]?=some y)(hx:X.env.scope.names.lookup y=some .local)(c:GF X scope cl x idx NC)(hc:X.calm=true)(hi:PI X (.Name x px) iter wi)
  (ht:∀ C fp s₀ H₀,PT (cxC X scope cl NC C fp s₀ H₀) ct tc) (he:∀ C fp s₀ H₀,PE (cxC X scope cl NC C fp s₀ H₀) elt te) (hsw:swapsWith (.ListComp elt [⟨.Name x px,iter,[ct],0⟩] scope pos) (some (.Name y py)) SG.line X.env=pure true:=by rfl)
  (hs:∀ x,foldedSetIterable iter X.env x=pure x:=by intro _;rfl):PS X (.Assign [.Name y py] (.ListComp elt [⟨.Name x px,iter,[ct],0⟩] scope pos) SG) (XM (Z5 wi idx tc te) (yw i)) :=
 Vt hN hi' hx c hc hi ht he hsw hs
end
end L2
end
section
namespace L2
open PySem PySem.Spec PyProof.Rows LX
section
variable{P:Program}{w:World}{A:Around}{E:Value->Shared->Prop}{s:Shared}{a:Addr}{S:Int->Bool}{n:Nat}
end
end L2
end
section
namespace L2
open PySem PySem.Spec PyProof.Rows LX
section
variable{P:Program}{w:World}{A:Around}{R:Result->Shared->Prop}{I:Addr}{fp wr:List Addr}{G:Array GenState->Array GenState->Prop}{n:Nat}{p:Nat->Value->Prop}{St:Nat->Shared->Prop}
end
section
variable{P:Program}{w:World}{A:Around}{E:Value->Shared->Prop}{s:Shared}
end
section
variable{P:Program}{w:World}{A:Around}{E:Value->Shared->Prop}{s:Shared}{it a:Addr}{first:Value}{i n ep:Nat}
end
section
variable{P:Program}{w:World}{A:Around}{E:Value->Shared->Prop}{s:Shared}{it a:Addr}{first:Value}{i n ep:Nat}{es:Array (Int×Value)}{t:SetTable}
end
section
variable{P:Program}{w:World}{A:Around}{E:Value->Shared->Prop}{s:Shared}{I a:Addr}{ep:Nat}{es:Array (Int×Value)}{t:SetTable}{sl:Nat->Nat}{vs:List Value}
end
end L2
end
section
namespace L2
open PySem PySem.Spec PyProof.Rows LX PySem.W
section
variable{P:Program}{w:World}{A:Around}{E:Value->Shared->Prop}{s:Shared}{a:Addr}{ep:Nat}{es:Array (Int×Value)}{t:SetTable}
end
section
variable{P:Program}{w:World}{A:Around}{E:Value->Shared->Prop}{s:Shared}{a:Addr}{ep:Nat}{es:Array (Int×Value)}{t:SetTable}
end
section
variable{X:Cx}
end
end L2
end
section
namespace L2
open PySem PySem.Spec PyProof.Rows LX
section
variable{X:Cx}{pins:List (Addr×Obj)}{σ:St}{H:Hp}{s:Shared}{d:Addr}{kvs:List (Key×V)}
theorem Inv.frozen(I:Inv X pins σ H s)(hd:H d=some (.dK kvs)):∃ o,Inv X pins σ (upd H d 5e5) s:=by
 obtain⟨hz,h0,vs,rel,o,es,ep,ho,r⟩:=UM I.hok hd;have nn:∀ {b:Addr},H b=none->upd H d 5e5 b=none:=λ{b} q=>by
  rw[af λz=>by rw[z,hd]at q;cases q];exact q
 have ns:∀ {b:Addr} {u:HO},H b=some u->u≠.dK kvs->upd H d 5e5 b=some u:=λ{b u} q n=>by
  rw[af λz=>n (by rw[z,hd]at q;exact(ao4 q).symm)];exact q
 refine⟨o,I.ok,I.os,I.bare,⟨I.base.keep,I.base.slot,λb ob q n e=>nn (I.base.free b ob q n e),I.base.there,λb xs q=>ns (I.base.KW b xs q) 1e0,λb ob u q=>ns (I.base.Jh b ob u q) 1e0,λb ps q=>?_⟩,I.loc,I.cell,nn I.free,λx c q=>nn (I.rU x c q),λp hp=>?_,λa u q=>?_,I.len⟩
 ·obtain⟨more,q'⟩:=I.base.KY b ps q
  exact⟨more,ns q' 1e0⟩
 ·obtain⟨p1,p2,p3⟩:=I.pin p hp
  exact⟨p1,nn p2,p3⟩
 ·have st:∀ {a:Addr} {u:HO},jd X.prog X.w H s.heap a u->jd X.prog X.w (upd H d 5e5) s.heap a u:=λx=>x.Pp (λ_ _ _ z=>z) (λb z=>ns z (by intro y;cases y)) λb xs z=>ns z (by intro y;cases y)
  by_cases e:a=d
  ·subst e
   rw[ag]at q;cases q;exact⟨ho,st (I.hok a _ hd)⟩
  ·rw[af e]at q
   exact st (I.hok a u q)
noncomputable def an0(te:TE):TE:=λσ H Q=>te σ H λv H1=>∃ d kvs,H1 d=some 2e6/\∀ o,Q v (upd H1 d 5e5)
theorem GG{e:Expr}{te:TE}(h:PE X e te):PE X e (an0 te):=by
 intro pins s σ H Q I t;refine wpAny_mono (h pins s σ H _ I t) (λu s1 ⟨v,H1,I1,r,q⟩=>?_) λ_ _ z=>z;obtain⟨d,kvs,hd,q⟩:=q;obtain⟨o,I2⟩:=I1.frozen hd;exact⟨v,_,I2,r,q o⟩
noncomputable def Itd(d:Addr)(o:Obj)(kvs:List (Key×V)):It :=
 ⟨λi H=>H d=some 5e5/\i<kvs.length,λi H x H'=>H'=H/\∃ p,kvs[i]?=some p/\x=kV p.1,λi H=>H d=some 5e5/\kvs.length<=i⟩
theorem Z6{P:Program}{w:World}{k:Key}{u:Value}(h:(cH P w).is k u=true):RelV (kV k) u:=by
 have h4:uU k u=true:=h;rcases cG h4 with⟨i,t,e1,e2⟩|⟨y,t,e1,e2⟩
 ·subst e1 e2
  exact⟨t,rfl⟩
 ·subst e1 e2
  exact⟨t,rfl⟩
theorem R6{o:Obj}(I:Inv X pins σ H s)(hd:H d=some (.frz o (.dK kvs))){es:Array DictEntry}{ep:Nat}(eo:o.data=.dict es ep):kvs.length<=sizeLine/\(d == sysModules)=false/\∃ vs,KV kvs vs/\s.heap.DictAt (cH X.prog X.w) d vs ep:=by
 obtain⟨ho,hz,h0,vs,rel,o',es',ep',ho',c1,c2,c3⟩:=(show jd X.prog X.w H s.heap d 5e5 from I.hok d _ hd);have e:o'=o:=ao4 (ho'.symm.trans ho);subst e;rw[eo]at c2;injection c2 with e1 e2;subst e1 e2;exact⟨hz,h0,vs,rel,o',es,ho',c1,eo,c3⟩
theorem Vv{o:Obj}(I:Inv X pins σ H s)(hd:H d=some (.frz o (.dK kvs))):∃ es ep,o.data=.dict es ep:=by
 obtain⟨ho,hz,h0,vs,rel,o',es',ep',ho',c1,c2,c3⟩:=(show jd X.prog X.w H s.heap d 5e5 from I.hok d _ hd);have e:o'=o:=ao4 (ho'.symm.trans ho);subst e;exact⟨es',ep',c2⟩
theorem V7:∀ {kvs:List (Key×V)} {vs:List (Key×Value)},KV kvs vs->∀ {i:Nat} {p:Key×V},kvs[i]?=some p->∃ x,vs[i]?=some (p.1,x)
 | _,_,.nil,_,_,h=>by simp at h
 | (k,v)::_,(k',x)::_,.cons a r,0,p,h=>by
  have h1:(k,v)=p:=by simpa using h
  subst h1;obtain⟨e,_⟩:=a;have e':k=k':=e;subst e';exact⟨x,rfl⟩
 | _::_,_::_,.cons _ r,i+1,p,h=>by
  have:=V7 r (i:=i) (p:=p) (by simpa using h)
  simpa using this
theorem T9{P:Program}{w:World}{K:W.Frag}{tg:Expr}(d it:Addr)(o:Obj)(kvs:List (Key×V))(ne:d≠it):Turn P w K tg (Itd d o kvs) [it] it (λi h=>∃ es ep,o.data=.dict es ep/\h.IsKeyIter it d i kvs.length ep) where
 mem:=by simp
 obj:=λi h st b hb=>by
  have e:b=it:=by simpa using hb
  subst e;obtain⟨es,ep,_,o,e,c,d⟩:=st;exact⟨o,e,λv z=>by rw[d]at z;cases z⟩
 keep:=λi h h' ⟨es,ep,eo,st⟩ k=>⟨es,ep,eo,st.at λo e=>k it 1e9 o e⟩
 item:=by
  rintro X hP hw hK hc i pins s σ H E I hf ⟨es,ep,eo,st⟩ ⟨hd,hi⟩;subst hP hw hK;obtain⟨hz,h0,vs,rel,hat⟩:=R6 I hd eo;have hl:=rel.length;obtain⟨x,hx⟩:=V7 rel (aoF hi);obtain⟨f0,f1,f2,f3,f4,f5⟩:=hf it 1e9;rw[hl]at st;refine wpAny_pyNext_dict_item st hat hx λkey h' hk st' sb=>?_;have I1:Inv X pins σ H {s with heap:=h'}:=I.turned (t':=s.toks) (λb o hb e=>(sb.2 b hb).trans e) f0 f1 f3 f4 f5;exact⟨key,rfl,letGo_keyiter (s':={s with heap:=h'}) st' ⟨kV (kvs[i]'hi).1,H,I1,Z6 hk,⟨rfl,_,aoF hi,rfl⟩,⟨es,ep,eo,by rw[hl];exact st'⟩,λb hb=>(hf b hb).1⟩⟩
 done:=by
  rintro X hP hw hK hc i pins s σ H E I hf ⟨es,ep,eo,st⟩ ⟨hd,hi⟩;subst hP hw hK;obtain⟨hz,h0,vs,rel,hat⟩:=R6 I hd eo;have hl:=rel.length;obtain⟨f0,f1,f2,f3,f4,f5⟩:=hf it 1e9;rw[hl]at st;exact wpAny_pyNext_dict_end (I.ok.hd hc) st hat (List.getElem?_eq_none 1e1) λh' eb=>⟨rfl,I.turned (t':=s.toks) (λb o hb e=>eb b o hb e) f0 f1 f3 f4 f5⟩
 self:=λ_ _ _ _ _ ⟨_,_,_,st⟩ h=>wpAny_pyIter_keyiter st h
noncomputable def acS(td:TE):TI:=λσ H R=>td σ H λx H1=>∃ d o kvs,x=.ref d/\H1 d=some 5e5/\R (Itd d o kvs) H1
theorem yN{tg l:Expr}{tl:TE}(hl:PE X l tl):PI X tg l (acS tl):=by
 intro pins s σ H R I h;refine thn (hl pins s σ H _ I h) λv s1 ⟨x,H1,I1,r1,q1⟩=>?_;obtain⟨d,o,kvs,e,hd,q⟩:=q1;subst e;cases r1;obtain⟨es,ep,eo⟩:=Vv I1 hd;obtain⟨hz,h0,vs,rel,hat⟩:=R6 I1 hd eo;have hl:=rel.length;refine wpAny_pyIter_dict h0 hat ?_;rw[<-hl];refine⟨s1.heap.objs.size,[s1.heap.objs.size],_,_,H1,rfl,I1.kept (t':=s1.toks) λb o e=>aoK _ e,T9 d _ o kvs (aoW hat.lt_size),⟨es,ep,eo,_,apa _ rfl,rfl,rfl⟩,λb hb=>?_,q⟩;have e:b=s1.heap.objs.size:=by simpa using hb
 subst e;exact I1.VU (aoL _) (I1.hok.fresh (aoL _))
end
theorem Dj{d:Addr}{o:Obj}{kvs:List (Key×V)}{g:TG}{tb:TS}{D:Ends}{σ:St}{H:Hp}(Pv:Nat->St->Hp->Prop)(h0:Pv 0 σ H)(hl:∀ i σ H,i<=kvs.length->Pv i σ H->H d=some (.frz o (.dK kvs)))
  (hs:∀ i p σ H,kvs[i]?=some p->Pv i σ H->g (kV p.1) σ H λσ2 H2=>tb {D with nx:=Pv (i+1),ct:=Pv (i+1),bk:=D.nx} σ2 H2) (hd:∀ σ H,Pv kvs.length σ H->D.nx σ H) :
  ∃ W:Nat->Nat->St->Hp->Prop,(∃ m,W 0 m σ H)/\∀ i m σ H,W i m σ H ->
   ((Itd d o kvs).stop i H/\D.nx σ H)\/((Itd d o kvs).go i H/\∃ N:St->Hp->Prop,(∀ σ' H',N σ' H'->∃ m',m'<m/\W (i+1) m' σ' H')/\∀ x H',(Itd d o kvs).yld i H x H'->g x σ H' λσ2 H2=>tb {D with nx:=N,ct:=N,bk:=D.nx} σ2 H2):=by
 refine⟨λi m σ H=>m=kvs.length-i/\i<=kvs.length/\Pv i σ H,⟨kvs.length,by simp,apq _,h0⟩,?_⟩;rintro i m σ H ⟨rfl,hi,p⟩;by_cases hlt:i<kvs.length
 ·refine .inr ⟨⟨hl i σ H hi p,hlt⟩,Pv (i+1),λσ' H' p'=>⟨kvs.length-(i+1),by omega,rfl,hlt,p'⟩,λx H' y=>?_⟩
  obtain⟨e1,q,e2,e3⟩:=y;subst e1 e3;exact hs i q σ _ e2 p
 ·have e:i=kvs.length:=by omega
  subst e;exact .inl ⟨⟨hl _ σ H hi p,aoL _⟩,hd σ H p⟩
section
variable{X:Cx}
end
section
variable{X:Cx}{pins:List (Addr×Obj)}{σ:St}{H:Hp}{s:Shared}
end
theorem Ij:∀ {ms ns:List Int},ms.length=ns.length->Xg (ms.map V.int) 4e4=decide (ms=ns):=by
 intro ms ns hl;rw[aqc,decide_eq_true_eq];unfold Xg;rw[apJ];constructor
 ·intro h
  refine List.ext_getElem hl λj h1 h2=>?_
  have:=h j (by rw[aoG];exact apU.mpr h1)
  simpa[List.getD,h1,h2,eqV] using this
 ·rintro rfl j hj
  rw[aoG]at hj;have hj:=apU.mp hj;simp[List.getD,hj,eqV]
section
variable{X:Cx}
theorem Vx:∀ {x y:V} {us:List Value},Vals [x,y] us->∃ u v,us=[u,v]/\RelV x u/\RelV y v
 | _,_,_,.cons a (.cons b .nil)=>⟨_,_,rfl,a,b⟩
end
section
variable{X:Cx}
noncomputable def Z7:List V->Hp->VK->Prop:=λvs H Q=>∃(p:Addr) (kvs:List (Key×V)) (ks:List Int),vs=[.ref p]/\Rd H p 2e6/\kvs.map (·.1)=ks.map Sum.inl/\∀ l:Addr,H l=none->Q (.ref l) (upd H l (.lst (ks.map V.int)))
theorem Ik(hc:X.calm=true):uV X (.type "list") Z7:=by
 rintro pins s σ H xs us Q I r ⟨p,kvs,ks,rfl,hp,hk,q⟩;obtain⟨u,rfl,ru⟩:=r.one;cases (show u=Value.ref p from ru);obtain⟨hz,hd,vs,rel,dd⟩:=AL I.hok hp;obtain⟨ep,hat⟩:=dd.dictAt;have hl:ks.length=kvs.length:=by
  have:=congrArg List.length hk
  simpa using this.symm
 refine PySem.W.kdl_call (PySem.W.kdl_dict (knd:=cH X.prog X.w) (kvs:=vs) (ep:=ep) hd) (I.ok.hd hc) hat (by rw[<-rel.length];exact hz) λh' tk acc c hkp hS hacc=>?_;have hI:IntsAre acc.toList ks:=EU (by rw[<-rel.keys];exact hk) hacc.1 hacc.2;refine⟨.ref s.heap.objs.size,_,I.laid (a:=s.heap.objs.size) (o:=.lst (ks.map V.int)) (t':=tk) hkp (aoL _) ?_,rfl,q _ (I.hok.fresh (aoL _))⟩;refine⟨by rw[aoG,hl];exact hz,acc.toList,c,qL hI,?_⟩;rw[hS]
end
section
variable{X:Cx}
end
theorem QV{d:Addr}{o:Obj}{kvs:List (Key×V)}{tc:TT}{te:TE}{Q:VK}{D:Addr}{τ:St}{H:Hp}(Pv:Nat->List V->Hp->Prop)(h0:Pv 0 [] H)(hD:∀ i ys H,i<=kvs.length->Pv i ys H->H D=some (.lst ys)/\ys.length<=i)(hl:∀ i ys H,i<=kvs.length->Pv i ys H->H d=some (.frz o (.dK kvs)))(hn:kvs.length<=sizeLine)
  (hs:∀ i p ys H,kvs[i]?=some p->Pv i ys H->tc (some (kV p.1)::τ) H λb H4=>if b=true then te (some (kV p.1)::τ) H4 λv H5=>H5 D=some (.lst ys)/\Pv (i+1) (ys++[v]) (upd H5 D (.lst (ys++[v]))) else Pv (i+1) ys H4)
  (hd:∀ ys H,Pv kvs.length ys H->Q (.ref D) H):SJ (Itd d o kvs) D τ tc te Q H:=by
 refine⟨λi m ys H=>m=kvs.length-i/\i<=kvs.length/\Pv i ys H,⟨kvs.length,by simp,apq _,h0⟩,?_⟩;rintro i m ys H2 ⟨rfl,hi,p⟩;obtain⟨d1,d2⟩:=hD i ys H2 hi p;refine⟨d1,?_⟩;have hS:=hl i ys H2 hi p;by_cases hlt:i<kvs.length
 ·refine .inr ⟨⟨hS,hlt⟩,by omega,Pv (i+1),λzs H' p'=>⟨kvs.length-(i+1),by omega,rfl,hlt,p'⟩,λy H3 q=>?_⟩
  obtain⟨e1,q',e2,e3⟩:=q;subst e1 e3;exact hs i q' ys _ e2 p
 ·have e:i=kvs.length:=by omega
  subst e;exact .inl ⟨⟨hS,aoL _⟩,hd ys H2 p⟩
theorem GP:typeLookup (Value.type "list") (Str.ofString "keys")=pure none:=am_miss_of_fast 2e4
theorem list_getattr_none:typeLookup (Value.type "list") (Str.ofString "__getattr__")=pure none:=am_miss_of_fast 2e4
section
variable{P:Program}{w:World}{A:Around}{E:Value->Shared->Prop}
theorem Yd{h:Heap}{g:Array GenState}{d:Drawn}{t:Nat}{os:OsState}{a:Addr}{its:Array Value}{n:Nat}{u:Tok}{Q:PySem.Fin->Shared->Prop}(hx:h.get? a=some {cls:=.type "list",data:=.seq its n})(hA:A.handled=none)
  (q:∀(h':Heap) (tk:Nat) (e:Addr),h.NewAttrErr h' e (.ref a) (Str.ofString "keys")->E (.ref e) {heap:=h',gens:=g,drawn:=d,toks:=tk,os:=os}) :
  wpAny (model P w) A (Builtin.«object.__getattribute__» {pos:=[.ref a,.str (Str.ofString "keys") u]}) Q E {heap:=h,gens:=g,drawn:=d,toks:=t,os:=os}:=by
 have hT:Shared.TypeIs {heap:=h,gens:=g,drawn:=d,toks:=t,os:=os} (.ref a) "list" := ⟨_,hx,rfl⟩;have f1:=GP;unfold Builtin.«object.__getattribute__»;wp_walk
 exact wpAny_raiseAttrError hA q 2e4
theorem Ua{h:Heap}{g:Array GenState}{d:Drawn}{t:Nat}{os:OsState}{a:Addr}{its:Array Value}{n:Nat}{Q:Option Value->Shared->Prop}(hx:h.get? a=some {cls:=.type "list",data:=.seq its n})(hA:A.handled=none)
  (q:∀(h':Heap) (tk:Nat),(∀ b o,h.get? b=some o->h'.get? b=some o)->Q none {heap:=h',gens:=g,drawn:=d,toks:=tk,os:=os}) :
  wpAny (model P w) A (getAttr? (.ref a) (Str.ofString "keys")) Q E {heap:=h,gens:=g,drawn:=d,toks:=t,os:=os}:=by
 have hT:∀ t,Shared.TypeIs {heap:=h,gens:=g,drawn:=d,toks:=t,os:=os} (.ref a) "list" := λ_=>⟨_,hx,rfl⟩;have hT0:=hT t;have hT1:=hT (t+1);have f2:=PySem.F.slot_list_getattribute.lookup;have f3:=PySem.F.slot_list_getattribute.bind (Value.ref a);have f5:=list_getattr_none;have f1:=sub_AttributeError;unfold getAttr? getAttrBy?;wp_walk
 refine codeAny_call_builtin PySem.F.slot_list_getattribute.plain PySem.F.entry_list_ga (PySem.F.slot_list_getattribute.check _ _ _ _ (Value.ref a) [Value.str (Str.ofString "keys") t] [] _ hT1 (PySem.F.args_list_getattribute_2 _ _) (Yd hx (by simp[hA]) λh' tk e he=>?_));obtain⟨t',u',hg⟩:=he.there;have hTe:Shared.TypeIs {heap:=h',gens:=g,drawn:=d,toks:=tk,os:=os} (.ref e) "AttributeError" := ⟨_,hg,rfl⟩;have q':=q h' tk he.keeps;show wpAny _ _ (getattributeRaised _ _ _ _ _ _ _) _ _ _;unfold getattributeRaised;wp_walk
 all_goals exact q'
end
theorem La:entryFor table "dict.update.loop" = some Builtin.«dict.update.loop» := entryFor_of_tree (by rfl)
theorem yB:plainId "dict.update.loop" = true:=by decide +kernel
section
variable{P:Program}{w:World}{A:Around}{R:Result->Shared->Prop}{KK:Type}[DecidableEq KK]{knd:KeyKind P w KK}
theorem stored_new{kvs:List (KK×Value)}{k:KK}{v:Value}(h:k∉kvs.map (·.1)):stored kvs k v=kvs++[(k,v)]:=by
 rw[stored.eq_1,if_neg];intro z;obtain⟨p,hp,e⟩:=List.any_eq_true.mp z;exact h (ao5.mpr ⟨p,hp,of_decide_eq_true e⟩)
theorem Lb{h h':Heap}{D:Addr}{kvs:List (KK×Value)}(d:Heap.DictOf knd h D kvs)(k:∀ o,h.get? D=some o->h'.get? D=some o):Heap.DictOf knd h' D kvs:=by
 obtain⟨o,es,ep,h1,h2⟩:=d;exact⟨o,es,ep,k o h1,h2⟩
theorem QW{I l D:Addr}{items:Array Value}(hA:A.in1.handled=none)(hne:l≠I)(hDI:D≠I)(hDl:D≠l)(kv:List (KK×Value))(hn:kv.length=items.size)(nd:(kv.map (·.1)).Nodup)(hz:kv.length<=sizeLine) :
  ∀(k i:Nat) (s:Shared),items.size-i=k->i<=items.size->(s.heap.IsListIter I l i/\s.heap.IsList l items)->Heap.DictOf knd s.heap D (kv.take i) ->
  (∀ j (hj:j<kv.length),∃(b:Addr) (o:Obj) (kx:Value) (n:Nat),items[j]?=some (.ref b)/\s.heap.get? b=some o/\o.cls=.type "tuple" /\ o.data=.seq #[kx,kv[j].2] n/\knd.is kv[j].1 kx=true/\b≠D/\b≠I) ->
  (∀(h':Heap) (tk:Nat),Heap.DictOf knd h' D kv->(∀ b o,b≠D->b≠I->s.heap.get? b=some o->h'.get? b=some o)->R (.ok (.ret .none)) {s with heap:=h',toks:=tk}) ->
  codeAny (model P w) A (.builtin "dict.update.loop" ⟨[.ref D,.ref I,.int (i:Int) 0,.none],[]⟩) R s:=by
 have W:=Walks.list (prog:=P) (w:=w) hA I l hne items;intro k;induction k with
 | zero =>
  intro i s hk hi st hS ht q;have e:i=items.size:=by omega
  subst e;refine codeAny_builtin La ?_;rw[Around.under_plainId yB _];show wpAny _ A.in1 (pyNext (.ref I) >>= _) _ _ s;refine wpAny_bind (W.done s _ _ st λh' tk hm=>?_);rw[<-hn,aoM (aoL _)]at hS;wp_walk
  exact q h' tk (Lb hS λo z=>hm D o (by simpa using hDI) z) λb o _ nb z=>hm b o (by simpa using nb) z
 | succ k ih =>
  intro i s hk hi st hS ht q;have hlt:i<items.size:=by omega
  refine codeAny_builtin La ?_;rw[Around.under_plainId yB _];show wpAny _ A.in1 (pyNext (.ref I) >>= _) _ _ s;refine wpAny_bind (W.item i s _ _ hlt st λv h' tk hP st' hm=>?_);obtain⟨b,o,kx,n,hb,ho,hc,hd,hk1,nb1,nb2⟩:=ht i 1e1;have hv:v=.ref b:=by
   have hP:items[i]?=some v:=hP;rw[hb]at hP;exact(ao4 hP).symm
  subst hv;have ho':=hm b o (by simpa using nb2) ho;have hT:Shared.TypeIs {s with heap:=h',toks:=tk} (.ref b) "tuple" := ⟨_,ho',hc⟩;show wpAny _ A.in1 (holding [Value.ref b] _ >>= _) _ _ _;refine wpAny_bind (wpAny_holding (wpAny_bind (wpAny_tryCatch ?_)));unfold Builtin.Dict.pairItems;refine wpAny_bind (wpAny_typeOf hT ?_);rw[if_pos 2e0];refine wpAny_bind (wpAny_seqItems ho' hd (wpAny_pure ?_));show wpAny _ A.in1 (holding [kx,kv[i].2] (dictSet D kx kv[i].2)) _ _ _;have hS':=Lb (h':=h') hS λo z=>hm D o (by simpa using hDI) z;have hi':i<kv.length:=by omega
  have tk1:kv.take (i+1)=kv.take i++[kv[i]]:=apd hi';have nk:kv[i].1∉(kv.take i).map (·.1):=λg=>by
   have h1:((kv.take i).map (·.1)++[kv[i].1]).Nodup:=by
    have e9:(kv.take (i+1)).map (·.1)=(kv.take i).map (·.1)++[kv[i].1]:=by
     rw[tk1,aoV];rfl
    rw[<-e9];exact((List.take_sublist _ _).map _).nodup nd
   exact(apC.mp h1).2.2 _ g _ (aoH.mpr rfl) rfl
  refine wpAny_holding (wpAny_dictSet_pairs hk1 hS' (λh2 dd sb=>?_) (by rw[aoS];omega));rw[stored_new nk,show kv.take i++[(kv[i].1,kv[i].2)]=kv.take (i+1) from tk1.symm]at dd;refine wpAny_pure ⟨plainId_quiet yB _,?_⟩;show codeAny (model P w) A (.builtin "dict.update.loop" ⟨[.ref D,.ref I,.int ((i+1:Nat):Int) 0,.none],[]⟩) R _;have keep:∀ b o,b≠D->b≠I->s.heap.get? b=some o->h2.get? b=some o:=λb o n1 n2 z=>(sb.2 b n1).trans (hm b o (by simpa using n2) z);refine ih (i+1) _ 1e1 hlt (W.frame _ h' h2 st' λb hb' o z=>?_) dd (λj hj=>?_) λh3 tk3 d3 k3=>q h3 tk3 d3 λb o n1 n2 z=>k3 b o n1 n2 (keep b o n1 n2 z)
  ·rw[sb.2 b (λe:b=D=>?_)]
   ·exact z
   ·rw[e]at hb'
    rcases ao2.mp hb' with g|g
    ·exact hDI g
    ·exact hDl (aoH.mp g)
  ·obtain⟨b,o,kx,n,x1,x2,x3,x4,x5,x6,x7⟩:=ht j hj
   exact⟨b,o,kx,n,x1,keep b o x6 x7 x2,x3,x4,x5,x6,x7⟩
end
section
variable{P:Program}{w:World}{A:Around}{E:Value->Shared->Prop}{KK:Type}[DecidableEq KK]{knd:KeyKind P w KK}
theorem QX{s:Shared}{l:Addr}{items:Array Value}{nl:Nat}{Q:Value->Shared->Prop}(hA:A.handled=none)(hl:s.heap.get? l=some {cls:=.type "list",data:=.seq items nl})(kv:List (KK×Value))(hn:kv.length=items.size)(nd:(kv.map (·.1)).Nodup)(hz:kv.length<=sizeLine)
  (ht:∀ j (hj:j<kv.length),∃(b:Addr) (o:Obj) (kx:Value) (n:Nat),items[j]?=some (.ref b)/\s.heap.get? b=some o/\o.cls=.type "tuple" /\ o.data=.seq #[kx,kv[j].2] n/\knd.is kv[j].1 kx=true)
  (q:∀(h':Heap) (tk:Nat),Heap.DictOf knd h' s.heap.objs.size kv->(∀ b o,s.heap.get? b=some o->h'.get? b=some o)->Q (.ref s.heap.objs.size) {s with heap:=h',toks:=tk}) :
  wpAny (model P w) A (call (.type "dict") [.ref l]) Q E s:=by
 obtain⟨h0,g,d,t,os⟩:=s;dsimp only at hl ht q;refine callType_codes PySem.F.kt_called_dict (PySem.F.kt_typeCall_dict_1 _) PySem.F.entry_dict_init (kt_code_dict_new (Q₁:=λv u=>v=.ref h0.objs.size/\u={heap:=h0.push {cls:=.type "dict",data:=.dict #[]},gens:=g,drawn:=d,toks:=t,os:=os}) _ ⟨rfl,rfl⟩) λobj s1 ⟨e1,e2⟩=>?_;subst e1 e2;have Y1:=Heap.DictOf.new (knd:=knd) h0;have hp:∀ b o,h0.get? b=some o->(h0.push {cls:=.type "dict",data:=.dict #[]}).get? b=some o:=λb o z=>aoK _ z;have hT:=Y1.typeIs (s:={heap:=h0.push {cls:=.type "dict",data:=.dict #[]},gens:=g,drawn:=d,toks:=t,os:=os});have hTl:Shared.TypeIs {heap:=h0.push {cls:=.type "dict",data:=.dict #[]},gens:=g,drawn:=d,toks:=t,os:=os} (.ref l) "list" := ⟨_,hp _ _ hl,rfl⟩;refine⟨hT,PySem.F.args_dict_init_2 _ _,?_⟩;unfold Builtin.«dict.__init__» Builtin.Dict.selfAndRest;refine wpAny_bind (wpAny_bind (wpAny_notOrdered_dict hT ?_));show wpAny _ _ (pure _) _ _ _;refine wpAny_pure ?_;show wpAny _ _ (Builtin.Dict.updateFrom _ _ _ _ _) _ _ _;unfold Builtin.Dict.updateFrom;refine wpAny_bind (wpAny_typeOf hTl ?_);dsimp only;rw[if_pos 2e0];refine wpAny_bind (Ua (hp _ _ hl) (by simp[hA]) λh1 tk1 k1=>?_)
 try dsimp only
 rw[if_pos (show(none:Option Value).isNone=true from rfl)];refine wpAny_bind (wpAny_rule ?_);have hl1:h1.IsList l items:=⟨_,k1 _ _ (hp _ _ hl),rfl,_,rfl⟩;refine wpAny_bind (wpAny_pyIter_list hl1 ?_);refine wpAny_pure ⟨plainId_quiet yB _,?_⟩;have l0:l<h0.objs.size:=aoQ hl;obtain⟨oD,esD,epD,gD,acT⟩:=Y1;have gD1:=k1 _ _ gD;have s1:h0.objs.size<h1.objs.size:=aoQ gD1;have up:∀ b o,h0.get? b=some o->(h1.push {cls:=Value.type "list_iterator",data:=Data.fields #[Value.ref l,Value.int 0 0]}).get? b=some o:=λb o z=>aoK _ (k1 _ _ (hp _ _ z));refine QW (knd:=knd) (I:=h1.objs.size) (l:=l) (D:=h0.objs.size) (items:=items) (by simp[hA]) (aoW (Nat.lt_trans l0 s1)) (aoW s1) (apX l0) kv hn nd hz (items.size-0) 0 _ rfl (apq _) ⟨⟨_,apa _ rfl,rfl,rfl⟩,hl1.push _⟩ ?_ (λj hj=>?_) λh' tk dd kk=>?_
 ·exact⟨oD,esD,epD,aoK _ gD1,acT⟩
 ·obtain⟨b,o,kx,n,x1,x2,x3,x4,x5⟩:=ht j hj
  have b0:=aoQ x2;exact⟨b,o,kx,n,x1,up _ _ x2,x3,x4,x5,aoW b0,aoW (Nat.lt_trans b0 s1)⟩
 ·refine⟨rfl,q h' tk dd λb o z=>?_⟩
  have b0:=aoQ z;exact kk b o (aoW b0) (aoW (Nat.lt_trans b0 s1)) (up _ _ z)
end
section
variable{P:Program}{w:World}{A:Around}{E:Value->Shared->Prop}
end
section
variable{X:Cx}
theorem PQ{pins:List (Addr×Obj)}{σ:St}{H:Hp}{s:Shared}(I:Inv X pins σ H s):∀(xs:List Addr) (kvs:List (Key×V)),Paired (λx (p:Key×V)=>H x=some (.tup [kV p.1,p.2])) xs kvs ->
  ∃ vs:List (Key×Value),KV kvs vs/\vs.map (·.1)=kvs.map (·.1)/\vs.length=xs.length/\∀ j (h1:j<vs.length) (h2:j<xs.length),∃(o:Obj) (kx:Value) (n:Nat),s.heap.get? xs[j]=some o/\o.cls=.type "tuple" /\ o.data=.seq #[kx,vs[j].2] n/\(cH X.prog X.w).is vs[j].1 kx=true
 | _,_,.nil=>⟨[],.nil,rfl,rfl,λj h=>absurd h (aqf _)⟩
 | x::xs,p::kvs,.cons h t=>by
  obtain⟨vs,r1,r2,r3,r4⟩:=PQ I xs kvs t;obtain⟨its,rv,⟨o,ho,hc,n,hd⟩,_⟩:=I.tuple (SqT.of h);obtain⟨u,v,rfl,ru,rv'⟩:=Vx rv;refine⟨(p.1,v)::vs,.cons ⟨rfl,rv'⟩ r1,by rw[ao8,ao8,r2],by rw[aph,aph,r3],λj h1 h2=>?_⟩;cases j with
  | zero=>exact⟨o,u,n,ho,hc,hd,FE ru⟩
  | succ j=>exact r4 j (Nat.lt_of_succ_lt_succ h1) (Nat.lt_of_succ_lt_succ h2)
theorem PR:∀ {xs:List Addr} {its:List Value},Vals (xs.map V.ref) its->its=xs.map Value.ref
 | [],_,.nil=>rfl
 | x::xs,_,.cons r t=>by
  cases (show _=Value.ref x from r);rw[ao8,<-PR t]
noncomputable def Z8:List V->Hp->VK->Prop:=λvs H Q=>∃(p:Addr) (xs:List Addr) (kvs:List (Key×V)),vs=[.ref p]/\H p=some (.lst (xs.map V.ref))/\Paired (λx (p:Key×V)=>H x=some (.tup [kV p.1,p.2])) xs kvs/\(kvs.map (·.1)).Nodup/\∀ l:Addr,H l=none->Q (.ref l) (upd H l 2e6)
theorem Il(hc:X.calm=true):uV X (.type "dict") Z8:=by
 rintro pins s σ H xs us Q I r ⟨p,xs,kvs,rfl,hp,hpr,nd,q⟩;obtain⟨u,rfl,ru⟩:=r.one;cases (show u=Value.ref p from ru);obtain⟨its,n,rv,ho,hz⟩:=I.lst hp;obtain⟨vs,r1,r2,r3,r4⟩:=PQ I xs kvs hpr;have ei:=PR rv;subst ei;rw[aoG]at hz;have hl:kvs.length=vs.length:=by
  have:=congrArg List.length r2
  simpa using this.symm
 refine QX (knd:=cH X.prog X.w) (I.ok.hd hc) ho vs (by simp[r3]) (by rw[r2];exact nd) 1e1 (λj hj=>?_) λh' tk dd k=>?_
 ·obtain⟨o,kx,n,x1,x2,x3,x4⟩:=r4 j hj 1e1
  exact⟨xs[j],o,kx,n,by simp[show j<xs.length by omega],x1,x2,x3,x4⟩
 ·refine⟨.ref s.heap.objs.size,_,I.laid (a:=s.heap.objs.size) (o:=.dK kvs) (t':=tk) k (aoL _) ?_,rfl,q _ (I.hok.fresh (aoL _))⟩
  exact R1 1e1 (beq_eq_false_iff_ne.mpr (aoT (aoW I.big))) r1 dd
end
noncomputable def R7(K:W.Frag)(Dc:Addr)(ts:TS)(D:Ends):St->XK:=λσ c _ H=>∃ C cd,c=.ref C/\jC K C cd/\cd.mro.contains (.ref Dc)=true/\ts D σ H
noncomputable def acU(K:W.Frag)(Dc:Addr)(tb:(St->XK)->TS)(ts:TS):TS:=λD σ H=>tb (R7 K Dc ts D) D σ H
section
variable{X:Cx}
theorem SK{body Zb:List Stmt}{b₀:Stmt}{x:Str}{np hpos pos:Pos}{Dc:Addr}{cdD:ClassData}{tb:(St->XK)->TS}{ts:TS}(hst:X.stack=X.env::X.outer)(hfr:X.env.frame=some X.env.locals)(hg:Gl X x)(hm:X.mg x=some (.ref Dc))
  (hD:jC X.K Dc cdD)
  (hb:∀(pins:List (Addr×Obj)) (E:Value->Shared->Prop) (EK:St->XK),iA (CXE X.prog X.w) (X.NL pins E) EK->PSs (X.NL pins E) body (tb EK))
  (hs:∀ ea,PSs (X.Dh ea) (b₀::Zb) ts) (hdb:(x == ("__debug__" : Str))=false:=by decide) :
  PS X (.Try body [.ExceptHandler (some (.Name x np)) none (b₀::Zb) hpos] [] [] pos) (acU X.K Dc tb ts):=by
 intro pins s σ H D I h;refine wpAny_Try_except ?_;refine wpAny_mono (hb pins (λe s₁=>∃ σ' H1 sc,Inv X pins σ' H1 sc/\CXE X.prog X.w X.stack H1 sc (R7 X.K Dc ts D σ') e s₁) (R7 X.K Dc ts D)
  (λQJ σ' H1 sc e s' J q=>⟨σ',H1,sc,J.Dy,q⟩) [] s σ H D (I.NL _) h) (λfl s1 q=>?_) λe s1 q=>?_
 ·cases fl with
  | next =>
   obtain⟨σ',H',J,q⟩:=q;exact wpAny_execs_nil ⟨σ',H',J.Dy,q⟩
  | brk=>obtain⟨σ',H',J,q⟩:=q;exact⟨σ',H',J.Dy,q⟩
  | cont=>obtain⟨σ',H',J,q⟩:=q;exact⟨σ',H',J.Dy,q⟩
  | ret u=>obtain⟨v,σ',H',J,r,q⟩:=q;exact⟨v,σ',H',J.Dy,r,q⟩
 ·obtain⟨σ',H1,sc,J,ea,Cv,T,od,fs,sl,H',rfl,l,C,cd,ec,xc,hmr,q⟩:=q
  cases ec;have hA:X.A.frames=some (X.env::X.outer):=by rw[J.ok.frames,hst]
  have hF:s1.heap.FunFrames X.base (X.env::X.outer):=by rw[<-hst];exact l.frames J
  have st:∀(m:Heap) (tk:Nat),Kept (gO X.stack) [ea,T] s1.heap m->Inv X pins σ' H' {s1 with heap:=m,toks:=tk}:=λm tk k=>by
   obtain⟨un,hok⟩:=l.on (t':=s1.toks) J k;exact J.NI l.os un hok l.bare λb z=>absurd z 1e9
  refine Ny hA hF hfr l.at_ l.trail λm T' oc tsx z1 z2 z3 z4 z5=>?_;have Te:T'≠ea:=apX (ao0 (aoQ l.at_) z1);have f1:(fs.setIfInBounds 1 (Value.ref T'))[1]?=some (.ref T'):=by
   have:=l.trail.size
   simp[this]
  have k1:Kept (gO X.stack) [ea,T] s1.heap m:=by rw[hst];exact z2
  refine uW (s:={s1 with heap:=m}) z3 f1 Te z4 (ao9.mp z5).1 λm' q1 q2 q3=>?_;have nT:∀ b o,s1.heap.get? b=some o->b≠T':=λb o q=>aoW (ao0 (aoQ q) z1);have k2:Kept (gO X.stack) [ea,T] s1.heap m':=⟨λb o q hb hx=>q1 b o (nT b o q) (k1.plain b o q hb hx),λb o q hb hx=>by
   obtain⟨sm,r⟩:=k1.frame b o q hb hx;exact⟨sm,q1 b _ (nT b o q) r⟩⟩
  have J2:=st m' s1.toks k2;refine wpAny_handleBy_cons (codeAny_handlers_test ?_) 1e0;refine vI (X:=X.Dh ea) (J2.Dh ea) hg hm ?_ hdb;refine N8 xc hD J2.kIn q3 ?_;rw[hmr];refine codeAny_handlers_suite ?_;cases q2 with
  | @some _ oc2 ts2 d2 sm2 y1 y2 y3 y4 =>
  refine uW (s:={s1 with heap:=m'}) q3 y1 y2 y3 (ao9.mp y4).1 λm3 r1 r2 r3=>?_;have k3:Kept (gO X.stack) [ea,T] s1.heap m3:=⟨λb o q hb hx=>r1 b o (nT b o q) (k2.plain b o q hb hx),λb o q hb hx=>by
   obtain⟨sm,r⟩:=k2.frame b o q hb hx;exact⟨sm,r1 b _ (nT b o q) r⟩⟩
  have J3:=st m3 s1.toks k3;refine wpAny_mono (hs ea pins _ _ _ D (J3.Dh ea) q) (λfl s6 w=>?_) λ_ _ z=>False.elim z;cases fl with
  | next=>obtain⟨σ6,H6,J6,w⟩:=w;exact⟨_,_,J6.uncaught J.ok,w⟩
  | brk=>obtain⟨σ6,H6,J6,w⟩:=w;exact⟨_,_,J6.uncaught J.ok,w⟩
  | cont=>obtain⟨σ6,H6,J6,w⟩:=w;exact⟨_,_,J6.uncaught J.ok,w⟩
  | ret u=>obtain⟨v,σ6,H6,J6,r,w⟩:=w;exact⟨v,_,_,J6.uncaught J.ok,r,w⟩
end
inductive Vl where
 | a (v:V)
 | l (xs:List Vl)
 | t (xs:List Vl)
noncomputable def Rp(H:Hp):Nat->V->Vl->Prop
 | 0,v,.a x=>v=x/\lr x=true
 | 0,_,.l _=>False
 | 0,_,.t _=>False
 | _+1,v,.a x=>v=x/\lr x=true
 | n+1,v,.l xs=>∃ p us,v=.ref p/\H p=some (.lst us)/\us.length=xs.length/\∀(i:Nat) (u:V) (x:Vl),us[i]?=some u->xs[i]?=some x->Rp H n u x
 | n+1,v,.t xs=>∃ p us,v=.ref p/\H p=some (.tup us)/\us.length=xs.length/\∀(i:Nat) (u:V) (x:Vl),us[i]?=some u->xs[i]?=some x->Rp H n u x
noncomputable def eqD:Nat->Vl->Vl->Bool
 | _,.a x,.a y=>eqV x y
 | n+1,.l xs,.l ys=>(List.range xs.length).all (λi=>match xs[i]?,ys[i]? with|some x,some y=>eqD n x y|_,_=>true)&&xs.length == ys.length
 | n+1,.t xs,.t ys=>(List.range xs.length).all (λi=>match xs[i]?,ys[i]? with|some x,some y=>eqD n x y|_,_=>true)&&xs.length == ys.length
 | _,_,_=>false
theorem Rp.flat{H:Hp}{n:Nat}{x:V}(h:lr x=true):Rp H n x (.a x):=by cases n<;>exact⟨rfl,h⟩
theorem Rp.Fi{H:Hp}{n:Nat}{v x:V}(h:Rp H n v (.a x)):v=x/\lr x=true:=by cases n<;>exact h
theorem Rp.keep{H H':Hp}:∀ {n:Nat} {v:V} {a:Vl},Rp H n v a->(∀ b u,H b=some (.lst u)->H' b=some (.lst u))->(∀ b u,H b=some (.tup u)->H' b=some (.tup u))->Rp H' n v a
 | 0,_,.a _,h,_,_=>h
 | 0,_,.l _,h,_,_=>h.elim
 | 0,_,.t _,h,_,_=>h.elim
 | _+1,_,.a _,h,_,_=>h
 | n+1,_,.l xs,⟨p,us,e,hp,hl,hi⟩,k1,k2=>⟨p,us,e,k1 _ _ hp,hl,λi u x h1 h2=>(hi i u x h1 h2).keep k1 k2⟩
 | n+1,_,.t xs,⟨p,us,e,hp,hl,hi⟩,k1,k2=>⟨p,us,e,k2 _ _ hp,hl,λi u x h1 h2=>(hi i u x h1 h2).keep k1 k2⟩
theorem Rp.same{H H':Hp}{n:Nat}{v:V}{a:Vl}(h:Rp H n v a)(s:aw H H'):Rp H' n v a:=h.keep (λ_ _ q=>s _ _ q) λ_ _ q=>s _ _ q
theorem Rp.up{H:Hp}:∀ {n:Nat} {v:V} {a:Vl},Rp H n v a->Rp H (n+1) v a
 | 0,_,.a _,h=>h
 | 0,_,.l _,h=>h.elim
 | 0,_,.t _,h=>h.elim
 | _+1,_,.a _,h=>h
 | n+1,_,.l xs,⟨p,us,e,hp,hl,hi⟩=>⟨p,us,e,hp,hl,λi u x h1 h2=>(hi i u x h1 h2).up⟩
 | n+1,_,.t xs,⟨p,us,e,hp,hl,hi⟩=>⟨p,us,e,hp,hl,λi u x h1 h2=>(hi i u x h1 h2).up⟩
theorem NN{n:Nat}{x y:V}:eqD n (.a x) (.a y)=eqV x y:=by cases n<;>rfl
theorem V8{H:Hp}{n:Nat}{us:List V}{xs ys:List Vl}(lx:us.length=xs.length)(ly:us.length=ys.length)(h:∀(i:Nat) (x y:Vl),xs[i]?=some x->ys[i]?=some y->eqD n x y=true) :
  ((List.range xs.length).all (λi=>match xs[i]?,ys[i]? with|some x,some y=>eqD n x y|_,_=>true)&&xs.length == ys.length)=true:=by
 rw[aqn];refine⟨apJ.mpr λi hi=>?_,beq_iff_eq.mpr 1e1⟩;have hi:=apU.mp hi;have e1:xs[i]?=some xs[i]:=aoF hi;have e2:ys[i]?=some (ys[i]' 1e1):=aoF 1e1;simp only[e1,e2];exact h i _ _ e1 e2
theorem pF{H:Hp}:∀ {n:Nat} {v:V} {a b:Vl},Rp H n v a->Rp H n v b->eqD n a b=true:=by
 intro n;induction n with
 | zero =>
  intro v a b ha hb;cases a with
  | a x =>
   cases b with
   | a y =>
    obtain⟨rfl,fx⟩:=ha.Fi;obtain⟨rfl,_⟩:=hb.Fi;rw[NN];exact V6 fx
   | l ys=>exact hb.elim
   | t ys=>exact hb.elim
  | l xs=>exact ha.elim
  | t xs=>exact ha.elim
 | succ n ih =>
  intro v a b ha hb;cases a with
  | a x =>
   obtain⟨rfl,fx⟩:=ha.Fi;cases b with
   | a y =>
    obtain⟨rfl,_⟩:=hb.Fi;rw[NN];exact V6 fx
   | l ys =>
    obtain⟨p,us,rfl,_⟩:=hb;exact absurd 4e2 aoO
   | t ys =>
    obtain⟨p,us,rfl,_⟩:=hb;exact absurd 4e2 aoO
  | l xs =>
   obtain⟨p,us,rfl,hp,hl,hi⟩:=ha;cases b with
   | a y =>
    obtain⟨e,fy⟩:=hb.Fi;rw[<-e]at fy;exact absurd (show false=true from fy) aoO
   | l ys =>
    obtain⟨q,ws,e,hq,ml,mi⟩:=hb;cases e;rw[hp]at hq;cases hq;exact V8 (H:=H) hl ml λi x y e1 e2=>by
     have hiu:i<us.length:=(by rw[hl];exact(aoE.mp e1).1);exact ih (hi i _ x (aoF hiu) e1) (mi i _ y (aoF hiu) e2)
   | t ys =>
    obtain⟨q,ws,e,hq,ml,mi⟩:=hb;cases e;rw[hp]at hq;cases hq
  | t xs =>
   obtain⟨p,us,rfl,hp,hl,hi⟩:=ha;cases b with
   | a y =>
    obtain⟨e,fy⟩:=hb.Fi;rw[<-e]at fy;exact absurd (show false=true from fy) aoO
   | t ys =>
    obtain⟨q,ws,e,hq,ml,mi⟩:=hb;cases e;rw[hp]at hq;cases hq;exact V8 (H:=H) hl ml λi x y e1 e2=>by
     have hiu:i<us.length:=(by rw[hl];exact(aoE.mp e1).1);exact ih (hi i _ x (aoF hiu) e1) (mi i _ y (aoF hiu) e2)
   | l ys =>
    obtain⟨q,ws,e,hq,ml,mi⟩:=hb;cases e;rw[hp]at hq;cases hq
structure RcB(A:Around)(s:Shared)(u v:Value)(b:Bool):Prop where
 eq:SeqAt.RcAt A s u v b
 ne:SeqAt.RcNeAt A s u v (!b)
theorem Lc{A:Around}{s:Shared}{y x:V}{u v:Value}(ry:RelV y u)(rx:RelV x v)(fy:lr y=true)(fx:lr x=true):RcB A s u v (eqV y x):=by
 cases y with
 | non =>
  cases ry;cases x with
  | non=>cases rx;exact⟨.none_none ,.none_none ⟩
  | bl b=>cases rx;exact⟨.none_bool b,.none_bool b⟩
  | int b=>obtain⟨t,rfl⟩:=rx;exact⟨.none_int b t,.none_int b t⟩
  | str b=>obtain⟨t,rfl⟩:=rx;exact⟨.none_str b t,.none_str b t⟩
  | _=>exact absurd 4e2 aoO
 | bl a =>
  cases ry;cases x with
  | non=>cases rx;exact⟨.bool_none a,.bool_none a⟩
  | bl b=>cases rx;exact⟨.bool_bool a b,.bool_bool a b⟩
  | int b=>obtain⟨t,rfl⟩:=rx;exact⟨.bool_int a b t,.bool_int a b t⟩
  | str b=>obtain⟨t,rfl⟩:=rx;exact⟨.bool_str a b t,.bool_str a b t⟩
  | _=>exact absurd 4e2 aoO
 | int a =>
  obtain⟨t',rfl⟩:=ry;cases x with
  | non=>cases rx;exact⟨.int_none a t',.int_none a t'⟩
  | bl b=>cases rx;exact⟨.int_bool a t' b,.int_bool a t' b⟩
  | int b=>obtain⟨t,rfl⟩:=rx;exact⟨.int_int a t' b t,.int_int a t' b t⟩
  | str b=>obtain⟨t,rfl⟩:=rx;exact⟨.int_str a t' b t,.int_str a t' b t⟩
  | _=>exact absurd 4e2 aoO
 | str a =>
  obtain⟨t',rfl⟩:=ry;cases x with
  | non=>cases rx;exact⟨.str_none a t',.str_none a t'⟩
  | bl b=>cases rx;exact⟨.str_bool a t' b,.str_bool a t' b⟩
  | int b=>obtain⟨t,rfl⟩:=rx;exact⟨.str_int a t' b t,.str_int a t' b t⟩
  | str b=>obtain⟨t,rfl⟩:=rx;exact⟨.str_str a t' b t,.str_str a t' b t⟩
  | _=>exact absurd 4e2 aoO
 | _=>exact absurd (show false=true from fy) aoO
section
variable{X:Cx}{pins:List (Addr×Obj)}{σ:St}{H:Hp}{s:Shared}
theorem PU{A:Around}{x:V}{u:Value}{l:Addr}{items:Array Value}(rx:RelV x u)(fx:lr x=true)(hl:s.heap.IsList l items)(hu:A.units<cLine):RcB A s u (.ref l) false/\RcB A s (.ref l) u false/\SeqAt.EqAt A s u (.ref l) false/\SeqAt.EqAt A s (.ref l) u false:=by
 cases x with
 | non=>cases rx;exact⟨⟨.none_list hl hu,.none_list hl hu⟩,⟨.list_none hl hu,.list_none hl hu⟩,.none_list hl hu,.list_none hl hu⟩
 | bl b=>cases rx;exact⟨⟨.bool_list _ hl hu,.bool_list _ hl hu⟩,⟨.list_bool _ hl hu,.list_bool _ hl hu⟩,.bool_list _ hl hu,.list_bool _ hl hu⟩
 | int n=>obtain⟨t,rfl⟩:=rx;exact⟨⟨.int_list _ _ hl hu,.int_list _ _ hl hu⟩,⟨.list_int _ _ hl hu,.list_int _ _ hl hu⟩,.int_list _ _ hl hu,.list_int _ _ hl hu⟩
 | str z=>obtain⟨t,rfl⟩:=rx;exact⟨⟨.str_list _ _ hl hu,.str_list _ _ hl hu⟩,⟨.list_str _ _ hl hu,.list_str _ _ hl hu⟩,.str_list _ _ hl hu,.list_str _ _ hl hu⟩
 | _=>exact absurd 4e2 aoO
theorem PV{A:Around}{x:V}{u:Value}{l:Addr}{items:Array Value}(rx:RelV x u)(fx:lr x=true)(hl:s.heap.IsTuple l items)(hu:A.units<cLine):RcB A s u (.ref l) false/\RcB A s (.ref l) u false/\SeqAt.EqAt A s u (.ref l) false/\SeqAt.EqAt A s (.ref l) u false:=by
 cases x with
 | non=>cases rx;exact⟨⟨.none_tuple hl hu,.none_tuple hl hu⟩,⟨.tuple_none hl hu,.tuple_none hl hu⟩,.none_tuple hl hu,.tuple_none hl hu⟩
 | bl b=>cases rx;exact⟨⟨.bool_tuple _ hl hu,.bool_tuple _ hl hu⟩,⟨.tuple_bool _ hl hu,.tuple_bool _ hl hu⟩,.bool_tuple _ hl hu,.tuple_bool _ hl hu⟩
 | int n=>obtain⟨t,rfl⟩:=rx;exact⟨⟨.int_tuple _ _ hl hu,.int_tuple _ _ hl hu⟩,⟨.tuple_int _ _ hl hu,.tuple_int _ _ hl hu⟩,.int_tuple _ _ hl hu,.tuple_int _ _ hl hu⟩
 | str z=>obtain⟨t,rfl⟩:=rx;exact⟨⟨.str_tuple _ _ hl hu,.str_tuple _ _ hl hu⟩,⟨.tuple_str _ _ hl hu,.tuple_str _ _ hl hu⟩,.str_tuple _ _ hl hu,.tuple_str _ _ hl hu⟩
 | _=>exact absurd 4e2 aoO
theorem lst_is(I:Inv X pins σ H s){p:Addr}{us:List V}(h:H p=some (.lst us)):∃ vs,Vals us vs/\s.heap.IsList p vs.toArray:=by
 obtain⟨vs,r,⟨o,n,e,c,_,g⟩,_⟩:=I.list (SqL.of h);exact⟨vs,r,o,e,c,n,g⟩
theorem tup_is(I:Inv X pins σ H s){p:Addr}{us:List V}(h:H p=some (.tup us)):∃ vs,Vals us vs/\s.heap.IsTuple p vs.toArray:=by
 obtain⟨vs,r,t,_⟩:=I.tuple (SqT.of h);exact⟨vs,r,t⟩
theorem rcG(I:Inv X pins σ H s):∀ {n:Nat} {x y:V} {a b:Vl},Rp H n x a->Rp H n y b->∀ {A:Around} {u v:Value},RelV x u->RelV y v->A.units+n<cLine ->
  SeqAt.EqAt A s u v (eqD n a b)/\(¬((∃ z,a=.a z)/\∃ z,b=.a z)->RcB A s u v (eqD n a b)):=by
 intro n;induction n with
 | zero =>
  intro x y a b ha hb A u v rx ry hu;cases a with
  | a z =>
   cases b with
   | a z' =>
    obtain⟨rfl,fx⟩:=ha.Fi;obtain⟨rfl,fy⟩:=hb.Fi;rw[NN];exact⟨NJ rx ry fx fy,λh=>(h ⟨⟨_,rfl⟩,_,rfl⟩).elim⟩
   | _=>exact hb.elim
  | _=>exact ha.elim
 | succ n ih =>
  intro x y a b ha hb A u v rx ry hu;have hu0:A.units<cLine:=by omega
  cases a with
  | a z =>
   obtain⟨rfl,fx⟩:=ha.Fi;cases b with
   | a z' =>
    obtain⟨rfl,fy⟩:=hb.Fi;rw[NN];exact⟨NJ rx ry fx fy,λh=>(h ⟨⟨_,rfl⟩,_,rfl⟩).elim⟩
   | l ys =>
    obtain⟨q,ws,rfl,hq,_⟩:=hb;obtain⟨vs,_,hl⟩:=lst_is I hq;cases ry;obtain⟨h1,_,h3,_⟩:=PU rx fx hl hu0;exact⟨h3,λ_=>h1⟩
   | t ys =>
    obtain⟨q,ws,rfl,hq,_⟩:=hb;obtain⟨vs,_,hl⟩:=tup_is I hq;cases ry;obtain⟨h1,_,h3,_⟩:=PV rx fx hl hu0;exact⟨h3,λ_=>h1⟩
  | l xs =>
   have ha':=ha;obtain⟨p,us,rfl,hp,lx,hx⟩:=ha;obtain⟨vs,r1,hl⟩:=lst_is I hp;cases rx;cases b with
   | a z' =>
    obtain⟨rfl,fy⟩:=hb.Fi;obtain⟨_,h2,_,h4⟩:=PU ry fy hl hu0;exact⟨h4,λ_=>h2⟩
   | l ys =>
    have hb':=hb;obtain⟨q,ws,rfl,hq,ly,hy⟩:=hb;obtain⟨vs2,r2,hl2⟩:=lst_is I hq;cases ry;have l1:=r1.length;have l2:=r2.length;have rc:RcB A s 4e3 (.ref q) (eqD (n+1) (.l xs) (.l ys)):=by
     by_cases hs:xs.length=ys.length
     ·have he:∀ j (h1:j<vs.toArray.size) (h2:j<vs2.toArray.size),SeqAt.EqAt A.in1 s vs.toArray[j] vs2.toArray[j] (match xs[j]?,ys[j]? with|some x,some y=>eqD n x y|_,_=>true):=λj h1 h2=>by
       simp only[aoN]at h1 h2;obtain⟨w1,z1,rz1⟩:=r1.get (i:=j) (x:=us[j]' 1e1) (aoF 1e1);obtain⟨w2,z2,rz2⟩:=r2.get (i:=j) (x:=ws[j]' 1e1) (aoF 1e1);have a1:vs.toArray[j]=w1:=by
        have:=(aoE.mp z1).2
        simpa using this
       have a2:vs2.toArray[j]=w2:=by
        have:=(aoE.mp z2).2
        simpa using this
       rw[a1,a2];have e1:xs[j]?=some (xs[j]' 1e1):=aoF 1e1;have e2:ys[j]?=some (ys[j]' 1e1):=aoF 1e1;simp only[e1,e2];exact(ih (hx j _ _ (aoF 1e1) e1) (hy j _ _ (aoF 1e1) e2) rz1 rz2 (by rw[Around.in1_units];omega)).1
      have e:eqD (n+1) (.l xs) (.l ys)=(List.range vs.toArray.size).all (λi=>match xs[i]?,ys[i]? with|some x,some y=>eqD n x y|_,_=>true):=by
       show(_&&_)=_;rw[beq_iff_eq.mpr hs,Bool.and_true];simp only[aoN];rw[show vs.length=xs.length by omega]
      rw[e];exact⟨.lists hl hl2 (by simp only[aoN];omega) hu0 he,.lists hl hl2 (by simp only[aoN];omega) hu0 he⟩
     ·have e:eqD (n+1) (.l xs) (.l ys)=false:=by
       show(_&&_)=_;rw[beq_eq_false_iff_ne.mpr hs,aqu]
      rw[e];exact⟨.lists_lengths hl hl2 (by simp only[aoN,bne_iff_ne,ne_eq];omega) hu0,.lists_lengths hl hl2 (by simp only[aoN,bne_iff_ne,ne_eq];omega) hu0⟩
    refine⟨?_,λ_=>rc⟩;by_cases e:p=q
    ·subst e
     rw[pF ha' hb'];exact .same _
    ·exact .of_refs e rc.eq
   | t ys =>
    obtain⟨q,ws,rfl,hq,ly,hy⟩:=hb;obtain⟨vs2,r2,hl2⟩:=tup_is I hq;cases ry;have ne:p≠q:=λe=>by rw[e,hq]at hp;cases hp
    exact⟨.of_refs ne (.list_tuple hl hl2 hu0),λ_=>⟨.list_tuple hl hl2 hu0,.list_tuple hl hl2 hu0⟩⟩
  | t xs =>
   have ha':=ha;obtain⟨p,us,rfl,hp,lx,hx⟩:=ha;obtain⟨vs,r1,hl⟩:=tup_is I hp;cases rx;cases b with
   | a z' =>
    obtain⟨rfl,fy⟩:=hb.Fi;obtain⟨_,h2,_,h4⟩:=PV ry fy hl hu0;exact⟨h4,λ_=>h2⟩
   | l ys =>
    obtain⟨q,ws,rfl,hq,ly,hy⟩:=hb;obtain⟨vs2,r2,hl2⟩:=lst_is I hq;cases ry;have ne:p≠q:=λe=>by rw[e,hq]at hp;cases hp
    exact⟨.of_refs ne (.tuple_list hl hl2 hu0),λ_=>⟨.tuple_list hl hl2 hu0,.tuple_list hl hl2 hu0⟩⟩
   | t ys =>
    have hb':=hb;obtain⟨q,ws,rfl,hq,ly,hy⟩:=hb;obtain⟨vs2,r2,hl2⟩:=tup_is I hq;cases ry;have l1:=r1.length;have l2:=r2.length;have he:∀ j (h1:j<vs.toArray.size) (h2:j<vs2.toArray.size),SeqAt.EqAt A.in1 s vs.toArray[j] vs2.toArray[j] (match xs[j]?,ys[j]? with|some x,some y=>eqD n x y|_,_=>true):=λj h1 h2=>by
     simp only[aoN]at h1 h2;obtain⟨w1,z1,rz1⟩:=r1.get (i:=j) (x:=us[j]' 1e1) (aoF 1e1);obtain⟨w2,z2,rz2⟩:=r2.get (i:=j) (x:=ws[j]' 1e1) (aoF 1e1);have a1:vs.toArray[j]=w1:=by
      have:=(aoE.mp z1).2
      simpa using this
     have a2:vs2.toArray[j]=w2:=by
      have:=(aoE.mp z2).2
      simpa using this
     rw[a1,a2];have e1:xs[j]?=some (xs[j]' 1e1):=aoF 1e1;have e2:ys[j]?=some (ys[j]' 1e1):=aoF 1e1;simp only[e1,e2];exact(ih (hx j _ _ (aoF 1e1) e1) (hy j _ _ (aoF 1e1) e2) rz1 rz2 (by rw[Around.in1_units];omega)).1
    have e:eqD (n+1) (.t xs) (.t ys)=((List.range (min vs.toArray.size vs2.toArray.size)).all (λi=>match xs[i]?,ys[i]? with|some x,some y=>eqD n x y|_,_=>true)&&vs.toArray.size == vs2.toArray.size):=by
     show(_&&_)=_;simp only[aoN];by_cases hs:xs.length=ys.length
     ·rw[show min vs.length vs2.length=xs.length by omega,show(vs.length == vs2.length)=(xs.length == ys.length) by rw[show vs.length=xs.length by omega,show vs2.length=ys.length by omega]]
     ·rw[beq_eq_false_iff_ne.mpr hs,show(vs.length == vs2.length)=false from beq_eq_false_iff_ne.mpr 1e1,aqu,aqu]
    have rc:RcB A s 4e3 (.ref q) (eqD (n+1) (.t xs) (.t ys)):=by
     rw[e];exact⟨.tuples hl hl2 hu0 he,.tuples hl hl2 hu0 he⟩
    refine⟨?_,λ_=>rc⟩;by_cases e:p=q
    ·subst e
     rw[pF ha' hb'];exact .same _
    ·exact .of_refs e rc.eq
end
noncomputable def an1(n:Nat):R2:=λx y H Q=>∃ a b,Rp H n x a/\Rp H n y b/\Q (.bl (eqD n a b)) H
noncomputable def an2(n:Nat):R2:=λx y H Q=>∃ a b,Rp H n x a/\Rp H n y b/\Q (.bl (!eqD n a b)) H
section
variable{X:Cx}
theorem V9{n:Nat}(hu:X.A.units+n<cLine):OpR X (compareOp .Eq) (an1 n):=by
 rintro pins s σ H x y v u Q I rx ry ⟨a,b,ha,hb,q⟩;by_cases h:(∃ z,a=.a z)/\∃ z,b=.a z
 ·obtain⟨⟨z,rfl⟩,z',rfl⟩:=h
  obtain⟨rfl,fx⟩:=ha.Fi;obtain⟨rfl,fy⟩:=hb.Fi;rw[NN]at q;exact(Lc rx ry fx fy).eq _ _ _ _ ⟨.bl _,H,I,rfl,q⟩
 ·exact((rcG I ha hb rx ry hu).2 h).eq _ _ _ _ ⟨.bl _,H,I,rfl,q⟩
theorem R9{n:Nat}(hu:X.A.units+n<cLine):OpR X (compareOp .NotEq) (an2 n):=by
 rintro pins s σ H x y v u Q I rx ry ⟨a,b,ha,hb,q⟩;by_cases h:(∃ z,a=.a z)/\∃ z,b=.a z
 ·obtain⟨⟨z,rfl⟩,z',rfl⟩:=h
  obtain⟨rfl,fx⟩:=ha.Fi;obtain⟨rfl,fy⟩:=hb.Fi;rw[NN]at q;exact(Lc rx ry fx fy).ne _ _ _ _ ⟨.bl _,H,I,rfl,q⟩
 ·exact((rcG I ha hb rx ry hu).2 h).ne _ _ _ _ ⟨.bl _,H,I,rfl,q⟩
end
section
variable{X:Cx}{pins:List (Addr×Obj)}{σ:St}{H:Hp}{s:Shared}{d:Addr}{o:Obj}{u:HO}
theorem Inv.ace(I:Inv X pins σ H s)(hd:H d=some (.frz o u))(h0:∀ o u,X.H₀ d≠some (.frz o u))(nt:∀ xs,u≠.tup xs)(no:∀ x,u≠.own x)(nb:∀ ps,u≠.tbl ps):Inv X pins σ (upd H d u) s:=by
 have nn:∀ {b:Addr},H b=none->upd H d u b=none:=λ{b} q=>by
  rw[af λz=>by rw[z,hd]at q;cases q];exact q
 have ns:∀ {b:Addr} {v:HO},H b=some v->(∀ o w,v≠.frz o w)->upd H d u b=some v:=λ{b v} q n=>by
  rw[af λz=>n o u (by rw[z,hd]at q;exact(ao4 q).symm)];exact q
 refine⟨I.ok,I.os,I.bare,⟨I.base.keep,I.base.slot,λb ob q n e=>nn (I.base.free b ob q n e),I.base.there,λb xs q=>ns (I.base.KW b xs q) (by intro _ _ z;cases z),λb ob w q=>?_,λb ps q=>?_⟩,I.loc,I.cell,nn I.free,λx c q=>nn (I.rU x c q),λp hp=>?_,λa w q=>?_,I.len⟩
 ·have q':=I.base.Jh b ob w q
  rw[af λz=>h0 ob w (by rw[<-z];exact q)];exact q'
 ·obtain⟨more,q'⟩:=I.base.KY b ps q
  exact⟨more,ns q' (by intro _ _ z;cases z)⟩
 ·obtain⟨p1,p2,p3⟩:=I.pin p hp
  exact⟨p1,nn p2,p3⟩
 ·have st:∀ {a:Addr} {w:HO},jd X.prog X.w H s.heap a w->jd X.prog X.w (upd H d u) s.heap a w:=λx=>x.Pp (λ_ _ _ z=>z) (λb z=>ns z (by intro _ _ y;cases y)) λb xs z=>ns z (by intro _ _ y;cases y)
  by_cases e:a=d
  ·subst e
   rw[ag]at q;cases q;exact st (I.hok a _ hd).2
  ·rw[af e]at q
   exact st (I.hok a w q)
noncomputable def an3(H₀:Hp)(te:TE):TE:=λσ H Q=>te σ H λv H1=>∃ d o kvs,H1 d=some 5e5/\(∀ o u,H₀ d≠some (.frz o u))/\Q v (upd H1 d 2e6)
theorem Wa{e:Expr}{te:TE}(h:PE X e te):PE X e (an3 X.H₀ te):=by
 intro pins s σ H Q I t;refine wpAny_mono (h pins s σ H _ I t) (λu s1 ⟨v,H1,I1,r,q⟩=>?_) λ_ _ z=>z;obtain⟨d,o,kvs,hd,h0,q⟩:=q;exact⟨v,_,I1.ace hd h0 (by intro _ z;cases z) (by intro _ z;cases z) (by intro _ z;cases z),r,q⟩
noncomputable def an4(H₀:Hp)(t:TS):TS:=λD σ H=>∃ d o kvs,H d=some 5e5/\(∀ o u,H₀ d≠some (.frz o u))/\t D σ (upd H d 2e6)
theorem Wb{st:Stmt}{t:TS}(h:PS X st t):PS X st (an4 X.H₀ t):=by
 intro pins s σ H D I q;obtain⟨d,o,kvs,hd,h0,q⟩:=q;exact h pins s σ _ D (I.ace hd h0 (by intro _ z;cases z) (by intro _ z;cases z) (by intro _ z;cases z)) q
theorem Zc:∀ {ns:List Int} {us:List Value},Vals 4e4 us->∃ ps:List (Int×Tok),us=ps.map (λp=>Value.int p.1 p.2)/\ps.map (·.1)=ns
 | [],_,.nil=>⟨[],rfl,rfl⟩
 | n::r,_,.cons h t=>by
  obtain⟨k,rfl⟩:=h;obtain⟨ps,e,e2⟩:=Zc t;exact⟨(n,k)::ps,by rw[e];rfl,by rw[ao8,e2]⟩
noncomputable def acV(K:W.Frag):List V->Hp->VK->Prop:=λvs H Q=>∃(p:Addr) (ns:List Int),vs=[.ref p]/\SqL K H p 4e4/\Q (.int ns.sum) H
theorem Ub(hc:X.calm=true):uV X (.builtin "sum") (acV X.K):=by
 rintro pins s σ H xs us Q I r ⟨p,ns,rfl,hq,q⟩;obtain⟨u,rfl,ru⟩:=r.one;cases (show u=Value.ref p from ru);obtain⟨its,rv,⟨o,n,e1,e2,e3,e4⟩,hz⟩:=I.list hq;obtain⟨ps,e,ee⟩:=Zc rv;have hl:s.heap.IsList p (intItems ps.toArray):=by
  refine⟨o,e1,e2,n,?_⟩;rw[e4,e];simp[intItems]
 have hs:preSum (numAt ps.toArray) ps.toArray.size=ns.sum:=by
  rw[preSum_eq];simp only[aoN];rw[ee,aoM (by rw[<-ee,aoG];exact aoL _)]
 refine sum_intListG (I.ok.hd hc) hl λh' tk t' hk=>⟨.int ns.sum,H,I.kept (t':=tk) hk,⟨t',by rw[hs]⟩,q⟩
end
theorem Uc{d:Addr}{o:Obj}{kvs:List (Key×V)}{te:TE}{Q:VK}{D:Addr}{τ:St}{H:Hp}(Pv:Nat->List V->Hp->Prop)(h0:Pv 0 [] H)(hD:∀ i ys H,i<=kvs.length->Pv i ys H->H D=some (.lst ys)/\ys.length=i)(hl:∀ i ys H,i<=kvs.length->Pv i ys H->H d=some (.frz o (.dK kvs)))(hn:kvs.length<=sizeLine)
  (hs:∀ i p ys H,kvs[i]?=some p->Pv i ys H->te (some (kV p.1)::τ) H λv H4=>H4 D=some (.lst ys)/\Pv (i+1) (ys++[v]) (upd H4 D (.lst (ys++[v])))) (hd:∀ ys H,Pv kvs.length ys H->Q (.ref D) H):NM (Itd d o kvs) D τ te Q H:=by
 refine⟨λi m ys H=>m=kvs.length-i/\i<=kvs.length/\Pv i ys H,⟨kvs.length,by simp,apq _,h0⟩,?_⟩;rintro i m ys H2 ⟨rfl,hi,p⟩;obtain⟨d1,d2⟩:=hD i ys H2 hi p;refine⟨d1,?_⟩;have hS:=hl i ys H2 hi p;by_cases hlt:i<kvs.length
 ·refine .inr ⟨⟨hS,hlt⟩,by omega,Pv (i+1),λzs H' p'=>⟨kvs.length-(i+1),by omega,rfl,hlt,p'⟩,λy H3 q=>?_⟩
  obtain⟨e1,q',e2,e3⟩:=q;subst e1 e3;exact hs i q' ys _ e2 p
 ·have e:i=kvs.length:=by omega
  subst e;exact .inl ⟨⟨hS,aoL _⟩,hd ys H2 p⟩
noncomputable def Xi:Option Key->Value->Bool
 | none,.none=>true
 | none,_=>false
 | some k,v=>uU k v
theorem jf{v:Value}(h:Xi none v=true):v=.none:=by
 cases v<;>first|rfl|cases h
noncomputable def an5(w:World):Option Key->Int
 | none=>reduceHash 0xFCA86420
 | some k=>adp w k
theorem Ud{prog:Program}{w:World}{A:Around}{E:Value->Shared->Prop}{s:Shared}{Q:Int->Shared->Prop}(h:Q (reduceHash 0xFCA86420) {s with toks:=s.toks+1}):wpAny 1e8 A (pyHash .none) Q E s:=by
 show wpAny _ _ (pyHashByItsType .none) Q E s;exact PySem.W.pyHash_slot (T := "NoneType") rfl F.slot_NoneType_hash F.entry_NoneType_hash (F.args_NoneType_hash_1 _) (beq_builtin_none _) 2e9 (wpAny_bind (wpAny_pure (wpAny_bind (wpAny_mkInt (wpAny_pure ⟨_,_,rfl,h⟩)))))
noncomputable def optKind(prog:Program)(w:World):PySem.KeyKind prog w (Option Key) where
 is:=Xi
 hash:=an5 w
 inj:=λv a b ha hb=>by
  cases a with
  | none =>
   obtain rfl:=jf ha;cases b with
   | none=>rfl
   | some k=>rcases cG (show uU k .none=true from hb) with⟨_,_,_,e⟩|⟨_,_,_,e⟩<;>exact nomatch e
  | some k =>
   cases b with
   | none =>
    obtain rfl:=jf hb;rcases cG (show uU k .none=true from ha) with⟨_,_,_,e⟩|⟨_,_,_,e⟩<;>exact nomatch e
   | some k'=>rw[(cH prog w).inj v k k' ha hb]
 byValue:=λk v h=>by
  cases k with
  | none=>obtain rfl:=jf h;rfl
  | some k=>exact(cH prog w).byValue k v h
 pyHash:=λ{A E s k v Q} hv h=>by
  cases k with
  | none=>obtain rfl:=jf hv;exact Ud h
  | some k=>exact(cH prog w).pyHash (k:=k) hv h
 eqBool:=λ{A E s a b u v Q} hu hv h=>by
  cases a with
  | none =>
   obtain rfl:=jf hu;cases b with
   | none=>obtain rfl:=jf hv;exact SeqAt.EqAt.same _ _ _ _ _ h
   | some k =>
    rw[decide_eq_false 1e0]at h;rcases cG (show uU k v=true from hv) with⟨i,t,_,rfl⟩|⟨x,t,_,rfl⟩
    ·exact SeqAt.EqAt.none_int i t _ _ _ _ h
    ·exact SeqAt.EqAt.none_str x t _ _ _ _ h
  | some k =>
   cases b with
   | none =>
    obtain rfl:=jf hv;rw[decide_eq_false 1e0]at h;rcases cG (show uU k u=true from hu) with⟨i,t,_,rfl⟩|⟨x,t,_,rfl⟩
    ·exact SeqAt.EqAt.int_none i t _ _ _ _ h
    ·exact SeqAt.EqAt.str_none x t _ _ _ _ h
   | some k' =>
    refine(cH prog w).eqBool (a:=k) (b:=k') hu hv ?_;have e:decide (some k=some k')=decide (k=k'):=by
     by_cases c:k=k'
     ·subst c;simp
     ·rw[decide_eq_false c,decide_eq_false (by intro z;exact c (ao4 z))]
    rw[<-e];exact h
 «strs» := λk x t v h=>by
  cases k with
  | none=>exact nomatch jf h
  | some k=>exact(cH prog w).strs k x t v h
theorem Ye{prog:Program}{w:World}{h:Heap}{a:Addr}{kvs:List (Key×Value)}(hd:h.DictOf (cH prog w) a kvs):h.MapOf (optKind prog w) a (λk=>k.bind λk=>valueAt kvs k):=by
 obtain⟨o,es,ep,ho,hc,an6,hk,hf⟩:=hd.mapOf;refine⟨o,es,ep,ho,hc,an6,λe he=>?_,λk=>?_⟩
 ·obtain⟨k,h1,h2⟩:=hk e he
  exact⟨some k,h1,h2⟩
 ·cases k with
  | none =>
   show(es.find? λe=>Xi none e.key).map (·.val)=none;rw[Array.find?_eq_none.mpr λe he=>?_]
   ·rfl
   ·obtain⟨k,h1,_⟩:=hk e he
    intro z
    have:=jf z
    rw[this]at h1;rcases cG (show uU k .none=true from h1) with⟨_,_,_,e⟩|⟨_,_,_,e⟩<;>exact nomatch e
  | some k=>exact hf k
noncomputable def inO(kvs:List (Key×V)):Option Key->Bool
 | none=>false
 | some k=>(ir kvs k).isSome
noncomputable def acf:Option Key->V
 | none=>.non
 | some k=>kV k
section
variable{X:Cx}{i o:Expr}{ty td:TE}
noncomputable def acW(ty td:TE):TE:=λσ H Q=>ty σ H λy H1=>td σ H1 λx H2=>∃ a kvs k,x=.ref a/\y=acf k/\Rd H2 a 2e6/\Q (.bl (inO kvs k)) H2
theorem Z9{P:Program}{w:World}{k:Option Key}{u:Value}(r:RelV (acf k) u):(optKind P w).is k u=true:=by
 cases k with
 | none=>cases r;rfl
 | some k=>exact FE (P:=P) (w:=w) r
theorem Yg(hi:PE X i ty)(ho:PE X o td):PC X .In i o (acW ty td):=by
 intro pins s σ H Q I h;refine thn (hi pins s σ H _ I h) λiv s1 ⟨y,H1,I1,ry,q1⟩=>thn (ho pins s1 σ H1 _ I1 q1) λu s2 ⟨x,H2,I2,rx,a,kvs,k,ex,ey,g,q2⟩=>?_;subst ex ey;cases (show u=Value.ref a from rx);obtain⟨z,hd,vs,rel,dd⟩:=AL I2.hok g;refine wpAny_in_of (Z9 (P:=X.prog) (w:=X.w) ry) hd (Ye dd) ?_;have e:(k.bind λk=>valueAt vs k).isSome=inO kvs k:=by
  cases k with
  | none=>rfl
  | some k=>exact(rel.val k).qM.symm
 rw[e];exact⟨.bl (inO kvs k),H2,I2.tok _,rfl,q2⟩
end
section
variable{X:Cx}{K:W.Frag}
theorem Yh{e:Expr}{f:Str}{pos:Pos}{ta:TE}(hK:X.K=K)(he:PE X e ta)(hb:attributeBase e f X.env (eval e X.env)=eval e X.env):PE X (.Attribute e f pos) (adB K ta f):=by
 subst hK;exact aI he hb
noncomputable def acX(K:W.Frag):List V->Hp->VK->Prop:=λxs H Q=>∃ p ys,xs=[V.ref p]/\(SqL K H p ys\/SqT K H p ys)/\Q (.int (ys.length:Int)) H
theorem Ue(hK:X.K=K):uV X (.builtin "len") (acX K):=by
 subst hK;exact aP
end
section
variable{X:Cx}{o:Expr}{ta:TE}
end
end L2
end
section
namespace L2
open PySem PySem.Spec PyProof.Rows LX
theorem Le:∀(f n r:Nat),n<=f->r<=1->minRun' f n r<=max 64 (n+r)
 | 0,n,r,_,_=>Nat.le_max_right _ _
 | f+1,n,r,h,hr=>by
  rw[minRun'_succ];by_cases c:n<64
  ·rw[if_pos c];exact Nat.le_max_right _ _
  ·rw[if_neg c]
   have:=Le f (n/2) (max r (n%2)) 1e1 1e1
   omega
theorem N9{n:Nat}:¬n<minRun' n n 0:=by
 by_cases c:n<64
 ·cases n with
  | zero=>show ¬0<0+0;omega
  | succ f=>rw[minRun'_succ,if_pos c];omega
 ·have:=Le n n 0 (aoL _) 1e1
  omega
section
variable{prog:Program}{w:World}{A:Around}{E:Value->Shared->Prop}{s:Shared}{a₀:Array Keyed}
theorem Oa{st:SortSt}{m:Nat}{Q:Option Nat->SortSt->Prop}(ik:IntKeys a₀)(h:m<=a₀.size)(h1:1<=m)(B:SBase a₀ st)(up:SortedTo (arrOf st) m)(q:Q (some m) st):wpS 1e8 A E s (countRun' 0 m) Q st:=by
 rw[countRun0_eq];refine wpS_bind (wpS_ascLoop ik h (aoL 1) h1 B (λi j a b=>up i j a 1e1) λn n1 n2 _ o=>?_);have e:n=m:=by
  rcases o with o|o
  ·exact o
  ·by_cases c:n=m
   ·exact c
   ·have:=up (n-1) n 1e1 1e1
    omega
 subst e;dsimp only;rw[if_pos 1e9];exact wpS_pure q
theorem QY{st:SortSt}{Q:Unit->SortSt->Prop}(ik:IntKeys a₀)(B:SBase a₀ st)(n2:2<=a₀.size)(up:SortedTo (arrOf st) a₀.size)
  (q:∀ st',(arrOf st').Perm a₀->failedOf st'=none->SortedTo (arrOf st') a₀.size->Q () st'):wpS 1e8 A E s sortRuns' Q st:=by
 rw[sortRuns'_eq];refine wpS_bind (wpS_get ?_);dsimp only;have mr:¬a₀.size<minRun' a₀.size a₀.size 0:=N9;simp only[B.size];refine wpS_bind (wpS_mono (wpS_forRange (I:=λx c st'=>(x=0/\c=(none,0)/\st'=st)\/(1<=x/\c=(none,a₀.size)/\SDone a₀ st')) (Q:=λc st'=>c=(none,a₀.size)/\SDone a₀ st') ?one ?all (.inl ⟨rfl,rfl,rfl⟩)) ?rest)
 case all =>
  rintro c st' (⟨z,_,_⟩|⟨_,hc,d⟩)
  ·omega
  ·exact⟨hc,d⟩
 case one =>
  rintro x c st' _ hx (⟨rfl,rfl,rfl⟩|⟨_,rfl,d⟩)
  ·dsimp only
   rw[if_neg 1e1];simp only[Nat.sub_zero,Nat.zero_add];refine wpS_bind (Oa ik (aoL _) 1e1 B up ?_);dsimp only;rw[if_neg mr];refine wpS_bind (wpS_get ?_);rw[show(pendingOf st').back?=none by rw[B.pend];rfl];dsimp only;exact wpS_bind (wpS_modify (wpS_pure (.inr ⟨by omega,rfl,B.done up⟩)))
  ·dsimp only
   rw[if_pos (aoL _)];exact wpS_pure ⟨rfl,d⟩
 case rest =>
  rintro c st' ⟨rfl,d⟩;dsimp only;refine wpS_bind (wpS_mono (wpS_forRange (I:=λ_ c st2=>st2=st'/\c=(none,())) (Q:=λc st2=>st2=st'/\c=(none,())) ?_ (λ_ _ z=>z) ⟨rfl,rfl⟩) ?_)
  ·rintro x c st2 _ _ ⟨rfl,rfl⟩
   refine wpS_bind (wpS_get ?_);rw[if_pos (show(pendingOf st2).size<=1 by rw[d.2.2.1];exact aoL 1)];exact wpS_pure ⟨rfl,rfl⟩
  ·rintro c st2 ⟨rfl,rfl⟩
   exact wpS_pure (q _ d.1 d.2.1 d.2.2.2)
theorem SM:∀ {vs:List Value} {ns:List Int},IntsAre vs ns->∀(i:Nat) (h:i<vs.length) (h':i<ns.length),numOf vs[i]=ns[i]
 | _,_,.nil,i,h,_=>absurd h (aqf _)
 | _,_,.cons k t r,0,_,_=>rfl
 | _,_,.cons k t r,i+1,h,h'=>SM r i (Nat.lt_of_succ_lt_succ h) (Nat.lt_of_succ_lt_succ h')
theorem Vy{vs:List Value}{ns:List Int}(hI:IntsAre vs ns)(up:ns.Pairwise (·<=·)):SortedTo (pairsOf vs) (pairsOf vs).size:=by
 intro i j ij hj;have hl:=hI.length;have hs:=pairsOf_size vs;rw[K_eq 1e1,K_eq 1e1];have hi2:i<ns.length:=by omega
 have hj2:j<ns.length:=by omega
 have e:∀(k:Nat) (h:k<(pairsOf vs).size) (h':k<ns.length),numOf (pairsOf vs)[k].1=ns[k]:=λk h h'=>by
  have:(pairsOf vs)[k].1=vs[k]' 1e1:=by simp[pairsOf]
  rw[this];exact SM hI k 1e1 h'
 rw[e i 1e1 hi2,e j 1e1 hj2];rcases aps i j with c|c
 ·exact apN.mp up i j hi2 hj2 c
 ·have:i=j:=by omega
  subst this;exact apv _
theorem CZ{a:Addr}{vs:List Value}{ns:List Int}{n:Nat}{P:Fin->Shared->Prop}(ho:s.heap.get? a=some (seqObj "list" vs.toArray n))(hI:IntsAre vs ns)(few:vs.length<=20000)(up:ns.Pairwise (·<=·))
  (h:∀(out:Array Value) (ns':List Int),IntsAre out.toList ns'->ns'.Perm ns->ns'.Pairwise (·<=·)->P (.done (.ret .none)) {s with heap:=sortedHeap s.heap a vs out}):wpAny 1e8 A (Builtin.«list.sort» ⟨[.ref a],[]⟩) P E s:=by
 have hz:vs.length<=sizeLine:=aqs (apx few 2e0);rw[list_sort_plain];have la:a<s.heap.objs.size:=aoQ ho;refine wpAny_bind (listItems_at ho rfl (wpAny_bind (listUpdate_at ho rfl ?_ (by rw[aoN];exact hz) (apq _))));obtain⟨e1,g1⟩:∃ e1,(s.heap.update a (Obj.mapSeq λ_=>#[])).get? a=some (seqObj "list" #[] e1):=⟨_,get?_update_seq ho (λ_=>#[])⟩;refine wpAny_bind (seqEpoch_at g1 rfl (wpAny_bind (wpAny_newTuple (wpAny_bind (wpAny_newList (wpAny_holding ?_) (apq _))) (by show vs.length<=_;exact hz))));have g6:(((s.heap.update a (Obj.mapSeq λ_=>#[])).push (seqObj "tuple" vs.toArray 0)).push (seqObj "list" #[] 0)).get? a=some (seqObj "list" #[] e1):=aoK _ (aoK _ g1);show wpAny 1e8 A _ P E {s with heap:=((s.heap.update a (Obj.mapSeq λ_=>#[])).push (seqObj "tuple" vs.toArray 0)).push (seqObj "list" #[] 0)};dsimp only;have zs:(pairsOf vs).size=vs.length:=pairsOf_size vs;have fin:∀ st':SortSt,(arrOf st').Perm (pairsOf vs)->SortedTo (arrOf st') (pairsOf vs).size->P (.done (.ret .none)) {s with heap:=sortedHeap s.heap a vs ((arrOf st').map (·.2))}:=λst' hp hs=>by
  obtain⟨ns',q1,q2,q3⟩:=sorted_out hI hp hs;exact h _ ns' q1 q2 q3
 have up0:=Vy hI up;by_cases c:vs.toArray.size<2
 ·rw[if_pos c,if_pos c]
  refine wpAny_bind (wpAny_pure ?_);rw[StateT.run_pure];refine wpAny_bind (wpAny_pure ?_);dsimp only;refine wpAny_bind (seqEpoch_at g6 rfl (wpAny_bind (listUpdate_at g6 rfl ?_ (hsz2:=by rw[Array.size_map];show(pairsOf vs).size<=_;rw[zs];omega))));simp only[bne_self_eq_false,apr,if_false];exact wpAny_pure (fin (SortSt.mk' general' (vs.toArray.zip vs.toArray) #[] 7 none) (Array.Perm.refl _) up0)
 ·rw[if_neg c,if_neg c]
  obtain⟨v1,v2,r,rfl⟩:∃ v1 v2 r,vs=v1::v2::r:=by
   match vs,c with
   | [],c=>simp at c
   | [_],c=>simp at c
   | v1::v2::r,_=>exact⟨v1,v2,r,rfl⟩
  rw[keyKind_ints hI];refine wpAny_bind (wpAny_pure (wpAny_bind (wpAny_mono (QY (a₀:=pairsOf (v1::v2::r)) (st:=SortSt.mk' oneType' ((v1::v2::r).toArray.zip (v1::v2::r).toArray) #[] 7 none)
   (Q:=λ_ st'=>(arrOf st').Perm (pairsOf (v1::v2::r))/\failedOf st'=none/\SortedTo (arrOf st') (pairsOf (v1::v2::r)).size) hI.intKeys ⟨Array.Perm.refl _,rfl,rfl,rfl⟩ (by rw[zs];simp) up0 λst' a1 a2 a3=>⟨a1,a2,a3⟩) ?_ λ_ _ e=>e)))
  rintro⟨⟨⟩,st'⟩ s' ⟨rfl,hp,hf,hs⟩;dsimp only;refine wpAny_bind (seqEpoch_at g6 rfl (wpAny_bind (listUpdate_at g6 rfl ?_ (hsz2:=ao7 (Nat.le_of_eq ((Array.size_map ..).trans (hp.size_eq.trans zs))) (Nat.le_succ_of_le hz)))));rw[hf];simp only[bne_self_eq_false,apr,if_false];exact wpAny_pure (fin st' hp hs)
end
section
variable{X:Cx}
noncomputable def Vz:List V->Hp->VK->Prop:=λvs H Q=>∃(p:Addr) (kvs:List (Key×V)) (ks:List Int),vs=[.ref p]/\Rd H p 2e6/\kvs.map (·.1)=ks.map Sum.inl/\ks.length<=20000/\ks.Pairwise (·<=·)/\∀(l:Addr),H l=none->Q (.ref l) (upd H l (.lst (ks.map V.int)))
theorem LB(hc:X.calm=true):uV X (.builtin "sorted") Vz:=by
 rintro pins s σ H xs us Q I r ⟨p,kvs,ks,rfl,hp,hk,few,up,q⟩;obtain⟨u,rfl,ru⟩:=r.one;cases (show u=Value.ref p from ru);obtain⟨hz,hd,vs,rel,dd⟩:=AL I.hok hp;obtain⟨ep,hat⟩:=dd.dictAt;have hh:=I.ok.hd hc;have hl:ks.length=kvs.length:=by
  have:=congrArg List.length hk
  simpa using this.symm
 refine ap5 kind_sorted plain_sorted entry_sorted (args_sorted1 _) ?_;unfold Builtin.«sorted»;refine wpAny_bind (m:=checkCount "sorted" 1 1 _) (wpAny_pure ?_);refine wpAny_bind (PySem.W.kdu_collect (A:=X.A.in1) (PySem.W.kdl_dict (knd:=cH X.prog X.w) (kvs:=vs) (ep:=ep) hd) hh hat (by rw[<-rel.length];exact hz) λh' tk acc hkp hacc=>?_);have hI:IntsAre acc.toList ks:=EU (by rw[<-rel.keys];exact hk) hacc.1 hacc.2;have hlen:=hI.length;have I1:Inv X pins σ H {s with heap:=h',toks:=tk}:=I.kept (t':=tk) hkp;refine wpAny_bind (wpAny_newList ?_ (by show acc.toList.length<=sizeLine;rw[hlen,hl];exact hz));have hoL:(h'.push (seqObj "list" acc.toList.toArray 0)).get? h'.objs.size=some (seqObj "list" acc.toList.toArray 0):=apa _ rfl;show wpAny _ _ _ _ _ {s with heap:=h'.push (seqObj "list" acc.toList.toArray 0),toks:=tk};refine wpAny_bind (wpAny_holding (wpAny_call_entry slot_list_sort ⟨_,hoL,rfl⟩ entry_list_sort (CZ hoL hI 1e1 up λout ns' a1 a2 a3=>⟨_,rfl,?_⟩) (args_list_sort _)));refine wpAny_pure ⟨_,rfl,?_⟩;cases K9 a2 a3 up;obtain⟨e,he⟩:=sortedHeap_at (out:=out) hoL;refine⟨.ref h'.objs.size,_,I1.laid (a:=h'.objs.size) (o:=.lst (ks.map V.int)) (t':=tk) (λb o hb=>?_) (aoL _) ?_,rfl,q _ (I1.hok.fresh (aoL _))⟩
 ·have hlt:=aoQ hb
  rw[sortedHeap_old (aoW hlt) (by rw[size_push'];exact ap2 hlt),Heap.get?_push_ne _ _ _ (aoW hlt)];exact hb
 ·refine⟨by rw[aoG,hl];exact hz,out.toList,e,qL a1,?_⟩
  rw[he]
noncomputable def Yi(K:W.Frag):List V->Hp->VK->Prop:=λvs H Q=>∃(p:Addr) (ns:List Int),vs=[.ref p]/\SqL K H p 4e4/\ns.length<=20000/\ns.Pairwise (·<=·)/\∀(l:Addr),H l=none->Q (.ref l) (upd H l (.lst 4e4))
theorem Ob:uV X (.builtin "sorted") (Yi X.K):=by
 rintro pins s σ H xs us Q I r ⟨p,ns,rfl,hq,few,up,q⟩;obtain⟨u,rfl,ru⟩:=r.one;cases (show u=Value.ref p from ru);obtain⟨its,rv,pl,hz⟩:=I.list hq;have hI:=intsAre_of rv;have hlen:=rv.length;rw[aoG]at hlen hz;refine ap5 kind_sorted plain_sorted entry_sorted (args_sorted1 _) ?_;unfold Builtin.«sorted»;refine wpAny_bind (m:=checkCount "sorted" 1 1 _) (wpAny_pure ?_);have iz:its.length<=sizeLine:=by omega
 refine wpAny_bind (collect_list pl.isList ?_ iz);refine wpAny_bind (wpAny_newList ?_ iz);have sz:((s.heap.push (seqObj "list" #[] 0)).update s.heap.objs.size (Obj.mapSeq (·++its.toArray))).objs.size=s.heap.objs.size+1:=by rw[Heap.size_update,size_push']
 have hoL:(((s.heap.push (seqObj "list" #[] 0)).update s.heap.objs.size (Obj.mapSeq (·++its.toArray))).push (seqObj "list" its.toArray 0)).get? 2e3=some (seqObj "list" its.toArray 0):=by rw[<-sz];exact apa _ rfl
 show wpAny _ _ _ _ _ {s with heap:=((s.heap.push (seqObj "list" #[] 0)).update s.heap.objs.size (Obj.mapSeq (·++its.toArray))).push (seqObj "list" its.toArray 0)};rw[sz];refine wpAny_bind (wpAny_holding (wpAny_call_entry slot_list_sort ⟨_,hoL,rfl⟩ entry_list_sort (CZ hoL hI 1e1 up λout ns' a1 a2 a3=>⟨_,rfl,?_⟩) (args_list_sort _)));refine wpAny_pure ⟨_,rfl,?_⟩;cases K9 a2 a3 up;obtain⟨e,he⟩:=sortedAll_at s.heap its out;refine⟨.ref 2e3,_,I.laid (a:=s.heap.objs.size+1) (o:=.lst 4e4) (t':=s.toks) (λ_ _=>sortedAll_old) (ap8 _) ?_,rfl,q _ (I.hok.fresh (ap8 _))⟩;refine⟨by rw[aoG];exact hz,out.toList,e,qL a1,?_⟩;show(sortedAll s.heap its out).get? _=_;rw[he]
end
end L2
end
section
namespace K39
open PySem L2 LX
noncomputable abbrev jJ:Stmt:=inClass (top 2) 0
noncomputable abbrev qt:Stmt:=top 20
noncomputable abbrev sg:Stmt:=top 21
noncomputable abbrev yC:Stmt:=top 22
noncomputable abbrev AO:Stmt:=top 23
noncomputable abbrev ng:Stmt:=top 24
noncomputable abbrev qu:Stmt:=top 25
noncomputable abbrev qv:Stmt:=top 26
noncomputable abbrev pj:Stmt:=top 27
noncomputable abbrev nr:Stmt:=top 28
noncomputable abbrev Xj:Stmt:=top 30
noncomputable abbrev uX:Stmt:=top 31
noncomputable abbrev AQ:Stmt:=top 32
noncomputable abbrev Sa:Stmt:=top 33
noncomputable abbrev wX:Stmt:=top 34
noncomputable abbrev si:Stmt:=top 35
noncomputable abbrev qw:Stmt:=top 36
noncomputable abbrev pN:Stmt:=top 38
noncomputable abbrev fH:Stmt:=top 39
noncomputable abbrev lM:Stmt:=top 40
noncomputable abbrev mj:Stmt:=top 41
noncomputable abbrev j2:Stmt:=top 42
noncomputable abbrev jK:Stmt:=top 43
noncomputable abbrev kA:Stmt:=top 44
noncomputable abbrev EV:Stmt:=top 45
noncomputable abbrev wY:Stmt:=top 46
noncomputable abbrev yD:Stmt:=top 48
noncomputable abbrev uj:Stmt:=top 49
noncomputable abbrev nv:Stmt:=inClass (top 51) 0
noncomputable abbrev pk:Stmt:=inClass (top 51) 1
noncomputable abbrev lN:Stmt:=inClass (top 51) 2
noncomputable abbrev wZ:Stmt:=inClass (top 51) 3
noncomputable abbrev uk:Stmt:=inClass (top 51) 4
noncomputable abbrev qx:Stmt:=inClass (top 51) 5
noncomputable abbrev uo:Stmt:=inClass (top 51) 6
noncomputable abbrev sj:Stmt:=inClass (top 51) 7
noncomputable abbrev lO:Stmt:=inClass (top 51) 9
noncomputable abbrev jL:Stmt:=inClass (top 54) 0
noncomputable abbrev ny:Stmt:=inClass (top 54) 1
noncomputable abbrev kS:Stmt:=inClass (top 54) 4
noncomputable abbrev uq:Stmt:=top 56
noncomputable abbrev jM:Stmt:=inClass (top 58) 0
noncomputable abbrev nz:Stmt:=inClass (top 58) 1
noncomputable abbrev lP:Stmt:=inClass (top 58) 2
noncomputable abbrev jm:Stmt:=inClass (top 58) 3
noncomputable abbrev iW:Stmt:=inClass (top 58) 4
noncomputable abbrev pq:Stmt:=inClass 4e5 0
noncomputable abbrev nA:Stmt:=inClass 4e5 1
noncomputable abbrev w8:Stmt:=inClass 4e5 2
noncomputable abbrev ur:Stmt:=inClass 4e5 3
noncomputable abbrev xa:Stmt:=inClass 4e5 4
noncomputable abbrev xb:Stmt:=inClass 4e5 5
noncomputable abbrev sk:Stmt:=inClass 4e5 6
noncomputable abbrev xg:Stmt:=inClass 4e5 7
noncomputable abbrev lQ:Stmt:=inClass 4e5 8
noncomputable abbrev xh:Stmt:=inClass 4e5 9
noncomputable abbrev iX:Stmt:=inClass 4e5 10
noncomputable abbrev so:Stmt:=inClass 4e5 11
noncomputable abbrev kB:Stmt:=inClass 4e5 12
noncomputable abbrev iY:Stmt:=inClass 4e5 15
noncomputable abbrev iB:Stmt:=inClass 4e5 16
noncomputable abbrev sq:Stmt:=top 61
noncomputable abbrev jN:Stmt:=inClass 3e8 0
noncomputable abbrev nB:Stmt:=inClass 3e8 1
noncomputable abbrev nC:Stmt:=inClass 3e8 2
noncomputable abbrev nD:Stmt:=inClass 3e8 4
noncomputable abbrev lR:Stmt:=inClass 3e8 5
noncomputable abbrev kT:Stmt:=inClass 3e8 6
noncomputable abbrev nE:Stmt:=inClass 3e8 8
noncomputable abbrev lS:Stmt:=inClass 3e8 9
noncomputable abbrev lT:Stmt:=inClass 3e8 10
noncomputable abbrev pw:Stmt:=inClass 3e8 11
noncomputable abbrev jO:Stmt:=inClass 3e8 12
noncomputable abbrev lU:Stmt:=inClass 3e8 13
noncomputable abbrev lV:Stmt:=inClass 3e8 14
noncomputable abbrev kU:Stmt:=inClass 3e8 15
noncomputable abbrev jn:Stmt:=inClass 3e8 16
noncomputable abbrev nF:Stmt:=inClass 3e8 21
noncomputable abbrev lW:Stmt:=inClass 3e8 22
noncomputable abbrev lX:Stmt:=inClass (top 65) 0
noncomputable abbrev sr:Stmt:=inClass (top 65) 1
noncomputable abbrev xi:Stmt:=inClass (top 65) 2
noncomputable abbrev uu:Stmt:=inClass (top 65) 3
noncomputable abbrev g9:Stmt:=inClass (top 65) 5
noncomputable abbrev xj:Stmt:=top 67
noncomputable abbrev uv:Stmt:=top 68
noncomputable abbrev qy:Stmt:=top 69
noncomputable abbrev xk:Stmt:=top 70
noncomputable abbrev uw:Stmt:=top 71
noncomputable abbrev xm:Stmt:=top 72
noncomputable abbrev sv:Stmt:=top 73
noncomputable abbrev sA:Stmt:=top 74
noncomputable abbrev kn:Stmt:=top 75
noncomputable abbrev sC:Stmt:=top 76
noncomputable abbrev xn:Stmt:=top 77
noncomputable abbrev ko:Stmt:=top 78
noncomputable abbrev ux:Stmt:=top 79
noncomputable abbrev pO:Stmt:=top 80
noncomputable abbrev UP:Stmt:=top 81
set_option genInjectivity false in
structure Ad where
 aL:Addr
 dF:Addr
 bZ:Addr
 fS:Addr
 gJ:Addr
 a9:Addr
 cP:Addr
 iT:Addr
 lj:Addr
 jF:Addr
 jG:Addr
 ba:Addr
 aM:Addr
 aD:Addr
 a5:Addr
 ab:Addr
 bK:Addr
 aq:Addr
 aA:FuncData
 dX:Addr
 jR:FuncData
 cx:Addr
 eU:FuncData
 eI:Addr
 ig:FuncData
 gK:Addr
 lA:FuncData
 cp:Addr
 gn:FuncData
 bq:Addr
 cQ:FuncData
 c7:Addr
 iM:FuncData
 cR:Addr
 gP:FuncData
 cU:Addr
 iC:FuncData
 FF:Addr
 QZ:FuncData
 fT:Addr
 j3:FuncData
 gL:Addr
 lB:FuncData
 vO:Addr
 Jp:FuncData
 hW:Addr
 oy:FuncData
 eV:Addr
 kG:FuncData
 c8:Addr
 iN:FuncData
 dr:Addr
 hJ:FuncData
 bJ:Addr
 dY:FuncData
 bL:Addr
 fM:FuncData
 dZ:Addr
 jS:FuncData
 bA:Addr
 dw:FuncData
 a7:Addr
 dt:FuncData
 br:Addr
 dQ:FuncData
 jH:Addr
 qN:FuncData
 hX:Addr
 oz:FuncData
 kD:Addr
 tN:FuncData
 fY:Addr
 mG:FuncData
 dz:Addr
 iD:FuncData
 cS:Addr
 fO:FuncData
 bM:Addr
 dJ:FuncData
 fJ:Addr
 i6:FuncData
 hR:Addr
 mI:FuncData
 fI:Addr
 jT:FuncData
 fB:Addr
 i9:FuncData
 gp:Addr
 kH:FuncData
 bc:Addr
 cA:FuncData
 bU:Addr
 eW:FuncData
 dA:Addr
 iE:FuncData
 cL:Addr
 gC:FuncData
 fZ:Addr
 mJ:FuncData
 bV:Addr
 eX:FuncData
 dB:Addr
 iF:FuncData
 cY:Addr
 gY:FuncData
 bH:Addr
 eF:FuncData
 cM:Addr
 gE:FuncData
 cT:Addr
 jg:FuncData
 cv:Addr
 iG:FuncData
 gx:Addr
 oA:FuncData
 fD:Addr
 mK:FuncData
 gy:Addr
 oB:FuncData
 gz:Addr
 oE:FuncData
 dR:Addr
 kI:FuncData
 gA:Addr
 oH:FuncData
 bN:Addr
 gZ:FuncData
 hZ:Addr
 rV:FuncData
 bF:Addr
 gF:FuncData
 da:Addr
 jq:FuncData
 bt:Addr
 fQ:FuncData
 bo:Addr
 eL:FuncData
 bB:Addr
 eO:FuncData
 eY:Addr
 kJ:FuncData
 bW:Addr
 eZ:FuncData
 dC:Addr
 iH:FuncData
 dD:Addr
 iI:FuncData
 eP:Addr
 j4:FuncData
 dM:Addr
 jx:FuncData
 dq:Addr
 iZ:FuncData
 dE:Addr
 iJ:FuncData
 bO:Addr
 dN:FuncData
 cZ:Addr
 g4:FuncData
 eB:Addr
 jh:FuncData
 bX:Addr
 fe:FuncData
 bP:Addr
 dO:FuncData
 bQ:Addr
 dP:FuncData
 bp:Addr
 cN:FuncData
 aH:Addr
 aW:FuncData
 eQ:Addr
 j5:FuncData
 c5:Addr
 g7:FuncData
 c6:Addr
 g8:FuncData
 fg:Addr
 jr:FuncData
 dH:Addr
 gB:FuncData
 fE:Addr
 ja:FuncData
 aX:Addr
 cg:FuncData
 fK:Addr
 jX:FuncData
 ed:Addr
 jc:FuncData
 d7:Addr
 jU:FuncData
 h9:Addr
 oJ:FuncData
 f7:Addr
 mL:FuncData
 ia:Addr
 oK:FuncData
 fi:Addr
 kK:FuncData
 fq:Addr
 kL:FuncData
 f9:Addr
 mM:FuncData
 ft:Addr
 kM:FuncData
 ib:Addr
 oO:FuncData
 gc:Addr
 mN:FuncData
 gf:Addr
 mO:FuncData
 gg:Addr
 mP:FuncData
 KR:Addr
 Q0:FuncData
 Im:Tok
 pP:Tok
 nW:Tok
 pQ:Tok
 pR:Tok
 pS:Tok
 mz:Tok
structure Txt(K:W.Frag)(mg:Str->Option Value)(D:Ad):Prop where
 h:∃ cd,jC K D.aL cd
 mH:mg "HeapError" = some (.ref D.aL)
 oQ:mg "BadCount" = some (.ref D.dF)
 xo:NA K D.dF
 oV:MkX K D.dF D.aq
 YI:PySem.W.kitOne K (.ref D.dF) 2e8=some true
 LC:∃ cd,jC K D.dF cd/\cd.mro.contains (.ref D.aL)=true
 AR:mg "BadHand" = some (.ref D.bZ)
 nX:NA K D.bZ
 AS:MkX K D.bZ D.aq
 Zd:PySem.W.kitOne K (.ref D.bZ) 2e8=some true
 Oc:∃ cd,jC K D.bZ cd/\cd.mro.contains (.ref D.aL)=true
 Q1:mg "BadName" = some (.ref D.fS)
 Io:NA K D.fS
 Q2:MkX K D.fS D.aq
 Ze:PySem.W.kitOne K (.ref D.fS) 2e8=some true
 Od:∃ cd,jC K D.fS cd/\cd.mro.contains (.ref D.aL)=true
 Oe:mg "BadField" = some (.ref D.gJ)
 Fj:NA K D.gJ
 Of:MkX K D.gJ D.aq
 YJ:PySem.W.kitOne K (.ref D.gJ) 2e8=some true
 LD:∃ cd,jC K D.gJ cd/\cd.mro.contains (.ref D.aL)=true
 nY:mg "BadAddress" = some (.ref D.a9)
 js:NA K D.a9
 sD:MkX K D.a9 D.aq
 Wc:PySem.W.kitOne K (.ref D.a9) 2e8=some true
 U3:∃ cd,jC K D.a9 cd/\cd.mro.contains (.ref D.aL)=true
 FG:mg "TooManyWords" = some (.ref D.cP)
 FH:NA K D.cP
 FJ:MkX K D.cP D.aq
 UQ:PySem.W.kitOne K (.ref D.cP) 2e8=some true
 Dz:∃ cd,jC K D.cP cd/\cd.mro.contains (.ref D.aL)=true
 Q3:mg "BadView" = some (.ref D.iT)
 Q4:NA K D.iT
 Q5:MkX K D.iT D.aq
 Zf:PySem.W.kitOne K (.ref D.iT) 2e8=some true
 YK:∃ cd,jC K D.iT cd/\cd.mro.contains (.ref D.aL)=true
 Ug:mg "NoRoom" = some (.ref D.lj)
 Uh:NA K D.lj
 Ui:MkX K D.lj D.aq
 aat:PySem.W.kitOne K (.ref D.lj) 2e8=some true
 Q6:∃ cd,jC K D.lj cd/\cd.mro.contains (.ref D.aL)=true
 Q7:mg "RoundOn" = some (.ref D.jF)
 Q8:NA K D.jF
 Q9:MkX K D.jF D.aq
 Zg:PySem.W.kitOne K (.ref D.jF) 2e8=some true
 Og:∃ cd,jC K D.jF cd/\cd.mro.contains (.ref D.aL)=true
 Ra:mg "NoRound" = some (.ref D.jG)
 Rb:NA K D.jG
 Rf:MkX K D.jG D.aq
 Zh:PySem.W.kitOne K (.ref D.jG) 2e8=some true
 Oh:∃ cd,jC K D.jG cd/\cd.mro.contains (.ref D.aL)=true
 VA:mg "Hands" = some (.ref D.ba)
 a6:Cls K D.ba
 IZ:Mk K D.ba D.dz
 cO:eS K D.ba "words_held"
 nG:Meth K D.ba "word_in" D.cS
 kW:Meth K D.ba "all_words" D.bM
 pT:Meth K D.ba "put" D.fJ
 Jq:Meth K D.ba "copy" D.hR
 FK:Meth K D.ba "number" D.fI
 sE:Meth K D.ba "kind" D.fB
 GQ:Meth K D.ba "value" D.gp
 gG:Meth K D.ba "thing_due" D.bc
 LF:mg "WordTable" = some (.ref D.aM)
 de:Cls K D.aM
 uy:Mk K D.aM D.bU
 bI:eS K D.aM "words_borne"
 lH:eS K D.aM "words_said"
 AZ:Meth K D.aM "bear" D.dA
 xJ:Meth K D.aM "settle" D.cL
 LG:mg "NameTable" = some (.ref D.aD)
 dS:Cls K D.aD
 uz:Mk K D.aD D.bV
 ck:eS K D.aD "things_named"
 A5:Meth K D.aD "name" D.dB
 zg:Meth K D.aD "named" D.cY
 tO:Meth K D.aD "all_named" D.bH
 xK:Meth K D.aD "settle" D.cM
 Yj:mg "Heap" = some (.ref D.a5)
 acm:Cls K D.a5
 SN:Mk K D.a5 D.cT
 QD:eS K D.a5 "makes_young"
 UR:eS K D.a5 "in_hands"
 RQ:eS K D.a5 "weak_names"
 RR:eS K D.a5 "last_words"
 QE:eS K D.a5 "fields_held"
 PX:eS K D.a5 "young_things"
 RS:eS K D.a5 "next_thing"
 RT:Meth K D.a5 "add_thing" D.cv
 Xv:Meth K D.a5 "load" D.gx
 We:Meth K D.a5 "store" D.fD
 Xw:Meth K D.a5 "copy" D.gy
 Xx:Meth K D.a5 "drop" D.gz
 U4:Meth K D.a5 "number" D.dR
 Xy:Meth K D.a5 "name" D.gA
 QF:Meth K D.a5 "read_thing" D.bN
 Xz:Meth K D.a5 "word" D.hZ
 PY:Meth K D.a5 "small_round" D.bF
 U5:Meth K D.a5 "let_go" D.da
 NO:Meth K D.a5 "look_at_held" D.bt
 PZ:Meth K D.a5 "words_among" D.bo
 RU:Meth K D.a5 "led_among" D.bB
 Yk:Y8 K D.a5 "__init__" D.cT
 LH:mg "IdealHeap" = some (.ref D.ab)
 ae:Cls K D.ab
 uA:Mk K D.ab D.bW
 iy:eS K D.ab "makes_young"
 aB:eS K D.ab "in_hands"
 dI:eS K D.ab "weak_names"
 iU:eS K D.ab "last_words"
 aC:eS K D.ab "fields_held"
 bE:eS K D.ab "young_things"
 fU:eS K D.ab "next_thing"
 lI:eS K D.ab "young_room"
 rn:eS K D.ab "limit"
 bu:eS K D.ab "doomed_things"
 du:eS K D.ab "in_round"
 tP:Meth K D.ab "add_thing" D.cv
 A7:Meth K D.ab "load" D.gx
 zi:Meth K D.ab "store" D.fD
 A8:Meth K D.ab "copy" D.gy
 A9:Meth K D.ab "drop" D.gz
 xM:Meth K D.ab "number" D.dR
 Ba:Meth K D.ab "name" D.gA
 sU:Meth K D.ab "read_thing" D.bN
 RV:Meth K D.ab "word" D.hZ
 rJ:Meth K D.ab "small_round" D.bF
 pG:Meth K D.ab "let_go" D.da
 qV:Meth K D.ab "look_at_held" D.bt
 kF:Meth K D.ab "words_among" D.bo
 iV:Meth K D.ab "led_among" D.bB
 Bb:Meth K D.ab "make" D.dC
 Bc:Meth K D.ab "read" D.dD
 RW:Meth K D.ab "kind" D.eP
 QG:Meth K D.ab "value" D.dM
 P0:Meth K D.ab "fields" D.dq
 Bd:Meth K D.ab "held" D.dE
 kX:Meth K D.ab "small" D.bO
 zj:Meth K D.ab "begin" D.cZ
 DA:Meth K D.ab "end" D.eB
 va:Meth K D.ab "round_on" D.bX
 kY:Meth K D.ab "hands" D.bP
 kZ:Meth K D.ab "names" D.bQ
 dU:Meth K D.ab "things" D.bp
 bC:Meth K D.ab "fields_of" D.aH
 RX:Meth K D.ab "made" D.eQ
 zk:Meth K D.ab "spare" D.c5
 Uj:mg "Memory" = some (.ref D.bK)
 bD:Cls K D.bK
 EW:Mk K D.bK D.c6
 iO:eS K D.bK "cells"
 wK:Meth K D.bK "size" D.fg
 hU:Meth K D.bK "at" D.dH
 nZ:Meth K D.bK "put" D.fE
 j6:Meth K D.bK "look_at_address" D.aX
 GR:mg "number_value" = some (.ref D.dX)
 qz:PySem.W.keepIn K (.ref D.dX)=true
 kN:mg "thing_value" = some (.ref D.cx)
 ip:PySem.W.keepIn K (.ref D.cx)=true
 qO:mg "kind_of" = some (.ref D.eI)
 lJ:PySem.W.keepIn K (.ref D.eI)=true
 AU:mg "words_of" = some (.ref D.gK)
 qW:PySem.W.keepIn K (.ref D.gK)=true
 tm:mg "look_at_number" = some (.ref D.cp)
 j7:PySem.W.keepIn K (.ref D.cp)=true
 gH:mg "look_at_hand" = some (.ref D.bq)
 d8:PySem.W.keepIn K (.ref D.bq)=true
 wL:mg "look_at_name" = some (.ref D.c7)
 mB:PySem.W.keepIn K (.ref D.c7)=true
 uY:mg "look_at_field" = some (.ref D.cR)
 kQ:PySem.W.keepIn K (.ref D.cR)=true
 DB:mg "look_at_limits" = some (.ref D.cU)
 nI:PySem.W.keepIn K (.ref D.cU)=true
 acY:mg "lay" = some (.ref D.FF)
 Xk:PySem.W.keepIn K (.ref D.FF)=true
 uZ:mg "thing_at" = some (.ref D.fT)
 oe:PySem.W.keepIn K (.ref D.fT)=true
 AV:mg "resolved" = some (.ref D.gL)
 qX:PySem.W.keepIn K (.ref D.gL)=true
 aaa:mg "move" = some (.ref D.vO)
 Sb:PySem.W.keepIn K (.ref D.vO)=true
 Oi:mg "fields_at" = some (.ref D.hW)
 xq:PySem.W.keepIn K (.ref D.hW)=true
 Jr:mg "fields_told" = some (.ref D.eV)
 sG:PySem.W.keepIn K (.ref D.eV)=true
 wM:mg "look_at_room" = some (.ref D.c8)
 mC:PySem.W.keepIn K (.ref D.c8)=true
 uB:mg "is_picture" = some (.ref D.dr)
 mQ:PySem.W.keepIn K (.ref D.dr)=true
 qA:mg "first_unlike" = some (.ref D.bJ)
 jV:PySem.W.keepIn K (.ref D.bJ)=true
 rq:mg "first_misplaced" = some (.ref D.bL)
 jy:PySem.W.keepIn K (.ref D.bL)=true
 wN:mg "addresses_of" = some (.ref D.dZ)
 mD:PySem.W.keepIn K (.ref D.dZ)=true
 tq:mg "first_headless" = some (.ref D.bA)
 j8:PySem.W.keepIn K (.ref D.bA)=true
 og:mg "first_unlike_field" = some (.ref D.a7)
 gQ:PySem.W.keepIn K (.ref D.a7)=true
 iu:mg "first_unlike_word" = some (.ref D.br)
 dW:PySem.W.keepIn K (.ref D.br)=true
 Lf:mg "is_like" = some (.ref D.jH)
 yE:PySem.W.keepIn K (.ref D.jH)=true
 Oj:mg "place_met" = some (.ref D.hX)
 xt:PySem.W.keepIn K (.ref D.hX)=true
 Uk:mg "book_of" = some (.ref D.kD)
 EX:PySem.W.keepIn K (.ref D.kD)=true
 LI:mg "address_in" = some (.ref D.fY)
 uC:PySem.W.keepIn K (.ref D.fY)=true
 LJ:mg "last_steps" = some (.ref D.fZ)
 uD:PySem.W.keepIn K (.ref D.fZ)=true
 yO:mg "thing_among" = some (.ref D.eY)
 oh:PySem.W.keepIn K (.ref D.eY)=true
 xu:mg "_law_cell" = some (.ref D.fK)
 oW:PySem.W.keepIn K (.ref D.fK)=true
 kq:mg "_law_mixed" = some (.ref D.ed)
 hV:PySem.W.keepIn K (.ref D.ed)=true
 GS:mg "_law_numbers" = some (.ref D.d7)
 qB:PySem.W.keepIn K (.ref D.d7)=true
 Ol:mg "_law_deed" = some (.ref D.h9)
 xv:PySem.W.keepIn K (.ref D.h9)=true
 LL:mg "_law_round" = some (.ref D.f7)
 uE:PySem.W.keepIn K (.ref D.f7)=true
 Om:mg "_law_heap" = some (.ref D.ia)
 xw:PySem.W.keepIn K (.ref D.ia)=true
 Js:mg "_law_places" = some (.ref D.fi)
 sI:PySem.W.keepIn K (.ref D.fi)=true
 yP:mg "_law_spoken" = some (.ref D.fq)
 oi:PySem.W.keepIn K (.ref D.fq)=true
 LM:mg "_law_model" = some (.ref D.f9)
 uF:PySem.W.keepIn K (.ref D.f9)=true
 Jt:mg "_law_memory" = some (.ref D.ft)
 sJ:PySem.W.keepIn K (.ref D.ft)=true
 xx:mg "_law_said" = some (.ref D.ib)
 oZ:PySem.W.keepIn K (.ref D.ib)=true
 C0:mg "_law_shape" = some (.ref D.gc)
 pU:PySem.W.keepIn K (.ref D.gc)=true
 LN:mg "_law_roomy" = some (.ref D.gf)
 uG:PySem.W.keepIn K (.ref D.gf)=true
 LO:mg "_law_moved" = some (.ref D.gg)
 uH:PySem.W.keepIn K (.ref D.gg)=true
 aoy:mg "law" = some (.ref D.KR)
 Zi:PySem.W.keepIn K (.ref D.KR)=true
 ji:mg "len" = none
 tw:mg "range" = none
 yQ:mg "list" = none
 xN:mg "sorted" = none
 Xl:mg "sum" = none
 Xm:mg "abs" = none
 ic:mg "enumerate" = none
 Xn:mg "all" = none
 uI:mg "ValueError" = none
 NP:mg "dict" = none
 Ip:mg "HANDS" = some (.int 8 D.Im)
 pV:mg "WEAK_NAMES" = some (.int 8 D.pP)
 sL:mg "MOST_FIELDS" = some (.int 6 D.nW)
 pW:mg "LEAST_ROOM" = some (.int 7 D.pQ)
 uJ:mg "MOST_YOUNG" = some (.int 64 D.pR)
 uK:mg "MOST_LIMIT" = some (.int 400 D.pS)
 mE:mg "MOST_BEARERS" = some (.int 12 D.mz)
structure Ok(P:Program)(w:World)(K:W.Frag)(mg:Str->Option Value)(base:Heap)(n:Nat)(f:Addr)(fd:FuncData)(ps:List Str)(sp:Sp):Prop where
 g:Dv P w K mg base (CXE P w) n f fd ps sp
 b:Binds K fd ps []
section
variable{X:Cx}{n k:Nat}{f C:Addr}{fd:FuncData}{ps:List Str}{sp:Sp}{EK:St->XK}{x mn:Str}{p apos pos:Pos}{ex o:Expr}{es:List Expr}{t:TA}{ta:TE}
theorem Ok.c(G:Ok X.prog X.w X.K X.mg X.base n f fd ps sp)(hr:mW k X.A)(hm:X.mg x=some (.ref f))(hk:PySem.W.keepIn X.K (.ref f)=true)(hx:iA (CXE X.prog X.w) X EK)(ha:PA X (ex::es) t)(hn:n<=k:=by decide)(hg:Gl X x:=by exact rfl)(hdb:(x == ("__debug__" : Str))=false:=by decide)(he:starEach (ex::es) X.env=(false,eval ex X.env)::starEach es X.env:=by rfl)(hpl:(backTo pos (starEach es X.env)).any (·.1)=false:=by rfl):PE X (.Call (.Name x p) (ex::es) [] pos) (Xf sp [] EK t):=vL G.g (hr.mono hn) hg hm hk G.b .nil hx ha hdb he hpl
theorem Ok.m{pl:Sem Bool}(G:Ok X.prog X.w X.K X.mg X.base n f fd ps sp)(hr:mW k X.A)(he:PE X o ta)(c:Cls X.K C)(hm:Meth X.K C mn f)(hx:iA (CXE X.prog X.w) X EK)(ha:PA X (ex::es) t)(hn:n<=k:=by decide)(hst:starEach (ex::es) X.env=(false,eval ex X.env)::starEach es X.env:=by rfl)(hpl:(backTo pos (starEach es X.env)).any (·.1)=false:=by rfl)
  (ht:eval (.Call (.Attribute o mn apos) (ex::es) [] pos) X.env=(do let ov <-eval o X.env;standAt apos.atName;let (f,first) <-holding [ov] (getMethod ov mn pl);callWith pos f first (backTo pos (starEach (ex::es) X.env)) (backToKw pos (keywordEach [] X.env))):=by rfl):PE X (.Call (.Attribute o mn apos) (ex::es) [] pos) (UO C mn sp [] EK ta t):=Yb he c hm G.g (hr.mono hn) G.b .nil hx ha hst hpl ht
theorem Ok.m0{pl:Sem Bool}(G:Ok X.prog X.w X.K X.mg X.base n f fd ps sp)(hr:mW k X.A)(he:PE X o ta)(c:Cls X.K C)(hm:Meth X.K C mn f)(hx:iA (CXE X.prog X.w) X EK)(hn:n<=k:=by decide)
  (ht:eval (.Call (.Attribute o mn apos) [] [] pos) X.env=(do let ov <-eval o X.env;standAt apos.atName;let (f,first) <-holding [ov] (getMethod ov mn pl);callWith pos f first (backTo pos (starEach [] X.env)) (backToKw pos (keywordEach [] X.env))):=by rfl):PE X (.Call (.Attribute o mn apos) [] [] pos) (UO C mn sp [] EK ta YY):=Vq he c hm G.g (hr.mono hn) G.b .nil hx ht
theorem Ok.e(G:Ok X.prog X.w X.K X.mg X.base n f fd ps sp)(hr:mW k X.A)(M:MkX X.K C f)(hm:X.mg x=some (.ref C))(hx:iA (CXE X.prog X.w) X EK)(ha:PA X (ex::es) t)(hn:n+1<=k:=by decide)(hg:Gl X x:=by exact rfl)(hps:ps.length<=1000:=by decide)(hdb:(x == ("__debug__" : Str))=false:=by decide)(he:starEach (ex::es) X.env=(false,eval ex X.env)::starEach es X.env:=by rfl)(hpl:(backTo pos (starEach es X.env)).any (·.1)=false:=by rfl):PE X (.Call (.Name x p) (ex::es) [] pos) (ajT C sp EK t):=Z0 M G.g (hr.mono hn) hg hm G.b hx ha hps hdb he hpl
end
section
variable{P:Program}{w:World}{K:W.Frag}{mg:Str->Option Value}{base:Heap}{x qual:Str}{st:Stmt}{f:Addr}{fd:FuncData}{N ps:List Str}{k:Nat}{sp:Sp}
theorem _root_.L2.Fun.oa(F:Fun K x qual st f fd)(S:av N ps (ar st))(B:Binds K fd ps [])
  (QS:∀(cdv:Value) (A:Around) (outer:List Env) (s:Shared) (H:Hp) (vs:List V) (Q:VK) (E:XK),mW k (A.deeper (PyProof.Rows.envOfC qual (ar st) s.heap.objs.size f cdv))->sp vs H Q E->∃ t,PSs (cxE P w K mg base N qual (ar st) f cdv A outer s H E) (jZ st) t/\t {nx:=λ_ H'=>Q .non H',rt:=Q} (start N vs) H)
  (len:∀ vs H Q E,sp vs H Q E->vs.length=ps.length:=by(intro vs H Q E h;repeat (first|(obtain⟨rfl,_⟩:=h;rfl)|obtain⟨_,h⟩:=h))):9e7 (k+1) f fd ps sp:=⟨F.okE S len QS,B⟩
theorem fsc{N P:List Str}{sc:Scope}(h1:sc.kind=.function:=by exact rfl)(h2:sc.isCoroutine=false:=by exact rfl)(h3:sc.isGenerator=false:=by exact rfl)(h4:N.Nodup:=by decide +kernel)(h5:N.take P.length=P:=by exact rfl)(h6:∀ x∈P,sc.names.lookup x=some .local\/sc.names.lookup x=some .cell:=by decide +kernel)(h7:∀ y∈sc.names,y.2≠.free:=by decide +kernel):av N P sc:=⟨h1,h2,h3,h4,h5,h6,h7⟩
theorem _root_.L2.Fun.b1{p0:Str}(F:Fun K x qual st f fd)(h:∀(kV doc pm:Value) (an:Option Addr) (cdv ct:Value) (u0:Value),bindArgs (PySem.W.fnOf x qual (lG st) (jZ st) (ar st) .none kV doc pm an cdv ct) ⟨[u0],[]⟩=pure (([p0]:List Str).zip [u0]):=by intros;rfl):Binds K fd [p0] []:=F.binds (ps:=[p0]) λkV doc pm an cdv ct us hl=>match us,hl with|[u0],_=>h kV doc pm an cdv ct u0
theorem _root_.L2.Fun.b2{p0 p1:Str}(F:Fun K x qual st f fd)(h:∀(kV doc pm:Value) (an:Option Addr) (cdv ct:Value) (u0 u1:Value),bindArgs (PySem.W.fnOf x qual (lG st) (jZ st) (ar st) .none kV doc pm an cdv ct) ⟨[u0,u1],[]⟩=pure (([p0,p1]:List Str).zip [u0,u1]):=by intros;rfl):Binds K fd [p0,p1] []:=F.binds (ps:=[p0,p1]) λkV doc pm an cdv ct us hl=>match us,hl with|[u0,u1],_=>h kV doc pm an cdv ct u0 u1
theorem _root_.L2.Fun.b3{p0 p1 p2:Str}(F:Fun K x qual st f fd)(h:∀(kV doc pm:Value) (an:Option Addr) (cdv ct:Value) (u0 u1 u2:Value),bindArgs (PySem.W.fnOf x qual (lG st) (jZ st) (ar st) .none kV doc pm an cdv ct) ⟨[u0,u1,u2],[]⟩=pure (([p0,p1,p2]:List Str).zip [u0,u1,u2]):=by intros;rfl):Binds K fd [p0,p1,p2] []:=F.binds (ps:=[p0,p1,p2]) λkV doc pm an cdv ct us hl=>match us,hl with|[u0,u1,u2],_=>h kV doc pm an cdv ct u0 u1 u2
theorem _root_.L2.Fun.b4{p0 p1 p2 p3:Str}(F:Fun K x qual st f fd)(h:∀(kV doc pm:Value) (an:Option Addr) (cdv ct:Value) (u0 u1 u2 u3:Value),bindArgs (PySem.W.fnOf x qual (lG st) (jZ st) (ar st) .none kV doc pm an cdv ct) ⟨[u0,u1,u2,u3],[]⟩=pure (([p0,p1,p2,p3]:List Str).zip [u0,u1,u2,u3]):=by intros;rfl):Binds K fd [p0,p1,p2,p3] []:=F.binds (ps:=[p0,p1,p2,p3]) λkV doc pm an cdv ct us hl=>match us,hl with|[u0,u1,u2,u3],_=>h kV doc pm an cdv ct u0 u1 u2 u3
theorem _root_.L2.Fun.b5{p0 p1 p2 p3 p4:Str}(F:Fun K x qual st f fd)(h:∀(kV doc pm:Value) (an:Option Addr) (cdv ct:Value) (u0 u1 u2 u3 u4:Value),bindArgs (PySem.W.fnOf x qual (lG st) (jZ st) (ar st) .none kV doc pm an cdv ct) ⟨[u0,u1,u2,u3,u4],[]⟩=pure (([p0,p1,p2,p3,p4]:List Str).zip [u0,u1,u2,u3,u4]):=by intros;rfl):Binds K fd [p0,p1,p2,p3,p4] []:=F.binds (ps:=[p0,p1,p2,p3,p4]) λkV doc pm an cdv ct us hl=>match us,hl with|[u0,u1,u2,u3,u4],_=>h kV doc pm an cdv ct u0 u1 u2 u3 u4
end
theorem px{P:Program}{w:World}{K:W.Frag}{mg:Str->Option Value}{base:Heap}{N:List Str}{qual:Str}{sc:Scope}{f:Addr}{cdv:Value}{A:Around}{outer:List Env}{s:Shared}{H:Hp}{E:XK}:iA (CXE P w) (cxE P w K mg base N qual sc f cdv A outer s H E) (λ_=>E):=Passes.x (UN λ_ _ _ q=>q)
inductive Wd where
 | no
 | num (x:Int)
 | th (t:Int)
 deriving DecidableEq
noncomputable def Wd.kind:Wd->Str
 | .no => "none"
 | .num _ => "number"
 | .th _ => "thing"
noncomputable def Wd.vl:Wd->Vl
 | .no=>.a .non
 | .num x=>.t [.a (.str "number"),.a (.int x)]
 | .th t=>.t [.a (.str "thing"),.a (.int t)]
noncomputable def WV(H:Hp)(v:V):Wd->Prop
 | .no=>v=.non
 | .num x=>∃ t,v=.ref t/\H t=some (.tup [.str "number",.int x])
 | .th x=>∃ t,v=.ref t/\H t=some (.tup [.str "thing",.int x])
noncomputable def bg(H H':Hp):Prop:=∀ t us,H t=some (.tup us)->H' t=some (.tup us)
theorem bg.of{H H':Hp}(s:aw H H'):bg H H':=λt us q=>s _ _ q
theorem bg.trans{H H1 H2:Hp}(a:bg H H1)(b:bg H1 H2):bg H H2:=λt us q=>b t us (a t us q)
theorem bg.set{H:Hp}{c:Addr}{u o:HO}(h:H c=some u)(n:∀ xs,u≠.tup xs):bg H (upd H c o):=λt us q=>by
 rw[af λe=>by rw[e,h]at q;exact n us (ao4 q)];exact q
theorem WV.keep{H H':Hp}{v:V}{w:Wd}(h:WV H v w)(s:bg H H'):WV H' v w:=by
 cases w with
 | no=>exact h
 | num n=>obtain⟨t,e,q⟩:=h;exact⟨t,e,s _ _ q⟩
 | th n=>obtain⟨t,e,q⟩:=h;exact⟨t,e,s _ _ q⟩
theorem NQ{H:Hp}{t:Addr}{z:Str}{n:Int}(h:H t=some (.tup [.str z,.int n])):Rp H 1 (.ref t) (.t [.a (.str z),.a (.int n)]):=by
 refine⟨t,_,rfl,h,rfl,λi u x h1 h2=>?_⟩
 match i,h1,h2 with
 | 0,h1,h2=>cases h1;cases h2;exact⟨rfl,rfl⟩
 | 1,h1,h2=>cases h1;cases h2;exact⟨rfl,rfl⟩
 | i+2,h1,_=>simp at h1
theorem WV.rp{H:Hp}{v:V}{w:Wd}(h:WV H v w):Rp H 1 v w.vl:=by
 cases w with
 | no=>exact⟨h,rfl⟩
 | num n=>obtain⟨t,rfl,q⟩:=h;exact NQ q
 | th n=>obtain⟨t,rfl,q⟩:=h;exact NQ q
noncomputable def Rel(H:Hp)(xs:List V)(ws:List Wd):Prop:=xs.length=ws.length/\∀(i:Nat) (v:V) (w:Wd),xs[i]?=some v->ws[i]?=some w->WV H v w
theorem Rel.keep{H H':Hp}{xs:List V}{ws:List Wd}(h:Rel H xs ws)(s:bg H H'):Rel H' xs ws:=⟨h.1,λi v w a b=>(h.2 i v w a b).keep s⟩
theorem Rel.get{H:Hp}{xs:List V}{ws:List Wd}(h:Rel H xs ws){i:Nat}(hi:i<ws.length):∃ v,xs[i]?=some v/\WV H v ws[i] :=
 ⟨_,aoF (by rw[h.1];exact hi),h.2 i _ _ (aoF (by rw[h.1];exact hi)) (aoF hi)⟩
theorem Rel.set{H:Hp}{xs:List V}{ws:List Wd}{i:Nat}{v:V}{w:Wd}(h:Rel H xs ws)(hv:WV H v w):Rel H (xs.set i v) (ws.set i w):=by
 refine⟨by rw[apb,apb];exact h.1,λj u y a b=>?_⟩;rw[aqw]at a b;by_cases e:i=j
 ·subst e
  simp only[if_true]at a b;split at a
  ·split at b
   ·cases a;cases b;exact hv
   ·cases b
  ·cases a
 ·rw[if_neg e]at a b
  exact h.2 j u y a b
theorem Rel.nil{H:Hp}{n:Nat}:Rel H (List.replicate n .non) (List.replicate n .no):=⟨by simp,λi v w a b=>by
 rw[apk (aoI a),apk (aoI b)];rfl⟩
noncomputable def nmV:Option Int->V
 | none=>.non
 | some t=>.int t
structure HS where
 my:Bool
 aZ:List Wd
 names:List (Option Int)
 cB:List (Int×Int)
 wO:List Int
 aQ:List (Int×List Wd)
 yng:List Int
 nxt:Int
 room:Int
 limit:Int
 eh:List Int
 rnd:Bool
structure HA where
 dx:Addr
 hd:Addr
 hdx:Addr
 hl:Addr
 hx:List V
 nt:Addr
 ntx:Addr
 nl:Addr
 wt:Addr
 wtx:Addr
 wb:Addr
 wl:Addr
 fh:Addr
 fa:Int->Addr
 fx:Int->List V
 yg:Addr
 dm:Addr
noncomputable def atts(A:HA)(s:HS):List (Str×V):=[("makes_young",.bl s.my),("in_hands",.ref A.hd),("weak_names",.ref A.nt),("last_words",.ref A.wt),("fields_held",.ref A.fh),("young_things",.ref A.yg),("next_thing",.int s.nxt),("young_room",.int s.room),("limit",.int s.limit),("doomed_things",.ref A.dm),("in_round",.bl s.rnd)]
theorem Zj{A:HA}{s:HS}:(atts A s).lookup ("makes_young" : Str)=some (.bl s.my):=by kernel_rfl
theorem pX{A:HA}{s:HS}:(atts A s).lookup ("in_hands" : Str)=some (.ref A.hd):=by kernel_rfl
theorem US{A:HA}{s:HS}:(atts A s).lookup ("weak_names" : Str)=some (.ref A.nt):=by kernel_rfl
theorem Zk{A:HA}{s:HS}:(atts A s).lookup ("last_words" : Str)=some (.ref A.wt):=by kernel_rfl
theorem tL{A:HA}{s:HS}:(atts A s).lookup ("fields_held" : Str)=some (.ref A.fh):=by kernel_rfl
theorem Rg{A:HA}{s:HS}:(atts A s).lookup ("young_things" : Str)=some (.ref A.yg):=by kernel_rfl
theorem Zl{A:HA}{s:HS}:(atts A s).lookup ("next_thing" : Str)=some (.int s.nxt):=by kernel_rfl
theorem acZ{A:HA}{s:HS}:(atts A s).lookup ("young_room" : Str)=some (.int s.room):=by kernel_rfl
theorem ac0{A:HA}{s:HS}:(atts A s).lookup ("limit" : Str)=some (.int s.limit):=by kernel_rfl
theorem Rh{A:HA}{s:HS}:(atts A s).lookup ("doomed_things" : Str)=some (.ref A.dm):=by kernel_rfl
theorem Xo{A:HA}{s:HS}:(atts A s).lookup ("in_round" : Str)=some (.bl s.rnd):=by kernel_rfl
theorem ac1{A:HA}{s:HS}{n:Int}:je "next_thing" (.int n) 5e8=atts A {s with nxt:=n}:=by kernel_rfl
theorem ac2{A:HA}{s:HS}{b:Bool}:je "in_round" (.bl b) 5e8=atts A {s with rnd:=b}:=by kernel_rfl
theorem ac3{A:HA}{s:HS}{a:Addr}:je "young_things" (.ref a) 5e8=atts {A with yg:=a} s:=by kernel_rfl
theorem ac4{A:HA}{s:HS}{a:Addr}:je "doomed_things" (.ref a) 5e8=atts {A with dm:=a} s:=by kernel_rfl
noncomputable def bkv(p:Int×Int):Key×V:=(Sum.inl p.1,.int p.2)
noncomputable def tkv(t:Int):Key×V:=(Sum.inl t,.bl true)
noncomputable def fkv(A:HA)(p:Int×List Wd):Key×V:=(Sum.inl p.1,.ref (A.fa p.1))
structure IH(D:Ad)(H:Hp)(x:Addr)(A:HA)(s:HS):Prop where
 ax:H x=some (.ins D.ab A.dx 5e8)
 ahd:H A.hd=some (.ins D.ba A.hdx [("words_held",.ref A.hl)])
 ahl:H A.hl=some (.lst A.hx)
 rhl:Rel H A.hx s.aZ
 ant:H A.nt=some (.ins D.aD A.ntx [("things_named",.ref A.nl)])
 anl:H A.nl=some (.lst (s.names.map nmV))
 awt:H A.wt=some (.ins D.aM A.wtx [("words_borne",.ref A.wb),("words_said",.ref A.wl)])
 awb:H A.wb=some (.dK (s.cB.map bkv))
 awl:H A.wl=some (.lst (s.wO.map V.int))
 afh:H A.fh=some (.dK (s.aQ.map (fkv A)))
 afl:∀ t ws,(t,ws)∈s.aQ->H (A.fa t)=some (.lst (A.fx t))/\Rel H (A.fx t) ws
 ayg:H A.yg=some (.dK (s.yng.map tkv))
 adm:H A.dm=some (.dK (s.eh.map tkv))
 nhn:A.hd≠A.nt
 l1:A.hl≠A.nl
 l2:A.hl≠A.wl
 l3:A.nl≠A.wl
 l4:∀ t ws,(t,ws)∈s.aQ->A.fa t≠A.hl/\A.fa t≠A.nl/\A.fa t≠A.wl
 l5:∀ t ws t' ws',(t,ws)∈s.aQ->(t',ws')∈s.aQ->A.fa t=A.fa t'->t=t'
 d1:A.wb≠A.fh
 d2:A.wb≠A.yg
 d3:A.wb≠A.dm
 d4:A.fh≠A.yg
 d5:A.fh≠A.dm
 d6:A.yg≠A.dm
inductive cJ(x:Addr)(A:HA)(s:HS):Addr->Prop where
 | x:cJ x A s x
 | hd:cJ x A s A.hd
 | hl:cJ x A s A.hl
 | nt:cJ x A s A.nt
 | nl:cJ x A s A.nl
 | wt:cJ x A s A.wt
 | wb:cJ x A s A.wb
 | wl:cJ x A s A.wl
 | fh:cJ x A s A.fh
 | yg:cJ x A s A.yg
 | dm:cJ x A s A.dm
 | fl {t:Int} {ws:List Wd}:(t,ws)∈s.aQ->cJ x A s (A.fa t)
theorem oj{C d C' d':Addr}{fs gs:List (Str×V)}(h:fs.length≠gs.length):HO.ins C d fs≠HO.ins C' d' gs:=λe=>by
 injection e with _ _ e;exact h (congrArg List.length e)
section
variable{D:Ad}{H H' H1 H2:Hp}{x:Addr}{A A':HA}{s s':HS}
theorem IH.is(J:IH D H x A s){b:Addr}(f:cJ x A s b):∃ u,H b=some u/\∀ xs,u≠.tup xs:=by
 cases f with
 | x=>exact⟨_,J.ax,λ_ z=>nomatch z⟩
 | hd=>exact⟨_,J.ahd,λ_ z=>nomatch z⟩
 | hl=>exact⟨_,J.ahl,λ_ z=>nomatch z⟩
 | nt=>exact⟨_,J.ant,λ_ z=>nomatch z⟩
 | nl=>exact⟨_,J.anl,λ_ z=>nomatch z⟩
 | wt=>exact⟨_,J.awt,λ_ z=>nomatch z⟩
 | wb=>exact⟨_,J.awb,λ_ z=>nomatch z⟩
 | wl=>exact⟨_,J.awl,λ_ z=>nomatch z⟩
 | fh=>exact⟨_,J.afh,λ_ z=>nomatch z⟩
 | yg=>exact⟨_,J.ayg,λ_ z=>nomatch z⟩
 | dm=>exact⟨_,J.adm,λ_ z=>nomatch z⟩
 | fl m=>exact⟨_,(J.afl _ _ m).1,λ_ z=>nomatch z⟩
theorem IH.keep(J:IH D H x A s)(k:∀ b u,cJ x A s b->H b=some u->H' b=some u)(t:bg H H'):IH D H' x A s :=
 ⟨k _ _ .x J.ax,k _ _ .hd J.ahd,k _ _ .hl J.ahl,J.rhl.keep t,k _ _ .nt J.ant,k _ _ .nl J.anl,k _ _ .wt J.awt,k _ _ .wb J.awb,k _ _ .wl J.awl,k _ _ .fh J.afh,λu ws m=>⟨k _ _ (.fl m) (J.afl _ _ m).1,(J.afl _ _ m).2.keep t⟩,k _ _ .yg J.ayg,k _ _ .dm J.adm,
  J.nhn,J.l1,J.l2,J.l3,J.l4,J.l5,J.d1,J.d2,J.d3,J.d4,J.d5,J.d6⟩
theorem IH.same(J:IH D H x A s)(k:aw H H'):IH D H' x A s:=J.keep (λ_ _ _ q=>k _ _ q) (bg.of k)
structure Fr(F:Addr->Prop)(H:Hp)(F':Addr->Prop)(H':Hp):Prop where
 ext:∀ b u,¬F b->H b=some u->H' b=some u
 grow:∀ b,F' b->F b\/H b=none
 all:∀ b u,H b=some u->∃ u',H' b=some u'
 tup:bg H H'
variable{F F' F1 F2:Addr->Prop}
theorem Fr.trans(a:Fr F H F1 H1)(b:Fr F1 H1 F2 H2):Fr F H F2 H2 where
 ext:=λc u n q=>b.ext c u (λf=>(a.grow c f).elim n λe=>by rw[e]at q;cases q) (a.ext c u n q)
 grow:=λc f=>(b.grow c f).elim (λf1=>a.grow c f1) λe=>by
  cases q:H c with
  | none=>exact .inr rfl
  | some u=>obtain⟨u',q'⟩:=a.all c u q;rw[e]at q';cases q'
 all:=λc u q=>by obtain⟨u',q'⟩:=a.all c u q;exact b.all c u' q'
 tup:=a.tup.trans b.tup
theorem Fr.same(k:aw H H'):Fr F H F H':=⟨λ_ _ _ q=>k _ _ q,λ_ f=>.inl f,λb u q=>⟨u,k _ _ q⟩,bg.of k⟩
theorem Fr.refl:Fr F H F H:=Fr.same λ_ _ q=>q
theorem Fr.none(a:Fr F H F' H'){b:Addr}(h:H' b=none):H b=none:=by
 cases q:H b with
 | none=>rfl
 | some u=>obtain⟨u',q'⟩:=a.all b u q;rw[h]at q';cases q'
theorem Fr.set{b:Addr}{u o:HO}(f:F b)(hb:H b=some u)(n:∀ xs,u≠.tup xs)(g:∀ c,F' c->F c):Fr F H F' (upd H b o) where
 ext:=λc v nf q=>by rw[af λe=>nf (by rw[e];exact f)];exact q
 grow:=λc f=>.inl (g c f)
 all:=λc v q=>by
  by_cases e:c=b
  ·exact⟨o,by rw[e];exact ag⟩
  ·exact⟨v,by rw[af e];exact q⟩
 tup:=bg.set hb n
theorem Fr.out(a:Fr F H F' H'){b:Addr}{u:HO}(n:¬F b)(q:H b=some u):H' b=some u/\¬F' b:=⟨a.ext b u n q,λf=>(a.grow b f).elim n λe=>by rw[e]at q;cases q⟩
theorem IH.U1(J:IH D H x A s){xs:List V}{ws:List Wd}(r:Rel H xs ws):IH D (upd H A.hl 4e9) x {A with hx:=xs} {s with aZ:=ws}/\Fr 3e6 H (cJ x {A with hx:=xs} {s with aZ:=ws}) (upd H A.hl 4e9):=by
 have tk:bg H (upd H A.hl 4e9):=bg.set J.ahl 2e1;refine⟨⟨(by rw[af (az J.ax J.ahl 1e0)];exact J.ax),(by rw[af (az J.ahd J.ahl 1e0)];exact J.ahd),ag,r.keep tk,(by rw[af (az J.ant J.ahl 1e0)];exact J.ant),(by rw[af (aoT J.l1)];exact J.anl),(by rw[af (az J.awt J.ahl 1e0)];exact J.awt),(by rw[af (az J.awb J.ahl 1e0)];exact J.awb),(by rw[af (aoT J.l2)];exact J.awl),(by rw[af (az J.afh J.ahl 1e0)];exact J.afh),(λt ws m=>⟨by rw[af (J.l4 _ _ m).1];exact(J.afl _ _ m).1,(J.afl _ _ m).2.keep tk⟩),(by rw[af (az J.ayg J.ahl 1e0)];exact J.ayg),(by rw[af (az J.adm J.ahl 1e0)];exact J.adm),J.nhn,J.l1,J.l2,J.l3,J.l4,J.l5,J.d1,J.d2,J.d3,J.d4,J.d5,J.d6⟩,Fr.set .hl J.ahl 2e1 (λc f=>?_)⟩;cases f with
 | x=>exact .x
 | hd=>exact .hd
 | hl=>exact .hl
 | nt=>exact .nt
 | nl=>exact .nl
 | wt=>exact .wt
 | wb=>exact .wb
 | wl=>exact .wl
 | fh=>exact .fh
 | yg=>exact .yg
 | dm=>exact .dm
 | fl m=>exact .fl m
theorem IH.an7(J:IH D H x A s){ns:List (Option Int)}:IH D (upd H A.nl (.lst (ns.map nmV))) x A {s with names:=ns}/\Fr 3e6 H (cJ x A {s with names:=ns}) (upd H A.nl (.lst (ns.map nmV))):=by
 have tk:bg H (upd H A.nl (.lst (ns.map nmV))):=bg.set J.anl 2e1;refine⟨⟨(by rw[af (az J.ax J.anl 1e0)];exact J.ax),(by rw[af (az J.ahd J.anl 1e0)];exact J.ahd),(by rw[af J.l1];exact J.ahl),J.rhl.keep tk,(by rw[af (az J.ant J.anl 1e0)];exact J.ant),ag,(by rw[af (az J.awt J.anl 1e0)];exact J.awt),(by rw[af (az J.awb J.anl 1e0)];exact J.awb),(by rw[af (aoT J.l3)];exact J.awl),(by rw[af (az J.afh J.anl 1e0)];exact J.afh),(λt ws m=>⟨by rw[af (J.l4 _ _ m).2.1];exact(J.afl _ _ m).1,(J.afl _ _ m).2.keep tk⟩),(by rw[af (az J.ayg J.anl 1e0)];exact J.ayg),(by rw[af (az J.adm J.anl 1e0)];exact J.adm),J.nhn,J.l1,J.l2,J.l3,J.l4,J.l5,J.d1,J.d2,J.d3,J.d4,J.d5,J.d6⟩,Fr.set .nl J.anl 2e1 (λc f=>?_)⟩;cases f with
 | x=>exact .x
 | hd=>exact .hd
 | hl=>exact .hl
 | nt=>exact .nt
 | nl=>exact .nl
 | wt=>exact .wt
 | wb=>exact .wb
 | wl=>exact .wl
 | fh=>exact .fh
 | yg=>exact .yg
 | dm=>exact .dm
 | fl m=>exact .fl m
theorem IH.ajU(J:IH D H x A s){bs:List (Int×Int)}:IH D (upd H A.wb (.dK (bs.map bkv))) x A {s with cB:=bs}/\Fr 3e6 H (cJ x A {s with cB:=bs}) (upd H A.wb (.dK (bs.map bkv))):=by
 have tk:bg H (upd H A.wb (.dK (bs.map bkv))):=bg.set J.awb 2e1;refine⟨⟨(by rw[af (az J.ax J.awb 1e0)];exact J.ax),(by rw[af (az J.ahd J.awb 1e0)];exact J.ahd),(by rw[af (az J.ahl J.awb 1e0)];exact J.ahl),J.rhl.keep tk,(by rw[af (az J.ant J.awb 1e0)];exact J.ant),(by rw[af (az J.anl J.awb 1e0)];exact J.anl),(by rw[af (az J.awt J.awb 1e0)];exact J.awt),ag,(by rw[af (az J.awl J.awb 1e0)];exact J.awl),(by rw[af (aoT J.d1)];exact J.afh),(λt ws m=>⟨by rw[af (az (J.afl _ _ m).1 J.awb 1e0)];exact(J.afl _ _ m).1,(J.afl _ _ m).2.keep tk⟩),(by rw[af (aoT J.d2)];exact J.ayg),(by rw[af (aoT J.d3)];exact J.adm),J.nhn,J.l1,J.l2,J.l3,J.l4,J.l5,J.d1,J.d2,J.d3,J.d4,J.d5,J.d6⟩,Fr.set .wb J.awb 2e1 (λc f=>?_)⟩;cases f with
 | x=>exact .x
 | hd=>exact .hd
 | hl=>exact .hl
 | nt=>exact .nt
 | nl=>exact .nl
 | wt=>exact .wt
 | wb=>exact .wb
 | wl=>exact .wl
 | fh=>exact .fh
 | yg=>exact .yg
 | dm=>exact .dm
 | fl m=>exact .fl m
theorem IH.an8(J:IH D H x A s){zs:List Int}:IH D (upd H A.wl (.lst (zs.map V.int))) x A {s with wO:=zs}/\Fr 3e6 H (cJ x A {s with wO:=zs}) (upd H A.wl (.lst (zs.map V.int))):=by
 have tk:bg H (upd H A.wl (.lst (zs.map V.int))):=bg.set J.awl 2e1;refine⟨⟨(by rw[af (az J.ax J.awl 1e0)];exact J.ax),(by rw[af (az J.ahd J.awl 1e0)];exact J.ahd),(by rw[af J.l2];exact J.ahl),J.rhl.keep tk,(by rw[af (az J.ant J.awl 1e0)];exact J.ant),(by rw[af J.l3];exact J.anl),(by rw[af (az J.awt J.awl 1e0)];exact J.awt),(by rw[af (az J.awb J.awl 1e0)];exact J.awb),ag,(by rw[af (az J.afh J.awl 1e0)];exact J.afh),(λt ws m=>⟨by rw[af (J.l4 _ _ m).2.2];exact(J.afl _ _ m).1,(J.afl _ _ m).2.keep tk⟩),(by rw[af (az J.ayg J.awl 1e0)];exact J.ayg),(by rw[af (az J.adm J.awl 1e0)];exact J.adm),J.nhn,J.l1,J.l2,J.l3,J.l4,J.l5,J.d1,J.d2,J.d3,J.d4,J.d5,J.d6⟩,Fr.set .wl J.awl 2e1 (λc f=>?_)⟩;cases f with
 | x=>exact .x
 | hd=>exact .hd
 | hl=>exact .hl
 | nt=>exact .nt
 | nl=>exact .nl
 | wt=>exact .wt
 | wb=>exact .wb
 | wl=>exact .wl
 | fh=>exact .fh
 | yg=>exact .yg
 | dm=>exact .dm
 | fl m=>exact .fl m
theorem IH.an9(J:IH D H x A s){ts:List Int}:IH D (upd H A.yg (.dK (ts.map tkv))) x A {s with yng:=ts}/\Fr 3e6 H (cJ x A {s with yng:=ts}) (upd H A.yg (.dK (ts.map tkv))):=by
 have tk:bg H (upd H A.yg (.dK (ts.map tkv))):=bg.set J.ayg 2e1;refine⟨⟨(by rw[af (az J.ax J.ayg 1e0)];exact J.ax),(by rw[af (az J.ahd J.ayg 1e0)];exact J.ahd),(by rw[af (az J.ahl J.ayg 1e0)];exact J.ahl),J.rhl.keep tk,(by rw[af (az J.ant J.ayg 1e0)];exact J.ant),(by rw[af (az J.anl J.ayg 1e0)];exact J.anl),(by rw[af (az J.awt J.ayg 1e0)];exact J.awt),(by rw[af J.d2];exact J.awb),(by rw[af (az J.awl J.ayg 1e0)];exact J.awl),(by rw[af J.d4];exact J.afh),(λt ws m=>⟨by rw[af (az (J.afl _ _ m).1 J.ayg 1e0)];exact(J.afl _ _ m).1,(J.afl _ _ m).2.keep tk⟩),ag,(by rw[af (aoT J.d6)];exact J.adm),J.nhn,J.l1,J.l2,J.l3,J.l4,J.l5,J.d1,J.d2,J.d3,J.d4,J.d5,J.d6⟩,Fr.set .yg J.ayg 2e1 (λc f=>?_)⟩;cases f with
 | x=>exact .x
 | hd=>exact .hd
 | hl=>exact .hl
 | nt=>exact .nt
 | nl=>exact .nl
 | wt=>exact .wt
 | wb=>exact .wb
 | wl=>exact .wl
 | fh=>exact .fh
 | yg=>exact .yg
 | dm=>exact .dm
 | fl m=>exact .fl m
theorem IH.ajV(J:IH D H x A s){ts:List Int}:IH D (upd H A.dm (.dK (ts.map tkv))) x A {s with eh:=ts}/\Fr 3e6 H (cJ x A {s with eh:=ts}) (upd H A.dm (.dK (ts.map tkv))):=by
 have tk:bg H (upd H A.dm (.dK (ts.map tkv))):=bg.set J.adm 2e1;refine⟨⟨(by rw[af (az J.ax J.adm 1e0)];exact J.ax),(by rw[af (az J.ahd J.adm 1e0)];exact J.ahd),(by rw[af (az J.ahl J.adm 1e0)];exact J.ahl),J.rhl.keep tk,(by rw[af (az J.ant J.adm 1e0)];exact J.ant),(by rw[af (az J.anl J.adm 1e0)];exact J.anl),(by rw[af (az J.awt J.adm 1e0)];exact J.awt),(by rw[af J.d3];exact J.awb),(by rw[af (az J.awl J.adm 1e0)];exact J.awl),(by rw[af J.d5];exact J.afh),(λt ws m=>⟨by rw[af (az (J.afl _ _ m).1 J.adm 1e0)];exact(J.afl _ _ m).1,(J.afl _ _ m).2.keep tk⟩),(by rw[af J.d6];exact J.ayg),ag,J.nhn,J.l1,J.l2,J.l3,J.l4,J.l5,J.d1,J.d2,J.d3,J.d4,J.d5,J.d6⟩,Fr.set .dm J.adm 2e1 (λc f=>?_)⟩;cases f with
 | x=>exact .x
 | hd=>exact .hd
 | hl=>exact .hl
 | nt=>exact .nt
 | nl=>exact .nl
 | wt=>exact .wt
 | wb=>exact .wb
 | wl=>exact .wl
 | fh=>exact .fh
 | yg=>exact .yg
 | dm=>exact .dm
 | fl m=>exact .fl m
theorem IH.aoa(J:IH D H x A s){n:Int}:IH D (upd H x (.ins D.ab A.dx (je "next_thing" (.int n) 5e8))) x A {s with nxt:=n}/\Fr 3e6 H (cJ x A {s with nxt:=n}) (upd H x (.ins D.ab A.dx (je "next_thing" (.int n) 5e8))):=by
 have tk:bg H (upd H x (.ins D.ab A.dx (je "next_thing" (.int n) 5e8))):=bg.set J.ax 2e1;refine⟨⟨(by rw[ag,ac1]),(by rw[af (az J.ahd J.ax (oj (show(1:Nat)≠11 by decide)))];exact J.ahd),(by rw[af (az J.ahl J.ax 1e0)];exact J.ahl),J.rhl.keep tk,(by rw[af (az J.ant J.ax (oj (show(1:Nat)≠11 by decide)))];exact J.ant),(by rw[af (az J.anl J.ax 1e0)];exact J.anl),(by rw[af (az J.awt J.ax (oj (show(2:Nat)≠11 by decide)))];exact J.awt),(by rw[af (az J.awb J.ax 1e0)];exact J.awb),(by rw[af (az J.awl J.ax 1e0)];exact J.awl),(by rw[af (az J.afh J.ax 1e0)];exact J.afh),(λt ws m=>⟨by rw[af (az (J.afl _ _ m).1 J.ax 1e0)];exact(J.afl _ _ m).1,(J.afl _ _ m).2.keep tk⟩),(by rw[af (az J.ayg J.ax 1e0)];exact J.ayg),(by rw[af (az J.adm J.ax 1e0)];exact J.adm),J.nhn,J.l1,J.l2,J.l3,J.l4,J.l5,J.d1,J.d2,J.d3,J.d4,J.d5,J.d6⟩,Fr.set .x J.ax 2e1 (λc f=>?_)⟩;cases f with
 | x=>exact .x
 | hd=>exact .hd
 | hl=>exact .hl
 | nt=>exact .nt
 | nl=>exact .nl
 | wt=>exact .wt
 | wb=>exact .wb
 | wl=>exact .wl
 | fh=>exact .fh
 | yg=>exact .yg
 | dm=>exact .dm
 | fl m=>exact .fl m
theorem IH.ajW(J:IH D H x A s){n:Bool}:IH D (upd H x (.ins D.ab A.dx (je "in_round" (.bl n) 5e8))) x A {s with rnd:=n}/\Fr 3e6 H (cJ x A {s with rnd:=n}) (upd H x (.ins D.ab A.dx (je "in_round" (.bl n) 5e8))):=by
 have tk:bg H (upd H x (.ins D.ab A.dx (je "in_round" (.bl n) 5e8))):=bg.set J.ax 2e1;refine⟨⟨(by rw[ag,ac2]),(by rw[af (az J.ahd J.ax (oj (show(1:Nat)≠11 by decide)))];exact J.ahd),(by rw[af (az J.ahl J.ax 1e0)];exact J.ahl),J.rhl.keep tk,(by rw[af (az J.ant J.ax (oj (show(1:Nat)≠11 by decide)))];exact J.ant),(by rw[af (az J.anl J.ax 1e0)];exact J.anl),(by rw[af (az J.awt J.ax (oj (show(2:Nat)≠11 by decide)))];exact J.awt),(by rw[af (az J.awb J.ax 1e0)];exact J.awb),(by rw[af (az J.awl J.ax 1e0)];exact J.awl),(by rw[af (az J.afh J.ax 1e0)];exact J.afh),(λt ws m=>⟨by rw[af (az (J.afl _ _ m).1 J.ax 1e0)];exact(J.afl _ _ m).1,(J.afl _ _ m).2.keep tk⟩),(by rw[af (az J.ayg J.ax 1e0)];exact J.ayg),(by rw[af (az J.adm J.ax 1e0)];exact J.adm),J.nhn,J.l1,J.l2,J.l3,J.l4,J.l5,J.d1,J.d2,J.d3,J.d4,J.d5,J.d6⟩,Fr.set .x J.ax 2e1 (λc f=>?_)⟩;cases f with
 | x=>exact .x
 | hd=>exact .hd
 | hl=>exact .hl
 | nt=>exact .nt
 | nl=>exact .nl
 | wt=>exact .wt
 | wb=>exact .wb
 | wl=>exact .wl
 | fh=>exact .fh
 | yg=>exact .yg
 | dm=>exact .dm
 | fl m=>exact .fl m
noncomputable def wQ(fs:List (Int×List Wd))(t:Int)(ws:List Wd):List (Int×List Wd):=fs.map λp=>if p.1=t then(t,ws) else p
theorem Dk{fs:List (Int×List Wd)}{t t':Int}{ws ws':List Wd}(m:(t',ws')∈wQ fs t ws):∃ w0,(t',w0)∈fs/\t'=t':=by
 obtain⟨q,mq,e⟩:=ao5.mp m;by_cases c:q.1=t
 ·rw[if_pos c]at e
  cases e;exact⟨q.2,by rw[<-c];exact mq,rfl⟩
 ·rw[if_neg c]at e
  subst e;exact⟨_,mq,rfl⟩
theorem VB{A:HA}{fs:List (Int×List Wd)}{t:Int}{ws:List Wd}{xs:Int->List V}:(wQ fs t ws).map (fkv {A with fx:=xs})=fs.map (fkv A):=by
 unfold wQ;rw[apn];refine apD λp hp=>?_;show fkv {A with fx:=xs} (if p.1=t then(t,ws) else p)=fkv A p;by_cases c:p.1=t
 ·rw[if_pos c];unfold fkv;rw[c]
 ·rw[if_neg c];rfl
theorem IH.aob(J:IH D H x A s){t:Int}{w0:List Wd}(m:(t,w0)∈s.aQ){xs:List V}{ws:List Wd}(r:Rel H xs ws):IH D (upd H (A.fa t) 4e9) x {A with fx:=λu=>if u=t then xs else A.fx u} {s with aQ:=wQ s.aQ t ws}/\Fr 3e6 H (cJ x {A with fx:=λu=>if u=t then xs else A.fx u} {s with aQ:=wQ s.aQ t ws}) (upd H (A.fa t) 4e9):=by
 have tk:bg H (upd H (A.fa t) 4e9):=bg.set (J.afl _ _ m).1 2e1;refine⟨⟨(by rw[af (aoT (az (J.afl _ _ m).1 J.ax 1e0))];exact J.ax),(by rw[af (aoT (az (J.afl _ _ m).1 J.ahd 1e0))];exact J.ahd),(by rw[af (aoT (J.l4 _ _ m).1)];exact J.ahl),J.rhl.keep tk,(by rw[af (aoT (az (J.afl _ _ m).1 J.ant 1e0))];exact J.ant),(by rw[af (aoT (J.l4 _ _ m).2.1)];exact J.anl),(by rw[af (aoT (az (J.afl _ _ m).1 J.awt 1e0))];exact J.awt),(by rw[af (aoT (az (J.afl _ _ m).1 J.awb 1e0))];exact J.awb),(by rw[af (aoT (J.l4 _ _ m).2.2)];exact J.awl),(by rw[af (aoT (az (J.afl _ _ m).1 J.afh 1e0)),VB];exact J.afh),(λt' ws' m'=>by
  obtain⟨q,mq,e⟩:=ao5.mp m';by_cases c:q.1=t
  ·rw[if_pos c]at e
   cases e;dsimp only;rw[if_pos rfl];exact⟨ag,r.keep tk⟩
  ·rw[if_neg c]at e
   subst e;dsimp only;rw[if_neg c];exact⟨by rw[af λz=>c (J.l5 _ _ _ _ mq m z)];exact(J.afl _ _ mq).1,(J.afl _ _ mq).2.keep tk⟩),(by rw[af (aoT (az (J.afl _ _ m).1 J.ayg 1e0))];exact J.ayg),(by rw[af (aoT (az (J.afl _ _ m).1 J.adm 1e0))];exact J.adm),J.nhn,J.l1,J.l2,J.l3,(λt' ws' m'=>by obtain⟨q,mq,e1⟩:=Dk m';rw[<-e1];exact J.l4 _ _ mq),(λt1 w1 t2 w2 m1 m2 z=>by obtain⟨q1,mq1,e1⟩:=Dk m1;obtain⟨q2,mq2,e2⟩:=Dk m2;rw[<-e1,<-e2]at z ⊢;exact J.l5 _ _ _ _ mq1 mq2 z),J.d1,J.d2,J.d3,J.d4,J.d5,J.d6⟩,Fr.set (.fl m) (J.afl _ _ m).1 2e1 (λc f=>?_)⟩
 cases f with
 | x=>exact .x
 | hd=>exact .hd
 | hl=>exact .hl
 | nt=>exact .nt
 | nl=>exact .nl
 | wt=>exact .wt
 | wb=>exact .wb
 | wl=>exact .wl
 | fh=>exact .fh
 | yg=>exact .yg
 | dm=>exact .dm
 | fl m'=>obtain⟨w0,m0,_⟩:=Dk m';exact .fl m0
theorem IH.fresh(J:IH D H x A s){b:Addr}(h:H b=none):¬cJ x A s b:=λf=>by
 obtain⟨u,q,_⟩:=J.is f;rw[h]at q;cases q
theorem IH.ac5(J:IH D H x A s){t:Int}{b:Addr}{xs:List V}{ws:List Wd}(hb:H b=none)(hn:∀ w,(t,w)∉s.aQ)(r:Rel H xs ws) :
  IH D (upd (upd H b 4e9) A.fh (.dK (s.aQ.map (fkv A)++[(Sum.inl t,.ref b)]))) x {A with fa:=λu=>if u=t then b else A.fa u,fx:=λu=>if u=t then xs else A.fx u} {s with aQ:=s.aQ++[(t,ws)]} /\
  Fr 3e6 H (cJ x {A with fa:=λu=>if u=t then b else A.fa u,fx:=λu=>if u=t then xs else A.fx u} {s with aQ:=s.aQ++[(t,ws)]}) (upd (upd H b 4e9) A.fh (.dK (s.aQ.map (fkv A)++[(Sum.inl t,.ref b)]))):=by
 have s1:aw H (upd H b 4e9):=aw.upd hb;have nb:∀ {c:Addr} {u:HO},H c=some u->c≠b:=λq=>ao q hb;have J1:=J.same s1;have tk:bg (upd H b 4e9) (upd (upd H b 4e9) A.fh (.dK (s.aQ.map (fkv A)++[(Sum.inl t,.ref b)]))):=bg.set J1.afh 2e1;have tk0:bg H (upd (upd H b 4e9) A.fh (.dK (s.aQ.map (fkv A)++[(Sum.inl t,.ref b)]))):=(bg.of s1).trans tk;have kt:∀ {t':Int} {w:List Wd},(t',w)∈s.aQ->t'≠t:=λm e=>hn _ (by rw[<-e];exact m);have mm:∀ {t':Int} {w:List Wd},(t',w)∈s.aQ++[(t,ws)]->(t',w)∈s.aQ\/(t'=t/\w=ws):=λm=>by
  rcases aoU.mp m with m|m
  ·exact .inl m
  ·cases aoH.mp m;exact .inr ⟨rfl,rfl⟩
 have bf:b≠A.fh:=aoT (nb J.afh);have fk:(s.aQ++[(t,ws)]).map (fkv {A with fa:=λu=>if u=t then b else A.fa u,fx:=λu=>if u=t then xs else A.fx u})=s.aQ.map (fkv A)++[(Sum.inl t,.ref b)]:=by
  rw[aoV];congr 1
  ·refine apD λp hp=>?_
   unfold fkv;simp only;rw[if_neg (kt (t':=p.1) (w:=p.2) hp)]
  ·simp only[ao8,aqk,fkv,if_true]
 refine⟨⟨(by rw[af (az J.ax J.afh 1e0)];exact J1.ax),(by rw[af (az J.ahd J.afh 1e0)];exact J1.ahd),(by rw[af (az J.ahl J.afh 1e0)];exact J1.ahl),J.rhl.keep tk0,(by rw[af (az J.ant J.afh 1e0)];exact J1.ant),(by rw[af (az J.anl J.afh 1e0)];exact J1.anl),(by rw[af (az J.awt J.afh 1e0)];exact J1.awt),(by rw[af J.d1];exact J1.awb),(by rw[af (az J.awl J.afh 1e0)];exact J1.awl),(by rw[fk];exact ag),(λt' w m=>by
  rcases mm m with m|⟨e1,e2⟩
  ·show _=_/\_
   simp only[if_neg (kt m)];exact⟨by rw[af (az (J.afl _ _ m).1 J.afh 1e0)];exact s1 _ _ (J.afl _ _ m).1,(J.afl _ _ m).2.keep tk0⟩
  ·subst e1 e2
   simp only[if_true];exact⟨by rw[af bf];exact ag,r.keep tk0⟩),(by rw[af (aoT J.d4)];exact J1.ayg),(by rw[af (aoT J.d5)];exact J1.adm),J.nhn,J.l1,J.l2,J.l3,(λt' w m=>by
  rcases mm m with m|⟨e1,e2⟩
  ·simp only[if_neg (kt m)]
   exact J.l4 _ _ m
  ·subst e1
   simp only[if_true];exact⟨aoT (nb J.ahl),aoT (nb J.anl),aoT (nb J.awl)⟩),(λt1 w1 t2 w2 m1 m2 z=>by
  simp only at z;rcases mm m1 with m1|⟨e1,_⟩
  ·rw[if_neg (kt m1)]at z
   rcases mm m2 with m2|⟨e2,_⟩
   ·rw[if_neg (kt m2)]at z
    exact J.l5 _ _ _ _ m1 m2 z
   ·rw[if_pos e2]at z
    exact absurd z (nb (J.afl _ _ m1).1)
  ·rw[if_pos e1]at z
   rcases mm m2 with m2|⟨e2,_⟩
   ·rw[if_neg (kt m2)]at z
    exact absurd z.symm (nb (J.afl _ _ m2).1)
   ·rw[e1,e2]),J.d1,J.d2,J.d3,J.d4,J.d5,J.d6⟩,?_⟩
 refine⟨λc u nf q=>?_,λc f=>?_,λc u q=>?_,tk0⟩
 ·rw[af λe=>nf (by rw[e];exact .fh)]
  exact s1 _ _ q
 ·cases f with
  | x=>exact .inl .x
  | hd=>exact .inl .hd
  | hl=>exact .inl .hl
  | nt=>exact .inl .nt
  | nl=>exact .inl .nl
  | wt=>exact .inl .wt
  | wb=>exact .inl .wb
  | wl=>exact .inl .wl
  | fh=>exact .inl .fh
  | yg=>exact .inl .yg
  | dm=>exact .inl .dm
  | @fl t' w m =>
   rcases mm m with m|⟨e,_⟩
   ·refine .inl ?_
    show cJ x A s (if t'=t then b else A.fa t');rw[if_neg (kt m)];exact .fl m
   ·refine .inr ?_
    show H (if t'=t then b else A.fa t')=none;rw[if_pos e];exact hb
 ·by_cases e:c=A.fh
  ·exact⟨_,by rw[e];exact ag⟩
  ·exact⟨u,by rw[af e];exact s1 _ _ q⟩
end
section
variable{P:Program}{w:World}{K:W.Frag}{mg:Str->Option Value}{base:Heap}{D:Ad}
theorem SO{t u:TS}{D:Ends}{σ:St}{H:Hp}(h:∀ N:St->Hp->Prop,(∀ σ' H',u D σ' H'->N σ' H')->t {D with nx:=N} σ H):Nv t u D σ H:=h (u D) (λ_ _ q=>q)
theorem Wf{P:Program}{w:World}{X:Cx}:Passes (CXE P w) X (λ_ _ _=>False):=λ_ _ _ _ _ _ _ ⟨_,_,_,_,_,_,_,_,_,q⟩=>q.elim
theorem b7{H0 H:Hp}{K:W.Frag}{E E2:XK}{C:Addr}{y:Str}(ec:NA K C)(h0:∀ b,H b=none->H0 b=none)(k:∀ H',aw H H'->E (.ref C) none H')(ea:Addr)(hea:H ea=none) :
  AM K [.ref ea,.str y] (upd H ea (exo true C ea none)) (λv H2=>v=.non/\(λ(v:V) (H1:Hp)=>∃ ea C od,v=.ref ea/\H1 ea=some (exo true C ea od)/\(∃ cd,jC K C cd)/\H0 ea=none/\E 3e7 od (del H1 ea)) (.ref ea) H2) E2:=by
 refine⟨ea,C,none,.str y,rfl,ag,ec.cls,rfl,ea,C,none,rfl,ag,ec.cls,h0 _ hea,k _ λb o q=>?_⟩;have nb:b≠ea:=λe=>by rw[e,hea]at q;cases q
 rw[yM nb,af nb];exact q
noncomputable def Bad(C:Addr)(H:Hp)(E:XK):Prop:=∀ H',aw H H'->E 3e7 none H'
theorem Bad.same{C:Addr}{H H1:Hp}{E:XK}(k:Bad C H E)(s:aw H H1):Bad C H1 E:=λH' s'=>k H' (s.trans s')
noncomputable def Sm(n:Int):Prop:=n.natAbs.log2<1920
theorem Sm.of{n:Int}(h0:-1000000<=n)(h1:n<=1000000):Sm n:=K8 (Nat.lt_trans (show n.natAbs<2000000 by omega) 2e0)
noncomputable def wat(ws:List Wd)(h:Int):Option Wd:=if 0<=h/\h<8 then ws[h.toNat]? else none
theorem uf{ws:List Wd}{h:Int}{wd:Wd}(e:wat ws h=some wd):0<=h/\h<8/\ws[h.toNat]?=some wd:=by
 unfold wat at e;by_cases g:0<=h/\h<8
 ·rw[if_pos g]at e;exact⟨g.1,g.2,e⟩
 ·rw[if_neg g]at e;cases e
theorem VC{ws:List Wd}{h:Int}(l:ws.length=8)(e:wat ws h=none):¬(0<=h/\h<8):=λg=>by
 unfold wat at e;rw[if_pos g,aoF 1e1]at e;cases e
theorem yR{xs:List V}{a:Int}{v:V}(h0:0<=a)(h:xs[a.toNat]?=some v):atI xs a=some v:=by
 have e:a=(a.toNat:Int):=by omega
 rw[e];exact yK h
theorem Iq{n:Nat}{a:Int}(h0:0<=a)(h1:a<n):ixN n a=some a.toNat:=by
 unfold ixN;rw[if_pos h0,if_pos h1]
structure Hn(D:Ad)(H:Hp)(hd hdx hl:Addr)(xs:List V)(ws:List Wd):Prop where
 i:H hd=some (.ins D.ba hdx [("words_held",.ref hl)])
 l:H hl=some 4e9
 r:Rel H xs ws
 n:ws.length=8
theorem Hn.same{D:Ad}{H H':Hp}{hd hdx hl:Addr}{xs:List V}{ws:List Wd}(h:Hn D H hd hdx hl xs ws)(s:aw H H'):Hn D H' hd hdx hl xs ws:=⟨s _ _ h.i,s _ _ h.l,h.r.keep (bg.of s),h.n⟩
theorem Hn.at_{D:Ad}{H:Hp}{hd hdx hl:Addr}{xs:List V}{ws:List Wd}(N:Hn D H hd hdx hl xs ws){h:Int}{wd:Wd}(e:wat ws h=some wd):∃ v,xs[h.toNat]?=some v/\WV H v wd:=by
 obtain⟨h0,h1,e⟩:=uf e;have hi:h.toNat<ws.length:=by rw[N.n];omega
 obtain⟨v,e1,e2⟩:=N.r.get hi;rw[aoF hi]at e;cases e;exact⟨v,e1,e2⟩
theorem Hn.ix{D:Ad}{H:Hp}{hd hdx hl:Addr}{xs:List V}{ws:List Wd}(N:Hn D H hd hdx hl xs ws){h:Int}(g:0<=h/\h<8):ixN xs.length h=some h.toNat:=Iq g.1 (by rw[N.r.1,N.n];exact g.2)
noncomputable abbrev vP:List Str:=["self","text"]
theorem vc:av vP ["self","text"] (ar jJ):=fsc
theorem ve(F:Fun K "__init__" "HeapError.__init__" jJ D.aq D.aA)(T:Txt K mg D):9e7 1 D.aq D.aA ["self","text"] (AM K):=by
 refine F.oa vc F.b2 λcdv A' outer s' H vs Q E hr h=>?_;obtain⟨ea,C,od,x,rfl,h1,hc,k⟩:=h;refine⟨_,(aj (aE (acM rfl T.uI (aa (pv 0) 2e2)))),?_⟩;exact⟨_,rfl,_,rfl,ea,C,od,[x],rfl,(by show 1<=1000;decide),h1,hc,k⟩
noncomputable def NR:Sp:=λvs H Q _=>∃ v wd,vs=[v]/\WV H v wd/\Q (.str wd.kind) H
noncomputable abbrev Ul:List Str:=["value"]
theorem Ir:av Ul ["value"] (ar yC):=fsc
theorem Ri(F:Fun K "kind_of" "kind_of" yC D.eI D.ig)(T:Txt K mg D):9e7 1 D.eI D.ig ["value"] (NR):=by
 refine F.oa Ir F.b1 λcdv A' outer s' H vs Q E hr h=>?_;obtain⟨v,wd,rfl,hv,k⟩:=h;refine⟨_,(aj (aF (pB (aG jI (pv 0) bR (aU _)) cK (bT cf (pv 0) au 1e7)))),?_⟩;cases wd with
 | no =>
  obtain rfl:v=.non:=hv;exact⟨_,rfl,rfl,_,rfl,eT (λ_=>k) (λh=>absurd 1e9 h)⟩
 | num n =>
  obtain⟨t,rfl,ht⟩:=hv;exact⟨_,rfl,rfl,_,rfl,eT (λh=>by simp at h) (λ_=>⟨_,rfl,t,_,0,_,rfl,rfl,SqT.of ht,rfl,k⟩)⟩
 | th n =>
  obtain⟨t,rfl,ht⟩:=hv;exact⟨_,rfl,rfl,_,rfl,eT (λh=>by simp at h) (λ_=>⟨_,rfl,t,_,0,_,rfl,rfl,SqT.of ht,rfl,k⟩)⟩
noncomputable def eC(D:Ad):Sp:=λvs H Q E=>∃ n:Int,vs=[.int n]/\Sm n/\(if 0<=n/\n<8 then Q .non H else Bad D.bZ H E)
noncomputable abbrev GU:List Str:=["h"]
theorem FL:av GU ["h"] (ar qu):=fsc
theorem FO(F:Fun K "look_at_hand" "look_at_hand" qu D.bq D.cQ)(T:Txt K mg D)
  (ak:9e7 1 D.aq D.aA ["self","text"] (AM K)):9e7 3 D.bq D.cQ ["h"] (eC D):=by
 refine F.oa FL F.b1 λcdv A' outer s' H vs Q E hr h=>?_;obtain⟨n,rfl,hb,k⟩:=h;refine⟨_,(aj (bS (qJ (pE AK yy au (pv 0) (mX (v:=.int 8) rfl T.Ip ⟨_,rfl⟩)))
   (aj (fA rfl kj (ak.e hr T.AS T.AR px (aa (i4 (aY (km (pv 0)) (aY gj i3))) ah))))
   aR)),?_⟩
 by_cases g:0<=n/\n<8
 ·rw[if_pos g]at k
  refine⟨_,rfl,0,n,rfl,rfl,_,rfl,eT (λ_=>⟨n,8,rfl,rfl,_,rfl,eT (λh2=>absurd h2 (by rw[decide_eq_true g.2];decide)) (λ_=>k)⟩) (λh1=>absurd (decide_eq_true g.1) h1)⟩
 ·rw[if_neg g]at k
  by_cases g0:0<=n
  ·have g1:¬n<8:=λz=>g ⟨g0,z⟩
   refine⟨_,rfl,0,n,rfl,rfl,_,rfl,eT (λ_=>⟨n,8,rfl,rfl,_,rfl,eT (λ_=>⟨_,rfl,n,rfl,hb,λy hy ea hea=>b7 T.nX 5e6 k ea hea⟩) (λh2=>absurd (by rw[decide_eq_false g1];rfl) h2)⟩) (λh1=>absurd (decide_eq_true g0) h1)⟩
  ·refine⟨_,rfl,0,n,rfl,rfl,_,rfl,eT (λh1=>absurd (of_decide_eq_true h1) g0) (λ_=>⟨_,rfl,vK ⟨_,rfl,n,rfl,hb,λy hy ea hea=>b7 T.nX 5e6 k ea hea⟩⟩)⟩
noncomputable def pz(D:Ad):Sp:=λvs H Q E=>∃ n:Int,vs=[.int n]/\Sm n/\(if 0<=n/\n<8 then Q .non H else Bad D.fS H E)
noncomputable abbrev GV:List Str:=["w"]
theorem FP:av GV ["w"] (ar qv):=fsc
theorem FQ(F:Fun K "look_at_name" "look_at_name" qv D.c7 D.iM)(T:Txt K mg D)
  (ak:9e7 1 D.aq D.aA ["self","text"] (AM K)):9e7 3 D.c7 D.iM ["w"] (pz D):=by
 refine F.oa FP F.b1 λcdv A' outer s' H vs Q E hr h=>?_;obtain⟨n,rfl,hb,k⟩:=h;refine⟨_,(aj (bS (qJ (pE AK yy au (pv 0) (mX (v:=.int 8) rfl T.pV ⟨_,rfl⟩)))
   (aj (fA rfl kj (ak.e hr T.Q2 T.Q1 px (aa (i4 (aY (km (pv 0)) (aY gj i3))) ah))))
   aR)),?_⟩
 by_cases g:0<=n/\n<8
 ·rw[if_pos g]at k
  refine⟨_,rfl,0,n,rfl,rfl,_,rfl,eT (λ_=>⟨n,8,rfl,rfl,_,rfl,eT (λh2=>absurd h2 (by rw[decide_eq_true g.2];decide)) (λ_=>k)⟩) (λh1=>absurd (decide_eq_true g.1) h1)⟩
 ·rw[if_neg g]at k
  by_cases g0:0<=n
  ·have g1:¬n<8:=λz=>g ⟨g0,z⟩
   refine⟨_,rfl,0,n,rfl,rfl,_,rfl,eT (λ_=>⟨n,8,rfl,rfl,_,rfl,eT (λ_=>⟨_,rfl,n,rfl,hb,λy hy ea hea=>b7 T.Io 5e6 k ea hea⟩) (λh2=>absurd (by rw[decide_eq_false g1];rfl) h2)⟩) (λh1=>absurd (decide_eq_true g0) h1)⟩
  ·refine⟨_,rfl,0,n,rfl,rfl,_,rfl,eT (λh1=>absurd (of_decide_eq_true h1) g0) (λ_=>⟨_,rfl,vK ⟨_,rfl,n,rfl,hb,λy hy ea hea=>b7 T.Io 5e6 k ea hea⟩⟩)⟩
noncomputable def rW(D:Ad):Sp:=λvs H Q E=>∃ n:Int,vs=[.int n]/\Sm n/\(if 0<=n/\n<=6 then Q (.int (n+1)) H else Bad D.dF H E)
noncomputable abbrev Rj:List Str:=["fields"]
theorem Oo:av Rj ["fields"] (ar AO):=fsc
theorem Oq(F:Fun K "words_of" "words_of" AO D.gK D.lA)(T:Txt K mg D)
  (ak:9e7 1 D.aq D.aA ["self","text"] (AM K)):9e7 3 D.gK D.lA ["fields"] (rW D):=by
 refine F.oa Oo F.b1 λcdv A' outer s' H vs Q E hr h=>?_;obtain⟨n,rfl,hb,k⟩:=h;refine⟨_,(ai (bS (qJ (pE AK AK au (pv 0) (mX (v:=.int 6) rfl T.sL ⟨_,rfl⟩)))
   (aj (fA rfl kj (ak.e hr T.oV T.oQ px (aa (i4 (aY (km (pv 0)) (aY gj i3))) ah))))
   aR)
  (aj (aF (aJ cc (pv 0) au)))),?_⟩
 by_cases g:0<=n/\n<=6
 ·rw[if_pos g]at k
  refine⟨_,rfl,0,n,rfl,rfl,_,rfl,eT (λ_=>⟨n,6,rfl,rfl,_,rfl,eT (λh2=>absurd h2 (by rw[decide_eq_true g.2];decide)) (λ_=>⟨_,rfl,n,1,rfl,rfl,k⟩)⟩) (λh1=>absurd (decide_eq_true g.1) h1)⟩
 ·rw[if_neg g]at k
  by_cases g0:0<=n
  ·have g1:¬n<=6:=λz=>g ⟨g0,z⟩
   refine⟨_,rfl,0,n,rfl,rfl,_,rfl,eT (λ_=>⟨n,6,rfl,rfl,_,rfl,eT (λ_=>⟨_,rfl,n,rfl,hb,λy hy ea hea=>b7 T.xo 5e6 k ea hea⟩) (λh2=>absurd (by rw[decide_eq_false g1];rfl) h2)⟩) (λh1=>absurd (decide_eq_true g0) h1)⟩
  ·refine⟨_,rfl,0,n,rfl,rfl,_,rfl,eT (λh1=>absurd (of_decide_eq_true h1) g0) (λ_=>⟨_,rfl,vK ⟨_,rfl,n,rfl,hb,λy hy ea hea=>b7 T.xo 5e6 k ea hea⟩⟩)⟩
noncomputable def nJ(D:Ad):Sp:=λvs H Q E=>∃ n m:Int,vs=[.int n,.int m]/\Sm n/\Sm m/\(if 0<=n/\n<m then Q .non H else Bad D.gJ H E)
noncomputable abbrev FR:List Str:=["k","fields"]
theorem DC:av FR ["k","fields"] (ar pj):=fsc
theorem DD(F:Fun K "look_at_field" "look_at_field" pj D.cR D.gP)(T:Txt K mg D)
  (ak:9e7 1 D.aq D.aA ["self","text"] (AM K)):9e7 3 D.cR D.gP ["k","fields"] (nJ D):=by
 refine F.oa DC F.b2 λcdv A' outer s' H vs Q E hr h=>?_;obtain⟨n,m,rfl,hb,hm,k⟩:=h;refine⟨_,(aj (bS (qJ (pE AK yy au (pv 0) (pv 1)))
   (aj (fA rfl kj (ak.e hr T.Of T.Oe px (aa (i4 (aY gj (aY (km (pv 1)) (aY gj (aY (km (pv 0)) i3))))) ah))))
   aR)),?_⟩
 by_cases g:0<=n/\n<m
 ·rw[if_pos g]at k
  refine⟨_,rfl,0,n,rfl,rfl,_,rfl,eT (λ_=>⟨_,rfl,n,m,rfl,rfl,_,rfl,eT (λh2=>absurd h2 (by rw[decide_eq_true g.2];decide)) (λ_=>k)⟩) (λh1=>absurd (decide_eq_true g.1) h1)⟩
 ·rw[if_neg g]at k
  by_cases g0:0<=n
  ·have g1:¬n<m:=λz=>g ⟨g0,z⟩
   refine⟨_,rfl,0,n,rfl,rfl,_,rfl,eT (λ_=>⟨_,rfl,n,m,rfl,rfl,_,rfl,eT (λ_=>⟨_,rfl,m,rfl,hm,_,rfl,n,rfl,hb,λy hy ea hea=>b7 T.Fj 5e6 k ea hea⟩) (λh2=>absurd (by rw[decide_eq_false g1];rfl) h2)⟩) (λh1=>absurd (decide_eq_true g0) h1)⟩
  ·refine⟨_,rfl,0,n,rfl,rfl,_,rfl,eT (λh1=>absurd (of_decide_eq_true h1) g0) (λ_=>⟨_,rfl,vK ⟨_,rfl,m,rfl,hm,_,rfl,n,rfl,hb,λy hy ea hea=>b7 T.Fj 5e6 k ea hea⟩⟩)⟩
noncomputable def Num(x:Int):Prop:=-(10 ^ 60)<=x/\x<=10 ^ 60
noncomputable instance {x:Int}:Decidable (Num x):=inferInstanceAs (Decidable (_/\_))
noncomputable def lY(D:Ad):Sp:=λvs H Q E=>∃ x:Int,vs=[.int x]/\Sm x/\(if Num x then Q .non H else Bad D.dF H E)
noncomputable abbrev DE:List Str:=["x"]
theorem Be:av DE ["x"] (ar ng):=fsc
theorem Bf(F:Fun K "look_at_number" "look_at_number" ng D.cp D.gn)(T:Txt K mg D)
  (ak:9e7 1 D.aq D.aA ["self","text"] (AM K)):9e7 3 D.cp D.gn ["x"] (lY D):=by
 refine F.oa Be F.b1 λcdv A' outer s' H vs Q E hr h=>?_;obtain⟨x,rfl,hb,k⟩:=h;refine⟨_,(aj (bS (aG QM (bj Vf rfl T.Xm PyProof.Rows.Boot.«abs» 6e0) (aJ Df au au) (aU _))
   (aj (fA rfl kj (ak.e hr T.oV T.oQ px (aa (i4 (aY (km (pv 0)) (aY gj i3))) ah))))
   aR)),?_⟩
 have e60:((10:Int) ^ (60:Int).toNat)=10 ^ 60:=rfl;by_cases g:Num x
 ·rw[if_pos g]at k
  refine⟨_,rfl,x,rfl,10,60,rfl,rfl,⟨by decide,by decide,by decide⟩,_,_,rfl,rfl,_,rfl,eT (λh=>absurd (of_decide_eq_true h) ?_) (λ_=>k)⟩
  have:=g.1
  have:=g.2
  rw[e60];split<;>omega
 ·rw[if_neg g]at k
  refine⟨_,rfl,x,rfl,10,60,rfl,rfl,⟨by decide,by decide,by decide⟩,_,_,rfl,rfl,_,rfl,eT (λ_=>⟨_,rfl,x,rfl,hb,λy hy ea hea=>b7 T.xo 5e6 k ea hea⟩) (λh=>absurd (decide_eq_true ?_) h)⟩;unfold Num at g;rw[e60];split<;>omega
noncomputable def u5(D:Ad):Sp:=λvs H Q E=>∃ x:Int,vs=[.int x]/\Sm x/\(if Num x then ∀ t H',aw H H'->H' t=some (.tup [.str "number",.int x])->Q (.ref t) H' else Bad D.dF H E)
noncomputable abbrev GW:List Str:=["x"]
theorem FT:av GW ["x"] (ar qt):=fsc
theorem FU(F:Fun K "number_value" "number_value" qt D.dX D.jR)(T:Txt K mg D)
  (gq:9e7 3 D.cp D.gn ["x"] (lY D)):9e7 4 D.dX D.jR ["x"] (u5 D):=by
 refine F.oa FT F.b1 λcdv A' outer s' H vs Q E hr h=>?_;obtain⟨x,rfl,hb,k⟩:=h;refine⟨_,(ai (aE (gq.c hr T.tm T.j7 px 6e0))
  (aj (aF (cW (aa cK 6e0))))),?_⟩
 refine⟨_,rfl,x,rfl,hb,?_⟩;by_cases g:Num x
 ·rw[if_pos g]at k ⊢
  exact⟨_,rfl,by show 2<=sizeLine;decide,λt ht=>k t _ (aw.upd ht) ag⟩
 ·rw[if_neg g]at k ⊢
  exact k
noncomputable def iP:Sp:=λvs H Q E=>∃ x:Int,vs=[.int x]/\0<=x/\∀ t H',aw H H'->H' t=some (.tup [.str "thing",.int x])->Q (.ref t) H'
noncomputable abbrev Ju:List Str:=["t"]
theorem GX:av Ju ["t"] (ar sg):=fsc
theorem GY(F:Fun K "thing_value" "thing_value" sg D.cx D.eU)(T:Txt K mg D)
  (ak:9e7 1 D.aq D.aA ["self","text"] (AM K)):9e7 3 D.cx D.eU ["t"] (iP):=by
 refine F.oa GX F.b1 λcdv A' outer s' H vs Q E hr h=>?_;obtain⟨x,rfl,h0,k⟩:=h;refine⟨_,(ai (bS (aG yy (pv 0) au (aU _))
   (aj (fA rfl kj (ak.e hr T.oV T.oQ px (aa (i4 (aY (km (pv 0)) (aY gj i3))) ah))))
   aR)
  (aj (aF (cW (aa cK 6e0))))),?_⟩
 exact⟨_,rfl,x,0,rfl,rfl,_,rfl,eT (λh=>absurd (of_decide_eq_true h) 1e1) (λ_=>⟨_,rfl,by show 2<=sizeLine;decide,λt ht=>k t _ (aw.upd ht) ag⟩)⟩
noncomputable def rA:Sp:=λvs H Q E=>∃ y l:Int,vs=[.int y,.int l]/\(y=0\/(7<=y/\y<=64))/\7<=l/\l<=400/\Q .non H
noncomputable abbrev DF:List Str:=["young","limit"]
theorem Bg:av DF ["young","limit"] (ar nr):=fsc
theorem Bh(F:Fun K "look_at_limits" "look_at_limits" nr D.cU D.iC)(T:Txt K mg D)
  (ak:9e7 1 D.aq D.aA ["self","text"] (AM K)):9e7 3 D.cU D.iC ["young","limit"] (rA):=by
 refine F.oa Bg F.b2 λcdv A' outer s' H vs Q E hr h=>?_;obtain⟨y,l,rfl,hy,l0,l1,k⟩:=h;refine⟨_,(ai (bS (PW.pt (pw_and (aG QL (pv 0) au (aU _)) (pw_and1 (qJ (pE AK AK (mX (v:=.int 7) rfl T.pW ⟨_,rfl⟩) (pv 0) (mX (v:=.int 64) rfl T.uJ ⟨_,rfl⟩))))))
   (aj (fA rfl kj (ak.e hr T.oV T.oQ px (aa (i4 (aY (km (pv 0)) (aY gj i3))) ah))))
   aR)
  (aj (bS (qJ (pE AK AK (mX (v:=.int 7) rfl T.pW ⟨_,rfl⟩) (pv 1) (mX (v:=.int 400) rfl T.uK ⟨_,rfl⟩)))
   (aj (fA rfl kj (ak.e hr T.oV T.oQ px (aa (i4 (aY (km (pv 1)) (aY gj i3))) ah))))
   aR))),?_⟩
 refine SO λN hN=>?_;have rest:N [some (.int y),some (.int l)] H:=by
  refine hN _ _ ?_;exact⟨_,rfl,7,l,rfl,rfl,_,rfl,eT (λ_=>⟨l,400,rfl,rfl,_,rfl,eT (λh2=>absurd h2 (by rw[decide_eq_true l1];decide)) (λ_=>k)⟩) (λh1=>absurd (decide_eq_true l0) h1)⟩
 rcases hy with rfl|⟨y0,y1⟩
 ·exact⟨_,rfl,rfl,_,rfl,eT (λh=>absurd h 2e0) (λ_=>xI rest)⟩
 ·refine⟨_,rfl,rfl,_,rfl,eT (λ_=>?_) (λh=>absurd (show(!decide (V.int y=V.int 0))=true from ?_) h)⟩
  ·exact⟨_,rfl,7,y,rfl,rfl,_,rfl,eT (λ_=>⟨y,64,rfl,rfl,_,rfl,eT (λh2=>absurd h2 (by rw[decide_eq_true y1];decide)) (λ_=>rest)⟩) (λh1=>absurd (decide_eq_true y0) h1)⟩
  ·rw[decide_eq_false (by intro z;injection z with z;omega)];rfl
noncomputable def But(m:Addr)(H H':Hp):Prop:=∀ b u,b≠m->H b=some u->H' b=some u
theorem But.upd{m a:Addr}{H:Hp}{o:HO}(h:H a=none):But m H (L2.upd H a o):=λb u _ q=>by rw[af (ao q h)];exact q
theorem But.self{m:Addr}{H:Hp}{o:HO}:But m H (L2.upd H m o):=λb u n q=>by rw[af n];exact q
theorem But.trans{m:Addr}{H H1 H2:Hp}(a:But m H H1)(b:But m H1 H2):But m H H2:=λc u n q=>b c u n (a c u n q)
theorem aw.none{H H':Hp}(s:aw H H'){b:Addr}(h:H' b=none):H b=none:=by
 cases q:H b with
 | none=>rfl
 | some u=>rw[s _ _ q]at h;cases h
theorem ajX:(List.replicate (8:Int).toNat [V.non]).flatten=List.replicate 8 .non:=rfl
theorem lookup_some{α:Type}{bs:List (Int×α)}{t:Int}{v:α}(h:bs.lookup t=some v):(t,v)∈bs:=by
 induction bs with
 | nil=>cases h
 | cons p r ih =>
  obtain⟨a,b⟩:=p;rw[apK]at h;by_cases e:t == a
  ·rw[e]at h
   rw[beq_iff_eq]at e;subst e;cases h;exact ao3
  ·rw[Bool.not_eq_true]at e
   rw[e]at h;exact ao6 _ (ih h)
theorem lookup_none{α:Type}{bs:List (Int×α)}{t:Int}(h:bs.lookup t=none):∀ p∈bs,p.1≠t:=by
 induction bs with
 | nil=>intro p hp;cases hp
 | cons p r ih =>
  obtain⟨a,b⟩:=p;rw[apK]at h;by_cases e:t == a
  ·rw[e]at h;cases h
  ·rw[Bool.not_eq_true]at e
   rw[e]at h;intro q hq;rcases ao2.mp hq with rfl|hq
   ·exact λz=>by rw[beq_eq_false_iff_ne]at e;exact e z.symm
   ·exact ih h q hq
theorem Iu{α:Type}{f:Int×α->Key×V}{bs:List (Int×α)}{t:Int}(hf:∀ p,(f p).1=Sum.inl p.1):ir (bs.map f) 2e7=(bs.lookup t).map λv=>(f (t,v)).2:=by
 induction bs with
 | nil=>rfl
 | cons p r ih =>
  obtain⟨a,b⟩:=p;rw[ao8,apK];by_cases e:t=a
  ·subst e
   rw[fP (hf (t,b)),beq_self_eq_true];rfl
  ·rw[fz (by rw[hf (a,b)];exact λz=>e (Sum.inl.inj z).symm),beq_eq_false_iff_ne.mpr e,ih]
theorem acg{bs:List (Int×Int)}{t:Int}:ir (bs.map bkv) 2e7=(bs.lookup t).map V.int:=Iu λ_=>rfl
noncomputable def Lg(bs:List (Int×Int))(t x:Int):List (Int×Int):=if(bs.lookup t).isSome=true then bs.map (λp=>if p.1=t then(t,x) else p) else bs++[(t,x)]
theorem P1{bs:List (Int×Int)}{t x:Int}:(Lg bs t x).map bkv=putK (bs.map bkv) 2e7 (.int x):=by
 unfold Lg putK;rw[ub,acg,apR];by_cases e:(bs.lookup t).isSome=true
 ·rw[if_pos e,if_pos e,apn,apn]
  refine apD λp hp=>?_;show bkv (if p.1=t then(t,x) else p)=if(bkv p).1=Sum.inl t then((bkv p).1,V.int x) else bkv p;by_cases c:p.1=t
  ·rw[if_pos c,if_pos (by show Sum.inl p.1=Sum.inl t;rw[c])];unfold bkv;rw[c]
  ·rw[if_neg c,if_neg (show ¬(bkv p).1=Sum.inl t from λz=>c (Sum.inl.inj (show(Sum.inl p.1:Key)=Sum.inl t from z)))]
 ·rw[if_neg e,if_neg e,aoV]
  rfl
structure Nt(D:Ad)(H:Hp)(nt ntx nl:Addr)(xs:List V):Prop where
 i:H nt=some (.ins D.aD ntx [("things_named",.ref nl)])
 l:H nl=some 4e9
 n:xs.length=8
structure Wt(D:Ad)(H:Hp)(wt wtx wb wl:Addr)(bs:List (Int×Int))(zs:List Int):Prop where
 i:H wt=some (.ins D.aM wtx [("words_borne",.ref wb),("words_said",.ref wl)])
 b:H wb=some (.dK (bs.map bkv))
 l:H wl=some (.lst (zs.map V.int))
noncomputable def yS(D:Ad):Sp:=λvs H Q _=>∃ m dx,vs=[.ref m]/\H m=some (.ins D.ba dx [])/\∀ c H',But m H H'->H c=none->H' c=some (.lst (List.replicate 8 .non))->H' m=some (.ins D.ba dx [("words_held",.ref c)])->Q .non H'
noncomputable abbrev DG:List Str:=["self"]
theorem Bi:av DG ["self"] (ar nv):=fsc
theorem Bj(F:Fun K "__init__" "Hands.__init__" nv D.dz D.iD)(T:Txt K mg D):9e7 1 D.dz D.iD ["self"] (yS D):=by
 refine F.oa Bi F.b1 λcdv A' outer s' H vs Q E hr h=>?_;obtain⟨m,dx,rfl,hm,k⟩:=h;refine⟨_,(aj (iL (pv 0) (aJ GC (lD (aa bR ah)) (mX (v:=.int 8) rfl T.Ip ⟨_,rfl⟩)) rfl)),?_⟩;refine⟨by show 1<=sizeLine;decide,λp hp=>⟨p,8,_,rfl,rfl,ag,by decide,by decide,by show 1*8<=sizeLine;decide,λq hq=>?_⟩⟩;have np:m≠p:=ao hm hp;have hm1:upd H p (.lst [.non]) m=some (.ins D.ba dx []):=by rw[af np];exact hm
 have nq:m≠q:=ao hm1 hq;have qp:q≠p:=λe=>by rw[e,ag]at hq;cases hq
 have hq0:H q=none:=by rw[af qp]at hq;exact hq
 refine⟨_,rfl,m,D.ba,dx,[],rfl,(by rw[af nq];exact hm1),T.a6,T.cO,by decide,?_⟩;refine k q _ (((But.upd hp).trans (But.upd hq)).trans But.self) hq0 ?_ ag;rw[af (aoT nq),ag,ajX]
noncomputable def rB(D:Ad):Sp:=λvs H Q _=>∃ m dx,vs=[.ref m]/\H m=some (.ins D.aD dx [])/\∀ c H',But m H H'->H c=none->H' c=some (.lst (List.replicate 8 .non))->H' m=some (.ins D.aD dx [("things_named",.ref c)])->Q .non H'
noncomputable abbrev vQ:List Str:=["self"]
theorem vg:av vQ ["self"] (ar jM):=fsc
theorem vh(F:Fun K "__init__" "NameTable.__init__" jM D.bV D.eX)(T:Txt K mg D):9e7 1 D.bV D.eX ["self"] (rB D):=by
 refine F.oa vg F.b1 λcdv A' outer s' H vs Q E hr h=>?_;obtain⟨m,dx,rfl,hm,k⟩:=h;refine⟨_,(aj (iL (pv 0) (aJ GC (lD (aa bR ah)) (mX (v:=.int 8) rfl T.pV ⟨_,rfl⟩)) rfl)),?_⟩;refine⟨by show 1<=sizeLine;decide,λp hp=>⟨p,8,_,rfl,rfl,ag,by decide,by decide,by show 1*8<=sizeLine;decide,λq hq=>?_⟩⟩;have np:m≠p:=ao hm hp;have hm1:upd H p (.lst [.non]) m=some (.ins D.aD dx []):=by rw[af np];exact hm
 have nq:m≠q:=ao hm1 hq;have qp:q≠p:=λe=>by rw[e,ag]at hq;cases hq
 have hq0:H q=none:=by rw[af qp]at hq;exact hq
 refine⟨_,rfl,m,D.aD,dx,[],rfl,(by rw[af nq];exact hm1),T.dS,T.ck,by decide,?_⟩;refine k q _ (((But.upd hp).trans (But.upd hq)).trans But.self) hq0 ?_ ag;rw[af (aoT nq),ag,ajX]
noncomputable def u6(D:Ad):Sp:=λvs H Q E=>∃ hd hdx hl xs ws,∃ h:Int,vs=[.ref hd,.int h]/\Hn D H hd hdx hl xs ws/\Sm h/\(match wat ws h with|some wd=>∀ v,xs[h.toNat]?=some v->WV H v wd->Q v H|none=>Bad D.bZ H E)
noncomputable abbrev FV:List Str:=["self","h"]
theorem DH:av FV ["self","h"] (ar pk):=fsc
theorem DI(F:Fun K "word_in" "Hands.word_in" pk D.cS D.fO)(T:Txt K mg D)
  (aN:9e7 3 D.bq D.cQ ["h"] (eC D)):9e7 4 D.cS D.fO ["self","h"] (u6 D):=by
 refine F.oa DH F.b2 λcdv A' outer s' H vs Q E hr h=>?_;obtain⟨hd,hdx,hl,xs,ws,h,rfl,N,hb,k⟩:=h;refine⟨_,(ai (aE (aN.c hr T.gH T.d8 px 2e2))
  (aj (aF (bT gI 1e5 (pv 1) 1e7)))),?_⟩
 refine⟨_,rfl,h,rfl,hb,?_⟩;cases e:wat ws h with
 | none =>
  rw[if_neg (VC N.n e)];rw[e]at k;exact k
 | some wd =>
  obtain⟨h0,h1,_⟩:=uf e;obtain⟨v,hv,wv⟩:=N.at_ e;rw[if_pos ⟨h0,h1⟩];rw[e]at k;exact⟨_,rfl,hd,D.ba,hdx,_,.ref hl,rfl,N.i,T.a6,T.cO,rfl,_,rfl,hl,xs,h,v,rfl,rfl,SqL.of N.l,yR h0 hv,k v hv wv⟩
noncomputable def yT(D:Ad):Sp:=λvs H Q E=>∃ hd hdx hl xs ws v,∃ h:Int,vs=[.ref hd,.int h,v]/\Hn D H hd hdx hl xs ws/\Sm h/\(if 0<=h/\h<8 then Q .non (upd H hl (.lst (xs.set h.toNat v))) else Bad D.bZ H E)
noncomputable abbrev Ot:List Str:=["self","h","word"]
theorem LP:av Ot ["self","h","word"] (ar wZ):=fsc
theorem LQ(F:Fun K "put" "Hands.put" wZ D.fJ D.i6)(T:Txt K mg D)
  (aN:9e7 3 D.bq D.cQ ["h"] (eC D)):9e7 4 D.fJ D.i6 ["self","h","word"] (yT D):=by
 refine F.oa LP F.b3 λcdv A' outer s' H vs Q E hr h=>?_;obtain⟨hd,hdx,hl,xs,ws,v,h,rfl,N,hb,k⟩:=h;refine⟨_,(ai (aE (aN.c hr T.gH T.d8 px 2e2))
  (aj (lC (pv 2) (ua 1e5 (pv 1) set_list)))),?_⟩
 refine⟨_,rfl,h,rfl,hb,?_⟩;by_cases g:0<=h/\h<8
 ·rw[if_pos g]at k ⊢
  exact⟨_,rfl,_,rfl,hd,D.ba,hdx,_,.ref hl,rfl,N.i,T.a6,T.cO,rfl,_,rfl,hl,xs,h,h.toNat,rfl,rfl,N.l,N.ix g,k⟩
 ·rw[if_neg g]at k ⊢
  exact k
noncomputable def P8(D:Ad):Sp:=λvs H Q E=>∃ hd hdx hl xs ws,∃ h g:Int,vs=[.ref hd,.int h,.int g]/\Hn D H hd hdx hl xs ws/\Sm h/\Sm g/\(if 0<=h/\h<8 then(match wat ws g with|some wd=>∀ v,WV H v wd->Q .non (upd H hl (.lst (xs.set h.toNat v)))|none=>Bad D.bZ H E) else Bad D.bZ H E)
noncomputable abbrev LR:List Str:=["self","h","g"]
theorem Jv:av LR ["self","h","g"] (ar uk):=fsc
theorem Jw(F:Fun K "copy" "Hands.copy" uk D.hR D.mI)(T:Txt K mg D)
  (aN:9e7 3 D.bq D.cQ ["h"] (eC D))
  (di:9e7 4 D.cS D.fO ["self","h"] (u6 D)):9e7 5 D.hR D.mI ["self","h","g"] (P8 D):=by
 refine F.oa Jv F.b3 λcdv A' outer s' H vs Q E hr h=>?_;obtain⟨hd,hdx,hl,xs,ws,h,g,rfl,N,hb,hg,k⟩:=h;refine⟨_,(ai (aE (aN.c hr T.gH T.d8 px 2e2))
  (aj (lC (di.m hr (pv 0) T.a6 T.nG px 3e3) (ua 1e5 (pv 1) set_list)))),?_⟩
 refine⟨_,rfl,h,rfl,hb,?_⟩;by_cases c:0<=h/\h<8
 ·rw[if_pos c]at k ⊢
  refine⟨_,rfl,hd,hdx,_,rfl,N.i,rfl,_,rfl,hd,hdx,hl,xs,ws,g,rfl,N,hg,?_⟩;cases e:wat ws g with
  | none =>
   rw[e]at k;exact k
  | some wd =>
   rw[e]at k;exact λv hv wv=>⟨_,rfl,hd,D.ba,hdx,_,.ref hl,rfl,N.i,T.a6,T.cO,rfl,_,rfl,hl,xs,h,h.toNat,rfl,rfl,N.l,N.ix c,k v wv⟩
 ·rw[if_neg c]at k ⊢
  exact k
noncomputable def Iv(D:Ad):Sp:=λvs H Q E=>∃ hd hdx hl xs ws,∃ h x:Int,vs=[.ref hd,.int h,.int x]/\Hn D H hd hdx hl xs ws/\Sm h/\Sm x/\(if 0<=h/\h<8 then(if Num x then ∀ t H',aw H H'->H' t=some (.tup [.str "number",.int x])->Q .non (upd H' hl (.lst (xs.set h.toNat (.ref t)))) else Bad D.dF H E) else Bad D.bZ H E)
noncomputable abbrev GZ:List Str:=["self","h","x"]
theorem FW:av GZ ["self","h","x"] (ar qx):=fsc
theorem FY(F:Fun K "number" "Hands.number" qx D.fI D.jT)(T:Txt K mg D)
  (aN:9e7 3 D.bq D.cQ ["h"] (eC D))
  (qC:9e7 4 D.dX D.jR ["x"] (u5 D)):9e7 5 D.fI D.jT ["self","h","x"] (Iv D):=by
 refine F.oa FW F.b3 λcdv A' outer s' H vs Q E hr h=>?_;obtain⟨hd,hdx,hl,xs,ws,h,x,rfl,N,hb,hx,k⟩:=h;refine⟨_,(ai (aE (aN.c hr T.gH T.d8 px 2e2))
  (aj (lC (qC.c hr T.GR T.qz px 3e3) (ua 1e5 (pv 1) set_list)))),?_⟩
 refine⟨_,rfl,h,rfl,hb,?_⟩;by_cases c:0<=h/\h<8
 ·rw[if_pos c]at k ⊢
  refine⟨_,rfl,x,rfl,hx,?_⟩;by_cases g:Num x
  ·rw[if_pos g]at k ⊢
   intro t H' sH ht;have N':=N.same sH;exact⟨_,rfl,hd,D.ba,hdx,_,.ref hl,rfl,N'.i,T.a6,T.cO,rfl,_,rfl,hl,xs,h,h.toNat,rfl,rfl,N'.l,N'.ix c,k t H' sH ht⟩
  ·rw[if_neg g]at k ⊢
   exact k
 ·rw[if_neg c]at k ⊢
  exact k
noncomputable def Dl(D:Ad):Sp:=λvs H Q E=>∃ hd hdx hl xs ws,∃ h:Int,vs=[.ref hd,.int h]/\Hn D H hd hdx hl xs ws/\Sm h/\(match wat ws h with|some wd=>∀ H',aw H H'->Q (.str wd.kind) H'|none=>Bad D.bZ H E)
noncomputable abbrev LS:List Str:=["self","h","kind"]
theorem yU:av LS ["self","h"] (ar uo):=fsc
theorem JA(F:Fun K "kind" "Hands.kind" uo D.fB D.i9)(T:Txt K mg D)
  (kE:9e7 1 D.eI D.ig ["value"] (NR))
  (di:9e7 4 D.cS D.fO ["self","h"] (u6 D)):9e7 5 D.fB D.i9 ["self","h"] (Dl D):=by
 refine F.oa yU F.b2 λcdv A' outer s' H vs Q E hr h=>?_;obtain⟨hd,hdx,hl,xs,ws,h,rfl,N,hb,k⟩:=h;refine⟨_,(ai (aO (i:=2) yU.nd rfl 1e3 (kE.c hr T.qO T.lJ px (aa (di.m hr (pv 0) T.a6 T.nG px 2e2) ah)))
  (aj (aF (pB (aG K3 (pv 2) (cW (aa cK (aa cK ah))) 3e2) (pv 2) cK)))),?_⟩
 refine⟨_,rfl,hd,hdx,_,rfl,N.i,rfl,_,rfl,hd,hdx,hl,xs,ws,h,rfl,N,hb,?_⟩;cases e:wat ws h with
 | none =>
  rw[e]at k;exact k
 | some wd =>
  rw[e]at k;intro v hv wv;refine⟨v,wd,rfl,wv,?_⟩;cases wd with
  | no=>exact⟨_,rfl,by show 2<=sizeLine;decide,λt ht=>⟨t,_,rfl,.inr (SqT.of ag),rfl,rfl,_,rfl,eT (λ_=>⟨_,rfl,k _ (aw.upd ht)⟩) (λh=>absurd 1e4 h)⟩⟩
  | num n=>exact⟨_,rfl,by show 2<=sizeLine;decide,λt ht=>⟨t,_,rfl,.inr (SqT.of ag),rfl,rfl,_,rfl,eT (λ_=>⟨_,rfl,k _ (aw.upd ht)⟩) (λh=>absurd 1e4 h)⟩⟩
  | th n=>exact⟨_,rfl,by show 2<=sizeLine;decide,λt ht=>⟨t,_,rfl,.inr (SqT.of ag),rfl,rfl,_,rfl,eT (λh=>absurd h (apm.mp 1e4)) (λ_=>k _ (aw.upd ht))⟩⟩
noncomputable def P9(D:Ad):Sp:=λvs H Q E=>∃ hd hdx hl xs ws,∃ h:Int,vs=[.ref hd,.int h]/\Hn D H hd hdx hl xs ws/\Sm h/\(match wat ws h with|some (.num x)=>∀ H',aw H H'->Q (.int x) H'|_=>Bad D.bZ H E)
noncomputable abbrev JB:List Str:=["self","h"]
theorem G0:av JB ["self","h"] (ar sj):=fsc
theorem G4(F:Fun K "value" "Hands.value" sj D.gp D.kH)(T:Txt K mg D)
  (ak:9e7 1 D.aq D.aA ["self","text"] (AM K))
  (gi:9e7 5 D.fB D.i9 ["self","h"] (Dl D)):9e7 6 D.gp D.kH ["self","h"] (P9 D):=by
 refine F.oa G0 F.b2 λcdv A' outer s' H vs Q E hr h=>?_;obtain⟨hd,hdx,hl,xs,ws,h,rfl,N,hb,k⟩:=h;refine⟨_,(ai (bS (aG QL (gi.m hr (pv 0) T.a6 T.sE px 2e2) cK (aU _))
   (aj (fA rfl kj (ak.e hr T.AS T.AR px (aa (i4 (aY gj (aY (km (pv 1)) (aY gj i3)))) ah))))
   aR)
  (aj (aF (bT cf (bT gI 1e5 (pv 1) 1e7) au 1e7)))),?_⟩
 refine⟨_,rfl,hd,hdx,_,rfl,N.i,rfl,_,rfl,hd,hdx,hl,xs,ws,h,rfl,N,hb,?_⟩;cases e:wat ws h with
 | none =>
  rw[e]at k;exact k
 | some wd =>
  rw[e]at k;cases wd with
  | no=>exact λH1 s1=>⟨rfl,_,rfl,eT (λ_=>⟨_,rfl,h,rfl,hb,λy hy ea hea=>b7 T.nX (λ_ q=>aw.none s1 q) (Bad.same k s1) ea hea⟩) (λh=>absurd 1e4 h)⟩
  | num n =>
   intro H1 s1;have N1:=N.same s1;obtain⟨v,hv,wv⟩:=N1.at_ e;obtain⟨h0,h1,_⟩:=uf e;obtain⟨t,rfl,ht⟩:=wv;exact⟨rfl,_,rfl,eT (λh=>absurd h (apm.mp 1e4)) (λ_=>⟨_,rfl,hd,D.ba,hdx,_,.ref hl,rfl,N1.i,T.a6,T.cO,rfl,_,rfl,hl,xs,h,.ref t,rfl,rfl,SqL.of N1.l,yR h0 hv,t,_,1,.int n,rfl,rfl,SqT.of ht,rfl,k H1 s1⟩)⟩
  | th n =>
   exact λH1 s1=>⟨rfl,_,rfl,eT (λ_=>⟨_,rfl,h,rfl,hb,λy hy ea hea=>b7 T.nX (λ_ q=>aw.none s1 q) (Bad.same k s1) ea hea⟩) (λh=>absurd 1e4 h)⟩
noncomputable def kr(D:Ad):Sp:=λvs H Q E=>∃ hd hdx hl xs ws,∃ h:Int,vs=[.ref hd,.int h]/\Hn D H hd hdx hl xs ws/\Sm h/\(match wat ws h with|some (.th x)=>∀ H',aw H H'->Q (.int x) H'|_=>Bad D.bZ H E)
noncomputable abbrev Bk:List Str:=["self","h"]
theorem zo:av Bk ["self","h"] (ar lO):=fsc
theorem zq(F:Fun K "thing_due" "Hands.thing_due" lO D.bc D.cA)(T:Txt K mg D)
  (ak:9e7 1 D.aq D.aA ["self","text"] (AM K))
  (gi:9e7 5 D.fB D.i9 ["self","h"] (Dl D)):9e7 6 D.bc D.cA ["self","h"] (kr D):=by
 refine F.oa zo F.b2 λcdv A' outer s' H vs Q E hr h=>?_;obtain⟨hd,hdx,hl,xs,ws,h,rfl,N,hb,k⟩:=h;refine⟨_,(ai (bS (aG QL (gi.m hr (pv 0) T.a6 T.sE px 2e2) cK (aU _))
   (aj (fA rfl kj (ak.e hr T.AS T.AR px (aa (i4 (aY gj (aY (km (pv 1)) (aY gj i3)))) ah))))
   aR)
  (aj (aF (bT cf (bT gI 1e5 (pv 1) 1e7) au 1e7)))),?_⟩
 refine⟨_,rfl,hd,hdx,_,rfl,N.i,rfl,_,rfl,hd,hdx,hl,xs,ws,h,rfl,N,hb,?_⟩;cases e:wat ws h with
 | none =>
  rw[e]at k;exact k
 | some wd =>
  rw[e]at k;cases wd with
  | no=>exact λH1 s1=>⟨rfl,_,rfl,eT (λ_=>⟨_,rfl,h,rfl,hb,λy hy ea hea=>b7 T.nX (λ_ q=>aw.none s1 q) (Bad.same k s1) ea hea⟩) (λh=>absurd 1e4 h)⟩
  | num n =>
   exact λH1 s1=>⟨rfl,_,rfl,eT (λ_=>⟨_,rfl,h,rfl,hb,λy hy ea hea=>b7 T.nX (λ_ q=>aw.none s1 q) (Bad.same k s1) ea hea⟩) (λh=>absurd 1e4 h)⟩
  | th n =>
   intro H1 s1;have N1:=N.same s1;obtain⟨v,hv,wv⟩:=N1.at_ e;obtain⟨h0,h1,_⟩:=uf e;obtain⟨t,rfl,ht⟩:=wv;exact⟨rfl,_,rfl,eT (λh=>absurd h (apm.mp 1e4)) (λ_=>⟨_,rfl,hd,D.ba,hdx,_,.ref hl,rfl,N1.i,T.a6,T.cO,rfl,_,rfl,hl,xs,h,.ref t,rfl,rfl,SqL.of N1.l,yR h0 hv,t,_,1,.int n,rfl,rfl,SqT.of ht,rfl,k H1 s1⟩)⟩
noncomputable def pY(D:Ad):Sp:=λvs H Q E=>∃ hd hdx hl xs ws,vs=[.ref hd]/\Hn D H hd hdx hl xs ws/\∀ p H',aw H H'->H p=none->H' p=some 4e9->Q 4e3 H'
noncomputable abbrev Bl:List Str:=["self"]
theorem zu:av Bl ["self"] (ar lN):=fsc
theorem zw(F:Fun K "all_words" "Hands.all_words" lN D.bM D.dJ)(T:Txt K mg D):9e7 1 D.bM D.dJ ["self"] (pY D):=by
 refine F.oa zu F.b1 λcdv A' outer s' H vs Q E hr h=>?_;obtain⟨hd,hdx,hl,xs,ws,rfl,N,k⟩:=h;refine⟨_,(aj (aF (lF pM rfl T.yQ PyProof.Rows.Boot.«list» (aa 1e5 ah)))),?_⟩;exact⟨_,rfl,hd,D.ba,hdx,_,.ref hl,rfl,N.i,T.a6,T.cO,rfl,hl,xs,rfl,.inl (SqL.of N.l),λp hp=>k p _ (aw.upd hp) hp ag⟩
noncomputable def Qa(D:Ad):Sp:=λvs H Q E=>∃ nt ntx nl xs v,∃ w:Int,vs=[.ref nt,.int w,v]/\Nt D H nt ntx nl xs/\Sm w/\(if 0<=w/\w<8 then Q .non (upd H nl (.lst (xs.set w.toNat v))) else Bad D.fS H E)
noncomputable abbrev DJ:List Str:=["self","w","t"]
theorem Bn:av DJ ["self","w","t"] (ar nz):=fsc
theorem Bo(F:Fun K "name" "NameTable.name" nz D.dB D.iF)(T:Txt K mg D)
  (iQ:9e7 3 D.c7 D.iM ["w"] (pz D)):9e7 4 D.dB D.iF ["self","w","t"] (Qa D):=by
 refine F.oa Bn F.b3 λcdv A' outer s' H vs Q E hr h=>?_;obtain⟨nt,ntx,nl,xs,v,w,rfl,N,hb,k⟩:=h;refine⟨_,(ai (aE (iQ.c hr T.wL T.mB px 2e2))
  (aj (lC (pv 2) (ua 1e5 (pv 1) set_list)))),?_⟩
 refine⟨_,rfl,w,rfl,hb,?_⟩;by_cases g:0<=w/\w<8
 ·rw[if_pos g]at k ⊢
  exact⟨_,rfl,_,rfl,nt,D.aD,ntx,_,.ref nl,rfl,N.i,T.dS,T.ck,rfl,_,rfl,nl,xs,w,w.toNat,rfl,rfl,N.l,Iq g.1 (by rw[N.n];exact g.2),k⟩
 ·rw[if_neg g]at k ⊢
  exact k
noncomputable def Qb(D:Ad):Sp:=λvs H Q E=>∃ nt ntx nl xs,∃ w:Int,vs=[.ref nt,.int w]/\Nt D H nt ntx nl xs/\Sm w/\(if 0<=w/\w<8 then ∀ v,xs[w.toNat]?=some v->Q v H else Bad D.fS H E)
noncomputable abbrev Bp:List Str:=["self","w"]
theorem zA:av Bp ["self","w"] (ar lP):=fsc
theorem zC(F:Fun K "named" "NameTable.named" lP D.cY D.gY)(T:Txt K mg D)
  (iQ:9e7 3 D.c7 D.iM ["w"] (pz D)):9e7 4 D.cY D.gY ["self","w"] (Qb D):=by
 refine F.oa zA F.b2 λcdv A' outer s' H vs Q E hr h=>?_;obtain⟨nt,ntx,nl,xs,w,rfl,N,hb,k⟩:=h;refine⟨_,(ai (aE (iQ.c hr T.wL T.mB px 2e2))
  (aj (aF (bT gI 1e5 (pv 1) 1e7)))),?_⟩
 refine⟨_,rfl,w,rfl,hb,?_⟩;by_cases g:0<=w/\w<8
 ·rw[if_pos g]at k ⊢
  have hv:xs[w.toNat]?=some (xs[w.toNat]'(by rw[N.n];omega)):=aoF _;exact⟨_,rfl,nt,D.aD,ntx,_,.ref nl,rfl,N.i,T.dS,T.ck,rfl,_,rfl,nl,xs,w,_,rfl,rfl,SqL.of N.l,yR g.1 hv,k _ hv⟩
 ·rw[if_neg g]at k ⊢
  exact k
noncomputable def rC(D:Ad):Sp:=λvs H Q _=>∃ m dx,vs=[.ref m]/\H m=some (.ins D.aM dx [])/\∀ b c H',But m H H'->H b=none->H c=none->Wt D H' m dx b c [] []->Q .non H'
noncomputable abbrev vR:List Str:=["self"]
theorem vi:av vR ["self"] (ar jL):=fsc
theorem vj(F:Fun K "__init__" "WordTable.__init__" jL D.bU D.eW)(T:Txt K mg D):9e7 1 D.bU D.eW ["self"] (rC D):=by
 refine F.oa vi F.b1 λcdv A' outer s' H vs Q E hr h=>?_;obtain⟨m,dx,rfl,hm,k⟩:=h;refine⟨_,(ai (iL (pv 0) jE rfl)
  (aj (iL (pv 0) (lD ah) rfl))),?_⟩
 intro p hp;have np:m≠p:=ao hm hp;refine⟨_,rfl,m,D.aM,dx,[],rfl,(by rw[af np];exact hm),T.de,T.bI,by decide,?_⟩;refine⟨by show 0<=sizeLine;decide,λq hq=>?_⟩;have nq:m≠q:=ao ag hq;have qp:q≠p:=λe=>by rw[e,af (aoT np),ag]at hq;cases hq
 have hq0:H q=none:=by rw[af (aoT nq),af qp]at hq;exact hq
 refine⟨_,rfl,m,D.aM,dx,_,rfl,(by rw[af nq];exact ag),T.de,T.lH,by show 1<1000;decide,?_⟩;refine k p q _ ((((But.upd hp).trans But.self).trans (λb u n h=>by rw[af λe=>by rw[e]at h;rw[h]at hq;cases hq];exact h)).trans But.self) hp hq0 ⟨ag,?_,?_⟩
 ·rw[af (aoT np),af (aoT qp),af (aoT np),ag]
  rfl
 ·rw[af (aoT nq),ag]
  rfl
noncomputable def SQ(D:Ad):Sp:=λvs H Q E=>∃ wt wtx wb wl bs zs,∃ t x:Int,vs=[.ref wt,.int t,.int x]/\Wt D H wt wtx wb wl bs zs/\bs.length<=12/\(if bs.lookup t=none/\12<=bs.length then Bad D.cP H E else Q .non (upd H wb (.dK ((Lg bs t x).map bkv))))
noncomputable abbrev DK:List Str:=["self","t","x"]
theorem Bq:av DK ["self","t","x"] (ar ny):=fsc
theorem Br(F:Fun K "bear" "WordTable.bear" ny D.dA D.iE)(T:Txt K mg D)
  (ak:9e7 1 D.aq D.aA ["self","text"] (AM K)):9e7 3 D.dA D.iE ["self","t","x"] (SQ D):=by
 refine F.oa Bq F.b3 λcdv A' outer s' H vs Q E hr h=>?_;obtain⟨wt,wtx,wb,wl,bs,zs,t,x,rfl,N,hn,k⟩:=h;have hu:=jw hr;refine⟨_,(ai (bS (PW.pt (pw_and (t9 (ow hu (pv 1) 1e5) 3e2) (pw_and1 (aG YW (bj K7 rfl T.ji PyProof.Rows.Boot.«len» (aa 1e5 ah)) (mX (v:=.int 12) rfl T.mE ⟨_,rfl⟩) (aU _)))))
   (aj (fA rfl kj (ak.e hr T.FJ T.FG px (aa (i4 (aY (km (mX (v:=.int 12) rfl T.mE ⟨_,rfl⟩)) (aY gj i3))) ah))))
   aR)
  (aj (mY hu 1e5 (pv 1) (pv 2) rfl))),?_⟩
 have hu:=jw hr;refine⟨_,rfl,_,rfl,wt,D.aM,wtx,_,.ref wb,rfl,N.i,T.de,T.bI,rfl,wb,_,rfl,tM.k (k:=Sum.inl t) N.b,_,rfl,?_⟩;rw[acg,apR];cases e:bs.lookup t with
 | some v =>
  rw[if_neg (λz=>by rw[e]at z;cases z.1)]at k;exact xI ⟨_,rfl,_,rfl,wt,D.aM,wtx,_,.ref wb,rfl,N.i,T.de,T.bI,rfl,_,rfl,wb,_,rfl,Fg.k (k:=Sum.inl t) N.b (by rw[aoG];exact apx hn 2e0),by rw[P1]at k;exact k⟩
 | none =>
  refine vK ⟨_,rfl,wt,D.aM,wtx,_,.ref wb,rfl,N.i,T.de,T.bI,rfl,wb,_,rfl,N.b,_,_,rfl,rfl,_,rfl,eT (λh=>?_) (λh=>?_)⟩
  ·rw[aoG]at h
   have h:=of_decide_eq_true h;rw[if_pos ⟨e,by omega⟩]at k;exact⟨12,rfl,Sm.of 2e0 2e0,λy hy ea hea=>b7 T.FH 5e6 k ea hea⟩
  ·rw[aoG]at h
   have h:¬((12:Int)<=(bs.length:Int)):=λz=>h (decide_eq_true z);rw[if_neg (λz=>h (by have:=z.2;omega))]at k;exact⟨_,rfl,_,rfl,wt,D.aM,wtx,_,.ref wb,rfl,N.i,T.de,T.bI,rfl,_,rfl,wb,_,rfl,Fg.k (k:=Sum.inl t) N.b (by rw[aoG];exact apx hn 2e0),by rw[P1]at k;exact k⟩
noncomputable def fld(s:HS)(t:Int):List Wd:=(s.aQ.lookup t).getD []
structure Good(s:HS):Prop where
 h8:s.aZ.length=8
 n8:s.names.length=8
 asc:(s.aQ.map (·.1)).Pairwise (·< ·)
 lt:∀ t ws,(t,ws)∈s.aQ->0<=t/\t<s.nxt
 f6:∀ t ws,(t,ws)∈s.aQ->ws.length<=6
 hh:∀ t,Wd.th t∈s.aZ->∃ ws,(t,ws)∈s.aQ
 ff:∀ u ws t,(u,ws)∈s.aQ->Wd.th t∈ws->∃ ws',(t,ws')∈s.aQ
 nn:∀ t,some t∈s.names->∃ ws,(t,ws)∈s.aQ
 b12:s.cB.length<=12
 bk:∀ t x,(t,x)∈s.cB->∃ ws,(t,ws)∈s.aQ
 bnd:(s.cB.map (·.1)).Nodup
 n0:0<=s.nxt
 nx:s.nxt<=10000
 sd:(s.wO.length:Int)+s.aQ.length<=s.nxt
 yk:∀ t∈s.yng,∃ ws,(t,ws)∈s.aQ
 GO:s.yng.Pairwise (·< ·)
 dk:∀ t∈s.eh,∃ ws,(t,ws)∈s.aQ
 Iw:s.eh.Pairwise (·< ·)
theorem mem_lookup{α:Type}{fs:List (Int×α)}{t:Int}{w:α}(asc:(fs.map (·.1)).Nodup)(m:(t,w)∈fs):fs.lookup t=some w:=by
 induction fs with
 | nil=>cases m
 | cons p r ih =>
  obtain⟨a,b⟩:=p;rw[ao8,apP]at asc;rw[apK];rcases ao2.mp m with e|m
  ·cases e
   rw[beq_self_eq_true]
  ·have ne:t≠a:=λe=>asc.1 (by rw[<-e];exact ao5.mpr ⟨_,m,rfl⟩)
   rw[beq_eq_false_iff_ne.mpr ne];exact ih asc.2 m
theorem tQ{l:List Int}(h:l.Pairwise (·< ·)):l.Nodup:=h.imp λh=>Int.ne_of_lt h
theorem Good.get{s:HS}(g:Good s){t:Int}{ws:List Wd}(m:(t,ws)∈s.aQ):s.aQ.lookup t=some ws:=mem_lookup (tQ g.asc) m
theorem Good.fld{s:HS}(g:Good s){t:Int}{ws:List Wd}(m:(t,ws)∈s.aQ):fld s t=ws:=by unfold K39.fld;rw[g.get m];rfl
theorem Good.hand{s:HS}(g:Good s){h t:Int}(e:wat s.aZ h=some (.th t)):(t,K39.fld s t)∈s.aQ:=by
 obtain⟨_,_,e⟩:=uf e;obtain⟨ws,m⟩:=g.hh t (aoI e);rw[g.fld m];exact m
theorem Good.few{s:HS}(g:Good s):s.aQ.length<=10000:=by
 have:=g.sd
 have:=g.nx
 omega
theorem om{n:Nat}(h:n<=20000):n<sizeLine:=apx h 2e0
theorem lE{n:Nat}(h:n<=20000):n<=sizeLine:=aqs (om h)
inductive Er where
 | hand|name|field|count|room|words|on|no
noncomputable def Ad.er(D:Ad):Er->Addr
 | .hand=>D.bZ
 | .name=>D.fS
 | .field=>D.gJ
 | .count=>D.dF
 | .room=>D.lj
 | .words=>D.cP
 | .on=>D.jF
 | .no=>D.jG
noncomputable abbrev Re:=Option Er×HS
noncomputable def Fin(D:Ad)(x:Addr)(A:HA)(s:HS)(H:Hp)(r:Re)(Q:VK)(E:XK):Prop:=∀ A' H',IH D H' x A' r.2->Fr 3e6 H (cJ x A' r.2) H'->(match r.1 with|none=>Q .non H'|some e=>E (.ref (D.er e)) none H')
theorem Fin.bad{D:Ad}{x:Addr}{A:HA}{s:HS}{H:Hp}{e:Er}{Q:VK}{E:XK}(k:Fin D x A s H (some e,s) Q E)(J:IH D H x A s):Bad (D.er e) H E:=λH' s'=>k A H' (J.same s') (Fr.same s')
noncomputable abbrev ok8(h:Int):Prop:=0<=h/\h<8
noncomputable def tR(s:HS)(h:Int)(w:Wd):HS:={s with aZ:=s.aZ.set h.toNat w}
noncomputable def pZ(s:HS)(h g k:Int):Re:=if ok8 h then(match wat s.aZ g with|some (.th t)=>if 0<=k/\k<((fld s t).length:Int) then(none,tR s h ((fld s t).getD k.toNat .no)) else(some .field,s)|_=>2e5) else 2e5
noncomputable def kz(s:HS)(g k h:Int):Re:=match wat s.aZ g with|some (.th t)=>(match wat s.aZ h with|some w=>if 0<=k/\k<((fld s t).length:Int) then(none,{s with aQ:=wQ s.aQ t ((fld s t).set k.toNat w)}) else(some .field,s)|none=>2e5)|_=>2e5
noncomputable def yF(s:HS)(h g:Int):Re:=if ok8 h then(match wat s.aZ g with|some w=>(none,tR s h w)|none=>2e5) else 2e5
noncomputable def Dm(s:HS)(h:Int):Re:=if ok8 h then(none,tR s h .no) else 2e5
noncomputable def lK(s:HS)(h x:Int):Re:=if ok8 h then(if Num x then(none,tR s h (.num x)) else(some .count,s)) else 2e5
noncomputable def rX(s:HS)(w h:Int):Re:=match wat s.aZ h with|some (.th t)=>if ok8 w then(none,{s with names:=s.names.set w.toNat (some t)}) else(some .name,s)|_=>2e5
noncomputable def nmW:Option Int->Wd
 | none=>.no
 | some t=>.th t
noncomputable def qa(s:HS)(h x:Int):Re:=match wat s.aZ h with|some (.th t)=>(if Num x then(if s.cB.lookup t=none/\12<=s.cB.length then(some .words,s) else(none,{s with cB:=Lg s.cB t x})) else(some .count,s))|_=>2e5
noncomputable def Rk(s:HS)(h n:Int):HS:={s with nxt:=s.nxt+1,aQ:=s.aQ++[(s.nxt,List.replicate n.toNat .no)],yng:=if s.my=true then s.yng++[s.nxt] else s.yng,aZ:=s.aZ.set h.toNat (.th s.nxt)}
noncomputable def wsum(s:HS)(ts:List Int):Int:=(ts.map λt=>((fld s t).length:Int)+1).sum
section
variable{D:Ad}{H:Hp}{x:Addr}{A:HA}{s:HS}
theorem IH.hn(J:IH D H x A s)(g:Good s):Hn D H A.hd A.hdx A.hl A.hx s.aZ:=⟨J.ahd,J.ahl,J.rhl,g.h8⟩
theorem IH.ntb(J:IH D H x A s)(g:Good s):Nt D H A.nt A.ntx A.nl (s.names.map nmV):=⟨J.ant,J.anl,by rw[aoG];exact g.n8⟩
theorem IH.wtb(J:IH D H x A s):Wt D H A.wt A.wtx A.wb A.wl s.cB s.wO:=⟨J.awt,J.awb,J.awl⟩
theorem Wg{A:HA}{fs:List (Int×List Wd)}{t:Int}:ir (fs.map (fkv A)) 2e7=(fs.lookup t).map λ_=>V.ref (A.fa t):=Iu λ_=>rfl
theorem IH.Zm(J:IH D H x A s)(g:Good s){t:Int}{ws:List Wd}(m:(t,ws)∈s.aQ):tM H A.fh (.int t) (some (.ref (A.fa t))):=by
 have:=tM.k (k:=Sum.inl t) J.afh
 rw[Wg,g.get m]at this;exact this
end
noncomputable def SR(D:Ad):Sp:=λvs H Q E=>∃ x A s,∃ h g:Int,vs=[.ref x,.int h,.int g]/\IH D H x A s/\Good s/\Sm h/\Sm g/\Fin D x A s H (yF s h g) Q E
noncomputable abbrev Ou:List Str:=["self","h","g"]
theorem LU:av Ou ["self","h","g"] (ar xa):=fsc
theorem LV(F:Fun K "copy" "Heap.copy" xa D.gy D.oB)(T:Txt K mg D)
  (uL:9e7 5 D.hR D.mI ["self","h","g"] (P8 D)):9e7 6 D.gy D.oB ["self","h","g"] (SR D):=by
 refine F.oa LU F.b3 λcdv A' outer s' H vs Q E hr h=>?_;obtain⟨x,A,s,h,g,rfl,J,G,hh,hg,k⟩:=h;refine⟨_,(aj (aE (uL.m hr 1e5 T.a6 T.Jq px (aa (pv 1) 3e3)))),?_⟩;refine⟨_,rfl,x,D.ab,_,_,.ref A.hd,rfl,J.ax,T.ae,T.aB,pX,A.hd,A.hdx,_,rfl,J.ahd,rfl,_,rfl,_,rfl,A.hd,A.hdx,A.hl,A.hx,s.aZ,h,g,rfl,J.hn G,hh,hg,?_⟩;by_cases c:ok8 h
 ·rw[if_pos c]
  cases e:wat s.aZ g with
  | none =>
   rw[show yF s h g=2e5 by simp only[yF,if_pos c,e]]at k;exact k.bad J
  | some wd =>
   rw[show yF s h g=(none,tR s h wd) by simp only[yF,if_pos c,e]]at k;exact λv wv=>let w:=J.U1 (J.rhl.set (i:=h.toNat) wv);k _ _ w.1 w.2
 ·rw[if_neg c]
  rw[show yF s h g=2e5 by simp only[yF,if_neg c]]at k;exact k.bad J
noncomputable def SS(D:Ad):Sp:=λvs H Q E=>∃ x A s,∃ h:Int,vs=[.ref x,.int h]/\IH D H x A s/\Good s/\Sm h/\Fin D x A s H (Dm s h) Q E
noncomputable abbrev Ov:List Str:=["self","h"]
theorem LW:av Ov ["self","h"] (ar xb):=fsc
theorem LY(F:Fun K "drop" "Heap.drop" xb D.gz D.oE)(T:Txt K mg D)
  (eJ:9e7 4 D.fJ D.i6 ["self","h","word"] (yT D)):9e7 5 D.gz D.oE ["self","h"] (SS D):=by
 refine F.oa LW F.b2 λcdv A' outer s' H vs Q E hr h=>?_;obtain⟨x,A,s,h,rfl,J,G,hh,k⟩:=h;refine⟨_,(aj (aE (eJ.m hr 1e5 T.a6 T.pT px (aa (pv 1) (aa bR ah))))),?_⟩;refine⟨_,rfl,x,D.ab,_,_,.ref A.hd,rfl,J.ax,T.ae,T.aB,pX,A.hd,A.hdx,_,rfl,J.ahd,rfl,_,rfl,A.hd,A.hdx,A.hl,A.hx,s.aZ,.non,h,rfl,J.hn G,hh,?_⟩;by_cases c:ok8 h
 ·rw[if_pos c]
  rw[show Dm s h=(none,tR s h .no) by simp only[Dm,if_pos c]]at k;exact let w:=J.U1 (J.rhl.set (i:=h.toNat) (show WV H .non .no from rfl));k _ _ w.1 w.2
 ·rw[if_neg c]
  rw[show Dm s h=2e5 by simp only[Dm,if_neg c]]at k;exact k.bad J
noncomputable def Lh(D:Ad):Sp:=λvs H Q E=>∃ x A s,∃ h z:Int,vs=[.ref x,.int h,.int z]/\IH D H x A s/\Good s/\Sm h/\Sm z/\Fin D x A s H (lK s h z) Q E
noncomputable abbrev JC:List Str:=["self","h","x"]
theorem G5:av JC ["self","h","x"] (ar sk):=fsc
theorem G6(F:Fun K "number" "Heap.number" sk D.dR D.kI)(T:Txt K mg D)
  (qD:9e7 5 D.fI D.jT ["self","h","x"] (Iv D)):9e7 6 D.dR D.kI ["self","h","x"] (Lh D):=by
 refine F.oa G5 F.b3 λcdv A' outer s' H vs Q E hr h=>?_;obtain⟨x,A,s,h,z,rfl,J,G,hh,hz,k⟩:=h;refine⟨_,(aj (aE (qD.m hr 1e5 T.a6 T.FK px (aa (pv 1) 3e3)))),?_⟩;refine⟨_,rfl,x,D.ab,_,_,.ref A.hd,rfl,J.ax,T.ae,T.aB,pX,A.hd,A.hdx,_,rfl,J.ahd,rfl,_,rfl,_,rfl,A.hd,A.hdx,A.hl,A.hx,s.aZ,h,z,rfl,J.hn G,hh,hz,?_⟩;by_cases c:ok8 h
 ·rw[if_pos c]
  by_cases g:Num z
  ·rw[if_pos g]
   rw[show lK s h z=(none,tR s h (.num z)) by simp only[lK,if_pos c,if_pos g]]at k;exact λt H1 s1 ht=>let J1:=J.same s1;let w:=J1.U1 (J1.rhl.set (i:=h.toNat) (show WV H1 (.ref t) (.num z) from⟨t,rfl,ht⟩));k _ _ w.1 ((Fr.same s1).trans w.2)
  ·rw[if_neg g]
   rw[show lK s h z=(some .count,s) by simp only[lK,if_pos c,if_neg g]]at k;exact k.bad J
 ·rw[if_neg c]
  rw[show lK s h z=2e5 by simp only[lK,if_neg c]]at k;exact k.bad J
noncomputable def SU(D:Ad):Sp:=λvs H Q E=>∃ x A s,∃ w h:Int,vs=[.ref x,.int w,.int h]/\IH D H x A s/\Good s/\Sm w/\Sm h/\Fin D x A s H (rX s w h) Q E
noncomputable abbrev Ow:List Str:=["self","w","h","t"]
theorem C1:av Ow ["self","w","h"] (ar xg):=fsc
theorem LZ(F:Fun K "name" "Heap.name" xg D.gA D.oH)(T:Txt K mg D)
  (aT:9e7 6 D.bc D.cA ["self","h"] (kr D))
  (nK:9e7 4 D.dB D.iF ["self","w","t"] (Qa D)):9e7 7 D.gA D.oH ["self","w","h"] (SU D):=by
 refine F.oa C1 F.b3 λcdv A' outer s' H vs Q E hr h=>?_;obtain⟨x,A,s,w,h,rfl,J,G,hw,hh,k⟩:=h;refine⟨_,(ai (aO (i:=3) C1.nd rfl 1e3 (aT.m hr 1e5 T.a6 T.gG px 3e3))
  (aj (aE (nK.m hr 1e5 T.dS T.A5 px (aa (pv 1) 5e3))))),?_⟩
 refine⟨_,rfl,x,D.ab,_,_,.ref A.hd,rfl,J.ax,T.ae,T.aB,pX,A.hd,A.hdx,_,rfl,J.ahd,rfl,_,rfl,A.hd,A.hdx,A.hl,A.hx,s.aZ,h,rfl,J.hn G,hh,?_⟩;cases e:wat s.aZ h with
 | none =>
  rw[show rX s w h=2e5 by simp only[rX,e]]at k;exact k.bad J
 | some wd =>
  cases wd with
  | no =>
   rw[show rX s w h=2e5 by simp only[rX,e]]at k;exact k.bad J
  | num n =>
   rw[show rX s w h=2e5 by simp only[rX,e]]at k;exact k.bad J
  | th t =>
   intro H1 s1;have J1:=J.same s1;refine⟨_,rfl,x,D.ab,_,_,.ref A.nt,rfl,J1.ax,T.ae,T.dI,US,A.nt,A.ntx,_,rfl,J1.ant,rfl,_,rfl,_,rfl,A.nt,A.ntx,A.nl,_,.int t,w,rfl,J1.ntb G,hw,?_⟩;by_cases c:ok8 w
   ·rw[if_pos c]
    rw[show rX s w h=(none,{s with names:=s.names.set w.toNat (some t)}) by simp only[rX,e,if_pos c]]at k;have w1:=J1.an7 (ns:=s.names.set w.toNat (some t));rw[List.map_set]at w1;exact k _ _ w1.1 ((Fr.same s1).trans w1.2)
   ·rw[if_neg c]
    rw[show rX s w h=(some .name,s) by simp only[rX,e,if_neg c]]at k;exact Bad.same (k.bad J) s1
noncomputable def Yl(D:Ad):Sp:=λvs H Q E=>∃ x A s,∃ h z:Int,vs=[.ref x,.int h,.int z]/\IH D H x A s/\Good s/\Sm h/\Sm z/\Fin D x A s H (qa s h z) Q E
noncomputable abbrev Ox:List Str:=["self","h","x","t"]
theorem C2:av Ox ["self","h","x"] (ar xh):=fsc
theorem L0(F:Fun K "word" "Heap.word" xh D.hZ D.rV)(T:Txt K mg D)
  (aT:9e7 6 D.bc D.cA ["self","h"] (kr D))
  (gq:9e7 3 D.cp D.gn ["x"] (lY D))
  (nM:9e7 3 D.dA D.iE ["self","t","x"] (SQ D)):9e7 7 D.hZ D.rV ["self","h","x"] (Yl D):=by
 refine F.oa C2 F.b3 λcdv A' outer s' H vs Q E hr h=>?_;obtain⟨x,A,s,h,z,rfl,J,G,hh,hz,k⟩:=h;refine⟨_,(ai (aO (i:=3) C2.nd rfl 1e3 (aT.m hr 1e5 T.a6 T.gG px 2e2))
  (ai (aE (gq.c hr T.tm T.j7 px 3e3))
  (aj (aE (nM.m hr 1e5 T.de T.AZ px (aa (pv 3) 3e3)))))),?_⟩
 refine⟨_,rfl,x,D.ab,_,_,.ref A.hd,rfl,J.ax,T.ae,T.aB,pX,A.hd,A.hdx,_,rfl,J.ahd,rfl,_,rfl,A.hd,A.hdx,A.hl,A.hx,s.aZ,h,rfl,J.hn G,hh,?_⟩;cases e:wat s.aZ h with
 | none =>
  rw[show qa s h z=2e5 by simp only[qa,e]]at k;exact k.bad J
 | some wd =>
  cases wd with
  | no =>
   rw[show qa s h z=2e5 by simp only[qa,e]]at k;exact k.bad J
  | num n =>
   rw[show qa s h z=2e5 by simp only[qa,e]]at k;exact k.bad J
  | th t =>
   intro H1 s1;have J1:=J.same s1;refine⟨_,rfl,z,rfl,hz,?_⟩;by_cases g:Num z
   ·rw[if_pos g]
    refine⟨_,rfl,x,D.ab,_,_,.ref A.wt,rfl,J1.ax,T.ae,T.iU,Zk,A.wt,A.wtx,_,rfl,J1.awt,rfl,_,rfl,_,rfl,A.wt,A.wtx,A.wb,A.wl,s.cB,s.wO,t,z,rfl,J1.wtb,G.b12,?_⟩;by_cases c:s.cB.lookup t=none/\12<=s.cB.length
    ·rw[if_pos c]
     rw[show qa s h z=(some .words,s) by simp only[qa,e,if_pos g,if_pos c]]at k;exact Bad.same (k.bad J) s1
    ·rw[if_neg c]
     rw[show qa s h z=(none,{s with cB:=Lg s.cB t z}) by simp only[qa,e,if_pos g,if_neg c]]at k;have w1:=J1.ajU (bs:=Lg s.cB t z);exact k _ _ w1.1 ((Fr.same s1).trans w1.2)
   ·rw[if_neg g]
    rw[show qa s h z=(some .count,s) by simp only[qa,e,if_neg g]]at k;exact Bad.same (k.bad J) s1
noncomputable def SV(D:Ad):Sp:=λvs H Q E=>∃ x A s,∃ h g kk:Int,vs=[.ref x,.int h,.int g,.int kk]/\IH D H x A s/\Good s/\Sm h/\Sm g/\Sm kk/\Fin D x A s H (pZ s h g kk) Q E
noncomputable abbrev Oy:List Str:=["self","h","g","k","fields"]
theorem C3:av Oy ["self","h","g","k"] (ar w8):=fsc
theorem L4(F:Fun K "load" "Heap.load" w8 D.gx D.oA)(T:Txt K mg D)
  (aN:9e7 3 D.bq D.cQ ["h"] (eC D))
  (aT:9e7 6 D.bc D.cA ["self","h"] (kr D))
  (gR:9e7 3 D.cR D.gP ["k","fields"] (nJ D))
  (eJ:9e7 4 D.fJ D.i6 ["self","h","word"] (yT D)):9e7 7 D.gx D.oA ["self","h","g","k"] (SV D):=by
 refine F.oa C3 F.b4 λcdv A' outer s' H vs Q E hr h=>?_;obtain⟨x,A,s,h,g,kk,rfl,J,G,hh,hg,hk,k⟩:=h;have hu:=jw hr;refine⟨_,(ai (aE (aN.c hr T.gH T.d8 px 2e2))
  (ai (aO (i:=4) C3.nd rfl 1e3 (hG hu 1e5 (aT.m hr 1e5 T.a6 T.gG px 3e3) 1e7))
  (ai (aE (gR.c hr T.uY T.kQ px (aa (pv 3) (aa (bj aP rfl T.ji PyProof.Rows.Boot.«len» 3e0) ah))))
  (aj (aE (eJ.m hr 1e5 T.a6 T.pT px (aa (pv 1) (aa (bT gI (pv 4) (pv 3) 1e7) ah)))))))),?_⟩
 refine⟨_,rfl,h,rfl,hh,?_⟩;by_cases c:ok8 h
 ·rw[if_pos c]
  refine⟨_,rfl,x,D.ab,_,_,.ref A.fh,rfl,J.ax,T.ae,T.aC,tL,_,rfl,x,D.ab,_,_,.ref A.hd,rfl,J.ax,T.ae,T.aB,pX,A.hd,A.hdx,_,rfl,J.ahd,rfl,_,rfl,A.hd,A.hdx,A.hl,A.hx,s.aZ,g,rfl,J.hn G,hg,?_⟩;cases e:wat s.aZ g with
  | none =>
   rw[show pZ s h g kk=2e5 by simp only[pZ,e,if_pos c]]at k;exact k.bad J
  | some wd =>
   cases wd with
   | no =>
    rw[show pZ s h g kk=2e5 by simp only[pZ,e,if_pos c]]at k;exact k.bad J
   | num n =>
    rw[show pZ s h g kk=2e5 by simp only[pZ,e,if_pos c]]at k;exact k.bad J
   | th t =>
    intro H1 s1;have J1:=J.same s1;have m:=G.hand e;obtain⟨hl,rl⟩:=J1.afl _ _ m;refine⟨A.fh,_,rfl,J1.Zm G m,?_⟩;have f6:=G.f6 _ _ m;have ln:((A.fx t).length:Int)=(fld s t).length:=(by rw[rl.1]);refine⟨_,rfl,_,rfl,A.fa t,_,rfl,.inl (SqL.of hl),kk,_,rfl,hk,Sm.of 1e1 1e1,?_⟩;rw[ln];by_cases c2:0<=kk/\kk<((fld s t).length:Int)
    ·rw[if_pos c2]
     rw[show pZ s h g kk=(none,tR s h ((fld s t).getD kk.toNat .no)) by simp only[pZ,if_pos c,e,if_pos c2]]at k;have hi:kk.toNat<(fld s t).length:=1e1;obtain⟨v,hv,wv⟩:=rl.get hi;have gd:(fld s t).getD kk.toNat .no=(fld s t)[kk.toNat]:=(by simp[List.getD,hi]);rw[gd]at k;refine⟨_,rfl,x,D.ab,_,_,.ref A.hd,rfl,J1.ax,T.ae,T.aB,pX,A.hd,A.hdx,_,rfl,J1.ahd,rfl,_,rfl,_,rfl,_,rfl,A.fa t,_,kk,v,rfl,rfl,SqL.of hl,yR c2.1 hv,A.hd,A.hdx,A.hl,A.hx,s.aZ,v,h,rfl,J1.hn G,hh,?_⟩;rw[if_pos c];exact let w:=J1.U1 (J1.rhl.set (i:=h.toNat) wv);k _ _ w.1 ((Fr.same s1).trans w.2)
    ·rw[if_neg c2]
     rw[show pZ s h g kk=(some .field,s) by simp only[pZ,if_pos c,e,if_neg c2]]at k;exact Bad.same (k.bad J) s1
 ·rw[if_neg c]
  rw[show pZ s h g kk=2e5 by simp only[pZ,if_neg c]]at k;exact k.bad J
noncomputable def Qc(D:Ad):Sp:=λvs H Q E=>∃ x A s,∃ g kk h:Int,vs=[.ref x,.int g,.int kk,.int h]/\IH D H x A s/\Good s/\Sm g/\Sm kk/\Sm h/\Fin D x A s H (kz s g kk h) Q E
noncomputable abbrev L5:List Str:=["self","g","k","h","fields","value"]
theorem sM:av L5 ["self","g","k","h"] (ar ur):=fsc
theorem JD(F:Fun K "store" "Heap.store" ur D.fD D.mK)(T:Txt K mg D)
  (aT:9e7 6 D.bc D.cA ["self","h"] (kr D))
  (di:9e7 4 D.cS D.fO ["self","h"] (u6 D))
  (gR:9e7 3 D.cR D.gP ["k","fields"] (nJ D)):9e7 7 D.fD D.mK ["self","g","k","h"] (Qc D):=by
 refine F.oa sM F.b4 λcdv A' outer s' H vs Q E hr h=>?_;obtain⟨x,A,s,g,kk,h,rfl,J,G,hg,hk,hh,k⟩:=h;have hu:=jw hr;refine⟨_,(ai (aO (i:=4) sM.nd rfl 1e3 (hG hu 1e5 (aT.m hr 1e5 T.a6 T.gG px 2e2) 1e7))
  (ai (aO (i:=5) sM.nd rfl 1e3 (di.m hr 1e5 T.a6 T.nG px 5e3))
  (ai (aE (gR.c hr T.uY T.kQ px (aa (pv 2) (aa (bj aP rfl T.ji PyProof.Rows.Boot.«len» 3e0) ah))))
  (aj (lC (pv 5) (ua (pv 4) (pv 2) set_list)))))),?_⟩
 refine⟨_,rfl,x,D.ab,_,_,.ref A.fh,rfl,J.ax,T.ae,T.aC,tL,_,rfl,x,D.ab,_,_,.ref A.hd,rfl,J.ax,T.ae,T.aB,pX,A.hd,A.hdx,_,rfl,J.ahd,rfl,_,rfl,A.hd,A.hdx,A.hl,A.hx,s.aZ,g,rfl,J.hn G,hg,?_⟩;cases e:wat s.aZ g with
 | none =>
  rw[show kz s g kk h=2e5 by simp only[kz,e]]at k;exact k.bad J
 | some wd =>
  cases wd with
  | no =>
   rw[show kz s g kk h=2e5 by simp only[kz,e]]at k;exact k.bad J
  | num n =>
   rw[show kz s g kk h=2e5 by simp only[kz,e]]at k;exact k.bad J
  | th t =>
   intro H1 s1;have J1:=J.same s1;have m:=G.hand e;obtain⟨hl,rl⟩:=J1.afl _ _ m;refine⟨A.fh,_,rfl,J1.Zm G m,?_⟩;refine⟨_,rfl,x,D.ab,_,_,.ref A.hd,rfl,J1.ax,T.ae,T.aB,pX,A.hd,A.hdx,_,rfl,J1.ahd,rfl,_,rfl,A.hd,A.hdx,A.hl,A.hx,s.aZ,h,rfl,J1.hn G,hh,?_⟩;cases e2:wat s.aZ h with
   | none =>
    rw[show kz s g kk h=2e5 by simp only[kz,e,e2]]at k;exact Bad.same (k.bad J) s1
   | some wd =>
    intro v hv wv;have f6:=G.f6 _ _ m;have ln:((A.fx t).length:Int)=(fld s t).length:=(by rw[rl.1]);refine⟨_,rfl,_,rfl,A.fa t,_,rfl,.inl (SqL.of hl),kk,_,rfl,hk,Sm.of 1e1 1e1,?_⟩;rw[ln];by_cases c2:0<=kk/\kk<((fld s t).length:Int)
    ·rw[if_pos c2]
     rw[show kz s g kk h=(none,{s with aQ:=wQ s.aQ t ((fld s t).set kk.toNat wd)}) by simp only[kz,e,e2,if_pos c2]]at k;refine⟨_,rfl,_,rfl,_,rfl,A.fa t,_,kk,kk.toNat,rfl,rfl,hl,Iq c2.1 1e1,?_⟩;exact let w:=J1.aob m (rl.set (i:=kk.toNat) wv);k _ _ w.1 ((Fr.same s1).trans w.2)
    ·rw[if_neg c2]
     rw[show kz s g kk h=(some .field,s) by simp only[kz,e,e2,if_neg c2]]at k;exact Bad.same (k.bad J) s1
theorem fV{b:Bool}{A B:Prop}(h:b=false)(k:B):if b=true then A else B:=by rw[h];exact k
theorem jP{b:Bool}{A B:Prop}(h:b=true)(k:A):if b=true then A else B:=by rw[h];exact k
theorem Ym(k:Nat):(List.replicate k [V.non]).flatten=List.replicate k .non:=by
 induction k with
 | zero=>rfl
 | succ k ih=>rw[apl,apQ,ih,apl];rfl
noncomputable def keys(s:HS):List Int:=s.aQ.map (·.1)
noncomputable def held(s:HS):Int:=wsum s 4e6
structure Raw(D:Ad)(H:Hp)(x dx:Addr)(my:Bool)(hd hdx hl nt ntx nl wt wtx wb wl fh yg:Addr):Prop where
 ax:H x=some (.ins D.ab dx [3e4,4e7,("weak_names",.ref nt),("last_words",.ref wt),("fields_held",.ref fh),("young_things",.ref yg),("next_thing",.int 0)])
 ahd:H hd=some (.ins D.ba hdx [("words_held",.ref hl)])
 ahl:H hl=some (.lst (List.replicate 8 .non))
 ant:H nt=some (.ins D.aD ntx [("things_named",.ref nl)])
 anl:H nl=some (.lst (List.replicate 8 .non))
 awt:Wt D H wt wtx wb wl [] []
 afh:H fh=some 5e1
 ayg:H yg=some 5e1
 n1:hd≠nt
 n2:hl≠nl
 n3:hl≠wl
 n4:nl≠wl
 n5:wb≠fh
 n6:wb≠yg
 n7:fh≠yg
noncomputable def s0(my:Bool)(room limit:Int):HS:=⟨my,List.replicate 8 .no,List.replicate 8 none,[],[],[],[],0,room,limit,[],false⟩
theorem good0{my:Bool}{room limit:Int}:Good (s0 my room limit) :=
 ⟨rfl,rfl,List.Pairwise.nil,(λ_ _ m=>by cases m),(λ_ _ m=>by cases m),(λt m=>by have:=apk m;cases this),(λ_ _ _ m=>by cases m),(λt m=>by have:=apk m;cases this),by show 0<=12;decide,(λ_ _ m=>by cases m),List.nodup_nil,by show(0:Int)<=0;decide,by show(0:Int)<=10000;decide,by show((0:Nat):Int)+((0:Nat):Int)<=0;decide,(λ_ m=>by cases m),List.Pairwise.nil,(λ_ m=>by cases m),List.Pairwise.nil⟩
noncomputable def C4(D:Ad):Sp:=λvs H Q E=>∃ x dx,∃ my:Bool,vs=[.ref x,.bl my]/\H x=some (.ins D.ab dx [])/\∀ hd hdx hl nt ntx nl wt wtx wb wl fh yg H',Raw D H' x dx my hd hdx hl nt ntx nl wt wtx wb wl fh yg->But x H H'->(∀ b,b=hd\/b=hl\/b=nt\/b=nl\/b=wt\/b=wb\/b=wl\/b=fh\/b=yg->H b=none)->Q .non H'
noncomputable abbrev FZ:List Str:=["self","makes_young"]
theorem DL:av FZ ["self","makes_young"] (ar pq):=fsc
theorem DM(F:Fun K "__init__" "Heap.__init__" pq D.cT D.jg)(T:Txt K mg D)
  (j9:9e7 1 D.dz D.iD ["self"] (yS D))
  (gS:9e7 1 D.bV D.eX ["self"] (rB D))
  (gT:9e7 1 D.bU D.eW ["self"] (rC D)):9e7 3 D.cT D.jg ["self","makes_young"] (C4 D):=by
 refine F.oa DL F.b2 λcdv A' outer s' H vs Q E hr h=>?_;obtain⟨x,dx,my,rfl,hx,k⟩:=h;refine⟨_,(ai (iL (pv 0) (pv 1) rfl)
  (ai (iL (pv 0) (IT T.IZ j9.g (hr.mono 2e0) rfl T.VA j9.b .nil (UN λ_ _ _ q=>q)) rfl)
  (ai (iL (pv 0) (IT T.uz gS.g (hr.mono 2e0) rfl T.LG gS.b .nil (UN λ_ _ _ q=>q)) rfl)
  (ai (iL (pv 0) (IT T.uy gT.g (hr.mono 2e0) rfl T.LF gT.b .nil (UN λ_ _ _ q=>q)) rfl)
  (ai (iL (pv 0) jE rfl)
  (ai (iL (pv 0) jE rfl)
  (aj (iL (pv 0) au rfl)))))))),?_⟩
 have bk:∀ {H':Hp} {b:Addr} {u:HO},H' x=some u->But x H H'->H' b=none->H b=none:=λ{H' b u} hx' B h=>by
  cases q:H b with
  | none=>rfl
  | some v =>
   by_cases e:b=x
   ·rw[e,hx']at h;cases h
   ·rw[B b v e q]at h;cases h
 have mk:∀ {H1 H2:Hp} {m mdx C:Addr},H1 m=none->H1 mdx=none->But m (upd (upd H1 mdx (.own m)) m (.ins C mdx [])) H2->aw H1 H2:=λh1 h2 B b u q=>B b u (ao q h1) (by rw[af (ao q h1),af (ao q h2)];exact q);have fr:∀ {H1:Hp} {m mdx C c:Addr},H1 m=none->H1 mdx=none->upd (upd H1 mdx (.own m)) m (.ins C mdx []) c=none->H1 c=none:=λ{H1 m mdx C c} h1 h2 h=>by
  cases q:H1 c with
  | none=>rfl
  | some v=>rw[af (ao q h1),af (ao q h2),q]at h;cases h
 refine⟨_,rfl,_,rfl,x,D.ab,dx,_,rfl,hx,T.ae,T.iy,by show 0<1000;decide,?_⟩;obtain⟨H1,e1⟩:∃ H1,upd H x (.ins D.ab dx (je "makes_young" (.bl my) []))=H1:=⟨_,rfl⟩;have x1:H1 x=some (.ins D.ab dx [3e4]):=by rw[<-e1];exact ag
 have B1:But x H H1:=by rw[<-e1];exact But.self
 show Nv _ _ _ _ (upd H x (.ins D.ab dx (je "makes_young" (.bl my) [])));rw[e1];clear e1;intro hd hdx hm1 hm2 hm3;refine⟨hd,hdx,rfl,ag,λhl G1 b1 hc hcl hci=>⟨rfl,?_⟩⟩;have S1:=mk hm1 hm2 b1;have hl1:=fr hm1 hm2 hc;refine⟨_,rfl,x,D.ab,dx,_,rfl,S1 _ _ x1,T.ae,T.aB,by show 1<1000;decide,?_⟩;obtain⟨H2,e2⟩:∃ H2,upd G1 x (.ins D.ab dx (je "in_hands" (.ref hd) [3e4]))=H2:=⟨_,rfl⟩;have x2:H2 x=some (.ins D.ab dx [3e4,4e7]):=by rw[<-e2];exact ag
 have P2:But x G1 H2:=by rw[<-e2];exact But.self
 have B2:But x H H2:=(B1.trans λb u _ q=>S1 b u q).trans P2;show Nv _ _ _ _ (upd G1 x (.ins D.ab dx (je "in_hands" (.ref hd) [3e4])));rw[e2];clear e2;have nhd:hd≠x:=aoT (ao x1 hm1);have nhl:hl≠x:=aoT (ao x1 hl1);have a2:=P2 _ _ nhd hci;have l2:=P2 _ _ nhl hcl;intro nt ntx nm1 nm2 nm3;refine⟨nt,ntx,rfl,ag,λnl G2 b2 nc ncl nci=>⟨rfl,?_⟩⟩;have S2:=mk nm1 nm2 b2;have nl2:=fr nm1 nm2 nc;refine⟨_,rfl,x,D.ab,dx,_,rfl,S2 _ _ x2,T.ae,T.dI,by show 2<1000;decide,?_⟩;obtain⟨H3,e3⟩:∃ H3,upd G2 x (.ins D.ab dx (je "weak_names" (.ref nt) [3e4,4e7]))=H3:=⟨_,rfl⟩;have x3:H3 x=some (.ins D.ab dx [3e4,4e7,("weak_names",.ref nt)]):=by rw[<-e3];exact ag
 have P3:But x G2 H3:=by rw[<-e3];exact But.self
 have B3:But x H H3:=(B2.trans λb u _ q=>S2 b u q).trans P3;show Nv _ _ _ _ (upd G2 x (.ins D.ab dx (je "weak_names" (.ref nt) [3e4,4e7])));rw[e3];clear e3;have nnt:nt≠x:=aoT (ao x2 nm1);have nnl:nl≠x:=aoT (ao x2 nl2);have a3:=P3 _ _ nhd (S2 _ _ a2);have l3:=P3 _ _ nhl (S2 _ _ l2);have t3:=P3 _ _ nnt nci;have m3:=P3 _ _ nnl ncl;intro wt wtx wm1 wm2 wm3;refine⟨wt,wtx,rfl,ag,λwb wl G3 b3 wc1 wc2 W=>⟨rfl,?_⟩⟩;have S3:=mk wm1 wm2 b3;have wb3:=fr wm1 wm2 wc1;have wl3:=fr wm1 wm2 wc2;refine⟨_,rfl,x,D.ab,dx,_,rfl,S3 _ _ x3,T.ae,T.iU,by show 3<1000;decide,?_⟩;obtain⟨H4,e4⟩:∃ H4,upd G3 x (.ins D.ab dx (je "last_words" (.ref wt) [3e4,4e7,("weak_names",.ref nt)]))=H4:=⟨_,rfl⟩;have x4:H4 x=some (.ins D.ab dx [3e4,4e7,("weak_names",.ref nt),("last_words",.ref wt)]):=by rw[<-e4];exact ag
 have P4:But x G3 H4:=by rw[<-e4];exact But.self
 have B4:But x H H4:=(B3.trans λb u _ q=>S3 b u q).trans P4;show Nv _ _ _ _ (upd G3 x (.ins D.ab dx (je "last_words" (.ref wt) [3e4,4e7,("weak_names",.ref nt)])));rw[e4];clear e4;have nwt:wt≠x:=aoT (ao x3 wm1);have nwb:wb≠x:=aoT (ao x3 wb3);have nwl:wl≠x:=aoT (ao x3 wl3);have W4:Wt D H4 wt wtx wb wl [] []:=⟨P4 _ _ nwt W.i,P4 _ _ nwb W.b,P4 _ _ nwl W.l⟩;have a4:=P4 _ _ nhd (S3 _ _ a3);have l4:=P4 _ _ nhl (S3 _ _ l3);have t4:=P4 _ _ nnt (S3 _ _ t3);have m4:=P4 _ _ nnl (S3 _ _ m3);intro fh hfh;have nfh:fh≠x:=aoT (ao x4 hfh);refine⟨_,rfl,x,D.ab,dx,_,rfl,aw.upd hfh _ _ x4,T.ae,T.aC,by show 4<1000;decide,?_⟩;obtain⟨H5,e5⟩:∃ H5,upd (upd H4 fh 5e1) x (.ins D.ab dx (je "fields_held" (.ref fh) [3e4,4e7,("weak_names",.ref nt),("last_words",.ref wt)]))=H5:=⟨_,rfl⟩;have x5:H5 x=some (.ins D.ab dx [3e4,4e7,("weak_names",.ref nt),("last_words",.ref wt),("fields_held",.ref fh)]):=by rw[<-e5];exact ag
 have P5:But x H4 H5:=by rw[<-e5];exact(But.upd hfh).trans But.self
 have f5:H5 fh=some 5e1:=by rw[<-e5,af nfh];exact ag
 show Nv _ _ _ _ (upd (upd H4 fh 5e1) x (.ins D.ab dx (je "fields_held" (.ref fh) [3e4,4e7,("weak_names",.ref nt),("last_words",.ref wt)])));rw[e5];clear e5;intro yg hyg;have nyg:yg≠x:=aoT (ao x5 hyg);refine⟨_,rfl,x,D.ab,dx,_,rfl,aw.upd hyg _ _ x5,T.ae,T.bE,by show 5<1000;decide,?_⟩;obtain⟨H6,e6⟩:∃ H6,upd (upd H5 yg 5e1) x (.ins D.ab dx (je "young_things" (.ref yg) [3e4,4e7,("weak_names",.ref nt),("last_words",.ref wt),("fields_held",.ref fh)]))=H6:=⟨_,rfl⟩;have x6:H6 x=some (.ins D.ab dx [3e4,4e7,("weak_names",.ref nt),("last_words",.ref wt),("fields_held",.ref fh),("young_things",.ref yg)]):=by rw[<-e6];exact ag
 have P6:But x H5 H6:=by rw[<-e6];exact(But.upd hyg).trans But.self
 have y6:H6 yg=some 5e1:=by rw[<-e6,af nyg];exact ag
 skip
 rw[e6];clear e6;have B5:But x H H5:=B4.trans P5;have B6:But x H H6:=B5.trans P6;have P7:∀ {o:HO},But x H6 (upd H6 x o):=But.self;have P47:∀ {o:HO} {b:Addr} {u:HO},b≠x->H4 b=some u->upd H6 x o b=some u:=λn q=>P7 _ _ n (P6 _ _ n (P5 _ _ n q));refine⟨_,rfl,x,D.ab,dx,_,rfl,x6,T.ae,T.fU,by show 6<1000;decide,k hd hdx hl nt ntx nl wt wtx wb wl fh yg _ ⟨ag,P47 nhd a4,P47 nhl l4,P47 nnt t4,P47 nnl m4,⟨P47 nwt W4.i,P47 nwb W4.b,P47 nwl W4.l⟩,P7 _ _ nfh (P6 _ _ nfh f5),P7 _ _ nyg y6,ao a2 nm1,ao l2 nl2,ao l3 wl3,ao m3 wl3,ao W4.b hfh,ao (P5 _ _ nwb W4.b) hyg,ao f5 hyg⟩ (B6.trans But.self) (λb hb=>?_)⟩;rcases hb with rfl|rfl|rfl|rfl|rfl|rfl|rfl|rfl|rfl
 ·exact bk x1 B1 hm1
 ·exact bk x1 B1 hl1
 ·exact bk x2 B2 nm1
 ·exact bk x2 B2 nl2
 ·exact bk x3 B3 wm1
 ·exact bk x3 B3 wb3
 ·exact bk x3 B3 wl3
 ·exact bk x4 B4 hfh
 ·exact bk x5 B5 hyg
noncomputable def yV(D:Ad):Sp:=λvs H Q E=>∃ x dx,∃ y l:Int,vs=[.ref x,.int y,.int l]/\H x=some (.ins D.ab dx [])/\(y=0\/(7<=y/\y<=64))/\7<=l/\l<=400/\∀ A H',IH D H' x A (s0 (decide (y>0)) y l)->But x H H'->(∀ b,cJ x A (s0 (decide (y>0)) y l) b->b=x\/H b=none)->Q .non H'
noncomputable abbrev vS:List Str:=["self","young","limit"]
theorem vk:av vS ["self","young","limit"] (ar jN):=fsc
theorem vm(F:Fun K "__init__" "IdealHeap.__init__" jN D.bW D.eZ)(T:Txt K mg D)
  (nN:9e7 3 D.cU D.iC ["young","limit"] (rA))
  (kR:9e7 3 D.cT D.jg ["self","makes_young"] (C4 D)):9e7 4 D.bW D.eZ ["self","young","limit"] (yV D):=by
 refine F.oa vk F.b3 λcdv A' outer s' H vs Q E hr h=>?_;obtain⟨x,dx,y,l,rfl,hx,hy,l0,l1,k⟩:=h;refine⟨_,(ai (aE (nN.c hr T.DB T.nI px (aa (pv 1) 3e3)))
  (ai (aE (Z2 rfl T.Yj T.Yk kR.g (hr.mono 2e0) kR.b px (aa (pv 0) (aa (vJ QM (pv 1) au (aU _)) ah))))
  (ai (iL (pv 0) (pv 1) rfl)
  (ai (iL (pv 0) (pv 2) rfl)
  (ai (iL (pv 0) jE rfl)
  (aj (iL (pv 0) Di rfl))))))),?_⟩
 refine⟨_,rfl,_,rfl,y,l,rfl,hy,l0,l1,?_⟩;refine⟨_,rfl,_,rfl,y,0,rfl,rfl,x,dx,_,rfl,hx,λhd hdx hl nt ntx nl wt wtx wb wl fh yg H1 R B1 fr=>?_⟩;obtain⟨my,emy⟩:∃ my:Bool,decide (y>0)=my:=⟨_,rfl⟩;rw[emy]at R k;have nx:∀ b,H b=none->b≠x:=λb h e=>by rw[e,hx]at h;cases h
 refine⟨_,rfl,_,rfl,x,D.ab,dx,_,rfl,R.ax,T.ae,T.lI,by show 7<1000;decide,?_⟩;refine⟨_,rfl,_,rfl,x,D.ab,dx,_,rfl,ag,T.ae,T.rn,by show 8<1000;decide,?_⟩;intro dm hdm;have ndm:dm≠x:=λe=>by rw[e,ag]at hdm;cases hdm
 have Wh:H1 dm=none:=by rw[af ndm,af ndm]at hdm;exact hdm
 refine⟨_,rfl,x,D.ab,dx,_,rfl,(by rw[af (aoT ndm)];exact ag),T.ae,T.bu,by show 9<1000;decide,?_⟩;refine⟨_,rfl,x,D.ab,dx,_,rfl,ag,T.ae,T.du,by show 10<1000;decide,?_⟩;have aoc:H dm=none:=by
  cases q:H dm with
  | none=>rfl
  | some u=>rw[B1 _ _ ndm q]at Wh;cases Wh
 have P:∀ {o1 o2 o3 o4:HO},But x H1 (upd (upd (upd (upd (upd H1 x o1) x o2) dm 5e1) x o3) x o4):=λ{o1 o2 o3 o4}=>(((But.self.trans But.self).trans (But.upd (by rw[af ndm,af ndm];exact Wh))).trans But.self).trans But.self;have d2:∀ {o1 o2 o3 o4:HO},upd (upd (upd (upd (upd H1 x o1) x o2) dm 5e1) x o3) x o4 dm=some 5e1:=λ{o1 o2 o3 o4}=>by rw[af ndm,af ndm];exact ag
 have f:=λ(b:Addr) (h:b=hd\/b=hl\/b=nt\/b=nl\/b=wt\/b=wb\/b=wl\/b=fh\/b=yg)=>nx b (fr b h);have n1:=f hd 2e9;have n2:=f hl (.inr 2e9);have n3:=f nt (.inr (.inr 2e9));have n4:=f nl 6e2;have n5:=f wt (.inr 6e2);have n6:=f wb (.inr (.inr 6e2));have n7:=f wl (.inr (.inr (.inr 6e2)));have n8:=f fh (.inr (.inr (.inr (.inr 6e2))));have n9:=f yg (.inr (.inr (.inr (.inr (.inr (.inr (.inr (.inr rfl))))))));refine k ⟨dx,hd,hdx,hl,List.replicate 8 .non,nt,ntx,nl,wt,wtx,wb,wl,fh,λ_=>0,λ_=>[],yg,dm⟩ _ ⟨ag,P _ _ n1 R.ahd,P _ _ n2 R.ahl,Rel.nil,P _ _ n3 R.ant,P _ _ n4 R.anl,P _ _ n5 R.awt.i,P _ _ n6 R.awt.b,P _ _ n7 R.awt.l,P _ _ n8 R.afh,(λ_ _ m=>by cases m),P _ _ n9 R.ayg,d2,R.n1,R.n2,R.n3,R.n4,(λ_ _ m=>by cases m),(λ_ _ _ _ m=>by cases m),R.n5,R.n6,ao R.awt.b Wh,R.n7,ao R.afh Wh,ao R.ayg Wh⟩ (B1.trans P) (λb hb=>?_);cases hb with
 | x=>exact .inl rfl
 | hd=>exact .inr (fr hd 2e9)
 | hl=>exact .inr (fr hl (.inr 2e9))
 | nt=>exact .inr (fr nt (.inr (.inr 2e9)))
 | nl=>exact .inr (fr nl 6e2)
 | wt=>exact .inr (fr wt (.inr 6e2))
 | wb=>exact .inr (fr wb (.inr (.inr 6e2)))
 | wl=>exact .inr (fr wl (.inr (.inr (.inr 6e2))))
 | fh=>exact .inr (fr fh (.inr (.inr (.inr (.inr 6e2)))))
 | yg=>exact .inr (fr yg (.inr (.inr (.inr (.inr (.inr (.inr (.inr (.inr rfl)))))))))
 | dm=>exact .inr aoc
 | fl m=>cases m
theorem Wi{fs:List (Key×V)}{t:Int}{v:V}(h:ir fs (Sum.inl t)=none):putK fs 2e7 v=fs++[(Sum.inl t,v)]:=ue v h
theorem ajY{ts:List Int}{t:Int}:(ir (ts.map tkv) 2e7).isSome=decide (t∈ts):=by
 induction ts with
 | nil=>rfl
 | cons a r ih =>
  rw[ao8];by_cases e:a=t
  ·subst e
   rw[fP (p:=tkv a) (k:=Sum.inl a) rfl];simp
  ·rw[fz (p:=tkv a) (λz=>e (Sum.inl.inj z)),ih]
   have:(t∈a::r)↔t∈r:=by
    rw[ao2];exact⟨λh=>h.elim (λz=>absurd z.symm e) id,.inr⟩
   simp only[this]
theorem Good.Xp{s:HS}(g:Good s):∀ w,(s.nxt,w)∉s.aQ:=λw m=>by have:=(g.lt _ _ m).2;omega
noncomputable def Wj(D:Ad):Sp:=λvs H Q E=>∃ x A s,∃ h n:Int,vs=[.ref x,.int h,.int n]/\IH D H x A s/\Good s/\ok8 h/\0<=n/\n<=6/\∀ A' H',IH D H' x A' (Rk s h n)->Fr 3e6 H (cJ x A' (Rk s h n)) H'->Q .non H'
theorem Sd:∀(n:Nat) (l:List Int) (a:Int),l.Pairwise (·< ·)->(∀ t∈l,a<=t/\t<a+n)->l.length<=n
 | _,[],_,_,_=>apq _
 | 0,b::r,a,_,h=>by have:=h b ao3;omega
 | n+1,b::r,a,p,h=>by
  have hb:=h b ao3
  have:=Sd n r (a+1) (aqg.mp p).2 λt m=>by
   have h1:=(aqg.mp p).1 t m;have h2:=h t (ao6 _ m);omega
  rw[aph];omega
theorem JE{s:HS}(g:Good s):s.yng.length<=10000:=by
 refine Sd 10000 s.yng 0 g.GO λt m=>?_;obtain⟨ws,m⟩:=g.yk t m
 have:=g.lt _ _ m
 have:=g.nx
 omega
theorem SW{s:HS}(g:Good s):s.eh.length<=10000:=by
 refine Sd 10000 s.eh 0 g.Iw λt m=>?_;obtain⟨ws,m⟩:=g.dk t m
 have:=g.lt _ _ m
 have:=g.nx
 omega
noncomputable abbrev DN:List Str:=["self","h","n","t"]
theorem rD:av DN ["self","h","n"] (ar nA):=fsc
theorem Bs(F:Fun K "add_thing" "Heap.add_thing" nA D.cv D.iG)(T:Txt K mg D)
  (bG:9e7 3 D.cx D.eU ["t"] (iP))
  (eJ:9e7 4 D.fJ D.i6 ["self","h","word"] (yT D)):9e7 5 D.cv D.iG ["self","h","n"] (Wj D):=by
 refine F.oa rD F.b3 λcdv A' outer s' H vs Q E hr h=>?_;obtain⟨x,A,s,h,n,rfl,J,G,c,n0,n6,k⟩:=h;have hu:=jw hr;refine⟨_,(ai (aO (i:=3) rD.nd rfl 1e3 1e5)
  (ai (iL (pv 0) (aJ cc (pv 3) au) rfl)
  (ai (mY hu 1e5 (pv 3) (aJ GC (lD (aa bR ah)) (pv 2)) rfl)
  (ai (bS (De 1e5)
   (aj (mY hu 1e5 (pv 3) Di rfl))
   aR)
  (aj (aE (eJ.m hr 1e5 T.a6 T.pT px (aa (pv 1) (aa (bG.c hr T.kN T.ip px 5e3) ah))))))))),?_⟩
 refine⟨_,rfl,x,D.ab,_,_,.int s.nxt,rfl,J.ax,T.ae,T.fU,Zl,?_⟩;refine⟨_,rfl,s.nxt,1,rfl,rfl,_,rfl,x,D.ab,A.dx,_,rfl,J.ax,T.ae,T.fU,by show 11<1000;decide,?_⟩;have w1:=J.aoa (n:=s.nxt+1);obtain⟨H1,e1⟩:∃ H1,upd H x (.ins D.ab A.dx (je "next_thing" (.int (s.nxt+1)) 5e8))=H1:=⟨_,rfl⟩;rw[e1]at w1;show Nv _ _ _ _ (upd H x (.ins D.ab A.dx (je "next_thing" (.int (s.nxt+1)) 5e8)));rw[e1];clear e1;obtain⟨J1,F1⟩:=w1;refine⟨by show 1<=sizeLine;decide,λp hp=>⟨_,rfl,p,n,_,rfl,rfl,ag,by omega,by omega,lE (by show 1*n.toNat<=20000;omega),λq hq=>?_⟩⟩;rw[Ym];have s2:aw H1 (upd H1 p (.lst [.non])):=aw.upd hp;have J2:=J1.same s2;have w2:=J2.ac5 (t:=s.nxt) (xs:=List.replicate n.toNat .non) (ws:=List.replicate n.toNat .no) hq G.Xp Rel.nil;obtain⟨J3,F3⟩:=w2;have J2':=J2.same (aw.upd (o:=.lst (List.replicate n.toNat .non)) hq);have vn:ir (s.aQ.map (fkv A)) (Sum.inl s.nxt)=none:=by
  rw[Wg];cases e:s.aQ.lookup s.nxt with
  | none=>rfl
  | some w=>exact absurd (lookup_some e) (G.Xp w)
 have dp:=Fg.k (k:=Sum.inl s.nxt) (v:=.ref q) J2'.afh (by rw[aoG];exact om (ao7 G.few 2e0));rw[show putK ((({s with nxt:=s.nxt+1}:HS).aQ).map (fkv A)) (Sum.inl s.nxt) (.ref q)=s.aQ.map (fkv A)++[(Sum.inl s.nxt,.ref q)] from Wi vn]at dp;refine⟨_,rfl,x,D.ab,_,_,.ref A.fh,rfl,J2'.ax,T.ae,T.aC,tL,_,rfl,A.fh,_,rfl,dp,?_⟩;have F03:=(F1.trans (Fr.same s2)).trans F3;obtain⟨A3,eA⟩:∃ A3:HA,{A with fa:=λu=>if u=s.nxt then q else A.fa u,fx:=λu=>if u=s.nxt then List.replicate n.toNat V.non else A.fx u}=A3:=⟨_,rfl⟩;obtain⟨H3,e3⟩:∃ H3,upd (upd (upd H1 p (.lst [.non])) q (.lst (List.replicate n.toNat .non))) A.fh (.dK (s.aQ.map (fkv A)++[(Sum.inl s.nxt,.ref q)]))=H3:=⟨_,rfl⟩;have J3:IH D H3 x A3 {s with nxt:=s.nxt+1,aQ:=s.aQ++[(s.nxt,List.replicate n.toNat .no)]}:=by rw[<-e3,<-eA];exact J3
 have F03:Fr 3e6 H (cJ x A3 {s with nxt:=s.nxt+1,aQ:=s.aQ++[(s.nxt,List.replicate n.toNat .no)]}) H3:=by rw[<-e3,<-eA];exact F03
 show Nv _ _ _ _ (upd (upd (upd H1 p (.lst [.non])) q (.lst (List.replicate n.toNat .non))) A.fh (.dK (s.aQ.map (fkv A)++[(Sum.inl s.nxt,.ref q)])));rw[e3];clear e3 eA dp J2';have fin:∀(A4:HA) (H4:Hp) (ys:List Int),IH D H4 x A4 {s with nxt:=s.nxt+1,aQ:=s.aQ++[(s.nxt,List.replicate n.toNat .no)],yng:=ys}->Fr 3e6 H (cJ x A4 {s with nxt:=s.nxt+1,aQ:=s.aQ++[(s.nxt,List.replicate n.toNat .no)],yng:=ys}) H4->(if s.my=true then s.yng++[s.nxt] else s.yng)=ys->∀(t:Addr) (H5:Hp),aw H4 H5->H5 t=some (.tup [.str "thing",.int s.nxt])->yT D [.ref A4.hd,.int h,.ref t] H5 (λ_ H'=>Q .non H') E:=by
  intro A4 H4 ys J4 F4 ey t H5 s5 ht;have J5:=J4.same s5;refine⟨A4.hd,A4.hdx,A4.hl,A4.hx,s.aZ,.ref t,h,rfl,⟨J5.ahd,J5.ahl,J5.rhl,G.h8⟩,Sm.of 1e1 1e1,?_⟩;rw[if_pos c];have w:=J5.U1 (J5.rhl.set (i:=h.toNat) (show WV H5 (.ref t) (.th s.nxt) from⟨t,rfl,ht⟩));have e:Rk s h n={s with nxt:=s.nxt+1,aQ:=s.aQ++[(s.nxt,List.replicate n.toNat .no)],yng:=ys,aZ:=s.aZ.set h.toNat (.th s.nxt)}:=by unfold Rk;rw[ey]
  rw[e]at k;exact k _ _ w.1 ((F4.trans (Fr.same s5)).trans w.2)
 refine⟨_,rfl,x,D.ab,_,_,_,rfl,J3.ax,T.ae,T.iy,Zj,_,rfl,?_⟩;by_cases my:s.my=true
 ·refine jP my ⟨_,rfl,x,D.ab,_,_,_,rfl,J3.ax,T.ae,T.bE,Rg,_,rfl,A3.yg,_,rfl,Fg.k (k:=Sum.inl s.nxt) J3.ayg (by rw[aoG];exact om (ao7 (show s.yng.length<=10000 from JE G) 2e0)),?_⟩
  have vy:ir (s.yng.map tkv) (Sum.inl s.nxt)=none:=by
   have:=ajY (ts:=s.yng) (t:=s.nxt)
   rw[decide_eq_false (λm=>by obtain⟨ws,m⟩:=G.yk _ m;exact G.Xp ws m)]at this;cases q:ir (s.yng.map tkv) (Sum.inl s.nxt) with
   | none=>rfl
   | some v=>rw[q]at this;cases this
  have w4:=J3.an9 (ts:=s.yng++[s.nxt]);rw[aoV]at w4;rw[show putK ((({s with nxt:=s.nxt+1,aQ:=s.aQ++[(s.nxt,List.replicate n.toNat .no)]}:HS).yng).map tkv) (Sum.inl s.nxt) (.bl true)=s.yng.map tkv++[s.nxt].map tkv from Wi vy];obtain⟨J4,F4⟩:=w4;refine⟨_,rfl,x,D.ab,_,_,_,rfl,J4.ax,T.ae,T.aB,pX,A3.hd,A3.hdx,_,rfl,J4.ahd,rfl,_,rfl,_,rfl,s.nxt,rfl,G.n0,λt H5 s5 ht=>?_⟩;exact fin _ _ _ J4 (F03.trans F4) (by rw[if_pos my]) t H5 s5 ht
 ·refine fV (apm.mpr my) ?_
  refine⟨_,rfl,x,D.ab,_,_,_,rfl,J3.ax,T.ae,T.aB,pX,A3.hd,A3.hdx,_,rfl,J3.ahd,rfl,_,rfl,_,rfl,s.nxt,rfl,G.n0,λt H5 s5 ht=>?_⟩;exact fin _ _ _ J3 F03 (by rw[if_neg my]) t H5 s5 ht
noncomputable def Qd(D:Ad):Sp:=λvs H Q E=>∃ x A s,∃ h w:Int,vs=[.ref x,.int h,.int w]/\IH D H x A s/\Good s/\Sm h/\Sm w/\(if ok8 h then(if ok8 w then ∀ A' H',IH D H' x A' (tR s h (nmW (s.names.getD w.toNat none)))->Fr 3e6 H (cJ x A' (tR s h (nmW (s.names.getD w.toNat none)))) H'->Q (nmV (s.names.getD w.toNat none)) H' else Bad D.fS H E) else Bad D.bZ H E)
noncomputable abbrev Bt:List Str:=["self","h","w","t"]
theorem qi:av Bt ["self","h","w"] (ar lQ):=fsc
theorem zD(F:Fun K "read_thing" "Heap.read_thing" lQ D.bN D.gZ)(T:Txt K mg D)
  (aN:9e7 3 D.bq D.cQ ["h"] (eC D))
  (lZ:9e7 4 D.cY D.gY ["self","w"] (Qb D))
  (eJ:9e7 4 D.fJ D.i6 ["self","h","word"] (yT D))
  (bG:9e7 3 D.cx D.eU ["t"] (iP)):9e7 5 D.bN D.gZ ["self","h","w"] (Qd D):=by
 refine F.oa qi F.b3 λcdv A' outer s' H vs Q E hr h=>?_;obtain⟨x,A,s,h,w,rfl,J,G,hh,hw,k⟩:=h;refine⟨_,(ai (aE (aN.c hr T.gH T.d8 px 2e2))
  (ai (aO (i:=3) qi.nd rfl 1e3 (lZ.m hr 1e5 T.dS T.zg px 3e3))
  (ai (aE (eJ.m hr 1e5 T.a6 T.pT px (aa (pv 1) (aa (pB (aG jI (pv 3) bR (aU _)) bR (bG.c hr T.kN T.ip px 5e3)) ah))))
  (aj (aF (pv 3)))))),?_⟩
 refine⟨_,rfl,h,rfl,hh,?_⟩;by_cases c:ok8 h
 ·rw[if_pos c]at k ⊢
  refine⟨_,rfl,x,D.ab,_,_,.ref A.nt,rfl,J.ax,T.ae,T.dI,US,A.nt,A.ntx,_,rfl,J.ant,rfl,_,rfl,A.nt,A.ntx,A.nl,_,w,rfl,J.ntb G,hw,?_⟩;by_cases c2:ok8 w
  ·rw[if_pos c2]at k ⊢
   intro v hv;have hi:w.toNat<s.names.length:=(by rw[G.n8];omega);rw[aoR,aoF hi]at hv;obtain rfl:nmV s.names[w.toNat]=v:=ao4 hv;have gd:s.names.getD w.toNat none=s.names[w.toNat]:=(by simp[List.getD,hi]);rw[gd]at k;have mm:s.names[w.toNat]∈s.names:=apA hi;obtain⟨z,ez⟩:∃ z,s.names[w.toNat]=z:=⟨_,rfl⟩;rw[ez]at k mm ⊢;refine⟨_,rfl,x,D.ab,_,_,.ref A.hd,rfl,J.ax,T.ae,T.aB,pX,A.hd,A.hdx,_,rfl,J.ahd,rfl,_,rfl,?_⟩;cases z with
   | none =>
    refine⟨_,rfl,rfl,_,rfl,eT (λ_=>?_) (λh=>absurd (by simp[nmV]) h)⟩;refine⟨A.hd,A.hdx,A.hl,A.hx,s.aZ,.non,h,rfl,J.hn G,hh,?_⟩;rw[if_pos c];exact⟨_,rfl,let w:=J.U1 (J.rhl.set (i:=h.toNat) (show WV H .non .no from rfl));k _ _ w.1 w.2⟩
   | some t =>
    obtain⟨ws,m⟩:=G.nn t mm;refine⟨_,rfl,rfl,_,rfl,eT (λh=>by simp[nmV]at h) (λ_=>?_)⟩;refine⟨_,rfl,t,rfl,(G.lt _ _ m).1,λp H1 s1 hp=>?_⟩;have J1:=J.same s1;refine⟨A.hd,A.hdx,A.hl,A.hx,s.aZ,.ref p,h,rfl,J1.hn G,hh,?_⟩;rw[if_pos c];exact⟨_,rfl,let w:=J1.U1 (J1.rhl.set (i:=h.toNat) (show WV H1 4e3 (.th t) from⟨p,rfl,hp⟩));k _ _ w.1 ((Fr.same s1).trans w.2)⟩
  ·rw[if_neg c2]at k ⊢
   exact k
 ·rw[if_neg c]at k ⊢
  exact k
noncomputable def I0(D:Ad):Sp:=λvs H Q E=>∃ x A s d kvs ts,vs=[.ref x,.ref d]/\IH D H x A s/\Good s/\H d=some 2e6/\kvs.map (·.1)=ts.map Sum.inl/\(∀ t∈ts,∃ ws,(t,ws)∈s.aQ)/\ts.length<=10000/\∀ H',aw H H'->Q (.int (wsum s ts)) H'
noncomputable abbrev qj:List Str:=["self","things"]
theorem xO:av qj ["self","things"] (ar iY):=fsc
theorem xP(F:Fun K "words_among" "Heap.words_among" iY D.bo D.eL)(T:Txt K mg D)
  (jj:9e7 3 D.gK D.lA ["fields"] (rW D)):9e7 4 D.bo D.eL ["self","things"] (I0 D):=by
 refine F.oa xO F.b2 λcdv A' outer s' H vs Q E hr h=>?_;obtain⟨x,A,s,d,kvs,ts,rfl,J,G,hd,hk,ht,hz,k⟩:=h;have hu:=jw hr;refine⟨_,(aj (aF (Wa (bj (Ub rfl) rfl T.Xl PyProof.Rows.Boot.«sum» (aa (jD (cl:=[("self",s'.heap.objs.size+1)]) (x := "t") (idx:=[0]) (NC:=["t","self"]) ?co1 rfl (yN (GG (pv 1))) (λC fp s₀ H₀=>(jj.c hr T.AU T.qW yA (aa (bj (Ue rfl) rfl T.ji PyProof.Rows.Boot.«len» (aa (hG hu (Yh rfl (pv 1) rfl) (pv 0) 1e7) ah)) ah)))) ah))))),?_⟩
 case co1 =>
  exact gk (sc:=ar iY) (N:=qj) (ns:=["self"]) rfl rfl rfl 2e4 rfl rfl (by
   intro q hq;rw[aoH.mp hq];rfl)
 have lk:kvs.length=ts.length:=by have:=congrArg List.length hk;simpa using this
 refine⟨_,rfl,d,kvs,hd,λo=>?_⟩;refine⟨d,o,kvs,rfl,ag,λL hL=>?_⟩;obtain⟨Hf,ef⟩:∃ Hf,upd H d 5e5=Hf:=⟨_,rfl⟩;rw[ef]at hL ⊢;have fd:Hf d=some 5e5:=by rw[<-ef];exact ag
 have fo:∀ b u,b≠d->H b=some u->Hf b=some u:=λb u n q=>by rw[<-ef,af n];exact q
 have xd:x≠d:=az J.ax hd 1e0;have dg:∀ {Hc:Hp},aw Hf Hc->∀ {t:Int} {ws:List Wd},(t,ws)∈s.aQ->tM Hc A.fh (.int t) (some (.ref (A.fa t))):=λ{Hc} sc {t ws} m=>by
  have e:ir (s.aQ.map (fkv A)) 2e7=some (.ref (A.fa t)):=by rw[Wg,G.get m];rfl
  by_cases c:A.fh=d
  ·have ek:kvs=s.aQ.map (fkv A):=by
    have:=J.afh
    rw[c,hd]at this;injection this with this;injection this
   exact .inl ⟨kvs,Sum.inl t,.inr ⟨o,by rw[c];exact sc _ _ fd⟩,rfl,by rw[ek,e]⟩
  ·exact .inl ⟨_,Sum.inl t,.inl (sc _ _ (fo _ _ c J.afh)),rfl,e.symm⟩
 refine Uc (d:=d) (o:=o) (kvs:=kvs) (λi ys Hc=>ys=((ts.take i).map λt=>V.int (((fld s t).length:Int)+1))/\aw Hf Hc/\Hc L=some 5e0) ⟨rfl,aw.upd hL,ag⟩ (λi ys Hc hi ⟨e,_,z⟩=>⟨z,by rw[e,aoG,aoS];omega⟩) (λi ys Hc _ ⟨_,sc,_⟩=>sc _ _ fd) (lE 1e1) (λi p ys Hc hi ⟨e,sc,z⟩=>?_) (λys Hc ⟨e,sc,z⟩=>?_)
 ·have hik:i<kvs.length:=(aoE.mp hi).1
  have hit:i<ts.length:=by omega
  have ep:p.1=Sum.inl ts[i]:=by
   have h1:=congrArg (λl=>l[i]?) hk;simp only[aoR,hi,aoF hit,apy,Option.some.injEq]at h1;exact h1
  have hkv:kV p.1=.int ts[i]:=by rw[ep];rfl
  obtain⟨t,et⟩:∃ t,ts[i]=t:=⟨_,rfl⟩;obtain⟨ws,m⟩:=ht t (by rw[<-et];exact apA hit);have fm:=G.fld m;obtain⟨hl,rl⟩:=J.afl _ _ m;have f6:=G.f6 _ _ m;have ln:=rl.1;have nld:A.fa t≠d:=az hl hd 1e0;have hlc:=sc _ _ (fo _ _ nld hl);refine⟨_,rfl,x,D.ab,_,_,.ref A.fh,rfl,sc _ _ (fo _ _ xd J.ax),T.ae,T.aC,tL,_,rfl,A.fh,.ref (A.fa t),rfl,(by rw[hkv,et];exact dg sc m),A.fa t,_,rfl,.inl (SqL.of hlc),((A.fx t).length:Int),rfl,Sm.of 1e1 1e1,?_⟩;rw[if_pos ⟨by omega,by omega⟩];refine⟨z,?_,λb u q=>by rw[af (ao q hL)];exact sc b u q,ag⟩;rw[e,apd hit,aoV,et];simp only[ao8,aqk];rw[fm,ln]
 ·rw[lk,aoM (aoL _)]at e
  refine⟨L,ts.map λt=>((fld s t).length:Int)+1,rfl,SqL.of (by rw[z,e,apn];rfl),d,o,kvs,sc _ _ fd,(λo' u' z=>by have z:H d=some (.frz o' u'):=z;rw[hd]at z;cases z),?_⟩;refine k _ λb u q=>?_;by_cases c:b=d
  ·subst c
   rw[hd]at q;cases q;exact ag
  ·rw[af c]
   exact sc _ _ (fo _ _ c q)
noncomputable def SY(D:Ad):Sp:=λvs H Q E=>∃ x A s,vs=[.ref x]/\IH D H x A s/\Good s/\∀ H',aw H H'->Q (.int (held s)) H'
noncomputable abbrev DO:List Str:=["self"]
theorem Bu:av DO ["self"] (ar nE):=fsc
theorem Bv(F:Fun K "held" "IdealHeap.held" nE D.dE D.iJ)(T:Txt K mg D)
  (eM:9e7 4 D.bo D.eL ["self","things"] (I0 D)):9e7 5 D.dE D.iJ ["self"] (SY D):=by
 refine F.oa Bu F.b1 λcdv A' outer s' H vs Q E hr h=>?_;obtain⟨x,A,s,rfl,J,G,k⟩:=h;refine⟨_,(aj (aF (eM.m hr (pv 0) T.ae T.kF px (aa 1e5 ah)))),?_⟩;exact⟨_,rfl,x,_,_,rfl,J.ax,1e4,_,rfl,x,D.ab,_,_,.ref A.fh,rfl,J.ax,T.ae,T.aC,tL,x,A,s,A.fh,_,keys s,rfl,J,G,J.afh,by rw[apn];unfold keys;rw[apn];rfl,(λt m=>by obtain⟨p,hp,rfl⟩:=ao5.mp m;exact⟨p.2,hp⟩),by unfold keys;rw[aoG];exact G.few,k⟩
noncomputable def VD(D:Ad):Sp:=λvs H Q E=>∃ x A s,∃ h:Int,vs=[.ref x,.int h]/\IH D H x A s/\Good s/\Sm h/\(match wat s.aZ h with|some wd=>∀ H',aw H H'->Q (.str wd.kind) H'|none=>Bad D.bZ H E)
noncomputable abbrev DP:List Str:=["self","h"]
theorem Bw:av DP ["self","h"] (ar nD):=fsc
theorem Bx(F:Fun K "kind" "IdealHeap.kind" nD D.eP D.j4)(T:Txt K mg D)
  (gi:9e7 5 D.fB D.i9 ["self","h"] (Dl D)):9e7 6 D.eP D.j4 ["self","h"] (VD D):=by
 refine F.oa Bw F.b2 λcdv A' outer s' H vs Q E hr h=>?_;obtain⟨x,A,s,h,rfl,J,G,hh,k⟩:=h;have hu:=jw hr;refine⟨_,(aj (aF (gi.m hr 1e5 T.a6 T.sE px 2e2))),?_⟩;exact⟨_,rfl,x,D.ab,_,_,.ref A.hd,rfl,J.ax,T.ae,T.aB,pX,A.hd,A.hdx,_,rfl,J.ahd,rfl,_,rfl,A.hd,A.hdx,A.hl,A.hx,s.aZ,h,rfl,J.hn G,hh,k⟩
noncomputable def Um(D:Ad):Sp:=λvs H Q E=>∃ x A s,∃ h:Int,vs=[.ref x,.int h]/\IH D H x A s/\Good s/\Sm h/\(match wat s.aZ h with|some (.num x)=>∀ H',aw H H'->Q (.int x) H'|_=>Bad D.bZ H E)
noncomputable abbrev By:List Str:=["self","h"]
theorem zE:av By ["self","h"] (ar lR):=fsc
theorem zF(F:Fun K "value" "IdealHeap.value" lR D.dM D.jx)(T:Txt K mg D)
  (sN:9e7 6 D.gp D.kH ["self","h"] (P9 D)):9e7 7 D.dM D.jx ["self","h"] (Um D):=by
 refine F.oa zE F.b2 λcdv A' outer s' H vs Q E hr h=>?_;obtain⟨x,A,s,h,rfl,J,G,hh,k⟩:=h;have hu:=jw hr;refine⟨_,(aj (aF (sN.m hr 1e5 T.a6 T.GQ px 2e2))),?_⟩;exact⟨_,rfl,x,D.ab,_,_,.ref A.hd,rfl,J.ax,T.ae,T.aB,pX,A.hd,A.hdx,_,rfl,J.ahd,rfl,_,rfl,A.hd,A.hdx,A.hl,A.hx,s.aZ,h,rfl,J.hn G,hh,k⟩
noncomputable def Rl(D:Ad):Sp:=λvs H Q E=>∃ x A s,∃ h:Int,vs=[.ref x,.int h]/\IH D H x A s/\Good s/\Sm h/\(match wat s.aZ h with|some (.th t)=>∀ H',aw H H'->Q (.int (fld s t).length) H'|_=>Bad D.bZ H E)
noncomputable abbrev zG:List Str:=["self","h"]
theorem xQ:av zG ["self","h"] (ar kT):=fsc
theorem xR(F:Fun K "fields" "IdealHeap.fields" kT D.dq D.iZ)(T:Txt K mg D)
  (aT:9e7 6 D.bc D.cA ["self","h"] (kr D)):9e7 7 D.dq D.iZ ["self","h"] (Rl D):=by
 refine F.oa xQ F.b2 λcdv A' outer s' H vs Q E hr h=>?_;obtain⟨x,A,s,h,rfl,J,G,hh,k⟩:=h;have hu:=jw hr;refine⟨_,(aj (aF (bj aP rfl T.ji PyProof.Rows.Boot.«len» (aa (hG hu 1e5 (aT.m hr 1e5 T.a6 T.gG px 2e2) 1e7) ah)))),?_⟩;refine⟨_,rfl,x,D.ab,_,_,.ref A.fh,rfl,J.ax,T.ae,T.aC,tL,_,rfl,x,D.ab,_,_,.ref A.hd,rfl,J.ax,T.ae,T.aB,pX,A.hd,A.hdx,_,rfl,J.ahd,rfl,_,rfl,A.hd,A.hdx,A.hl,A.hx,s.aZ,h,rfl,J.hn G,hh,?_⟩;cases e:wat s.aZ h with
 | none=>rw[e]at k;exact k
 | some wd =>
  rw[e]at k;cases wd with
  | no=>exact k
  | num n=>exact k
  | th t =>
   intro H1 s1;have J1:=J.same s1;have m:=G.hand e;obtain⟨hl,rl⟩:=J1.afl _ _ m;refine⟨A.fh,_,rfl,J1.Zm G m,A.fa t,_,rfl,.inl (SqL.of hl),?_⟩;rw[rl.1];exact k H1 s1
theorem EY{F F':Addr->Prop}{H:Hp}{p b:Addr}{u o o':HO}(hp:H p=none)(f:F b)(hb:H b=some u)(n:∀ xs,u≠.tup xs)(g:∀ c,F' c->F c\/c=p):Fr F H F' (upd (upd H p o) b o') where
 ext:=λc v nf q=>by rw[af λe=>nf (by rw[e];exact f),af (ao q hp)];exact q
 grow:=λc f'=>(g c f').imp id λe=>by rw[e];exact hp
 all:=λc v q=>by
  by_cases e:c=b
  ·exact⟨o',by rw[e];exact ag⟩
  ·exact⟨v,by rw[af e,af (ao q hp)];exact q⟩
 tup:=(bg.of (aw.upd hp)).trans (bg.set (aw.upd hp _ _ hb) n)
section
variable{D:Ad}{H H':Hp}{x:Addr}{A A':HA}{s s':HS}
theorem IH.aod(J:IH D H x A s){p:Addr}(hp:H p=none):IH D (upd (upd H p 5e1) x (.ins D.ab A.dx (je "young_things" 4e3 5e8))) x {A with yg:=p} {s with yng:=[]}/\Fr 3e6 H (cJ x {A with yg:=p} {s with yng:=[]}) (upd (upd H p 5e1) x (.ins D.ab A.dx (je "young_things" 4e3 5e8))):=by
 have s1:aw H (upd H p 5e1):=aw.upd hp;have nf:¬cJ x A s p:=J.fresh hp;have pp:upd H p 5e1 p=some 5e1:=ag;refine⟨?_,EY hp (.x) J.ax 2e1 (λc f=>?_)⟩
 ·have J:=J.same s1
  have tk:bg (upd H p 5e1) (upd (upd H p 5e1) x (.ins D.ab A.dx (je "young_things" 4e3 5e8))):=bg.set J.ax 2e1;exact⟨(by rw[ag,ac3];rfl),(by rw[af (az J.ahd J.ax (oj (show(1:Nat)≠11 by decide)))];exact J.ahd),(by rw[af (az J.ahl J.ax 1e0)];exact J.ahl),J.rhl.keep tk,(by rw[af (az J.ant J.ax (oj (show(1:Nat)≠11 by decide)))];exact J.ant),(by rw[af (az J.anl J.ax 1e0)];exact J.anl),(by rw[af (az J.awt J.ax (oj (show(2:Nat)≠11 by decide)))];exact J.awt),(by rw[af (az J.awb J.ax 1e0)];exact J.awb),(by rw[af (az J.awl J.ax 1e0)];exact J.awl),(by rw[af (az J.afh J.ax 1e0)];exact J.afh),(λt ws m=>⟨by rw[af (az (J.afl _ _ m).1 J.ax 1e0)];exact(J.afl _ _ m).1,(J.afl _ _ m).2.keep tk⟩),(by show upd _ _ _ p=_;rw[af λe=>nf (by rw[e];exact .x)];exact pp),(by rw[af (az J.adm J.ax 1e0)];exact J.adm),J.nhn,J.l1,J.l2,J.l3,J.l4,J.l5,J.d1,(λ(e:A.wb=p)=>nf (by rw[<-e];exact .wb)),J.d3,(λ(e:A.fh=p)=>nf (by rw[<-e];exact .fh)),J.d5,(λ(e:p=A.dm)=>nf (by rw[e];exact .dm))⟩
 ·cases f with
  | x=>exact .inl .x
  | hd=>exact .inl .hd
  | hl=>exact .inl .hl
  | nt=>exact .inl .nt
  | nl=>exact .inl .nl
  | wt=>exact .inl .wt
  | wb=>exact .inl .wb
  | wl=>exact .inl .wl
  | fh=>exact .inl .fh
  | yg=>exact .inr rfl
  | dm=>exact .inl .dm
  | fl m=>exact .inl (.fl m)
theorem IH.aoe(J:IH D H x A s){p:Addr}(hp:H p=none):IH D (upd (upd H p 5e1) x (.ins D.ab A.dx (je "doomed_things" 4e3 5e8))) x {A with dm:=p} {s with eh:=[]}/\Fr 3e6 H (cJ x {A with dm:=p} {s with eh:=[]}) (upd (upd H p 5e1) x (.ins D.ab A.dx (je "doomed_things" 4e3 5e8))):=by
 have s1:aw H (upd H p 5e1):=aw.upd hp;have nf:¬cJ x A s p:=J.fresh hp;have pp:upd H p 5e1 p=some 5e1:=ag;refine⟨?_,EY hp (.x) J.ax 2e1 (λc f=>?_)⟩
 ·have J:=J.same s1
  have tk:bg (upd H p 5e1) (upd (upd H p 5e1) x (.ins D.ab A.dx (je "doomed_things" 4e3 5e8))):=bg.set J.ax 2e1;exact⟨(by rw[ag,ac4];rfl),(by rw[af (az J.ahd J.ax (oj (show(1:Nat)≠11 by decide)))];exact J.ahd),(by rw[af (az J.ahl J.ax 1e0)];exact J.ahl),J.rhl.keep tk,(by rw[af (az J.ant J.ax (oj (show(1:Nat)≠11 by decide)))];exact J.ant),(by rw[af (az J.anl J.ax 1e0)];exact J.anl),(by rw[af (az J.awt J.ax (oj (show(2:Nat)≠11 by decide)))];exact J.awt),(by rw[af (az J.awb J.ax 1e0)];exact J.awb),(by rw[af (az J.awl J.ax 1e0)];exact J.awl),(by rw[af (az J.afh J.ax 1e0)];exact J.afh),(λt ws m=>⟨by rw[af (az (J.afl _ _ m).1 J.ax 1e0)];exact(J.afl _ _ m).1,(J.afl _ _ m).2.keep tk⟩),(by rw[af (az J.ayg J.ax 1e0)];exact J.ayg),(by show upd _ _ _ p=_;rw[af λe=>nf (by rw[e];exact .x)];exact pp),J.nhn,J.l1,J.l2,J.l3,J.l4,J.l5,J.d1,J.d2,(λ(e:A.wb=p)=>nf (by rw[<-e];exact .wb)),J.d4,(λ(e:A.fh=p)=>nf (by rw[<-e];exact .fh)),(λ(e:A.yg=p)=>nf (by rw[<-e];exact .yg))⟩
 ·cases f with
  | x=>exact .inl .x
  | hd=>exact .inl .hd
  | hl=>exact .inl .hl
  | nt=>exact .inl .nt
  | nl=>exact .inl .nl
  | wt=>exact .inl .wt
  | wb=>exact .inl .wb
  | wl=>exact .inl .wl
  | fh=>exact .inl .fh
  | yg=>exact .inl .yg
  | dm=>exact .inr rfl
  | fl m=>exact .inl (.fl m)
theorem IH.aof(J:IH D H x A s){ns:List (Option Int)}{p:Addr}(hp:H p=none):IH D (upd (upd H p (.lst (ns.map nmV))) A.nt (.ins D.aD A.ntx [("things_named",.ref p)])) x {A with nl:=p} {s with names:=ns}/\Fr 3e6 H (cJ x {A with nl:=p} {s with names:=ns}) (upd (upd H p (.lst (ns.map nmV))) A.nt (.ins D.aD A.ntx [("things_named",.ref p)])):=by
 have s1:aw H (upd H p (.lst (ns.map nmV))):=aw.upd hp;have nf:¬cJ x A s p:=J.fresh hp;have pp:upd H p (.lst (ns.map nmV)) p=some (.lst (ns.map nmV)):=ag;refine⟨?_,EY hp (.nt) J.ant 2e1 (λc f=>?_)⟩
 ·have J:=J.same s1
  have tk:bg (upd H p (.lst (ns.map nmV))) (upd (upd H p (.lst (ns.map nmV))) A.nt (.ins D.aD A.ntx [("things_named",.ref p)])):=bg.set J.ant 2e1;exact⟨(by rw[af (az J.ax J.ant (oj (show(11:Nat)≠1 by decide)))];exact J.ax),(by rw[af J.nhn];exact J.ahd),(by rw[af (az J.ahl J.ant 1e0)];exact J.ahl),J.rhl.keep tk,ag,(by show upd _ _ _ p=_;rw[af λe=>nf (by rw[e];exact .nt)];exact pp),(by rw[af (az J.awt J.ant (oj (show(2:Nat)≠1 by decide)))];exact J.awt),(by rw[af (az J.awb J.ant 1e0)];exact J.awb),(by rw[af (az J.awl J.ant 1e0)];exact J.awl),(by rw[af (az J.afh J.ant 1e0)];exact J.afh),(λt ws m=>⟨by rw[af (az (J.afl _ _ m).1 J.ant 1e0)];exact(J.afl _ _ m).1,(J.afl _ _ m).2.keep tk⟩),(by rw[af (az J.ayg J.ant 1e0)];exact J.ayg),(by rw[af (az J.adm J.ant 1e0)];exact J.adm),J.nhn,(λ(e:A.hl=p)=>nf (by rw[<-e];exact .hl)),J.l2,(λ(e:p=A.wl)=>nf (by rw[e];exact .wl)),(λt ws m=>⟨(J.l4 _ _ m).1,(λ(e:A.fa t=p)=>nf (by rw[<-e];exact .fl m)),(J.l4 _ _ m).2.2⟩),J.l5,J.d1,J.d2,J.d3,J.d4,J.d5,J.d6⟩
 ·cases f with
  | x=>exact .inl .x
  | hd=>exact .inl .hd
  | hl=>exact .inl .hl
  | nt=>exact .inl .nt
  | nl=>exact .inr rfl
  | wt=>exact .inl .wt
  | wb=>exact .inl .wb
  | wl=>exact .inl .wl
  | fh=>exact .inl .fh
  | yg=>exact .inl .yg
  | dm=>exact .inl .dm
  | fl m=>exact .inl (.fl m)
noncomputable def AW(fs:List (Int×List Wd))(t:Int):List (Int×List Wd):=fs.filter λp=>decide (p.1≠t)
theorem tS{fs:List (Int×List Wd)}{t t':Int}{ws:List Wd}:(t',ws)∈AW fs t↔(t',ws)∈fs/\t'≠t:=by unfold AW;rw[apt];simp
theorem Yn{fs:List (Int×List Wd)}{A:HA}{t:Int}:vN (fs.map (fkv A)) 2e7=(AW fs t).map (fkv A):=by
 unfold vN AW;rw[aqA];congr 1
 refine apI λp _=>?_;show decide (Sum.inl p.1≠(Sum.inl t:Key))=decide (p.1≠t);simp
theorem IH.ac6(J:IH D H x A s){t:Int}:IH D (upd H A.fh (.dK ((AW s.aQ t).map (fkv A)))) x A {s with aQ:=AW s.aQ t}/\Fr 3e6 H (cJ x A {s with aQ:=AW s.aQ t}) (upd H A.fh (.dK ((AW s.aQ t).map (fkv A)))):=by
 have tk:bg H (upd H A.fh (.dK ((AW s.aQ t).map (fkv A)))):=bg.set J.afh 2e1;refine⟨⟨(by rw[af (az J.ax J.afh 1e0)];exact J.ax),(by rw[af (az J.ahd J.afh 1e0)];exact J.ahd),(by rw[af (az J.ahl J.afh 1e0)];exact J.ahl),J.rhl.keep tk,(by rw[af (az J.ant J.afh 1e0)];exact J.ant),(by rw[af (az J.anl J.afh 1e0)];exact J.anl),(by rw[af (az J.awt J.afh 1e0)];exact J.awt),(by rw[af J.d1];exact J.awb),(by rw[af (az J.awl J.afh 1e0)];exact J.awl),ag,(λu ws m'=>by have m:=(tS.mp m').1;exact⟨by rw[af (az (J.afl _ _ m).1 J.afh 1e0)];exact(J.afl _ _ m).1,(J.afl _ _ m).2.keep tk⟩),(by rw[af (aoT J.d4)];exact J.ayg),(by rw[af (aoT J.d5)];exact J.adm),J.nhn,J.l1,J.l2,J.l3,(λu ws m=>J.l4 _ _ (tS.mp m).1),(λu ws v w m m' e=>J.l5 _ _ _ _ (tS.mp m).1 (tS.mp m').1 e),J.d1,J.d2,J.d3,J.d4,J.d5,J.d6⟩,Fr.set .fh J.afh 2e1 (λc f=>?_)⟩;cases f with
 | x=>exact .x
 | hd=>exact .hd
 | hl=>exact .hl
 | nt=>exact .nt
 | nl=>exact .nl
 | wt=>exact .wt
 | wb=>exact .wb
 | wl=>exact .wl
 | fh=>exact .fh
 | yg=>exact .yg
 | dm=>exact .dm
 | fl m=>exact .fl (tS.mp m).1
end
inductive Led(rs:List Wd)(F:Int->List Wd)(S:List Int):Int->Prop where
 | root {t:Int}:Wd.th t∈rs->t∈S->Led rs F S t
 | step {u t:Int}:Led rs F S u->Wd.th t∈F u->t∈S->Led rs F S t
theorem Led.mem{rs:List Wd}{F:Int->List Wd}{S:List Int}{t:Int}(h:Led rs F S t):t∈S:=by cases h<;>assumption
noncomputable def amg(S:List Int):Wd->Option Int
 | .th t=>if t∈S then some t else none
 | _=>none
theorem ug{S:List Int}{w:Wd}{t:Int}:amg S w=some t↔w=.th t/\t∈S:=by
 cases w with
 | no=>exact⟨(λh=>by cases h),(λh=>by cases h.1)⟩
 | num n=>exact⟨(λh=>by cases h),(λh=>by cases h.1)⟩
 | th u =>
  show(if u∈S then some u else none)=some t↔_;by_cases c:u∈S
  ·rw[if_pos c]
   exact⟨(λh=>by cases h;exact⟨rfl,c⟩),(λh=>by cases h.1;rfl)⟩
  ·rw[if_neg c]
   exact⟨(λh=>by cases h),(λh=>by cases h.1;exact absurd h.2 c)⟩
inductive Rc(rs:List (Option Int))(F:Int->List (Option Int)):Int->Prop where
 | root {t:Int}:some t∈rs->Rc rs F t
 | step {u t:Int}:Rc rs F u->some t∈F u->Rc rs F t
theorem aab{rs:List Wd}{F:Int->List Wd}{S:List Int}{t:Int}:Rc (rs.map (amg S)) (λu=>(F u).map (amg S)) t↔Led rs F S t:=by
 constructor
 ·intro h
  induction h with
  | root m =>
   obtain⟨w,mw,e⟩:=ao5.mp m;obtain⟨rfl,c⟩:=ug.mp e;exact .root mw c
  | step _ m ih =>
   obtain⟨w,mw,e⟩:=ao5.mp m;obtain⟨rfl,c⟩:=ug.mp e;exact .step ih mw c
 ·intro h
  induction h with
  | root m c=>exact .root (ao5.mpr ⟨_,m,ug.mpr ⟨rfl,c⟩⟩)
  | step _ m c ih=>exact .step ih (ao5.mpr ⟨_,m,ug.mpr ⟨rfl,c⟩⟩)
theorem uh:∀ {ms ks:List Int},ms.Nodup->(∀ m∈ms,m∈ks)->ms.length<=ks.length
 | [],_,_,_=>apq _
 | a::r,ks,nd,h=>by
  rw[apP]at nd;have ha:=h a ao3
  have:=uh (ms:=r) (ks:=ks.erase a) nd.2 λm hm=>(List.mem_erase_of_ne (λe=>nd.1 (by rw[<-e];exact hm))).mpr (h m (ao6 _ hm))
  rw[List.length_erase_of_mem ha]at this
  have:0<ks.length:=List.length_pos_of_mem ha
  rw[aph];omega
noncomputable def Kys(kvs:List (Key×V))(ms:List Int):Prop:=kvs.map (·.1)=ms.map Sum.inl
theorem Kys.len{kvs:List (Key×V)}{ms:List Int}(k:Kys kvs ms):kvs.length=ms.length:=by have:=congrArg List.length k;simpa using this
theorem Kys.isS{kvs:List (Key×V)}{ms:List Int}(k:Kys kvs ms){t:Int}:(ir kvs 2e7).isSome=decide (t∈ms):=by
 induction kvs generalizing ms with
 | nil=>cases ms with
  | nil=>rfl
  | cons a r=>cases k
 | cons p r ih=>cases ms with
  | nil=>cases k
  | cons a ms =>
   unfold Kys at k;rw[ao8,ao8]at k;injection k with k1 k2;by_cases e:a=t
   ·subst e
    rw[fP k1];simp
   ·rw[fz (λz=>e (Sum.inl.inj (k1.symm.trans z))),ih k2]
    have:(t∈a::ms)↔t∈ms:=by
     rw[ao2];exact⟨λh=>h.elim (λz=>absurd z.symm e) id,.inr⟩
    simp only[this]
theorem Kys.non{kvs:List (Key×V)}{ms:List Int}(k:Kys kvs ms){t:Int}(h:t∉ms):ir kvs 2e7=none:=by
 have:=k.isS (t:=t)
 rw[decide_eq_false h]at this;cases q:ir kvs 2e7 with
 | none=>rfl
 | some v=>rw[q]at this;cases this
theorem Kys.snoc{kvs:List (Key×V)}{ms:List Int}(k:Kys kvs ms){t:Int}{v:V}(h:t∉ms):Kys (putK kvs 2e7 v) (ms++[t]):=by
 rw[ue v (k.non h)];unfold Kys at k ⊢;rw[aoV,aoV,k];rfl
theorem Kys.at_{kvs:List (Key×V)}{ms:List Int}(k:Kys kvs ms){i:Nat}{p:Key×V}(h:kvs[i]?=some p):∃ t,ms[i]?=some t/\kV p.1=.int t/\p.1=Sum.inl t:=by
 have h1:=congrArg (λl=>l[i]?) k;simp only[aoR,h,apy]at h1;obtain⟨t,e1,e2⟩:=aoZ.mp h1.symm;exact⟨t,e1,by rw[<-e2];rfl,e2.symm⟩
theorem Iy(ts:List Int):Kys (ts.map tkv) ts:=by unfold Kys;rw[apn];rfl
theorem UT(s:HS)(A:HA):Kys (s.aQ.map (fkv A)) 4e6:=by unfold Kys keys;rw[apn,apn];rfl
noncomputable def drG(fs:List (Int×List Wd))(gs:List Int):List (Int×List Wd):=fs.filter λp=>decide (p.1∉gs)
noncomputable def nmG(gs:List Int)(n:Option Int):Option Int:=match n with|none=>none|some t=>if t∈gs then none else some t
noncomputable def brG(bs:List (Int×Int))(gs:List Int):List (Int×Int):=bs.filter λp=>decide (p.1∉gs)
noncomputable def sdG(bs:List (Int×Int))(gs:List Int):List Int:=gs.filterMap λt=>bs.lookup t
noncomputable def letGo(s:HS)(gs:List Int):HS:={s with aQ:=drG s.aQ gs,names:=s.names.map (nmG gs),cB:=brG s.cB gs,wO:=s.wO++sdG s.cB gs}
theorem kO{fs:List (Int×List Wd)}{gs:List Int}{t:Int}{ws:List Wd}:(t,ws)∈drG fs gs↔(t,ws)∈fs/\t∉gs:=by unfold drG;rw[apt];simp
theorem VE{fs:List (Int×List Wd)}{gs:List Int}{t:Int}:drG fs (gs++[t])=AW (drG fs gs) t:=by
 unfold drG AW;rw[List.filter_filter];refine apI λp _=>?_;simp[aoU,not_or,Bool.and_comm]
theorem Ta{fs:List (Int×List Wd)}:drG fs []=fs:=by unfold drG;simp
theorem Qe{bs:List (Int×Int)}{gs:List Int}{t:Int}:brG bs (gs++[t])=(brG bs gs).filter λp=>decide (p.1≠t):=by
 unfold brG;rw[List.filter_filter];refine apI λp _=>?_;simp[aoU,not_or,Bool.and_comm]
theorem Rn{bs:List (Int×Int)}{gs:List Int}{t:Int}(h:t∉gs):(brG bs gs).lookup t=bs.lookup t:=by
 unfold brG;induction bs with
 | nil=>rfl
 | cons p r ih =>
  obtain⟨a,b⟩:=p;rw[List.filter_cons];by_cases c:a∈gs
  ·rw[if_neg (by simpa using c),ih,apK]
   rw[show(t == a)=false from beq_eq_false_iff_ne.mpr λe=>h (by rw[e];exact c)]
  ·rw[if_pos (by simpa using c),apK,apK,ih]
theorem Yo{bs:List (Int×Int)}{t:Int}:vN (bs.map bkv) 2e7=(bs.filter λp=>decide (p.1≠t)).map bkv:=by
 unfold vN;rw[aqA];congr 1
 refine apI λp _=>?_;show decide (Sum.inl p.1≠(Sum.inl t:Key))=decide (p.1≠t);simp
theorem filter_none{bs:List (Int×Int)}{t:Int}(h:bs.lookup t=none):(bs.filter λp=>decide (p.1≠t))=bs:=List.filter_eq_self.mpr λp hp=>by simpa using lookup_none h p hp
theorem Qf{bs:List (Int×Int)}{gs:List Int}{t:Int}:sdG bs (gs++[t])=sdG bs gs++(match bs.lookup t with|some v=>[v]|none=>[]):=by
 unfold sdG;rw[List.filterMap_append];congr 1
 cases e:bs.lookup t with
 | none=>simp[e]
 | some v=>simp[e]
structure Wk(H H4:Hp)(st mt:Addr)(rs:List (Option Int))(F:Int->List (Option Int))(S:List Int)(kvs:List (Key×V))(ms:List Int):Prop where
 sm:aw H H4
 hs:H4 st=some 2e6
 ky:Kys kvs ms
 nd:ms.Nodup
 sub:∀ m∈ms,m∈S
 snd:∀ m∈ms,Rc rs F m
 hm:H4 mt=some (.lst (ms.map V.int))
 rts:∀ t,some t∈rs->t∈ms
theorem Wk.same{H H4 H5:Hp}{st mt:Addr}{rs:List (Option Int)}{F:Int->List (Option Int)}{S:List Int}{kvs:List (Key×V)}{ms:List Int}(w:Wk H H4 st mt rs F S kvs ms)(k:aw H4 H5):Wk H H5 st mt rs F S kvs ms :=
 ⟨w.sm.trans k,k _ _ w.hs,w.ky,w.nd,w.sub,w.snd,k _ _ w.hm,w.rts⟩
theorem Wk.put{H H4:Hp}{st mt:Addr}{rs:List (Option Int)}{F:Int->List (Option Int)}{S:List Int}{kvs:List (Key×V)}{ms:List Int}(w:Wk H H4 st mt rs F S kvs ms)(h1:H st=none)(h2:H mt=none){n:Int}{v:V}(hn:n∉ms)(hS:n∈S)(hr:Rc rs F n) :
  Wk H (upd (upd H4 st (.dK (putK kvs (Sum.inl n) v))) mt (.lst (ms.map V.int++[.int n]))) st mt rs F S (putK kvs (Sum.inl n) v) (ms++[n]):=by
 have ne:st≠mt:=az w.hs w.hm 1e0;refine⟨λb u q=>?_,?_,w.ky.snoc hn,?_,λm h=>?_,λm h=>?_,?_,λt h=>apf _ (w.rts t h)⟩
 ·rw[af (ao q h2),af (ao q h1)]
  exact w.sm b u q
 ·rw[af ne]
  exact ag
 ·rw[apC]
  exact⟨w.nd,by simp,λa ha b hb=>by rw[aoH.mp hb];exact λe=>hn (by rw[<-e];exact ha)⟩
 ·rcases aoU.mp h with g|g
  ·exact w.sub m g
  ·rw[aoH.mp g];exact hS
 ·rcases aoU.mp h with g|g
  ·exact w.snd m g
  ·rw[aoH.mp g];exact hr
 ·rw[aoV]
  exact ag
theorem VF{ms:List Int}{n:Int}(nd:ms.Nodup)(hn:n∉ms):(ms++[n]).Nodup:=by
 rw[apC];exact⟨nd,by simp,λa ha b hb=>by rw[aoH.mp hb];exact λe=>hn (by rw[<-e];exact ha)⟩
theorem aac{rs:List (Option Int)}{F:Int->List (Option Int)}{ms:List Int}(h0:∀ t,some t∈rs->t∈ms)(h1:∀ u∈ms,∀ t,some t∈F u->t∈ms){t:Int}(h:Rc rs F t):t∈ms:=by
 induction h with
 | root m=>exact h0 _ m
 | step _ m ih=>exact h1 _ ih _ m
noncomputable def Qg:Sp:=λvs H Q _=>∃(v r d:Addr) (rs:List (Option Int)) (S:List Int) (F:Int->List (Option Int)) (ad:Int->Addr),vs=[.ref v]/\H v=some (.tup [.ref r,.ref d])/\H r=some (.lst (rs.map nmV))/\H d=some (.dK (S.map λt=>(Sum.inl t,.ref (ad t))))/\(∀ t∈S,H (ad t)=some (.lst ((F t).map nmV)))/\(∀ t,some t∈rs->t∈S)/\(∀ u∈S,∀ t,some t∈F u->t∈S)/\S.length<=10000/\∀ st kvs ms H',aw H H'->H st=none->H' st=some 2e6->Kys kvs ms->ms.Nodup->(∀ t,t∈ms↔Rc rs F t)->Q (.ref st) H'
noncomputable abbrev L6:List Str:=["view","steps","place","thing","met","done"]
theorem fu:av L6 ["view"] (ar uq):=fsc
theorem JF(F:Fun K "last_steps" "last_steps" uq D.fZ D.mJ)(T:Txt K mg D):9e7 1 D.fZ D.mJ ["view"] (Qg):=by
 refine F.oa fu F.b1 λcdv A' outer s' H vs Q E hr h=>?_;obtain⟨v,r,d,rs,S,F,ad,rfl,ht,hrs,hd,U2,hrt,hcl,XX,k⟩:=h;have hu:=jw hr;refine⟨_,(PSs.nox (ai (aO (i:=1) fu.nd rfl 1e3 jE)
  (ai (eK aoY rfl (vM rfl T.ic (aa (bT cf (pv 0) au 1e7) ah)) (nV rfl (bz (aK (i:=2) fu.nd rfl 1e3) (bz (aK (i:=3) fu.nd rfl 1e3) jY)))
   (aj (bS (PW.pt (pw_and (aG Ss (pv 3) bR (aU _)) (pw_and1 (t9 (ow hu (pv 3) (pv 1)) 3e2))))
    (aj (mY hu (pv 1) (pv 3) (cW (aa bR 3e3)) rfl))
    aR)))
  (ai (aO (i:=4) fu.nd rfl 1e3 (lF (Ik rfl) rfl T.yQ PyProof.Rows.Boot.«list» 2e2))
  (ai (aO (i:=5) fu.nd rfl 1e3 au)
  (ai (IS aoY (aG yy (pv 5) (bj aP rfl T.ji PyProof.Rows.Boot.«len» 3e0) (aU _))
   (ai (eK aoY rfl (vM rfl T.ic (aa (hG hu (bT cf (pv 0) au 1e7) (bT gI (pv 4) (pv 5) 1e7) 1e7) ah)) (nV rfl (bz (aK (i:=2) fu.nd rfl 1e3) (bz (aK (i:=3) fu.nd rfl 1e3) jY)))
    (aj (bS (PW.pt (pw_and (aG Ss (pv 3) bR (aU _)) (pw_and1 (t9 (ow hu (pv 3) (pv 1)) 3e2))))
     (ai (mY hu (pv 1) (pv 3) (cW (aa (bT gI (pv 4) (pv 5) 1e7) 3e3)) rfl)
     (aj (aE (Ie PySem.F.plainAttrs_list PySem.F.slot_list_append PySem.F.type_list_append ou (pv 4) 5e3))))
     aR)))
   (aj (ZF (i:=5) fu.nd rfl 1e3 au ZG))))
  (aj (aF (pv 1))))))))),?_⟩
 refine λst hst=>?_;have s0:aw H (upd H st 5e1):=aw.upd hst;have kyS:Kys (S.map λt=>((Sum.inl t:Key),V.ref (ad t))) S:=by unfold Kys;rw[apn];rfl
 have dgS:∀ {Hc:Hp},aw H Hc->∀ {t:Int},t∈S->tM Hc d (.int t) (some (.ref (ad t))):=λ{Hc} sc {t} m=>by
  have e:ir (S.map λt=>((Sum.inl t:Key),V.ref (ad t))) 2e7=some (.ref (ad t)):=by
   clear kyS XX hcl hrt U2 hd;induction S with
   | nil=>cases m
   | cons a r ih =>
    rw[ao8];by_cases c:a=t
    ·rw[fP (by show Sum.inl a=Sum.inl t;rw[c]),c]
    ·rw[fz (λz=>c (Sum.inl.inj z))]
     exact ih ((ao2.mp m).resolve_left λz=>c z.symm)
  exact .inl ⟨_,Sum.inl t,.inl (sc _ _ hd),rfl,e.symm⟩
 have few:∀ {kvs:List (Key×V)} {ms:List Int},Kys kvs ms->ms.Nodup->(∀ m∈ms,m∈S)->kvs.length<sizeLine:=λk nd h=>by rw[k.len];exact om (ao7 (uh nd h) 1e1)
 refine⟨_,rfl,v,_,0,.ref r,rfl,rfl,SqT.of (s0 _ _ ht),rfl,r,rfl,⟨_,SqL.of (s0 _ _ hrs)⟩,rj (K:=K) (a:=r) (xs:=rs.map nmV) (λi σ H2=>∃(v2 v3:Option V) (kvs:List (Key×V)) (ms:List Int),σ=[some (.ref v),some (.ref st),v2,v3,none,none]/\aw H H2/\H2 st=some 2e6/\Kys kvs ms/\ms.Nodup/\(∀ m∈ms,m∈S)/\(∀ m∈ms,Rc rs F m)/\∀(j:Nat) t,j<i->rs[j]?=some (some t)->t∈ms)
  ⟨none,none,[],[],rfl,s0,ag,rfl,List.nodup_nil,(λt h=>nomatch h),(λt h=>nomatch h),(λj t h=>absurd h (aqf _))⟩ (λi σ H2 _ ⟨_,_,_,_,_,s2,_⟩=>SqL.of (s2 _ _ hrs)) ?_ ?_⟩
 ·rintro i x σ H2 t hx ⟨v2,v3,kvs,ms,rfl,s2,hs,ky,nd,sub,snd,GN⟩ htt
  have hi:i<rs.length:=by have:=(aoE.mp hx).1;rwa[aoG]at this
  have ri:rs[i]?=some rs[i]:=aoF hi;have hxe:x=nmV rs[i]:=by
   rw[aoR,ri]at hx;exact(ao4 hx).symm
  subst hxe;have s3:aw H2 (upd H2 t (.tup [.int (i:Int),nmV rs[i]])):=aw.upd htt;refine⟨t,_,rfl,SqT.of ag,rfl,_,_,rfl,_,_,rfl,rfl,?_⟩;cases hc:rs[i] with
  | none =>
   rw[hc]at s3 ri;refine⟨_,rfl,rfl,_,rfl,xI (xI ⟨_,_,kvs,ms,rfl,s2.trans s3,s3 _ _ hs,ky,nd,sub,snd,λj t hj e=>?_⟩)⟩;rcases aps j i with z|z
   ·exact GN j t z e
   ·rw[show j=i by omega,ri]at e
    cases e
  | some n =>
   rw[hc]at s3 ri;have mr:=aoI ri;refine⟨_,rfl,rfl,_,rfl,vK ⟨_,rfl,_,rfl,st,_,rfl,tM.k (k:=Sum.inl n) (s3 _ _ hs),_,rfl,?_⟩⟩;rw[ky.isS];by_cases hin:n∈ms
   ·rw[decide_eq_true hin]
    refine xI ⟨_,_,kvs,ms,rfl,s2.trans s3,s3 _ _ hs,ky,nd,sub,snd,λj t hj e=>?_⟩;rcases aps j i with z|z
    ·exact GN j t z e
    ·rw[show j=i by omega,ri]at e
     cases e;exact hin
   ·rw[decide_eq_false hin]
    refine vK ⟨_,rfl,by show 2<=sizeLine;decide,λu hu'=>?_⟩;have s4:=aw.upd (o:=.tup [V.non,V.int (i:Int)]) hu';refine⟨_,rfl,_,rfl,st,_,rfl,Fg.k (k:=Sum.inl n) (s4 _ _ (s3 _ _ hs)) (few ky nd sub),_,_,putK kvs (Sum.inl n) (.ref u),ms++[n],rfl,λc u' g=>by rw[af (ao g hst)];exact s4 _ _ (s3 _ _ (s2 c u' g)),ag,ky.snoc hin,VF nd hin,λm h=>?_,λm h=>?_,λj t hj e=>?_⟩
    ·rcases aoU.mp h with g|g
     ·exact sub m g
     ·rw[aoH.mp g];exact hrt n mr
    ·rcases aoU.mp h with g|g
     ·exact snd m g
     ·rw[aoH.mp g];exact .root mr
    ·rcases aps j i with z|z
     ·exact apf _ (GN j t z e)
     ·rw[show j=i by omega,ri]at e
      cases e;exact aoP _ ao3
 ·rintro σ H2 ⟨v2,v3,kvs,ms,rfl,s2,hs,ky,nd,sub,snd,GN⟩
  refine⟨_,rfl,st,_,ms,rfl,.inl hs,ky,λmt hmt=>?_⟩;have s3:=aw.upd (o:=.lst (ms.map V.int)) hmt;have aog:H mt=none:=aw.none s2 hmt;refine⟨λm σ H4=>∃(dn:Nat) (v2 v3:Option V) (kvs:List (Key×V)) (ms:List Int),m=S.length+1-dn/\σ=[some (.ref v),some (.ref st),v2,v3,some (.ref mt),some (.int (dn:Int))]/\Wk H H4 st mt rs F S kvs ms/\(∀ u∈ms.take dn,∀ t,some t∈F u->t∈ms)/\dn<=ms.length,⟨_,0,v2,v3,kvs,ms,rfl,rfl,⟨s2.trans s3,s3 _ _ hs,ky,nd,sub,snd,ag,λt h=>?_⟩,(λu h=>nomatch h),apq _⟩,?_⟩
  ·obtain⟨j,hj⟩:=apZ.mp h
   exact GN j t (by rw[aoG];exact(aoE.mp hj).1) hj
  clear hs ky nd sub snd GN s3 s2;rintro m σ H4 ⟨dn,v2,v3,kvs,ms,rfl,rfl,W,don,hdl⟩;have ml:=uh W.nd W.sub;refine⟨_,rfl,_,rfl,mt,_,rfl,.inl (SqL.of W.hm),_,_,rfl,rfl,_,rfl,eT (λh=>?_) (λh=>?_)⟩
  ·have hd1:dn<ms.length:=by
    have h1:(dn:Int)<((ms.map V.int).length:Int):=(by simpa using h);rw[aoG]at h1;omega
   refine⟨λσ' H'=>∃ m',m'<S.length+1-dn/\∃(dn:Nat) (v2 v3:Option V) (kvs:List (Key×V)) (ms:List Int),m'=S.length+1-dn/\σ'=[some (.ref v),some (.ref st),v2,v3,some (.ref mt),some (.int (dn:Int))]/\Wk H H' st mt rs F S kvs ms/\(∀ u∈ms.take dn,∀ t,some t∈F u->t∈ms)/\dn<=ms.length,λ_ _ h=>h,?_⟩;have tk:ms.take (dn+1)=ms.take dn++[ms[dn]]:=apd hd1;obtain⟨t,et⟩:∃ t,ms[dn]=t:=⟨_,rfl⟩;obtain⟨pre,Yp⟩:∃ pre,ms.take dn=pre:=⟨_,rfl⟩;rw[et,Yp]at tk;rw[Yp]at don;have aoh:pre.length=dn:=(by rw[<-Yp,aoS];omega);have htm:t∈ms:=(by rw[<-et];exact apA hd1);have hin:t∈S:=W.sub t htm;have at_:∀ {ns:List Int},ns.take (dn+1)=pre++[t]->ns[dn]?=some t:=λ{ns} e=>by
    have:(ns.take (dn+1))[dn]?=some t:=by rw[e,ao1 1e1,aoh,aqb];rfl
    rwa[List.getElem?_take_of_lt (aqm _)]at this
   have hat:∀ {ns:List Int},ns.take (dn+1)=pre++[t]->atI 4e4 (dn:Int)=some (.int t):=λe=>yK (by rw[aoR,at_ e];rfl);have rw_:=U2 t hin;refine⟨_,rfl,v,_,1,.ref d,rfl,rfl,SqT.of (W.sm _ _ ht),rfl,_,rfl,_,rfl,mt,_,_,.int t,rfl,rfl,SqL.of W.hm,hat tk,d,_,rfl,dgS W.sm hin,ad t,rfl,⟨_,SqL.of (W.sm _ _ rw_)⟩,
    rj (K:=K) (a:=ad t) (xs:=(F t).map nmV) (λj σ H6=>∃(v2 v3:Option V) (kvs:List (Key×V)) (ms:List Int),σ=[some (.ref v),some (.ref st),v2,v3,some (.ref mt),some (.int (dn:Int))]/\Wk H H6 st mt rs F S kvs ms/\ms.take (dn+1)=pre++[t]/\dn<ms.length/\(∀ u∈pre,∀ t,some t∈F u->t∈ms)/\∀(q:Nat) n,q<j->(F t)[q]?=some (some n)->n∈ms)
    ⟨v2,v3,kvs,ms,rfl,W,tk,hd1,don,(λq n h=>absurd h (aqf _))⟩ (λj σ H6 _ ⟨_,_,_,_,_,w6,_⟩=>SqL.of (w6.sm _ _ rw_)) ?_ ?_⟩
   ·clear W don hdl ml hd1 tk et Yp htm
    rintro j x σ H6 u hx ⟨v2,v3,kvs,ms,rfl,W,tk,hd1,don,GN⟩ hut;have hlj:j<(F t).length:=(by have:=(aoE.mp hx).1;rwa[aoG]at this);have fj:(F t)[j]?=some (F t)[j]:=aoF hlj;have hxe:x=nmV (F t)[j]:=by
     rw[aoR,fj]at hx;exact(ao4 hx).symm
    subst hxe;have htm:t∈ms:=aoI (at_ tk);refine⟨u,_,rfl,SqT.of ag,rfl,_,_,rfl,_,_,rfl,rfl,?_⟩;cases hc:(F t)[j] with
    | none =>
     rw[hc]at fj;have s7:=aw.upd (o:=.tup [.int (j:Int),nmV none]) hut;refine⟨_,rfl,rfl,_,rfl,xI (xI ⟨_,_,kvs,ms,rfl,W.same s7,tk,hd1,don,λq n hq e=>?_⟩)⟩;rcases aps q j with z|z
     ·exact GN q n z e
     ·rw[show q=j by omega,fj]at e
      cases e
    | some n =>
     rw[hc]at fj;have mf:=aoI fj;have hk:n∈S:=hcl t hin n mf;have s7:=aw.upd (o:=.tup [.int (j:Int),nmV (some n)]) hut;have W7:=W.same s7;refine⟨_,rfl,rfl,_,rfl,vK ⟨_,rfl,_,rfl,st,_,rfl,tM.k (k:=Sum.inl n) W7.hs,_,rfl,?_⟩⟩;rw[W7.ky.isS];by_cases hn6:n∈ms
     ·rw[decide_eq_true hn6]
      refine xI ⟨_,_,kvs,ms,rfl,W7,tk,hd1,don,λq n' hq e=>?_⟩;rcases aps q j with z|z
      ·exact GN q n' z e
      ·rw[show q=j by omega,fj]at e
       cases e;exact hn6
     ·rw[decide_eq_false hn6]
      refine vK ⟨_,rfl,_,rfl,mt,_,_,.int t,rfl,rfl,SqL.of W7.hm,hat tk,_,rfl,by show 2<=sizeLine;decide,λu2 hu2=>?_⟩;have s8:=aw.upd (o:=.tup [V.int t,V.int (j:Int)]) hu2;have W8:=W7.same s8;have W9:=W8.put (v:=.ref u2) hst aog hn6 hk (.step (W.snd t htm) mf);have nms:mt≠st:=az W8.hm W8.hs 1e0;have zm9:upd (upd (upd H6 u (.tup [.int (j:Int),nmV (some n)])) u2 (.tup [V.int t,V.int (j:Int)])) st (.dK (putK kvs (Sum.inl n) (.ref u2))) mt=some (.lst (ms.map V.int)):=(by rw[af nms];exact W8.hm);refine⟨_,rfl,_,rfl,st,_,rfl,Fg.k (k:=Sum.inl n) W8.hs (few W8.ky W8.nd W8.sub),?_⟩;refine⟨_,rfl,.inl ⟨rfl,_,SqL.of zm9⟩,_,rfl,mt,_,_,rfl,rfl,zm9,by rw[aoG];exact om (ao7 (uh W8.nd W8.sub) 1e1),?_⟩;refine⟨_,_,_,ms++[n],rfl,W9,by rw[List.take_append_of_le_length 1e1];exact tk,by rw[aoJ];omega,λu h t' e=>apf _ (don u h t' e),λq n' hq e=>?_⟩;rcases aps q j with z|z
      ·exact apf _ (GN q n' z e)
      ·rw[show q=j by omega,fj]at e
       cases e;exact aoP _ ao3
   ·clear W don hdl ml hd1 tk et Yp htm
    rintro σ H6 ⟨v2,v3,kvs,ms,rfl,W,tk,hd1,don,GN⟩;rw[aoG]at GN;have ml:=uh W.nd W.sub;refine⟨_,rfl,_,1,rfl,rfl,S.length+1-(dn+1),by omega,dn+1,v2,v3,kvs,ms,rfl,rfl,W,λu h t' e=>?_,hd1⟩;rw[tk]at h;rcases aoU.mp h with g|g
    ·exact don u g t' e
    ·rw[aoH.mp g]at e
     obtain⟨q,hq⟩:=apZ.mp e;exact GN q t' (aoE.mp hq).1 hq
  ·have hge:ms.length<=dn:=by
    have h1:¬(dn:Int)<((ms.map V.int).length:Int):=(by simpa using h);rw[aoG]at h1;omega
   rw[aoM hge]at don;exact⟨_,rfl,k st kvs ms H4 W.sm hst W.hs W.ky W.nd λt=>⟨W.snd t,aac W.rts don⟩⟩
end
end K39
end
section
namespace L2
open PySem PySem.Spec PyProof.Rows LX
section
variable{X:Cx}
noncomputable def aoi(H₀:Hp)(t:TS):TS:=λD σ H=>t {D with nx:=λσ1 H1=>∃ d o kvs,H1 d=some 5e5/\(∀ o u,H₀ d≠some (.frz o u))/\D.nx σ1 (upd H1 d 2e6)} σ H
theorem Yq{st:Stmt}{t:TS}(h:PS X st t):PS X st (aoi X.H₀ t):=by
 intro pins s σ H D I q;refine thn (h pins s σ H _ I q) λf s1 z=>?_;cases f with
 | next =>
  obtain⟨σ1,H1,I1,d,o,kvs,hd,h0,q⟩:=z;exact⟨σ1,_,I1.ace hd h0 (by intro _ z;cases z) (by intro _ z;cases z) (by intro _ z;cases z),q⟩
 | ret v=>exact z
 | brk=>exact z
 | cont=>exact z
theorem ac7{n:Option Int}{zs:List Int}{f:Option Int->V}(hf:f none=.non)(hs:∀ t,f (some t)=.int t):inV (f n) (zs.map V.int)=(match n with|none=>false|some t=>decide (t∈zs)):=by
 unfold inV;cases n with
 | none =>
  rw[hf];show _=false;rw[List.any_map];refine List.any_eq_false.mpr λz _=>?_;simp[eqV]
 | some t =>
  rw[hs,List.any_map];show _=decide (t∈zs);induction zs with
  | nil=>rfl
  | cons a r ih =>
   rw[aqe,ih];by_cases e:a=t
   ·subst e
    simp[eqV]
   ·have:(t∈a::r)↔t∈r:=by
     rw[ao2];exact⟨λh=>h.elim (λz=>absurd z.symm e) id,.inr⟩
    simp[eqV,e,this]
end
end L2
end
section
namespace K39
open PySem L2 LX
section
variable{P:Program}{w:World}{K:W.Frag}{mg:Str->Option Value}{base:Heap}{D:Ad}
theorem Tb{H:Hp}{xs:List V}{ws:List Wd}(r:Rel H xs ws){i:Nat}{x:V}(h:xs[i]?=some x):∃ w,ws[i]?=some w/\WV H x w:=by
 have hi:=(aoE.mp h).1;have hw:i<ws.length:=by rw[<-r.1];exact hi
 obtain⟨v,hv,wv⟩:=r.get hw;rw[hv]at h;cases h;exact⟨_,aoF hw,wv⟩
noncomputable def Zn:Sp:=λvs H Q _=>∃ v w d kvs S,vs=[v,.ref d]/\WV H v w/\Rd H d 2e6/\Kys kvs S/\Q (nmV (amg S w)) H
noncomputable abbrev JG:List Str:=["value","things"]
theorem G7:av JG ["value","things"] (ar sq):=fsc
theorem G8(F:Fun K "thing_among" "thing_among" sq D.eY D.kJ)(T:Txt K mg D)
  (kE:9e7 1 D.eI D.ig ["value"] (NR)):9e7 2 D.eY D.kJ ["value","things"] (Zn):=by
 refine F.oa G7 F.b2 λcdv A' outer s' H vs Q E hr h=>?_;obtain⟨v,w,d,kvs,S,rfl,wv,hd,hk,k⟩:=h;have hu:=jw hr;refine⟨_,(PSs.nox (ai (bS (PW.pt (pw_and (aG tK (kE.c hr T.qO T.lJ aV 6e0) cK (aU _)) (pw_and1 (t9 (V0 hu (bT cf (pv 0) au 1e7) (pv 1)) 3e2))))
   (aj (aF (bT cf (pv 0) au 1e7)))
   aR)
  (aj (aF bR)))),?_⟩
 refine⟨_,rfl,v,w,rfl,wv,?_⟩;cases w with
 | no=>exact⟨rfl,_,rfl,eT (λh=>absurd h (apm.mp 1e4)) (λ_=>xI k)⟩
 | num n=>exact⟨rfl,_,rfl,eT (λh=>absurd h (apm.mp 1e4)) (λ_=>xI k)⟩
 | th t =>
  obtain⟨a,rfl,ht⟩:=wv;refine⟨rfl,_,rfl,eT (λ_=>?_) (λh=>absurd 1e4 h)⟩;refine⟨_,rfl,a,_,1,.int t,rfl,rfl,SqT.of ht,rfl,_,rfl,d,_,rfl,.inl ⟨kvs,Sum.inl t,hd,rfl,rfl⟩,_,rfl,?_⟩;rw[hk.isS];by_cases c:t∈S
  ·rw[decide_eq_true c]
   rw[show amg S (.th t)=some t from if_pos c]at k;exact vK ⟨_,rfl,a,_,1,.int t,rfl,rfl,SqT.of ht,rfl,k⟩
  ·rw[decide_eq_false c]
   rw[show amg S (.th t)=none from if_neg c]at k;exact xI k
noncomputable def NS(D:Ad):Sp:=λvs H Q _=>∃ x A s l xs ws d kvs S,vs=[.ref x,.ref l,.ref d]/\IH D H x A s/\Good s/\H l=some 4e9/\Rel H xs ws/\ws.length<=100000/\H d=some 2e6/\Kys kvs S/\(∀ t∈S,∃ ws,(t,ws)∈s.aQ)/\S.Nodup/\S.length<=10000/\∀ st kv ms H',aw H H'->H st=none->H' st=some (.dK kv)->Kys kv ms->ms.Nodup->(∀ t,t∈ms↔Led ws (fld s) S t)->Q (.ref st) H'
noncomputable abbrev nO:List Str:=["self","leads","things","fields","t"]
theorem l7:av nO ["self","leads","things"] (ar iB):=fsc
theorem Bz(F:Fun K "led_among" "Heap.led_among" iB D.bB D.eO)(T:Txt K mg D)
  (oo:9e7 2 D.eY D.kJ ["value","things"] (Zn))
  (uM:9e7 1 D.fZ D.mJ ["view"] (Qg)):9e7 3 D.bB D.eO ["self","leads","things"] (NS D):=by
 refine F.oa l7 F.b3 λcdv A' outer s' H vs Q E hr h=>?_;obtain⟨x,A,s,l,xs,ws,d,kvs,S,rfl,J,G,hl,rx,hw,hd,hk,hin,hnd,XX,k⟩:=h;have hu:=jw hr;refine⟨_,(PSs.nox (ai (aO (i:=3) l7.nd rfl 1e3 jE)
  (ai (eK aoY rfl (yN (GG (pv 2))) (aK (i:=4) l7.nd rfl 1e3)
   (aj (mY hu (pv 3) (pv 4) (jD (cl:=[("things",s'.heap.objs.size+1)]) (x := "value") (idx:=[2]) (NC:=["value","things"]) ?co2 rfl (cI (hG hu 1e5 (pv 4) 1e7)) (λC fp s₀ H₀=>(oo.c hr T.yO T.oh yA (aa (pv 0) 2e2)))) rfl)))
  (aj (aF (Wa (uM.c hr T.LJ T.uD aV (aa (cW (aa (jD (cl:=[("things",s'.heap.objs.size+1)]) (x := "value") (idx:=[2]) (NC:=["value","things"]) ?co1 rfl (cI (pv 1)) (λC fp s₀ H₀=>(oo.c hr T.yO T.oh yA (aa (pv 0) 2e2)))) 5e3)) ah)))))))),?_⟩
 case co1 =>
  exact gk (sc:=ar iB) (N:=nO) (ns:=["things"]) rfl rfl rfl 2e4 rfl rfl (by
   intro q hq;rw[aoH.mp hq];rfl)
 case co2 =>
  exact gk (sc:=ar iB) (N:=nO) (ns:=["things"]) rfl rfl rfl 2e4 rfl rfl (by
   intro q hq;rw[aoH.mp hq];rfl)
 intro fa hfa;have s1:=aw.upd (o:=.dK []) hfa;refine⟨_,rfl,d,kvs,s1 _ _ hd,λo=>?_⟩;have nfd:fa≠d:=aoT (ao hd hfa);have xd:x≠d:=az J.ax hd 1e0;have ld:l≠d:=az hl hd 1e0;have okH:∀ Hc:Hp,((∀ b u,b≠d->H b=some u->Hc b=some u)/\Hc d=some 5e5)->bg H Hc:=λHc oc b us q=>oc.1 b _ (az q hd 1e0) q;have dg:∀ {Hc:Hp},((∀ b u,b≠d->H b=some u->Hc b=some u)/\Hc d=some 5e5)->∀ {t:Int} {ws:List Wd},(t,ws)∈s.aQ->tM Hc A.fh (.int t) (some (.ref (A.fa t))):=λ{Hc} oc {t ws} m=>by
  have e:ir (s.aQ.map (fkv A)) 2e7=some (.ref (A.fa t)):=by rw[Wg,G.get m];rfl
  by_cases c:A.fh=d
  ·have ek:kvs=s.aQ.map (fkv A):=by
    have:=J.afh
    rw[c,hd]at this;injection this with this;injection this
   exact .inl ⟨kvs,Sum.inl t,.inr ⟨o,by rw[c];exact oc.2⟩,rfl,by rw[ek,e]⟩
  ·exact .inl ⟨_,Sum.inl t,.inl (oc.1 _ _ c J.afh),rfl,e.symm⟩
 have lk:=hk.len;refine⟨d,o,kvs,rfl,ag,Dj (d:=d) (o:=o) (kvs:=kvs) (λi σ Hc=>∃(v4:Option V) (ad:Int->Addr),σ=[some 5e2,some (.ref l),some (.ref d),some (.ref fa),v4]/\((∀ b u,b≠d->H b=some u->Hc b=some u)/\Hc d=some 5e5)/\Hc fa=some (.dK ((S.take i).map λt=>(Sum.inl t,.ref (ad t))))/\∀ t∈S.take i,Hc (ad t)=some (.lst (((fld s t).map (amg S)).map nmV)))
  ⟨none,λ_=>0,rfl,⟨λb u n q=>by rw[af n];exact s1 b u q,ag⟩,by rw[af nfd];exact ag,(λt h=>nomatch h)⟩ (λi σ Hc _ ⟨_,_,_,oc,_⟩=>oc.2) ?_ ?_⟩
 ·rintro i p σ Hc hi ⟨v4,ad,rfl,oc,hf,U2⟩
  obtain⟨t,ht,ekv,ep⟩:=hk.at_ hi;have hlt:i<S.length:=(aoE.mp ht).1;have et:S[i]=t:=(aoE.mp ht).2;have mt:t∈S:=aoI ht;obtain⟨w0,m⟩:=hin t mt;obtain⟨hl0,rl⟩:=J.afl _ _ m;have tc:=okH Hc oc;have fm:=G.fld m;rw[<-fm]at rl;have nl:A.fa t≠d:=az hl0 hd 1e0;have hlc:=oc.1 _ _ nl hl0;have f6:=G.f6 _ _ m;rw[<-fm]at f6;have lz:(fld s t).length<=sizeLine:=lE 1e1;refine⟨_,rfl,x,D.ab,_,_,.ref A.fh,rfl,oc.1 _ _ xd J.ax,T.ae,T.aC,tL,_,rfl,A.fh,.ref (A.fa t),rfl,(by rw[ekv];exact dg oc m),A.fa t,rfl,⟨_,SqL.of hlc⟩,λL hL=>?_⟩;refine fG (K:=K) (a:=A.fa t) (xs:=A.fx t) (λi ys H2=>ys=((fld s t).take i).map (λw=>nmV (amg S w))/\aw Hc H2/\H2 L=some 5e0) ⟨rfl,aw.upd hL,ag⟩ (λi ys H2 hi ⟨e,_,z⟩=>⟨z,by rw[e,aoG,aoS,<-rl.1];omega⟩) (λi ys H2 hi ⟨_,s2,_⟩=>SqL.of (s2 _ _ hlc)) (by rw[rl.1];exact lz) (λi y ys H2 hi ⟨e,s2,z⟩=>?_) (λys H2 ⟨e,s2,z⟩=>?_)
  ·obtain⟨wd,hw,wv⟩:=Tb rl hi
   refine⟨_,rfl,_,rfl,y,wd,d,kvs,S,rfl,wv.keep (tc.trans (bg.of s2)),.inr ⟨o,s2 _ _ oc.2⟩,hk,z,?_,λb u q=>by rw[af (ao q hL)];exact s2 b u q,ag⟩;have hlt:i<(fld s t).length:=(aoE.mp hw).1;rw[apd hlt,aoV,e,(aoE.mp hw).2];rfl
  ·rw[rl.1,aoM (aoL _)]at e
   have zf:H2 fa=some (.dK ((S.take i).map λt=>(Sum.inl t,.ref (ad t)))):=s2 _ _ hf;have kyf:Kys ((S.take i).map λt=>((Sum.inl t:Key),V.ref (ad t))) (S.take i):=(by unfold Kys;rw[apn];rfl);have ni:t∉S.take i:=λz=>by
    have:=apC.mp (show(S.take i++S.drop i).Nodup by rw[aql];exact hnd)
    exact this.2.2 t z t (by rw[ap6 hlt,et];exact ao3) rfl
   have nLf:L≠fa:=aoT (ao hf hL);refine⟨_,rfl,_,rfl,fa,_,rfl,(by rw[ekv];exact Fg.k (k:=Sum.inl t) zf (by rw[aoG,aoS];exact om 1e1)),?_⟩;rw[ue _ (kyf.non ni)];refine⟨_,λu=>if u=t then L else ad u,rfl,⟨λb u n q=>?_,?_⟩,?_,λu hu'=>?_⟩
   ·rw[af (ao q hfa)]
    exact s2 _ _ (oc.1 b u n q)
   ·rw[af (aoT nfd)]
    exact s2 _ _ oc.2
   ·rw[ag,apd hlt,aoV,et]
    congr 3
    ·refine apD λu hu'=>?_
     dsimp only;rw[if_neg λz=>ni (by rw[<-z];exact hu')]
    ·simp only[ao8,aqk,if_true]
   ·rw[apd hlt,et]at hu'
    dsimp only;by_cases c:u=t
    ·subst c
     rw[if_pos rfl,af nLf,z,e,apn];rfl
    ·rw[if_neg c]
     have mu:u∈S.take i:=(aoU.mp hu').resolve_right λz=>c (aoH.mp z);have q:=U2 u mu;rw[af (λz=>by rw[z,hf]at q;cases q)];exact s2 _ _ q
 ·rintro σ Hc ⟨v4,ad,rfl,oc,hf,U2⟩
  rw[lk,aoM (aoL _)]at hf U2;have tc:=okH Hc oc;have hlc:=oc.1 _ _ ld hl;have lz:ws.length<=sizeLine:=ao7 hw 2e0;have rl:=rx;refine⟨_,rfl,l,rfl,⟨_,SqL.of hlc⟩,λL hL=>?_⟩;refine fG (K:=K) (a:=l) (xs:=xs) (λi ys H2=>ys=(ws.take i).map (λw=>nmV (amg S w))/\aw Hc H2/\H2 L=some 5e0) ⟨rfl,aw.upd hL,ag⟩ (λi ys H2 hi ⟨e,_,z⟩=>⟨z,by rw[e,aoG,aoS,<-rl.1];omega⟩) (λi ys H2 hi ⟨_,s2,_⟩=>SqL.of (s2 _ _ hlc)) (by rw[rl.1];exact lz) (λi y ys H2 hi ⟨e,s2,z⟩=>?_) (λys H2 ⟨e,s2,z⟩=>?_)
  ·obtain⟨wd,hw,wv⟩:=Tb rl hi
   refine⟨_,rfl,_,rfl,y,wd,d,kvs,S,rfl,wv.keep (tc.trans (bg.of s2)),.inr ⟨o,s2 _ _ oc.2⟩,hk,z,?_,λb u q=>by rw[af (ao q hL)];exact s2 b u q,ag⟩;have hlt:i<ws.length:=(aoE.mp hw).1;rw[apd hlt,aoV,e,(aoE.mp hw).2];rfl
  ·rw[rl.1,aoM (aoL _)]at e
   refine⟨_,rfl,by show 2<=sizeLine;decide,λv hv=>?_⟩;have s3:=aw.upd (o:=.tup [V.ref L,V.ref fa]) hv;have s4:=s2.trans s3;have bk:∀ {b:Addr},upd H2 v (.tup [V.ref L,V.ref fa]) b=none->H b=none:=λ{b} q=>by
    cases z:H b with
    | none=>rfl
    | some u =>
     by_cases c:b=d
     ·rw[c,s4 _ _ oc.2]at q;cases q
     ·rw[s4 _ _ (oc.1 b u c z)]at q;cases q
   refine⟨v,L,fa,ws.map (amg S),S,λt=>(fld s t).map (amg S),ad,rfl,ag,by rw[s3 _ _ z,e,apn];rfl,s4 _ _ hf,λt m=>s4 _ _ (U2 t m),λt m=>?_,λu _ t m=>?_,XX,λst kv ms H5 s5 hst h5 k5 n5 m5=>?_⟩
   ·obtain⟨w,_,ew⟩:=ao5.mp m
    exact(ug.mp ew).2
   ·obtain⟨w,_,ew⟩:=ao5.mp m
    exact(ug.mp ew).2
   ·have fd5:=s5 _ _ (s4 _ _ oc.2)
    refine⟨d,o,kvs,fd5,(λo' u' q=>by have q:H d=some (.frz o' u'):=q;rw[hd]at q;cases q),?_⟩;have nst:st≠d:=λq=>by rw[q,fd5]at h5;cases h5
    refine k st kv ms _ (λb u q=>?_) (bk hst) (by rw[af nst];exact h5) k5 n5 λt=>(m5 t).trans aab;by_cases c:b=d
    ·subst c
     rw[hd]at q;cases q;exact ag
    ·rw[af c]
     exact s5 _ _ (s4 _ _ (oc.1 b u c q))
theorem lookup_mem{α:Type}{fs:List (Int×α)}{t:Int}{w:α}(m:(t,w)∈fs):∃ v,fs.lookup t=some v:=by
 cases e:fs.lookup t with
 | some v=>exact⟨v,rfl⟩
 | none=>exact absurd rfl (lookup_none e _ m)
theorem Uo(gs:List Int):(gs.map V.int).all lr=true:=apJ.mpr λv hv=>by obtain⟨n,_,rfl⟩:=ao5.mp hv;rfl
theorem Yr(n:Option Int):lr (nmV n)=true:=by cases n<;>rfl
theorem Se{gs:List Int}(h:gs.Pairwise (·< ·)){i:Nat}{t:Int}(e:gs[i]?=some t):t∉gs.take i:=λm=>by
 have hlt:=(aoE.mp e).1;have et:=(aoE.mp e).2
 have:=aqp.mp (show(gs.take i++gs.drop i).Pairwise (·< ·) by rw[aql];exact h)
 have:=this.2.2 t m t (by rw[ap6 hlt,et];exact ao3)
 omega
theorem take_snoc{α:Type}{gs:List α}{i:Nat}{t:α}(e:gs[i]?=some t):gs.take (i+1)=gs.take i++[t]:=by rw[apd (aoE.mp e).1,(aoE.mp e).2]
theorem Wl(bs:List (Int×Int))(gs:List Int):(sdG bs gs).length<=gs.length:=List.length_filterMap_le _ _
noncomputable def Tc(D:Ad):Sp:=λvs H Q _=>∃ x A s g gs,vs=[.ref A.nt,.ref g]/\IH D H x A s/\s.names.length=8/\H g=some (.lst (gs.map V.int))/\∀ A' H',IH D H' x A' {s with names:=s.names.map (nmG gs)}->Fr 3e6 H (cJ x A' {s with names:=s.names.map (nmG gs)}) H'->Q .non H'
noncomputable abbrev qk:List Str:=["self","things"]
theorem xS:av qk ["self","things"] (ar iW):=fsc
theorem xU(F:Fun K "settle" "NameTable.settle" iW D.cM D.gE)(T:Txt K mg D):9e7 1 D.cM D.gE ["self","things"] (Tc D):=by
 refine F.oa xS F.b2 λcdv A' outer s' H vs Q E hr h=>?_;obtain⟨x,A,s,g,gs,rfl,J,h8,hg,k⟩:=h;refine⟨_,(PSs.nox (aj (iL (pv 0) (jD (cl:=[("things",s'.heap.objs.size+1)]) (x := "t") (idx:=[1]) (NC:=["t","things"]) ?co1 rfl (cI 1e5) (λC fp s₀ H₀=>(pB (aG (r:=rIn K false) K3 (pv 0) (pv 1) 3e2) bR (pv 0)))) rfl))),?_⟩
 case co1 =>
  exact gk (sc:=ar iW) (N:=qk) (ns:=["things"]) rfl rfl rfl 2e4 rfl rfl (by
   intro q hq;rw[aoH.mp hq];rfl)
 refine⟨_,rfl,A.nt,D.aD,A.ntx,_,.ref A.nl,rfl,J.ant,T.dS,T.ck,rfl,A.nl,rfl,⟨_,SqL.of J.anl⟩,λL hL=>?_⟩;refine fG (K:=K) (a:=A.nl) (xs:=s.names.map nmV) (λi zs H2=>zs=((s.names.take i).map (nmG gs)).map nmV/\aw H H2/\H2 L=some (.lst zs)) ⟨rfl,aw.upd hL,ag⟩ (λi zs H2 hi ⟨e,_,z⟩=>⟨z,by rw[aoG]at hi;rw[e,aoG,aoG,aoS];omega⟩) (λi zs H2 hi ⟨_,s2,_⟩=>SqL.of (s2 _ _ J.anl)) (by rw[aoG,h8];decide) (λi y zs H2 hi ⟨e,s2,z⟩=>?_) (λzs H2 ⟨e,s2,z⟩=>?_)
 ·rw[aoR]at hi
  obtain⟨n,hn,rfl⟩:=aoZ.mp hi;have tk:=take_snoc hn;refine⟨_,rfl,_,rfl,g,_,rfl,.inl (SqL.of (s2 _ _ hg)),Yr n,Uo gs,_,rfl,?_⟩;have sm:∀ {o:HO},aw H (upd H2 L o):=λb u q=>by rw[af (ao q hL)];exact s2 b u q
  show if inV (nmV n) (gs.map V.int)=true then _ else _;rw[ac7 (f:=nmV) rfl (λ_=>rfl),tk,e];cases n with
  | none =>
   refine xI ⟨_,rfl,z.trans (by rw[e]),?_,sm,ag⟩;rw[aoV,aoV];rfl
  | some t =>
   show if decide (t∈gs)=true then _ else _;by_cases c:t∈gs
   ·rw[decide_eq_true c]
    refine vK ⟨z.trans (by rw[e]),?_,sm,ag⟩;rw[aoV,aoV];simp[nmG,c,nmV]
   ·rw[decide_eq_false c]
    refine xI ⟨_,rfl,z.trans (by rw[e]),?_,sm,ag⟩;rw[aoV,aoV];simp[nmG,c,nmV]
 ·rw[aoG,aoM (aoL _)]at e
  rw[e]at z;refine⟨_,rfl,A.nt,D.aD,A.ntx,_,rfl,s2 _ _ J.ant,T.dS,T.ck,by show 1<1000;decide,?_⟩;have w:=J.aof (ns:=s.names.map (nmG gs)) hL;have sm:aw (upd (upd H L (.lst ((s.names.map (nmG gs)).map nmV))) A.nt (.ins D.aD A.ntx [("things_named",.ref L)])) (upd H2 A.nt (.ins D.aD A.ntx [("things_named",.ref L)])):=λb u q=>by
   by_cases c:b=A.nt
   ·rw[c,ag]at q ⊢;exact q
   ·rw[af c]at q ⊢
    by_cases c2:b=L
    ·rw[c2,ag]at q;rw[c2,z];exact q
    ·rw[af c2]at q;exact s2 b u q
  exact k _ _ (w.1.same sm) (w.2.trans (Fr.same sm))
noncomputable def wsF(s:HS)(gs:List Int):HS:={s with cB:=brG s.cB gs,wO:=s.wO++sdG s.cB gs}
theorem Td{s:HS}:wsF s []=s:=by cases s;simp[wsF,brG,sdG]
noncomputable def Tf(D:Ad):Sp:=λvs H Q _=>∃ x A s g gs,vs=[.ref A.wt,.ref g]/\IH D H x A s/\H g=some (.lst (gs.map V.int))/\gs.Pairwise (·< ·)/\gs.length<=10000/\s.wO.length<=10000/\∀ A' H',IH D H' x A' (wsF s gs)->Fr 3e6 H (cJ x A' (wsF s gs)) H'->Q .non H'
noncomputable abbrev zH:List Str:=["self","things","t"]
theorem pH:av zH ["self","things"] (ar kS):=fsc
theorem xV(F:Fun K "settle" "WordTable.settle" kS D.cL D.gC)(T:Txt K mg D):9e7 1 D.cL D.gC ["self","things"] (Tf D):=by
 refine F.oa pH F.b2 λcdv A' outer s' H vs Q E hr h=>?_;obtain⟨x,A,s,g,gs,rfl,J,hg,asc,hn,hsd,k⟩:=h;have hu:=jw hr;refine⟨_,(PSs.nox (aj (eK aoY rfl (cI (bj Ob rfl T.xN PyProof.Rows.Boot.«sorted» 2e2)) (aK (i:=2) pH.nd rfl 1e3)
   (aj (bS (t9 (V0 hu (pv 2) 1e5) 3e2)
    (aj (aE (Ie PySem.F.plainAttrs_list PySem.F.slot_list_append PySem.F.type_list_append ou 1e5 (aa (IU 1e5 (pv 2) ⟨rfl,rfl,rfl,rfl⟩) ah))))
    aR))))),?_⟩
 refine⟨_,rfl,g,gs,rfl,SqL.of hg,by omega,asc.imp λh=>Int.le_of_lt h,λp hp=>?_⟩;have s1:=aw.upd (o:=.lst (gs.map V.int)) hp;have J1:=J.same s1;have nfp:¬cJ x A s p:=J.fresh hp;refine⟨p,rfl,⟨_,SqL.of ag⟩,gN (K:=K) (a:=p) (xs:=gs.map V.int) (λi σ H2=>∃ v2,σ=[some (.ref A.wt),some (.ref g),v2]/\IH D H2 x A (wsF s 6e1)/\Fr 3e6 (upd H p (.lst (gs.map V.int))) (cJ x A (wsF s 6e1)) H2)
  ⟨none,rfl,(by rw[apV,Td];exact J1),(by rw[apV,Td];exact Fr.refl)⟩ (λi σ H2 _ ⟨_,_,_,fr⟩=>SqL.of (fr.out nfp ag).1) ?_ ?_⟩
 ·rintro i y σ H2 hi ⟨v2,rfl,J2,fr⟩
  rw[aoR]at hi;obtain⟨t,ht,rfl⟩:=aoZ.mp hi;have ni:=Se asc ht;have tk:=take_snoc ht;have hi':=(aoE.mp ht).1;have lk:(brG s.cB 6e1).lookup t=s.cB.lookup t:=Rn ni;have vb:ir ((wsF s 6e1).cB.map bkv) 2e7=(s.cB.lookup t).map V.int:=by rw[acg];show((brG s.cB 6e1).lookup t).map V.int=_;rw[lk]
  refine⟨_,rfl,_,rfl,A.wt,D.aM,A.wtx,_,.ref A.wb,rfl,J2.awt,T.de,T.bI,rfl,A.wb,_,rfl,tM.k (k:=Sum.inl t) J2.awb,_,rfl,?_⟩;rw[vb,apR];cases e:s.cB.lookup t with
  | none =>
   have es:wsF s (gs.take (i+1))=wsF s 6e1:=by
    unfold wsF;rw[tk,Qe,Qf,e,filter_none (by rw[lk];exact e)];simp
   rw[es];exact xI ⟨_,rfl,J2,fr⟩
  | some v =>
   have es:wsF s (gs.take (i+1))={wsF s 6e1 with cB:=(brG s.cB 6e1).filter λp=>decide (p.1≠t),wO:=(s.wO++sdG s.cB 6e1)++[v]}:=by
    unfold wsF;rw[tk,Qe,Qf,e];simp
   rw[es];rw[e]at vb;refine vK ⟨_,rfl,A.wt,D.aM,A.wtx,_,.ref A.wl,rfl,J2.awt,T.de,T.lH,rfl,.inl ⟨rfl,_,SqL.of J2.awl⟩,?_⟩;refine⟨_,rfl,A.wt,D.aM,A.wtx,_,.ref A.wb,rfl,J2.awt,T.de,T.bI,rfl,A.wb,rfl,.inl ⟨_,.inl J2.awb⟩,_,rfl,_,Sum.inl t,.int v,J2.awb,rfl,vb,?_⟩;rw[show vN ((wsF s 6e1).cB.map bkv) 2e7=((brG s.cB 6e1).filter λp=>decide (p.1≠t)).map bkv from Yo];have w1:=J2.ajU (bs:=(brG s.cB 6e1).filter λp=>decide (p.1≠t));have w2:=w1.1.an8 (zs:=(s.wO++sdG s.cB 6e1)++[v]);refine⟨A.wl,_,.int v,rfl,rfl,w1.1.awl,om ?_,?_⟩
   ·have:=Wl s.cB 6e1
    rw[aoS]at this;show((s.wO++sdG s.cB 6e1).map V.int).length<=20000;rw[aoG,aoJ];omega
   ·rw[aoV]at w2
    exact⟨_,rfl,w2.1,(fr.trans w1.2).trans w2.2⟩
 ·rintro σ H2 ⟨v2,rfl,J2,fr⟩
  rw[aoG,aoM (aoL _)]at J2 fr;exact k _ _ J2 ((Fr.same s1).trans fr)
noncomputable def Ja(D:Ad):Sp:=λvs H Q _=>∃ x A s g gs,vs=[.ref x,.ref g]/\IH D H x A s/\s.names.length=8/\¬cJ x A s g/\H g=some (.lst (gs.map V.int))/\gs.Pairwise (·< ·)/\gs.length<=10000/\s.wO.length<=10000/\(∀ t∈gs,∃ ws,(t,ws)∈s.aQ)/\∀ A' H',IH D H' x A' (letGo s gs)->Fr 3e6 H (cJ x A' (letGo s gs)) H'->Q .non H'
noncomputable abbrev JH:List Str:=["self","gone","t"]
theorem wR:av JH ["self","gone"] (ar so):=fsc
theorem G9(F:Fun K "let_go" "Heap.let_go" so D.da D.jq)(T:Txt K mg D)
  (k6:9e7 1 D.cM D.gE ["self","things"] (Tc D))
  (k7:9e7 1 D.cL D.gC ["self","things"] (Tf D)):9e7 2 D.da D.jq ["self","gone"] (Ja D):=by
 refine F.oa wR F.b2 λcdv A' outer s' H vs Q E hr h=>?_;obtain⟨x,A,s,g,gs,rfl,J,h8,nfg,hg,asc,hn,hsd,hin,k⟩:=h;refine⟨_,(PSs.nox (ai (eK aoY rfl (cI (pv 1)) (aK (i:=2) wR.nd rfl 1e3)
   (aj (aE (IU 1e5 (pv 2) ⟨rfl,rfl,rfl,rfl⟩))))
  (ai (aE (k6.m hr 1e5 T.dS T.xK aV 2e2))
  (aj (aE (k7.m hr 1e5 T.de T.xJ aV 2e2)))))),?_⟩
 refine⟨_,rfl,g,rfl,⟨_,SqL.of hg⟩,gN (K:=K) (a:=g) (xs:=gs.map V.int) (λi σ H2=>∃ v2,σ=[some 5e2,some (.ref g),v2]/\IH D H2 x A {s with aQ:=drG s.aQ 6e1}/\Fr 3e6 H (cJ x A {s with aQ:=drG s.aQ 6e1}) H2)
  ⟨none,rfl,(by rw[apV,Ta];exact J),(by rw[apV,Ta];exact Fr.refl)⟩ (λi σ H2 _ ⟨_,_,_,fr⟩=>SqL.of (fr.out nfg hg).1) ?_ ?_⟩
 ·rintro i y σ H2 hi ⟨v2,rfl,J2,fr⟩
  rw[aoR]at hi;obtain⟨t,ht,rfl⟩:=aoZ.mp hi;have ni:=Se asc ht;have tk:=take_snoc ht;obtain⟨ws,m⟩:=hin t (aoI ht);obtain⟨v,hv⟩:=lookup_mem (kO.mpr ⟨m,ni⟩);have vf:ir ((drG s.aQ 6e1).map (fkv A)) 2e7=some (.ref (A.fa t)):=by rw[Wg,hv];rfl
  refine⟨_,rfl,x,D.ab,_,_,.ref A.fh,rfl,J2.ax,T.ae,T.aC,tL,A.fh,rfl,.inl ⟨_,.inl J2.afh⟩,_,rfl,_,Sum.inl t,_,J2.afh,rfl,vf,?_⟩;have w:=J2.ac6 (t:=t);rw[Yn];rw[tk,VE];exact⟨_,rfl,w.1,fr.trans w.2⟩
 ·rintro σ H2 ⟨v2,rfl,J2,fr⟩
  rw[aoG,aoM (aoL _)]at J2 fr;obtain⟨hg2,nf2⟩:=fr.out nfg hg;refine⟨_,rfl,x,D.ab,_,_,.ref A.nt,rfl,J2.ax,T.ae,T.dI,US,A.nt,A.ntx,_,rfl,J2.ant,rfl,_,rfl,x,A,_,g,gs,rfl,J2,h8,hg2,λA3 H3 J3 fr3=>?_⟩;obtain⟨hg3,nf3⟩:=fr3.out nf2 hg2;refine⟨_,rfl,x,D.ab,_,_,.ref A3.wt,rfl,J3.ax,T.ae,T.iU,Zk,A3.wt,A3.wtx,_,rfl,J3.awt,rfl,_,rfl,x,A3,_,g,gs,rfl,J3,hg3,asc,hn,hsd,λA4 H4 J4 fr4=>?_⟩;exact k A4 H4 J4 ((fr.trans fr3).trans fr4)
noncomputable def Qh(fs:List (Int×List Wd))(yn:List Int):List Wd:=fs.flatMap λq=>if q.1∈yn then[] else q.2
noncomputable def KS(s:HS):List Wd:=s.aZ++Qh s.aQ s.yng
theorem Li{fs:List (Int×List Wd)}{q:Int×List Wd}{yn:List Int}:Qh (fs++[q]) yn=Qh fs yn++(if q.1∈yn then[] else q.2):=by unfold Qh;rw[List.flatMap_append];simp
theorem Tg{fs:List (Int×List Wd)}{yn:List Int}(h:∀ t ws,(t,ws)∈fs->ws.length<=6):(Qh fs yn).length<=6*fs.length:=by
 induction fs with
 | nil=>exact aoL _
 | cons q r ih =>
  have i:=ih λt ws m=>h t ws (ao6 _ m)
  have:=h q.1 q.2 ao3
  show((if q.1∈yn then[] else q.2)++Qh r yn).length<=6*(r.length+1);rw[aoJ];by_cases c:q.1∈yn
  ·rw[if_pos c];simp;omega
  ·rw[if_neg c];omega
theorem VG{fs:List (Int×List Wd)}{yn:List Int}{w:Wd}:w∈Qh fs yn↔∃ t ws,(t,ws)∈fs/\t∉yn/\w∈ws:=by
 unfold Qh;rw[List.mem_flatMap];constructor
 ·rintro⟨q,mq,h⟩
  by_cases c:q.1∈yn
  ·rw[if_pos c]at h;cases h
  ·rw[if_neg c]at h;exact⟨q.1,q.2,mq,c,h⟩
 ·rintro⟨t,ws,m,c,h⟩
  exact⟨(t,ws),m,by rw[if_neg c];exact h⟩
open Classical in
noncomputable def pK(s:HS):List Int:=s.yng.filter λt=>decide (¬Led (KS s) (fld s) s.yng t)
noncomputable def pL(s:HS):HS:=letGo {s with yng:=[]} (pK s)
open Classical in
noncomputable def KU(s:HS):List Int:=(keys s).filter λt=>decide (¬Led s.aZ (fld s) 4e6 t)
noncomputable def Ys(s:HS):HS:={s with rnd:=true,eh:=KU s}
noncomputable def GH(s:HS):Re:=if s.rnd=true then(some .on,s) else(none,Ys (pL s))
noncomputable def Zo(s:HS):HS:=letGo {s with rnd:=false,eh:=[]} s.eh
noncomputable def Wm(s:HS):Re:=if s.rnd=true then(none,Zo s) else(some .no,s)
open Classical in
noncomputable def ui(s:HS)(t:Int):HS:={s with eh:=s.eh.filter λu=>decide (¬Led [.th t] (fld s) s.eh u)}
noncomputable def rdR(s:HS)(n:Option Int):HS:=match n with|some t=>if t∈s.eh then ui s t else s|none=>s
noncomputable def qP(s:HS)(h w:Int):Re:=if ok8 h then(if ok8 w then(none,rdR (tR s h (nmW (s.names.getD w.toNat none))) (s.names.getD w.toNat none)) else(some .name,s)) else 2e5
noncomputable def mkR(s:HS)(n:Int):HS:=if s.my=true/\wsum s s.yng+(n+1)>s.room then pL s else s
noncomputable def qQ(s:HS)(h n:Int):Re:=if ok8 h then(if 0<=n/\n<=6 then(if held (mkR s n)+(n+1)>s.limit then(some .room,mkR s n) else(none,Rk (mkR s n) h n)) else(some .count,s)) else 2e5
theorem qE{l ms:List Int}{p:Int->Bool}(h:∀ t∈l,(p t=true↔t∉ms)):l.filter p=l.filter λt=>decide (t∉ms):=apI λt m=>by
 have:=h t m
 by_cases c:t∈ms
 ·simp only[c,not_true,decide_false]
  cases e:p t with
  | false=>rfl
  | true=>exact absurd (this.mp e) (by simp[c])
 ·simp only[c,not_false_eq_true,decide_true]
  exact this.mpr c
open Classical in
theorem Up{s:HS}{ms:List Int}(h:∀ t,t∈ms↔Led (KS s) (fld s) s.yng t):(s.yng.filter λt=>decide (t∉ms))=pK s:=by
 unfold pK;refine(qE λt _=>?_).symm;rw[decide_eq_true_iff,h]
open Classical in
theorem VH{s:HS}{ms:List Int}(h:∀ t,t∈ms↔Led s.aZ (fld s) (keys s) t):((keys s).filter λt=>decide (t∉ms))=KU s:=by
 unfold KU;refine(qE λt _=>?_).symm;rw[decide_eq_true_iff,h]
open Classical in
theorem VI{s:HS}{t:Int}{ms:List Int}(h:∀ u,u∈ms↔Led [.th t] (fld s) s.eh u):{s with eh:=s.eh.filter λu=>decide (u∉ms)}=ui s t:=by
 unfold ui;congr 1
 refine(qE λu _=>?_).symm;rw[decide_eq_true_iff,h]
theorem Yt{H:Hp}{xs ys:List V}{ws zs:List Wd}(a:Rel H xs ws)(b:Rel H ys zs):Rel H (xs++ys) (ws++zs):=by
 refine⟨by rw[aoJ,aoJ,a.1,b.1],λi v w h1 h2=>?_⟩;by_cases c:i<xs.length
 ·rw[aoX c]at h1
  rw[aoX (by rw[<-a.1];exact c)]at h2;exact a.2 i v w h1 h2
 ·rw[ao1 1e1]at h1
  rw[ao1 (by rw[<-a.1];omega),<-a.1]at h2;exact b.2 _ v w h1 h2
structure Gd(s:HS):Prop where
 g:Good s
 dy:∀ t∈s.eh,t∉s.yng
 dh:∀ t,Wd.th t∈s.aZ->t∉s.eh
 df:∀ u ws t,(u,ws)∈s.aQ->u∉s.eh->Wd.th t∈ws->t∉s.eh
 rd:s.rnd=false->s.eh=[]
theorem mem_keys{s:HS}{t:Int}:t∈keys s↔∃ ws,(t,ws)∈s.aQ:=by
 unfold keys;rw[ao5];exact⟨λ⟨p,m,e⟩=>⟨p.2,by rw[<-e];exact m⟩,λ⟨ws,m⟩=>⟨_,m,rfl⟩⟩
theorem Yu{fs:List (Int×List Wd)}{gs:List Int}(nd:gs.Nodup)(h:∀ t∈gs,∃ ws,(t,ws)∈fs):(drG fs gs).length+gs.length<=fs.length:=by
 have e:fs.length=(fs.filter λp=>decide (p.1∉gs)).length+(fs.filter λp=>!decide (p.1∉gs)).length:=by
  clear h;induction fs with
  | nil=>rfl
  | cons p r ih =>
   rw[List.filter_cons,List.filter_cons];by_cases c:p.1∈gs
   ·simp[c]at ih ⊢;omega
   ·simp[c]at ih ⊢;omega
 have le:gs.length<=((fs.filter λp=>!decide (p.1∉gs)).map (·.1)).length:=uh nd λt m=>by
  obtain⟨ws,mw⟩:=h t m;exact ao5.mpr ⟨(t,ws),apt.mpr ⟨mw,by simp[m]⟩,rfl⟩
 rw[aoG]at le;unfold drG;omega
theorem Good.letGo{s:HS}(g:Good s){gs:List Int}(asc:gs.Pairwise (·< ·))(hin:∀ t∈gs,∃ ws,(t,ws)∈s.aQ)(hh:∀ t,Wd.th t∈s.aZ->t∉gs)(hf:∀ u ws t,(u,ws)∈s.aQ->u∉gs->Wd.th t∈ws->t∉gs)(hy:∀ t∈s.yng,t∉gs)(hd:∀ t∈s.eh,t∉gs):Good (letGo s gs) where
 h8:=g.h8
 n8:=by show(s.names.map (nmG gs)).length=8;rw[aoG];exact g.n8
 asc:=ap0 (List.Sublist.map _ apS) g.asc
 lt:=λt ws m=>g.lt t ws (kO.mp m).1
 f6:=λt ws m=>g.f6 t ws (kO.mp m).1
 hh:=λt m=>by obtain⟨ws,q⟩:=g.hh t m;exact⟨ws,kO.mpr ⟨q,hh t m⟩⟩
 ff:=λu ws t m h=>by obtain⟨w',q⟩:=g.ff u ws t (kO.mp m).1 h;exact⟨w',kO.mpr ⟨q,hf u ws t (kO.mp m).1 (kO.mp m).2 h⟩⟩
 nn:=λt m=>by
  obtain⟨n,mn,e⟩:=ao5.mp (show some t∈s.names.map (nmG gs) from m);cases n with
  | none=>cases e
  | some u =>
   have e:(if u∈gs then none else some u)=some t:=e;by_cases c:u∈gs
   ·rw[if_pos c]at e;cases e
   ·rw[if_neg c]at e
    cases e;obtain⟨ws,q⟩:=g.nn t mn;exact⟨ws,kO.mpr ⟨q,c⟩⟩
 b12:=ao7 (apM _ _) g.b12
 bk:=λt z m=>by
  have m:=apt.mp (show(t,z)∈brG s.cB gs from m);obtain⟨ws,q⟩:=g.bk t z m.1;exact⟨ws,kO.mpr ⟨q,by simpa using m.2⟩⟩
 bnd:=ap0 (List.Sublist.map _ apS) g.bnd
 n0:=g.n0
 nx:=g.nx
 sd:=by
  have h1:=g.sd;have h2:=Yu (tQ asc) hin;have h3:=Wl s.cB gs;show((s.wO++sdG s.cB gs).length:Int)+(drG s.aQ gs).length<=s.nxt;rw[aoJ];omega
 yk:=λt m=>by obtain⟨ws,q⟩:=g.yk t m;exact⟨ws,kO.mpr ⟨q,hy t m⟩⟩
 GO:=g.GO
 dk:=λt m=>by obtain⟨ws,q⟩:=g.dk t m;exact⟨ws,kO.mpr ⟨q,hd t m⟩⟩
 Iw:=g.Iw
theorem Good.noY{s:HS}(g:Good s):Good {s with yng:=[]}:=⟨g.h8,g.n8,g.asc,g.lt,g.f6,g.hh,g.ff,g.nn,g.b12,g.bk,g.bnd,g.n0,g.nx,g.sd,(λt m=>nomatch m),List.Pairwise.nil,g.dk,g.Iw⟩
theorem Good.noD{s:HS}(g:Good s){b:Bool}:Good {s with rnd:=b,eh:=[]}:=⟨g.h8,g.n8,g.asc,g.lt,g.f6,g.hh,g.ff,g.nn,g.b12,g.bk,g.bnd,g.n0,g.nx,g.sd,g.yk,g.GO,(λt m=>nomatch m),List.Pairwise.nil⟩
theorem Good.aoj{s:HS}(g:Good s){b:Bool}{ds:List Int}(h:∀ t∈ds,∃ ws,(t,ws)∈s.aQ)(a:ds.Pairwise (·< ·)):Good {s with rnd:=b,eh:=ds}:=⟨g.h8,g.n8,g.asc,g.lt,g.f6,g.hh,g.ff,g.nn,g.b12,g.bk,g.bnd,g.n0,g.nx,g.sd,g.yk,g.GO,h,a⟩
theorem jk{s:HS}{t:Int}:t∈pK s↔t∈s.yng/\¬Led (KS s) (fld s) s.yng t:=by unfold pK;rw[apt];simp
theorem Iz{s:HS}(g:Good s):(pK s).Pairwise (·< ·):=ap0 apS g.GO
theorem Lj{s:HS}(g:Good s):∀ t∈pK s,∃ ws,(t,ws)∈s.aQ:=λt m=>g.yk t (jk.mp m).1
theorem Yv{s:HS}{t:Int}(h:Wd.th t∈s.aZ):t∉pK s:=λm=>(jk.mp m).2 (.root (apf _ h) (jk.mp m).1)
theorem aad{s:HS}(g:Good s){u t:Int}{ws:List Wd}(m:(u,ws)∈s.aQ)(hu:u∉pK s)(h:Wd.th t∈ws):t∉pK s:=λmt=>by
 by_cases c:u∈s.yng
 ·have lu:Led (KS s) (fld s) s.yng u:=apF λz=>hu (jk.mpr ⟨c,z⟩)
  exact(jk.mp mt).2 (.step lu (by rw[g.fld m];exact h) (jk.mp mt).1)
 ·exact(jk.mp mt).2 (.root (aoP _ (VG.mpr ⟨u,ws,m,c,h⟩)) (jk.mp mt).1)
theorem Gd.small{s:HS}(d:Gd s):Gd (pL s) where
 g:=d.g.noY.letGo (Iz d.g) (Lj d.g) (λt h=>Yv h) (λu ws t m hu h=>aad d.g m hu h) (λt m=>nomatch m) (λt m z=>d.dy t m (jk.mp z).1)
 dy:=λt _ m=>nomatch m
 dh:=d.dh
 df:=λu ws t m hu h=>d.df u ws t (kO.mp m).1 hu h
 rd:=d.rd
theorem qR{s:HS}{t:Int}:t∈KU s↔t∈keys s/\¬Led s.aZ (fld s) 4e6 t:=by unfold KU;rw[apt];simp
theorem Gd.beg{s:HS}(d:Gd s)(hy:s.yng=[]):Gd (Ys s) where
 g:=d.g.aoj (λt m=>mem_keys.mp (qR.mp m).1) (ap0 apS d.g.asc)
 dy:=λt _ m=>by rw[show(Ys s).yng=[] from hy]at m;cases m
 dh:=λt h m=>(qR.mp m).2 (.root h (qR.mp m).1)
 df:=λu ws t m hu h mt=>by
  have lu:Led s.aZ (fld s) 4e6 u:=apF λz=>hu (qR.mpr ⟨mem_keys.mpr ⟨ws,m⟩,z⟩);exact(qR.mp mt).2 (.step lu (by rw[d.g.fld m];exact h) (qR.mp mt).1)
 rd:=λh=>by cases h
theorem Gd.fin{s:HS}(d:Gd s):Gd (Zo s) where
 g:=d.g.noD.letGo d.g.Iw d.g.dk (λt h=>d.dh t h) (λu ws t m hu h=>d.df u ws t m hu h) (λt m z=>d.dy t z m) (λt m=>nomatch m)
 dy:=λt m=>nomatch m
 dh:=λt _ m=>nomatch m
 df:=λu ws t _ _ _ m=>nomatch m
 rd:=λ_=>rfl
theorem tT{s:HS}{t u:Int}:u∈(ui s t).eh↔u∈s.eh/\¬Led [.th t] (fld s) s.eh u:=by unfold ui;rw[apt];simp
structure GdN(s:HS):Prop where
 g:Good s
 dy:∀ t∈s.eh,t∉s.yng
 df:∀ u ws t,(u,ws)∈s.aQ->u∉s.eh->Wd.th t∈ws->t∉s.eh
 rd:s.rnd=false->s.eh=[]
theorem Good.ac8{s:HS}(g:Good s){ds:List Int}(h:ds.Sublist s.eh):Good {s with eh:=ds}:=⟨g.h8,g.n8,g.asc,g.lt,g.f6,g.hh,g.ff,g.nn,g.b12,g.bk,g.bnd,g.n0,g.nx,g.sd,g.yk,g.GO,(λt m=>g.dk t (h.subset m)),g.Iw.sublist h⟩
theorem Gd.jz{s:HS}(d:GdN s){t:Int}(ht:t∈s.eh)(hh:∀ u,Wd.th u∈s.aZ->u=t\/u∉s.eh):Gd (ui s t) where
 g:=d.g.ac8 apS
 dy:=λu m=>d.dy u (tT.mp m).1
 dh:=λu h m=>by
  rcases hh u h with e|e
  ·exact(tT.mp m).2 (by rw[e];exact .root ao3 ht)
  ·exact e (tT.mp m).1
 df:=λu ws v m hu h mv=>by
  obtain⟨v1,v2⟩:=tT.mp mv;by_cases c:u∈s.eh
  ·have lu:Led [.th t] (fld s) s.eh u:=apF λz=>hu (tT.mpr ⟨c,z⟩)
   exact v2 (.step lu (by rw[d.g.fld m];exact h) v1)
  ·exact d.df u ws v m c h v1
 rd:=λh=>by
  have:=d.rd h
  show s.eh.filter _=[];rw[this];rfl
theorem Th{s:HS}{n:Int}:(mkR s n).limit=s.limit:=by unfold mkR;split<;>rfl
theorem DQ{s:HS}{n:Int}:(mkR s n).nxt=s.nxt:=by unfold mkR;split<;>rfl
theorem Gd.mkd{s:HS}(d:Gd s){n:Int}:Gd (mkR s n):=by
 unfold mkR;split
 ·exact d.small
 ·exact d
noncomputable def Ll(D:Ad):Sp:=λvs H Q _=>∃ x A s,vs=[.ref x]/\IH D H x A s/\Good s/\∀ v A' H',IH D H' x A' (pL s)->Fr 3e6 H (cJ x A' (pL s)) H'->Q v H'
noncomputable abbrev ql:List Str:=["self","leads","t","kept","gone"]
theorem fR:av ql ["self"] (ar iX):=fsc
theorem xW(F:Fun K "small_round" "Heap.small_round" iX D.bF D.gF)(T:Txt K mg D)
  (cC:9e7 1 D.bM D.dJ ["self"] (pY D))
  (cV:9e7 3 D.bB D.eO ["self","leads","things"] (NS D))
  (jt:9e7 2 D.da D.jq ["self","gone"] (Ja D)):9e7 4 D.bF D.gF ["self"] (Ll D):=by
 refine F.oa fR F.b1 λcdv A' outer s' H vs Q E hr h=>?_;obtain⟨x,A,s,rfl,J,G,k⟩:=h;have hu:=jw hr;refine⟨_,(PSs.nox (ai (aO (i:=1) fR.nd rfl 1e3 (cC.m0 hr 1e5 T.a6 T.kW aV))
  (ai (eK aoY rfl (yN (GG 1e5)) (aK (i:=2) fR.nd rfl 1e3)
   (aj (bS (t9 (ow hu (pv 2) 1e5) 3e2)
    (aj (aE (Ie PySem.F.plainAttrs_list PySem.F.slot_list_extend PySem.F.type_list_extend T1 (pv 1) (aa (hG hu 1e5 (pv 2) 1e7) ah))))
    aR)))
  (ai (Wb (aO (i:=3) fR.nd rfl (Or.inr rfl) (cV.m hr (pv 0) T.ae T.iV aV (aa (pv 1) (aa 1e5 ah)))))
  (ai (Vu (cl:=[("kept",s'.heap.objs.size+1)]) (x := "t") (idx:=[3]) (NC:=["t","kept"]) (i:=4) fR.nd rfl rfl ?co1 rfl (yN (GG 1e5)) (λC fp s₀ H₀=>(t9 (ow hu (pv 0) (pv 1)) 3e2)) (λC fp s₀ H₀=>(pv 0)))
  (ai (Wb (iL (pv 0) jE rfl))
  (ai (aE (jt.m hr (pv 0) T.ae T.pG aV 3e0))
  (aj (aF (pv 4)))))))))),?_⟩
 case co1 =>
  exact gk (sc:=ar iX) (N:=ql) (ns:=["kept"]) rfl rfl rfl 2e4 rfl rfl (by
   intro q hq;rw[aoH.mp hq];rfl)
 refine⟨_,rfl,x,D.ab,_,_,.ref A.hd,rfl,J.ax,T.ae,T.aB,pX,A.hd,A.hdx,_,rfl,J.ahd,rfl,A.hd,A.hdx,A.hl,A.hx,s.aZ,rfl,J.hn G,λp H1 s1 hp z1=>?_⟩;have J1:=J.same s1;have nfp:¬cJ x A s p:=J.fresh hp;refine⟨_,rfl,x,D.ab,_,_,.ref A.fh,rfl,J1.ax,T.ae,T.aC,tL,A.fh,_,J1.afh,λo=>?_⟩;have yf:A.yg≠A.fh:=aoT J.d4;have pf:p≠A.fh:=λe=>nfp (by rw[e];exact .fh);have py:p≠A.yg:=λe=>nfp (by rw[e];exact .yg);have lk:(s.aQ.map (fkv A)).length=s.aQ.length:=aoG _;refine⟨A.fh,o,_,rfl,ag,Dj (d:=A.fh) (o:=o) (kvs:=s.aQ.map (fkv A)) (λi σ Hc=>∃ v2,σ=[some 5e2,some 4e3,v2,none,none]/\((∀ b u,b≠A.fh->b≠p->H1 b=some u->Hc b=some u)/\Hc A.fh=some (.frz o (.dK (s.aQ.map (fkv A)))))/\∃ ys,Hc p=some 5e0/\Rel Hc ys (s.aZ++Qh (s.aQ.take i) s.yng))
  ⟨none,rfl,⟨λb u n _ q=>by rw[af n];exact q,ag⟩,A.hx,by rw[af pf];exact z1,by rw[apV,show Qh [] s.yng=[] from rfl,apw];exact J1.rhl.keep (bg.set J1.afh 2e1)⟩ (λi σ Hc _ ⟨_,_,oc,_⟩=>oc.2) ?_ ?_⟩
 ·rintro i q σ Hc hi ⟨v2,rfl,oc,ys,hy,ry⟩
  rw[aoR]at hi;obtain⟨⟨t,ws⟩,ht,rfl⟩:=aoZ.mp hi;have m:=aoI ht;have tk:=take_snoc ht;obtain⟨hl,rl⟩:=J1.afl _ _ m;have nlf:A.fa t≠A.fh:=az hl J1.afh 1e0;have nlp:A.fa t≠p:=λe=>nfp (by rw[<-e];exact .fl m);have hlc:=oc.1 _ _ nlf nlp hl;have tc:bg H1 Hc:=λb us q=>oc.1 b _ (az q J1.afh 1e0) (az q z1 1e0) q;have xf:x≠A.fh:=az J1.ax J1.afh 1e0;have xp:x≠p:=λe=>nfp (by rw[<-e];exact .x);have axc:=oc.1 _ _ xf xp J1.ax;have ygc:=oc.1 _ _ yf (aoT py) J1.ayg;refine⟨_,rfl,_,rfl,x,D.ab,_,_,.ref A.yg,rfl,axc,T.ae,T.bE,Rg,A.yg,_,rfl,tM.k (k:=Sum.inl t) ygc,_,rfl,?_⟩;rw[(Iy s.yng).isS];by_cases c:t∈s.yng
  ·rw[decide_eq_true c]
   refine xI ⟨_,rfl,oc,ys,hy,?_⟩;rw[tk,Li,if_pos c,apw];exact ry
  ·rw[decide_eq_false c]
   have fl:=Tg (fs:=s.aQ.take i) (yn:=s.yng) λt ws m=>G.f6 t ws (apO m);have f6:=G.f6 _ _ m;have fw:=G.few;have ly:ys.length<=60100:=(by rw[ry.1,aoJ,G.h8];rw[aoS]at fl;omega);refine vK ⟨_,rfl,.inl ⟨rfl,_,SqL.of hy⟩,_,rfl,x,D.ab,_,_,.ref A.fh,rfl,axc,T.ae,T.aC,tL,_,rfl,A.fh,.ref (A.fa t),rfl,.inl ⟨_,Sum.inl t,.inr ⟨o,oc.2⟩,rfl,by rw[Wg,G.get m];rfl⟩,p,A.fa t,ys,A.fx t,rfl,rfl,hy,hlc,?_,?_⟩
   ·have:=rl.1
    exact ao7 (show ys.length+(A.fx t).length<=70000 by omega) 2e0
   ·refine⟨_,rfl,⟨λb u n1 n2 q=>by rw[af n2];exact oc.1 b u n1 n2 q,by rw[af (aoT pf)];exact oc.2⟩,_,ag,?_⟩
    rw[tk,Li,if_neg c,<-ap1];exact((Yt ry (rl.keep tc)).keep (bg.set hy 2e1))
 ·rintro σ Hc ⟨v2,rfl,oc,ys,hy,ry⟩
  rw[lk,aoM (aoL _)]at ry;refine⟨A.fh,o,_,oc.2,(λo' u' q=>by have q:H A.fh=some (.frz o' u'):=q;rw[J.afh]at q;cases q),?_⟩;have kp:∀ b u,b≠p->H1 b=some u->upd Hc A.fh (.dK (s.aQ.map (fkv A))) b=some u:=λb u n q=>by
   by_cases c:b=A.fh
   ·subst c
    rw[J1.afh]at q;cases q;exact ag
   ·rw[af c];exact oc.1 b u c n q
  have hy2:upd Hc A.fh (.dK (s.aQ.map (fkv A))) p=some 5e0:=by rw[af pf];exact hy
  have ry2:Rel (upd Hc A.fh (.dK (s.aQ.map (fkv A)))) ys (KS s):=ry.keep (λb us q=>by rw[af λe=>by rw[e,oc.2]at q;cases q];exact q);obtain⟨H2,e2⟩:∃ H2,upd Hc A.fh (.dK (s.aQ.map (fkv A)))=H2:=⟨_,rfl⟩;rw[e2]at kp hy2 ry2 ⊢;clear e2 ry hy oc;have t2:bg H1 H2:=λb us q=>kp b _ (az q z1 1e0) q;have J2:IH D H2 x A s:=J1.keep (λb u f q=>kp b u (λe=>nfp (by rw[<-e];exact f)) q) t2;have fr2:Fr 3e6 H 3e6 H2:=⟨λb u n q=>kp b u (ao q hp) (s1 _ _ q),λ_ f=>.inl f,λb u q=>⟨u,kp b u (ao q hp) (s1 _ _ q)⟩,(bg.of s1).trans t2⟩;have fl:=Tg (fs:=s.aQ) (yn:=s.yng) G.f6;have fw:=G.few;refine⟨_,rfl,x,_,_,rfl,J2.ax,1e4,_,rfl,_,rfl,x,D.ab,_,_,.ref A.yg,rfl,J2.ax,T.ae,T.bE,Rg,x,A,s,p,ys,KS s,A.yg,_,s.yng,rfl,J2,G,hy2,ry2,by unfold KS;rw[aoJ,G.h8];omega,J2.ayg,Iy _,G.yk,tQ G.GO,JE G,λst kv ms H3 s3 hst h3 k3 n3 m3=>?_⟩;have J3:=J2.same s3;refine⟨_,rfl,x,D.ab,_,_,.ref A.yg,rfl,J3.ax,T.ae,T.bE,Rg,A.yg,_,J3.ayg,λo2=>?_⟩;refine⟨A.yg,o2,_,rfl,ag,λL hL=>?_⟩;have nsy:st≠A.yg:=λe=>by rw[e,J2.ayg]at hst;cases hst
  have st3:upd H3 A.yg (.frz o2 (.dK (s.yng.map tkv))) st=some (.dK kv):=by rw[af nsy];exact h3
  refine QV (d:=A.yg) (o:=o2) (kvs:=s.yng.map tkv) (λi zs Hc=>zs=((s.yng.take i).filter λt=>decide (t∉ms)).map V.int/\aw (upd H3 A.yg (.frz o2 (.dK (s.yng.map tkv)))) Hc/\Hc L=some (.lst zs)) ⟨rfl,aw.upd hL,ag⟩ (λi zs Hc hi ⟨e,_,z⟩=>⟨z,by rw[e,aoG];exact ao7 (apM _ _) (by rw[aoS];omega)⟩) (λi zs Hc _ ⟨_,sc,_⟩=>sc _ _ ag) (by rw[aoG];exact lE (ao7 (JE G) 2e0)) (λi q zs Hc hi ⟨e,sc,z⟩=>?_) (λzs Hc ⟨e,sc,z⟩=>?_)
  ·obtain⟨t,ht,ekv,ep⟩:=(Iy s.yng).at_ hi
   have tk:=take_snoc ht;rw[ekv];refine⟨_,rfl,_,rfl,st,_,rfl,tM.k (k:=Sum.inl t) (sc _ _ st3),_,rfl,?_⟩;rw[k3.isS];by_cases c:t∈ms
   ·rw[decide_eq_true c]
    refine xI ⟨?_,sc,z⟩;rw[tk,aqh,e];simp[c]
   ·rw[decide_eq_false c]
    refine vK ⟨_,rfl,z,?_,λb u q=>by rw[af (ao q hL)];exact sc b u q,ag⟩;rw[tk,aqh,e];simp[c]
  ·rw[aoG,aoM (aoL _)]at e
   have eg:(s.yng.filter λt=>decide (t∉ms))=pK s:=Up m3;rw[eg]at e;subst e;refine⟨A.yg,o2,_,sc _ _ ag,(λo' u' q=>by have q:H A.yg=some (.frz o' u'):=q;rw[J.ayg]at q;cases q),?_⟩;have sm:aw H3 (upd Hc A.yg (.dK (s.yng.map tkv))):=λb u q=>by
    by_cases c:b=A.yg
    ·subst c
     rw[J3.ayg]at q;cases q;exact ag
    ·rw[af c];exact sc b u (by rw[af c];exact q)
   have nLy:L≠A.yg:=λe=>by rw[e,ag]at hL;cases hL
   have zL:upd Hc A.yg (.dK (s.yng.map tkv)) L=some (.lst ((pK s).map V.int)):=(by rw[af nLy];exact z);have hL3:H3 L=none:=(by rw[af nLy]at hL;exact hL);have aok:=J3.fresh hL3;obtain⟨H4,e4⟩:∃ H4,upd Hc A.yg (.dK (s.yng.map tkv))=H4:=⟨_,rfl⟩;rw[e4]at sm zL ⊢;clear e4;have J4:=J3.same sm;intro p2 hp2;have w:=J4.aod hp2;have xp2:x≠p2:=ao J4.ax hp2;refine⟨_,rfl,x,D.ab,A.dx,_,rfl,(by rw[af xp2];exact J4.ax),T.ae,T.bE,by show 11<1000;decide,?_⟩;obtain⟨J5,fr5⟩:=w;have oL:=fr5.out aok zL;refine⟨_,rfl,x,_,_,rfl,J5.ax,1e4,_,rfl,x,_,_,L,pK s,rfl,J5,G.n8,oL.2,oL.1,Iz G,ao7 (apM _ _) (JE G),(by have:=G.sd;have:=G.nx;show s.wO.length<=10000;omega),Lj G,λA6 H6 J6 fr6=>⟨_,rfl,k _ A6 H6 J6 ((((fr2.trans (Fr.same s3)).trans (Fr.same sm)).trans fr5).trans fr6)⟩⟩
noncomputable def Dn(D:Ad):Sp:=λvs H Q _=>∃ x A s,vs=[.ref x]/\IH D H x A s/\Good s/\∀ A' H',IH D H' x A' (pL s)->Fr 3e6 H (cJ x A' (pL s)) H'->Q .non H'
noncomputable abbrev BA:List Str:=["self"]
theorem zI:av BA ["self"] (ar lS):=fsc
theorem zJ(F:Fun K "small" "IdealHeap.small" lS D.bO D.dN)(T:Txt K mg D)
  (k8:9e7 4 D.bF D.gF ["self"] (Ll D)):9e7 5 D.bO D.dN ["self"] (Dn D):=by
 refine F.oa zI F.b1 λcdv A' outer s' H vs Q E hr h=>?_;obtain⟨x,A,s,rfl,J,G,k⟩:=h;refine⟨_,(PSs.nox (aj (aE (k8.m0 hr (pv 0) T.ae T.rJ aV)))),?_⟩;exact⟨_,rfl,x,_,_,rfl,J.ax,1e4,x,A,s,rfl,J,G,λv A' H' J' fr=>k A' H' J' fr⟩
noncomputable def Wn(D:Ad):Sp:=λvs H Q E=>∃ x A s,vs=[.ref x]/\IH D H x A s/\Gd s/\Fin D x A s H (GH s) Q E
theorem IH.aol{D:Ad}{H:Hp}{x:Addr}{A:HA}{s:HS}(J:IH D H x A s){b:Addr}(f:cJ x A s b)(o:Obj)(u:HO):H b≠some (.frz o u):=by
 intro q;cases f with
 | x=>rw[J.ax]at q;cases q
 | hd=>rw[J.ahd]at q;cases q
 | hl=>rw[J.ahl]at q;cases q
 | nt=>rw[J.ant]at q;cases q
 | nl=>rw[J.anl]at q;cases q
 | wt=>rw[J.awt]at q;cases q
 | wb=>rw[J.awb]at q;cases q
 | wl=>rw[J.awl]at q;cases q
 | fh=>rw[J.afh]at q;cases q
 | yg=>rw[J.ayg]at q;cases q
 | dm=>rw[J.adm]at q;cases q
 | fl m=>rw[(J.afl _ _ m).1]at q;cases q
noncomputable abbrev BB:List Str:=["self","kept","t"]
theorem k9:av BB ["self"] (ar lT):=fsc
theorem zK(F:Fun K "begin" "IdealHeap.begin" lT D.cZ D.g4)(T:Txt K mg D)
  (ak:9e7 1 D.aq D.aA ["self","text"] (AM K))
  (cD:9e7 5 D.bO D.dN ["self"] (Dn D))
  (cC:9e7 1 D.bM D.dJ ["self"] (pY D))
  (cV:9e7 3 D.bB D.eO ["self","leads","things"] (NS D)):9e7 6 D.cZ D.g4 ["self"] (Wn D):=by
 refine F.oa k9 F.b1 λcdv A' outer s' H vs Q E hr h=>?_;obtain⟨x,A,s,rfl,J,Gs,k⟩:=h;have hu:=jw hr;refine⟨_,(ai (bS (De 1e5)
   (aj (fA rfl kj (ak.e hr T.Q9 T.Q7 px (aa cK ah))))
   aR)
  (ai (aE (cD.m0 hr (pv 0) T.ae T.kX px))
  (ai (iL (pv 0) Di rfl)
  (ai (aO (i:=1) k9.nd rfl 1e3 (cV.m hr (pv 0) T.ae T.iV px (aa (cC.m0 hr 1e5 T.a6 T.kW px) (aa 1e5 ah))))
  (aj (PS.nox (Yq (eK aoY rfl (yN (GG 1e5)) (aK (i:=2) k9.nd rfl 1e3)
   (aj (bS (t9 (ow hu (pv 2) (pv 1)) 3e2)
    (aj (mY hu 1e5 (pv 2) Di rfl))
    aR)))))))))),?_⟩
 refine⟨_,rfl,x,D.ab,_,_,.bl s.rnd,rfl,J.ax,T.ae,T.du,Xo,_,rfl,?_⟩;by_cases c:s.rnd=true
 ·rw[show GH s=(some .on,s) from if_pos c]at k
  exact jP c (λea hea=>b7 T.Q8 5e6 (k.bad J) ea hea)
 ·rw[show GH s=(none,Ys (pL s)) from if_neg c]at k
  refine fV (apm.mpr c) ?_;refine⟨_,rfl,x,_,_,rfl,J.ax,1e4,x,A,s,rfl,J,Gs.g,λA1 H1 J1 fr1=>?_⟩;have G1:=Gs.small;have d0:(pL s).eh=[]:=Gs.rd (apm.mpr c);obtain⟨s1,es⟩:∃ s1,pL s=s1:=⟨_,rfl⟩;rw[es]at J1 fr1 G1 k d0;refine⟨_,rfl,x,D.ab,A1.dx,_,rfl,J1.ax,T.ae,T.du,by show 11<1000;decide,?_⟩;have w2:=J1.ajW (n:=true);obtain⟨H2,e2⟩:∃ H2,upd H1 x (.ins D.ab A1.dx (je "in_round" (.bl true) (atts A1 s1)))=H2:=⟨_,rfl⟩;rw[e2]at w2;show Nv _ _ _ _ (upd H1 x (.ins D.ab A1.dx (je "in_round" (.bl true) (atts A1 s1))));rw[e2];clear e2;obtain⟨J2,fr2⟩:=w2;have G2:Good {s1 with rnd:=true}:=⟨G1.g.h8,G1.g.n8,G1.g.asc,G1.g.lt,G1.g.f6,G1.g.hh,G1.g.ff,G1.g.nn,G1.g.b12,G1.g.bk,G1.g.bnd,G1.g.n0,G1.g.nx,G1.g.sd,G1.g.yk,G1.g.GO,G1.g.dk,G1.g.Iw⟩;refine⟨_,rfl,x,_,_,rfl,J2.ax,1e4,_,rfl,x,D.ab,_,_,.ref A1.hd,rfl,J2.ax,T.ae,T.aB,pX,A1.hd,A1.hdx,_,rfl,J2.ahd,rfl,A1.hd,A1.hdx,A1.hl,A1.hx,s1.aZ,rfl,J2.hn G2,λp H3 s3 hp z3=>?_⟩;have J3:=J2.same s3;refine⟨_,rfl,x,D.ab,_,_,.ref A1.fh,rfl,J3.ax,T.ae,T.aC,tL,x,A1,_,p,A1.hx,s1.aZ,A1.fh,_,keys s1,rfl,J3,G2,z3,J3.rhl,by rw[G1.g.h8];decide,J3.afh,UT s1 A1,(λt m=>mem_keys.mp m),tQ G1.g.asc,by unfold keys;rw[aoG];exact G1.g.few,λst kv ms H4 s4 hst h4 k4 n4 m4=>?_⟩;have J4:=J3.same s4;have fr4:=((fr1.trans fr2).trans (Fr.same s3)).trans (Fr.same s4);refine⟨_,rfl,x,D.ab,_,_,.ref A1.fh,rfl,J4.ax,T.ae,T.aC,tL,A1.fh,_,J4.afh,λo=>?_⟩;have df:A1.dm≠A1.fh:=aoT J4.d5;have sf:st≠A1.fh:=ao J3.afh hst |>.symm;have sd:st≠A1.dm:=ao J3.adm hst |>.symm;have xf:x≠A1.fh:=az J4.ax J4.afh 1e0;have xd:x≠A1.dm:=az J4.ax J4.adm 1e0;have aom:H4 A1.dm=some 5e1:=by have:=J4.adm;rw[show({s1 with rnd:=true}:HS).eh=[] from d0]at this;exact this
  refine⟨A1.fh,o,_,rfl,ag,Dj (d:=A1.fh) (o:=o) (kvs:=s1.aQ.map (fkv A1)) (λi σ Hc=>∃ v2,σ=[some 5e2,some (.ref st),v2]/\((∀ b u,b≠A1.fh->b≠A1.dm->H4 b=some u->Hc b=some u)/\Hc A1.fh=some (.frz o (.dK (s1.aQ.map (fkv A1)))))/\Hc A1.dm=some (.dK ((((keys s1).take i).filter λt=>decide (t∉ms)).map tkv)))
   ⟨none,rfl,⟨λb u n _ q=>by rw[af n];exact q,ag⟩,by rw[af df];exact aom⟩ (λi σ Hc _ ⟨_,_,oc,_⟩=>oc.2) ?_ ?_⟩
  ·rintro i q σ Hc hi ⟨v2,rfl,oc,hdm⟩
   obtain⟨t,ht,ekv,ep⟩:=(UT s1 A1).at_ hi;have tk:=take_snoc ht;rw[ekv];refine⟨_,rfl,_,rfl,st,_,rfl,tM.k (k:=Sum.inl t) (oc.1 _ _ sf sd h4),_,rfl,?_⟩;rw[k4.isS];by_cases c2:t∈ms
   ·rw[decide_eq_true c2]
    refine xI ⟨_,rfl,oc,?_⟩;rw[tk,aqh,hdm];simp[c2]
   ·rw[decide_eq_false c2]
    have ni:t∉((keys s1).take i).filter λt=>decide (t∉ms):=λz=>Se (show(keys s1).Pairwise (·< ·) from G1.g.asc) ht (apt.mp z).1;have lz:((((keys s1).take i).filter λt=>decide (t∉ms)).map tkv).length<sizeLine:=by
     rw[aoG];refine om (ao7 (apM _ _) ?_)
     have:=G1.g.few
     rw[aoS];unfold keys;rw[aoG];omega
    refine vK ⟨_,rfl,x,D.ab,_,_,.ref A1.dm,rfl,oc.1 _ _ xf xd J4.ax,T.ae,T.bu,Rh,_,rfl,A1.dm,_,rfl,Fg.k (k:=Sum.inl t) hdm lz,?_⟩;refine⟨_,rfl,⟨λb u n1 n2 q=>by rw[af n2];exact oc.1 b u n1 n2 q,by rw[af (aoT df)];exact oc.2⟩,?_⟩;rw[ag,ue _ ((Iy _).non ni),tk,aqh,aoV];simp[c2,tkv]
  ·rintro σ Hc ⟨v2,rfl,oc,hdm⟩
   rw[aoG,aoM (by unfold keys;rw[aoG];exact aoL _),VH (show ∀ t,t∈ms↔Led s1.aZ (fld s1) (keys s1) t from m4)]at hdm;refine⟨A1.fh,o,_,oc.2,(λo' u' q=>?_),?_⟩
   ·have q:H A1.fh=some (.frz o' u'):=q
    rcases(fr1.grow A1.fh .fh) with f|f
    ·obtain⟨u,hu1,_⟩:=J.is f
     rw[q]at hu1;cases hu1;obtain⟨u2,hu2,_⟩:=J.is f;exact absurd q (J.aol f o' u')
    ·rw[f]at q;cases q
   ·have w5:=J4.ajV (ts:=KU s1)
    have sm:aw (upd H4 A1.dm (.dK ((KU s1).map tkv))) (upd Hc A1.fh (.dK (s1.aQ.map (fkv A1)))):=λb u q=>by
     by_cases c3:b=A1.fh
     ·rw[c3,af (aoT df)]at q
      rw[c3,ag];exact J4.afh.symm.trans q
     ·rw[af c3]
      by_cases c4:b=A1.dm
      ·rw[c4,ag]at q
       rw[c4,hdm];exact q
      ·rw[af c4]at q
       exact oc.1 b u c3 c4 q
    exact k A1 _ (w5.1.same sm) ((fr4.trans w5.2).trans (Fr.same sm))
noncomputable def Wo(D:Ad):Sp:=λvs H Q E=>∃ x A s,vs=[.ref x]/\IH D H x A s/\Gd s/\Fin D x A s H (Wm s) Q E
noncomputable abbrev F5:List Str:=["self","gone"]
theorem tD:av F5 ["self"] (ar pw):=fsc
theorem DR(F:Fun K "end" "IdealHeap.end" pw D.eB D.jh)(T:Txt K mg D)
  (ak:9e7 1 D.aq D.aA ["self","text"] (AM K))
  (jt:9e7 2 D.da D.jq ["self","gone"] (Ja D)):9e7 4 D.eB D.jh ["self"] (Wo D):=by
 refine F.oa tD F.b1 λcdv A' outer s' H vs Q E hr h=>?_;obtain⟨x,A,s,rfl,J,Gs,k⟩:=h;refine⟨_,(ai (bS (qJ (De 1e5))
   (aj (fA rfl kj (ak.e hr T.Rf T.Ra px (aa cK ah))))
   aR)
  (ai (iL (pv 0) Di rfl)
  (ai (aO (i:=1) tD.nd rfl 1e3 (lF (Ik rfl) rfl T.yQ PyProof.Rows.Boot.«list» (aa 1e5 ah)))
  (ai (iL (pv 0) jE rfl)
  (aj (aE (jt.m hr (pv 0) T.ae T.pG px 2e2))))))),?_⟩
 refine⟨_,rfl,x,D.ab,_,_,.bl s.rnd,rfl,J.ax,T.ae,T.du,Xo,_,rfl,?_⟩;by_cases c:s.rnd=true
 ·rw[show Wm s=(none,Zo s) from if_pos c]at k
  refine fV (by rw[c];rfl) ?_;refine⟨_,rfl,x,D.ab,A.dx,_,rfl,J.ax,T.ae,T.du,by show 11<1000;decide,?_⟩;have w2:=J.ajW (n:=false);obtain⟨H2,e2⟩:∃ H2,upd H x (.ins D.ab A.dx (je "in_round" (.bl false) 5e8))=H2:=⟨_,rfl⟩;rw[e2]at w2;show Nv _ _ _ _ (upd H x (.ins D.ab A.dx (je "in_round" (.bl false) 5e8)));rw[e2];clear e2;obtain⟨J2,fr2⟩:=w2;refine⟨_,rfl,x,D.ab,_,_,.ref A.dm,rfl,J2.ax,T.ae,T.bu,Rh,A.dm,_,s.eh,rfl,.inl J2.adm,Iy _,λL hL=>?_⟩;have s3:=aw.upd (o:=.lst (s.eh.map V.int)) hL;have J3:=J2.same s3;have nfL:=J2.fresh hL;intro p2 hp2;have w:=J3.aoe hp2;have xp2:x≠p2:=ao J3.ax hp2;refine⟨_,rfl,x,D.ab,A.dx,_,rfl,(by rw[af xp2];exact J3.ax),T.ae,T.bu,by show 11<1000;decide,?_⟩;obtain⟨J5,fr5⟩:=w;have oL:=fr5.out nfL ag;refine⟨_,rfl,x,_,_,rfl,J5.ax,1e4,_,rfl,x,_,_,L,s.eh,rfl,J5,Gs.g.n8,oL.2,oL.1,Gs.g.Iw,SW Gs.g,(by have:=Gs.g.sd;have:=Gs.g.nx;show s.wO.length<=10000;omega),Gs.g.dk,λA6 H6 J6 fr6=>k A6 H6 J6 (((fr2.trans (Fr.same s3)).trans fr5).trans fr6)⟩
 ·rw[show Wm s=(some .no,s) from if_neg c]at k
  refine jP (by rw[apm.mpr c];rfl) ?_;exact λea hea=>b7 T.Rb 5e6 (k.bad J) ea hea
noncomputable def Wq(D:Ad):Sp:=λvs H Q _=>∃ x A s,vs=[.ref x]/\IH D H x A s/\Q (.bl s.rnd) H
noncomputable abbrev vT:List Str:=["self"]
theorem vo:av vT ["self"] (ar jO):=fsc
theorem vp(F:Fun K "round_on" "IdealHeap.round_on" jO D.bX D.fe)(T:Txt K mg D):9e7 1 D.bX D.fe ["self"] (Wq D):=by
 refine F.oa vo F.b1 λcdv A' outer s' H vs Q E hr h=>?_;obtain⟨x,A,s,rfl,J,k⟩:=h;refine⟨_,(PSs.nox (aj (aF 1e5))),?_⟩;exact⟨_,rfl,x,D.ab,_,_,.bl s.rnd,rfl,J.ax,T.ae,T.du,Xo,k⟩
theorem ac9{ts:List Int}{n:Option Int}:inO (ts.map tkv) (n.map Sum.inl)=(match n with|some t=>decide (t∈ts)|none=>false):=by
 cases n with
 | none=>rfl
 | some t=>exact ajY
theorem aae(z:Option Int):nmV z=acf (z.map Sum.inl):=by cases z<;>rfl
noncomputable def Qi(D:Ad):Sp:=λvs H Q _=>∃ x A s,∃ t:Int,vs=[.ref x,.int t]/\IH D H x A s/\Good s/\0<=t/\∀ A' H',IH D H' x A' (ui s t)->Fr 3e6 H (cJ x A' (ui s t)) H'->Q .non H'
theorem VJ{ts:List Int}{t:Int}{v:V}(h:ir (ts.map tkv) (Sum.inl t)=some v):v=.bl true:=by
 unfold ir at h;obtain⟨p,hp,e⟩:=aoZ.mp h;obtain⟨u,_,rfl⟩:=ao5.mp (List.mem_of_find?_eq_some hp);exact e.symm
theorem Yw{ts:List Int}{t:Int}:vN (ts.map tkv) 2e7=(ts.filter λp=>decide (p≠t)).map tkv:=by
 unfold vN;rw[aqA];congr 1
 refine apI λp _=>?_;show decide (Sum.inl p≠(Sum.inl t:Key))=decide (p≠t);simp
noncomputable abbrev BC:List Str:=["self","t","spared","other"]
theorem lg:av BC ["self","t"] (ar lW):=fsc
theorem zM(F:Fun K "spare" "IdealHeap.spare" lW D.c5 D.g7)(T:Txt K mg D)
  (bG:9e7 3 D.cx D.eU ["t"] (iP))
  (cV:9e7 3 D.bB D.eO ["self","leads","things"] (NS D)):9e7 4 D.c5 D.g7 ["self","t"] (Qi D):=by
 refine F.oa lg F.b2 λcdv A' outer s' H vs Q E hr h=>?_;obtain⟨x,A,s,t,rfl,J,G,t0,k⟩:=h;refine⟨_,(PSs.nox (ai (aO (i:=2) lg.nd rfl 1e3 (cV.m hr (pv 0) T.ae T.iV aV (aa (lD (aa (bG.c hr T.kN T.ip aV 2e2) ah)) (aa 1e5 ah))))
  (aj (eK aoY rfl (yN (GG (pv 2))) (aK (i:=3) lg.nd rfl 1e3)
   (aj (aE (IU 1e5 (pv 3) ⟨rfl,rfl,rfl,rfl⟩))))))),?_⟩
 refine⟨_,rfl,x,_,_,rfl,J.ax,1e4,_,rfl,t,rfl,t0,λtp H1 s1 hp=>⟨by show 1<=sizeLine;decide,λl hl=>?_⟩⟩;have s2:=aw.upd (o:=.lst [V.ref tp]) hl;have J2:=(J.same s1).same s2;have rl:Rel (upd H1 l (.lst [V.ref tp])) [.ref tp] [.th t]:=⟨rfl,λi v w h1 h2=>by
  cases i with
  | zero=>cases h1;cases h2;exact⟨tp,rfl,s2 _ _ hp⟩
  | succ i=>cases h1⟩
 refine⟨_,rfl,x,D.ab,_,_,.ref A.dm,rfl,J2.ax,T.ae,T.bu,Rh,x,A,s,l,_,[.th t],A.dm,_,s.eh,rfl,J2,G,ag,rl,by show 1<=100000;decide,J2.adm,Iy _,G.dk,tQ G.Iw,SW G,λst kv ms H3 s3 hst h3 k3 n3 m3=>?_⟩;have J3:=J2.same s3;have fr3:=((Fr.same (F:=cJ x A s) s1).trans (Fr.same s2)).trans (Fr.same s3);have nfs:=J2.fresh hst;refine⟨_,rfl,st,kv,h3,λo=>?_⟩;have sub:∀ u∈ms,u∈s.eh:=λu m=>((m3 u).mp m).mem;have H4s:∀ b u,b≠st->H3 b=some u->upd H3 st (.frz o (.dK kv)) b=some u:=λb u n q=>by rw[af n];exact q
 have t4:bg H3 (upd H3 st (.frz o (.dK kv))):=bg.set h3 2e1;have J4:IH D (upd H3 st (.frz o (.dK kv))) x A s:=J3.keep (λb u f q=>H4s b u (λe=>nfs (by rw[<-e];exact f)) q) t4;have bk:H st=none:=aw.none s1 (aw.none s2 hst);have fr4:Fr 3e6 H 3e6 (upd H3 st (.frz o (.dK kv))):=⟨λb u n q=>H4s b u (ao q bk) (fr3.ext b u n q),λ_ f=>.inl f,λb u q=>by obtain⟨u',q'⟩:=fr3.all b u q;exact⟨u',H4s b u' (ao q bk) q'⟩,fr3.tup.trans t4⟩;refine⟨st,o,kv,rfl,ag,Dj (d:=st) (o:=o) (kvs:=kv) (λi σ Hc=>∃ v3,σ=[some 5e2,some (.int t),some (.ref st),v3]/\IH D Hc x A {s with eh:=s.eh.filter λu=>decide (u∉ms.take i)}/\Fr 3e6 H (cJ x A {s with eh:=s.eh.filter λu=>decide (u∉ms.take i)}) Hc/\Hc st=some (.frz o (.dK kv)))
  ⟨none,rfl,(by rw[apV,show(s.eh.filter λu=>decide (u∉([]:List Int)))=s.eh by simp];exact J4),(by rw[apV,show(s.eh.filter λu=>decide (u∉([]:List Int)))=s.eh by simp];exact fr4),ag⟩ (λi σ Hc _ ⟨_,_,_,_,z⟩=>z) ?_ ?_⟩
 ·rintro i q σ Hc hi ⟨v3,rfl,Jc,frc,z⟩
  obtain⟨u,hu',ekv,ep⟩:=k3.at_ hi;have tk:=take_snoc hu';have ni:u∉ms.take i:=λm=>by
   have:=apC.mp (show(ms.take i++ms.drop i).Nodup by rw[aql];exact n3)
   have hlt:=(aoE.mp hu').1;exact this.2.2 u m u (by rw[ap6 hlt,(aoE.mp hu').2];exact ao3) rfl
  have mu:u∈s.eh.filter λu=>decide (u∉ms.take i):=apt.mpr ⟨sub u (aoI hu'),by simpa using ni⟩;have vd:ir ((s.eh.filter λu=>decide (u∉ms.take i)).map tkv) (Sum.inl u)=some (.bl true):=by
   have h1:=(Iy (s.eh.filter λu=>decide (u∉ms.take i))).isS (t:=u);rw[decide_eq_true mu]at h1;obtain⟨v,hv⟩:=aqa.mp h1;rw[hv,VJ hv]
  rw[ekv];refine⟨_,rfl,x,D.ab,_,_,.ref A.dm,rfl,Jc.ax,T.ae,T.bu,Rh,A.dm,rfl,.inl ⟨_,.inl Jc.adm⟩,_,rfl,_,Sum.inl u,_,Jc.adm,rfl,vd,?_⟩;have w:=Jc.ajV (ts:=(s.eh.filter λu=>decide (u∉ms.take i)).filter λv=>decide (v≠u));rw[show vN (({s with eh:=s.eh.filter λu=>decide (u∉ms.take i)}:HS).eh.map tkv) (Sum.inl u)=((s.eh.filter λu=>decide (u∉ms.take i)).filter λv=>decide (v≠u)).map tkv from Yw];have ef:((s.eh.filter λu=>decide (u∉ms.take i)).filter λv=>decide (v≠u))=s.eh.filter λv=>decide (v∉ms.take (i+1)):=by
   rw[List.filter_filter,tk];refine apI λv _=>?_;simp[aoU,not_or,Bool.and_comm]
  rw[ef]at w ⊢;have nsd:st≠A.dm:=λe=>by rw[e,Jc.adm]at z;cases z
  exact⟨_,rfl,w.1,frc.trans w.2,by rw[af nsd];exact z⟩
 ·rintro σ Hc ⟨v3,rfl,Jc,frc,z⟩
  rw[k3.len,aoM (aoL _),VI m3]at Jc frc;exact k _ _ Jc frc
noncomputable def Qj(D:Ad):Sp:=λvs H Q E=>∃ x A s,∃ h n:Int,vs=[.ref x,.int h,.int n]/\IH D H x A s/\Gd s/\s.nxt<10000/\Sm h/\Sm n/\Fin D x A s H (qQ s h n) Q E
noncomputable abbrev DS:List Str:=["self","h","n","size"]
theorem rE:av DS ["self","h","n"] (ar nB):=fsc
theorem BD(F:Fun K "make" "IdealHeap.make" nB D.dC D.iH)(T:Txt K mg D)
  (ak:9e7 1 D.aq D.aA ["self","text"] (AM K))
  (aN:9e7 3 D.bq D.cQ ["h"] (eC D))
  (jj:9e7 3 D.gK D.lA ["fields"] (rW D))
  (eM:9e7 4 D.bo D.eL ["self","things"] (I0 D))
  (cD:9e7 5 D.bO D.dN ["self"] (Dn D))
  (nP:9e7 5 D.dE D.iJ ["self"] (SY D))
  (nQ:9e7 5 D.cv D.iG ["self","h","n"] (Wj D)):9e7 8 D.dC D.iH ["self","h","n"] (Qj D):=by
 refine F.oa rE F.b3 λcdv A' outer s' H vs Q E hr h=>?_;obtain⟨x,A,s,h,n,rfl,J,Gs,hnx,hh,hn,k⟩:=h;refine⟨_,(ai (aE (aN.c hr T.gH T.d8 px 2e2))
  (ai (aO (i:=3) rE.nd rfl 1e3 (jj.c hr T.AU T.qW px 3e3))
  (ai (bS (PW.pt (pw_and (De 1e5) (pw_and1 (aG QM (aJ cc (eM.m hr (pv 0) T.ae T.kF px (aa 1e5 ah)) (pv 3)) 1e5 (aU _)))))
   (aj (aE (cD.m0 hr (pv 0) T.ae T.kX px)))
   aR)
  (ai (bS (aG QM (aJ cc (nP.m0 hr (pv 0) T.ae T.Bd px) (pv 3)) 1e5 (aU _))
   (aj (fA rfl kj (ak.e hr T.Ui T.Ug px (aa (i4 (aY (km (pv 3)) (aY gj i3))) ah))))
   aR)
  (aj (aE (nQ.m hr (pv 0) T.ae T.tP px (aa (pv 1) 3e3)))))))),?_⟩
 refine⟨_,rfl,h,rfl,hh,?_⟩;by_cases c:ok8 h
 ·rw[if_pos c]
  refine⟨_,rfl,n,rfl,hn,?_⟩;by_cases c2:0<=n/\n<=6
  ·rw[if_pos c2]
   have G:=Gs.g;have kk:Fin D x A s H (if held (mkR s n)+(n+1)>s.limit then(some .room,mkR s n) else(none,Rk (mkR s n) h n)) Q E:=by
    rw[show qQ s h n=_ from by unfold qQ;rw[if_pos c,if_pos c2]]at k;exact k
   have G2:Gd (mkR s n):=Gs.mkd;simp only[yw];refine SO λN hN=>?_;have fin:∀(A2:HA) (H2:Hp),IH D H2 x A2 (mkR s n)->Fr 3e6 H (cJ x A2 (mkR s n)) H2->N [some 5e2,some (.int h),some (.int n),some (.int (n+1))] H2:=by
    intro A2 H2 J2 fr2;refine hN _ _ ?_;refine⟨_,rfl,x,_,_,rfl,J2.ax,1e4,x,A2,_,rfl,J2,G2.g,λH3 s3=>?_⟩;have J3:=J2.same s3;have fr3:=fr2.trans (Fr.same s3);refine⟨_,rfl,held (mkR s n),n+1,rfl,rfl,_,rfl,x,D.ab,_,_,.int (mkR s n).limit,rfl,J3.ax,T.ae,T.rn,ac0,_,_,rfl,rfl,_,rfl,eT (λg=>?_) (λg=>?_)⟩
    ·have g:=of_decide_eq_true g
     rw[Th]at g;rw[if_pos g]at kk;exact⟨_,rfl,n+1,rfl,Sm.of 1e1 1e1,λy hy ea hea=>b7 T.Uh (λb q=>fr3.none q) (λH' s'=>kk A2 H' (J3.same s') (fr3.trans (Fr.same s'))) ea hea⟩
    ·have g:¬(held (mkR s n)+(n+1)>s.limit):=λz=>g (decide_eq_true (by rw[Th];exact z))
     rw[if_neg g]at kk;exact⟨_,rfl,x,_,_,rfl,J3.ax,1e4,_,rfl,_,rfl,x,A2,_,h,n,rfl,J3,G2.g,c,c2.1,c2.2,λA' H' J' fr=>kk A' H' J' (fr3.trans fr)⟩
   refine⟨_,rfl,x,D.ab,_,_,.bl s.my,rfl,J.ax,T.ae,T.iy,Zj,_,rfl,?_⟩;by_cases my:s.my=true
   ·refine jP my ⟨_,rfl,x,_,_,rfl,J.ax,1e4,_,rfl,x,D.ab,_,_,.ref A.yg,rfl,J.ax,T.ae,T.bE,Rg,x,A,s,A.yg,_,s.yng,rfl,J,G,J.ayg,Iy _,G.yk,JE G,λH1 s1=>?_⟩
    have J1:=J.same s1;refine⟨_,rfl,wsum s s.yng,n+1,rfl,rfl,_,rfl,x,D.ab,_,_,.int s.room,rfl,J1.ax,T.ae,T.lI,acZ,_,_,rfl,rfl,_,rfl,eT (λg=>?_) (λg=>?_)⟩
    ·have g:=of_decide_eq_true g
     have em:mkR s n=pL s:=if_pos ⟨my,g⟩;rw[em]at fin;exact⟨_,rfl,x,_,_,rfl,J1.ax,1e4,x,A,s,rfl,J1,G,λA2 H2 J2 fr2=>fin A2 H2 J2 ((Fr.same s1).trans fr2)⟩
    ·have em:mkR s n=s:=if_neg λz=>g (decide_eq_true z.2)
     rw[em]at fin;exact fin A H1 J1 (Fr.same s1)
   ·have em:mkR s n=s:=if_neg λz=>my z.1
    rw[em]at fin;exact fV (apm.mpr my) (xI (fin A H J Fr.refl))
  ·rw[if_neg c2]
   rw[show qQ s h n=(some .count,s) by simp only[qQ,if_pos c,if_neg c2]]at k;exact k.bad J
 ·rw[if_neg c]
  rw[show qQ s h n=2e5 by simp only[qQ,if_neg c]]at k;exact k.bad J
noncomputable def Qk(D:Ad):Sp:=λvs H Q E=>∃ x A s,∃ h w:Int,vs=[.ref x,.int h,.int w]/\IH D H x A s/\Good s/\Sm h/\Sm w/\Fin D x A s H (qP s h w) Q E
theorem rk{α:Type}{l:List α}{i:Nat}{a b:α}(h:b∈l.set i a):b∈l\/b=a:=by
 rw[ap3]at h;obtain⟨j,hj,e⟩:=h;rw[List.getElem_set]at e;split at e
 ·exact .inr e.symm
 ·exact .inl (by rw[<-e];exact apA _)
theorem Good.put{s:HS}(g:Good s){h:Int}{w:Wd}(c:∀ t,w=.th t->∃ ws,(t,ws)∈s.aQ):Good (tR s h w) :=
 ⟨by show(s.aZ.set _ _).length=8;rw[apb];exact g.h8,g.n8,g.asc,g.lt,g.f6,(λt m=>(rk m).elim (λq=>g.hh t q) λe=>c t e.symm),g.ff,g.nn,g.b12,g.bk,g.bnd,g.n0,g.nx,g.sd,g.yk,g.GO,g.dk,g.Iw⟩
noncomputable abbrev DT:List Str:=["self","h","w","t"]
theorem rF:av DT ["self","h","w"] (ar nC):=fsc
theorem BE(F:Fun K "read" "IdealHeap.read" nC D.dD D.iI)(T:Txt K mg D)
  (l9:9e7 5 D.bN D.gZ ["self","h","w"] (Qd D))
  (md:9e7 4 D.c5 D.g7 ["self","t"] (Qi D)):9e7 7 D.dD D.iI ["self","h","w"] (Qk D):=by
 refine F.oa rF F.b3 λcdv A' outer s' H vs Q E hr h=>?_;obtain⟨x,A,s,h,w,rfl,J,G,hh,hw,k⟩:=h;refine⟨_,(ai (aO (i:=3) rF.nd rfl 1e3 (l9.m hr (pv 0) T.ae T.sU px (aa (pv 1) 3e3)))
  (aj (bS (t9 (Yg (pv 3) 1e5) 3e2)
   (aj (aE (md.m hr (pv 0) T.ae T.zk px 5e3)))
   aR))),?_⟩
 refine⟨_,rfl,x,_,_,rfl,J.ax,1e4,_,rfl,_,rfl,x,A,s,h,w,rfl,J,G,hh,hw,?_⟩;by_cases c:ok8 h
 ·rw[if_pos c]
  by_cases c2:ok8 w
  ·rw[if_pos c2]
   rw[show qP s h w=(none,rdR (tR s h (nmW (s.names.getD w.toNat none))) (s.names.getD w.toNat none)) by simp only[qP,if_pos c,if_pos c2]]at k;have hi:w.toNat<s.names.length:=(by rw[G.n8];omega);have gd:s.names.getD w.toNat none=s.names[w.toNat]:=(by simp[List.getD,hi]);have mm:s.names[w.toNat]∈s.names:=apA hi;obtain⟨z,ez⟩:∃ z,s.names.getD w.toNat none=z:=⟨_,rfl⟩;rw[ez]at k ⊢;rw[<-gd,ez]at mm;intro A1 H1 J1 fr;refine⟨_,rfl,_,rfl,x,D.ab,_,_,_,rfl,J1.ax,T.ae,T.bu,Rh,A1.dm,_,z.map Sum.inl,rfl,aae z,.inl J1.adm,_,rfl,?_⟩;rw[ac9];cases z with
   | none=>exact xI (k A1 H1 J1 fr)
   | some t =>
    show if decide (t∈s.eh)=true then _ else _;obtain⟨ws,m⟩:=G.nn t mm;by_cases c3:t∈s.eh
    ·rw[decide_eq_true c3]
     rw[show rdR (tR s h (nmW (some t))) (some t)=ui (tR s h (nmW (some t))) t from if_pos c3]at k;have G2:Good (tR s h (nmW (some t))):=G.put λu e=>by cases e;exact⟨ws,m⟩
     exact vK ⟨_,rfl,x,_,_,rfl,J1.ax,1e4,_,rfl,x,A1,_,t,rfl,J1,G2,(G.lt _ _ m).1,λA2 H2 J2 fr2=>k A2 H2 J2 (fr.trans fr2)⟩
    ·rw[decide_eq_false c3]
     rw[show rdR (tR s h (nmW (some t))) (some t)=tR s h (nmW (some t)) from if_neg c3]at k;exact xI (k A1 H1 J1 fr)
  ·rw[if_neg c2]
   rw[show qP s h w=(some .name,s) by simp only[qP,if_pos c,if_neg c2]]at k;exact k.bad J
 ·rw[if_neg c]
  rw[show qP s h w=2e5 by simp only[qP,if_neg c]]at k;exact k.bad J
inductive Dd where
 | make (h n:Int)|store (g k h:Int)|load (h g k:Int)|copy (h g:Int)|drop (h:Int)|number (h x:Int)|name (w h:Int)|read (h w:Int)|word (h x:Int)|small|turn
noncomputable abbrev In8(h:Int):Prop:=0<=h/\h<8
noncomputable def Dd.ok:Dd->Prop
 | .make h n=>In8 h/\0<=n/\n<=6
 | .store g k h=>In8 g/\0<=k/\k<=6/\In8 h
 | .load h g k=>In8 h/\In8 g/\0<=k/\k<=6
 | .copy h g=>In8 h/\In8 g
 | .drop h=>In8 h
 | .number h x=>In8 h/\-10000000<=x/\x<=10000000
 | .name w h=>In8 w/\In8 h
 | .read h w=>In8 h/\In8 w
 | .word h x=>In8 h/\-10000000<=x/\x<=10000000
 | .small=>True
 | .turn=>True
theorem m8(n d:Int):0<=n/d%8/\n/d%8<8:=⟨api _ 2e0,ape _ 2e0⟩
noncomputable def Ro(s:HS):Re:=if s.rnd=true then Wm s else GH s
noncomputable def dDo(s:HS):Dd->Re
 | .make h n=>qQ s h n
 | .store g k h=>kz s g k h
 | .load h g k=>pZ s h g k
 | .copy h g=>yF s h g
 | .drop h=>Dm s h
 | .number h x=>lK s h x
 | .name w h=>rX s w h
 | .read h w=>qP s h w
 | .word h x=>qa s h x
 | .small=>(none,pL s)
 | .turn=>Ro s
theorem Good.names{s:HS}(g:Good s){w:Nat}{t:Int}{ws:List Wd}(m:(t,ws)∈s.aQ):Good {s with names:=s.names.set w (some t)} :=
 ⟨g.h8,by show(s.names.set _ _).length=8;rw[apb];exact g.n8,g.asc,g.lt,g.f6,g.hh,g.ff,λu m'=>(rk m').elim (g.nn u) (λe=>by injection e with e;rw[e];exact⟨ws,m⟩),g.b12,g.bk,g.bnd,g.n0,g.nx,g.sd,g.yk,g.GO,g.dk,g.Iw⟩
theorem Uq{bs:List (Int×Int)}{t x:Int}:(Lg bs t x).map (·.1)=if(bs.lookup t).isSome=true then bs.map (·.1) else bs.map (·.1)++[t]:=by
 unfold Lg;by_cases c:(bs.lookup t).isSome=true
 ·rw[if_pos c,if_pos c,apn]
  refine apD λp hp=>?_;show(if p.1=t then(t,x) else p).1=p.1;by_cases e:p.1=t
  ·rw[if_pos e];exact e.symm
  ·rw[if_neg e]
 ·rw[if_neg c,if_neg c,aoV]
  rfl
theorem Good.cB{s:HS}(g:Good s){t x:Int}{ws:List Wd}(m:(t,ws)∈s.aQ)(c:¬(s.cB.lookup t=none/\12<=s.cB.length)):Good {s with cB:=Lg s.cB t x}:=by
 have kl:=Uq (bs:=s.cB) (t:=t) (x:=x);have ln:=congrArg List.length kl;have mm:∀ u,u∈(Lg s.cB t x).map (·.1)->u∈s.cB.map (·.1)\/u=t:=λu h=>by
  rw[kl]at h;split at h
  ·exact .inl h
  ·rcases aoU.mp h with h|h
   ·exact .inl h
   ·exact .inr (aoH.mp h)
 refine⟨g.h8,g.n8,g.asc,g.lt,g.f6,g.hh,g.ff,g.nn,?_,λu y h=>?_,?_,g.n0,g.nx,g.sd,g.yk,g.GO,g.dk,g.Iw⟩
 ·show(Lg s.cB t x).length<=12
  rw[aoG]at ln;rw[ln];by_cases q:(s.cB.lookup t).isSome=true
  ·rw[if_pos q,aoG];exact g.b12
  ·rw[if_neg q,aoJ,aoG,apc]
   have:s.cB.lookup t=none:=by
    cases e:s.cB.lookup t with
    | none=>rfl
    | some v=>rw[e]at q;exact absurd rfl q
   have:¬12<=s.cB.length:=λz=>c ⟨this,z⟩
   omega
 ·rcases mm u (ao5.mpr ⟨_,h,rfl⟩) with h|rfl
  ·obtain⟨p,hp,rfl⟩:=ao5.mp h
   exact g.bk p.1 p.2 hp
  ·exact⟨ws,m⟩
 ·show((Lg s.cB t x).map (·.1)).Nodup
  rw[kl];by_cases q:(s.cB.lookup t).isSome=true
  ·rw[if_pos q];exact g.bnd
  ·rw[if_neg q,apC]
   refine⟨g.bnd,aqi _ _,λa ma b mb e=>?_⟩;rw[aoH.mp mb]at e;subst e;obtain⟨p,hp,rfl⟩:=ao5.mp ma;refine q ?_;rw[mem_lookup (w:=p.2) g.bnd hp];rfl
theorem Lm{fs:List (Int×List Wd)}{t:Int}{ws:List Wd}:(wQ fs t ws).map (·.1)=fs.map (·.1):=by
 unfold wQ;rw[apn];refine apD λp hp=>?_;show(if p.1=t then(t,ws) else p).1=p.1;by_cases e:p.1=t
 ·rw[if_pos e];exact e.symm
 ·rw[if_neg e]
theorem VL{fs:List (Int×List Wd)}{t u:Int}{ws w:List Wd}(m:(u,w)∈fs):∃ w',(u,w')∈wQ fs t ws:=by
 have:u∈(wQ fs t ws).map (·.1):=by rw[Lm];exact ao5.mpr ⟨_,m,rfl⟩
 obtain⟨p,hp,rfl⟩:=ao5.mp this;exact⟨p.2,hp⟩
theorem Dp{fs:List (Int×List Wd)}{t u:Int}{ws w:List Wd}(m:(u,w)∈wQ fs t ws):(u,w)∈fs\/(w=ws/\∃ w0,(u,w0)∈fs):=by
 obtain⟨p,hp,e⟩:=ao5.mp m;by_cases c:p.1=t
 ·rw[if_pos c]at e
  cases e;exact .inr ⟨rfl,p.2,by rw[<-c];exact hp⟩
 ·rw[if_neg c]at e
  subst e;exact .inl hp
theorem Good.wQ{s:HS}(g:Good s){t:Int}{ws:List Wd}(l6:ws.length<=6)(c:∀ u,Wd.th u∈ws->∃ w,(u,w)∈s.aQ):Good {s with aQ:=wQ s.aQ t ws}:=by
 have hs:∀ u,(∃ w,(u,w)∈s.aQ)->∃ w,(u,w)∈K39.wQ s.aQ t ws:=λu ⟨w,m⟩=>VL m;refine⟨g.h8,g.n8,by show((K39.wQ s.aQ t ws).map (·.1)).Pairwise _;rw[Lm];exact g.asc,λu w m=>?_,λu w m=>?_,λu m=>hs u (g.hh u m),λu w v m mv=>?_,λu m=>hs u (g.nn u m),g.b12,λu y m=>hs u (g.bk u y m),g.bnd,g.n0,g.nx,?_,λu m=>hs u (g.yk u m),g.GO,λu m=>hs u (g.dk u m),g.Iw⟩
 ·rcases Dp m with m|⟨_,w0,m⟩
  ·exact g.lt u w m
  ·exact g.lt u w0 m
 ·rcases Dp m with m|⟨rfl,w0,m⟩
  ·exact g.f6 u w m
  ·exact l6
 ·rcases Dp m with m|⟨rfl,w0,m⟩
  ·exact hs v (g.ff u w v m mv)
  ·exact hs v (c v mv)
 ·show(s.wO.length:Int)+((K39.wQ s.aQ t ws).length:Int)<=s.nxt
  unfold K39.wQ;rw[aoG];exact g.sd
theorem Good.aon{s:HS}(g:Good s){h n:Int}(n6:n<=6)(few:s.nxt<10000):Good (Rk s h n):=by
 have hs:∀ u,(∃ w,(u,w)∈s.aQ)->∃ w,(u,w)∈s.aQ++[(s.nxt,List.replicate n.toNat Wd.no)]:=λu ⟨w,m⟩=>⟨w,apf _ m⟩;have mm:∀ {u:Int} {w:List Wd},(u,w)∈s.aQ++[(s.nxt,List.replicate n.toNat Wd.no)]->(u,w)∈s.aQ\/(u=s.nxt/\w=List.replicate n.toNat Wd.no):=λm=>by
  rcases aoU.mp m with m|m
  ·exact .inl m
  ·cases aoH.mp m;exact .inr ⟨rfl,rfl⟩
 have my:∀ u∈(Rk s h n).yng,u∈s.yng\/u=s.nxt:=λu m=>by
  have m:u∈(if s.my=true then s.yng++[s.nxt] else s.yng):=m;split at m
  ·exact(aoU.mp m).imp id λz=>aoH.mp z
  ·exact .inl m
 refine⟨by show(s.aZ.set _ _).length=8;rw[apb];exact g.h8,g.n8,?_,λu w m=>?_,λu w m=>?_,λu m=>?_,λu w v m mv=>?_,λu m=>hs u (g.nn u m),g.b12,λu y m=>hs u (g.bk u y m),g.bnd,by show 0<=s.nxt+1;have:=g.n0;omega,by show s.nxt+1<=10000;omega,?_,λu m=>?_,?_,λu m=>hs u (g.dk u m),g.Iw⟩
 ·show((s.aQ++[(s.nxt,List.replicate n.toNat Wd.no)]).map (·.1)).Pairwise _
  rw[aoV,aqp];refine⟨g.asc,aqi _ _,λa ma b mb=>?_⟩;obtain⟨p,hp,rfl⟩:=ao5.mp ma;obtain rfl:b=s.nxt:=by simpa using mb
  exact(g.lt p.1 p.2 hp).2
 ·show 0<=u/\u<s.nxt+1
  have:=g.n0
  rcases mm m with m|⟨e,_⟩
  ·have:=g.lt u w m;omega
  ·omega
 ·rcases mm m with m|⟨_,e⟩
  ·exact g.f6 u w m
  ·rw[e,apg];omega
 ·rcases rk m with m|e
  ·exact hs u (g.hh u m)
  ·injection e with e
   exact⟨_,aoP _ (aoH.mpr (by rw[e]))⟩
 ·rcases mm m with m|⟨_,e⟩
  ·exact hs v (g.ff u w v m mv)
  ·rw[e]at mv
   cases apk mv
 ·show(s.wO.length:Int)+((s.aQ++[(s.nxt,List.replicate n.toNat Wd.no)]).length:Int)<=s.nxt+1
  rw[aoJ,apc]
  have:=g.sd
  omega
 ·rcases my u m with m|e
  ·exact hs u (g.yk u m)
  ·exact⟨_,aoP _ (aoH.mpr (by rw[e]))⟩
 ·show(if s.my=true then s.yng++[s.nxt] else s.yng).Pairwise _
  split
  ·rw[aqp]
   refine⟨g.GO,aqi _ _,λa ma b mb=>?_⟩;obtain rfl:b=s.nxt:=(by simpa using mb);obtain⟨ws,m⟩:=g.yk a ma;exact(g.lt a ws m).2
  ·exact g.GO
theorem Gd.put{s:HS}(d:Gd s){h:Int}{w:Wd}(c:∀ t,w=.th t->(∃ ws,(t,ws)∈s.aQ)/\t∉s.eh):Gd (tR s h w) :=
 ⟨d.g.put λt e=>(c t e).1,d.dy,λt m=>(rk m).elim (d.dh t) (λe=>(c t e.symm).2),d.df,d.rd⟩
theorem Gd.add{s:HS}(d:Gd s){h n:Int}(n6:n<=6)(few:s.nxt<10000):Gd (Rk s h n) where
 g:=d.g.aon n6 few
 dy:=λt m=>by
  obtain⟨ws,mt⟩:=d.g.dk t m;have lt:=(d.g.lt t ws mt).2;show t∉(if s.my=true then s.yng++[s.nxt] else s.yng);split
  ·intro z
   rcases aoU.mp z with z|z
   ·exact d.dy t m z
   ·have:=aoH.mp z;omega
  ·exact d.dy t m
 dh:=λt m=>(rk m).elim (d.dh t) λe=>by
  injection e with e;intro z;obtain⟨ws,mt⟩:=d.g.dk t z
  have:=(d.g.lt t ws mt).2
  omega
 df:=λu ws t m hu h=>by
  rcases aoU.mp m with m|m
  ·exact d.df u ws t m hu h
  ·cases aoH.mp m
   cases apk h
 rd:=d.rd
theorem Gd.wQ{s:HS}(d:Gd s){t:Int}{ws:List Wd}(l6:ws.length<=6)(c:∀ u,Wd.th u∈ws->(∃ w,(u,w)∈s.aQ)/\u∉s.eh):Gd {s with aQ:=wQ s.aQ t ws} where
 g:=d.g.wQ l6 λu m=>(c u m).1
 dy:=d.dy
 dh:=d.dh
 df:=λu w v m hu h=>by
  rcases Dp m with m|⟨e,_⟩
  ·exact d.df u w v m hu h
  ·rw[e]at h;exact(c v h).2
 rd:=d.rd
theorem Gd.hnd{s:HS}(d:Gd s){h:Int}{w:Wd}(e:wat s.aZ h=some w):∀ t,w=.th t->(∃ ws,(t,ws)∈s.aQ)/\t∉s.eh:=λt z=>by
 have m:=aoI (uf e).2.2;rw[z]at m;exact⟨d.g.hh t m,d.dh t m⟩
theorem Ti{s:HS}{n:Option Int}:(rdR s n).nxt=s.nxt:=by
 unfold rdR;split
 ·split<;>rfl
 ·rfl
theorem ada{s:HS}(d:Gd s)(few:s.nxt<10000){dd:Dd}(ok:dd.ok):Gd (dDo s dd).2/\s.nxt<=(dDo s dd).2.nxt/\(dDo s dd).2.nxt<=s.nxt+1:=by
 have same:Gd s/\s.nxt<=s.nxt/\s.nxt<=s.nxt+1:=⟨d,apv _,by omega⟩;cases dd with
 | make h n =>
  show Gd (qQ s h n).2/\s.nxt<=(qQ s h n).2.nxt/\(qQ s h n).2.nxt<=s.nxt+1;unfold qQ;split
  ·split
   ·split
    ·exact⟨d.mkd,by rw[DQ];exact apv _,by rw[DQ];omega⟩
    ·exact⟨d.mkd.add ok.2.2 (by rw[DQ];exact few),by show s.nxt<=(mkR s n).nxt+1;rw[DQ];omega,by show(mkR s n).nxt+1<=s.nxt+1;rw[DQ];exact apv _⟩
   ·exact same
  ·exact same
 | store g k h =>
  show Gd (kz s g k h).2/\s.nxt<=(kz s g k h).2.nxt/\(kz s g k h).2.nxt<=s.nxt+1;unfold kz;split
  ·rename_i t e
   split
   ·rename_i w e2
    split
    ·rename_i c
     have m:=d.g.hand e;refine⟨d.wQ (by rw[apb];exact d.g.f6 _ _ m) (λu hu=>?_),apv _,by show s.nxt<=s.nxt+1;omega⟩;rcases rk hu with hu|hu
     ·exact⟨d.g.ff _ _ _ m hu,d.df _ _ _ m ((d.hnd e t rfl).2) hu⟩
     ·exact d.hnd e2 u hu.symm
    ·exact same
   ·exact same
  ·exact same
 | load h g k =>
  show Gd (pZ s h g k).2/\s.nxt<=(pZ s h g k).2.nxt/\(pZ s h g k).2.nxt<=s.nxt+1;unfold pZ;split
  ·split
   ·rename_i t e
    split
    ·rename_i c
     have m:=d.g.hand e;refine⟨d.put λu hu=>?_,apv _,by show s.nxt<=s.nxt+1;omega⟩;have hi:k.toNat<(fld s t).length:=1e1;have hm:Wd.th u∈fld s t:=(by rw[<-hu,apB,aoF hi];exact apA hi);exact⟨d.g.ff _ _ _ m hm,d.df _ _ _ m ((d.hnd e t rfl).2) hm⟩
    ·exact same
   ·exact same
  ·exact same
 | copy h g =>
  show Gd (yF s h g).2/\s.nxt<=(yF s h g).2.nxt/\(yF s h g).2.nxt<=s.nxt+1;unfold yF;split
  ·split
   ·rename_i w e
    exact⟨d.put (d.hnd e),apv _,by show s.nxt<=s.nxt+1;omega⟩
   ·exact same
  ·exact same
 | drop h =>
  show Gd (Dm s h).2/\s.nxt<=(Dm s h).2.nxt/\(Dm s h).2.nxt<=s.nxt+1;unfold Dm;split
  ·exact⟨d.put (λt e=>by cases e),apv _,by show s.nxt<=s.nxt+1;omega⟩
  ·exact same
 | number h x =>
  show Gd (lK s h x).2/\s.nxt<=(lK s h x).2.nxt/\(lK s h x).2.nxt<=s.nxt+1;unfold lK;split
  ·split
   ·exact⟨d.put (λt e=>by cases e),apv _,by show s.nxt<=s.nxt+1;omega⟩
   ·exact same
  ·exact same
 | name w h =>
  show Gd (rX s w h).2/\s.nxt<=(rX s w h).2.nxt/\(rX s w h).2.nxt<=s.nxt+1;unfold rX;split
  ·rename_i t e
   split
   ·exact⟨⟨d.g.names (d.g.hand e),d.dy,d.dh,d.df,d.rd⟩,apv _,by show s.nxt<=s.nxt+1;omega⟩
   ·exact same
  ·exact same
 | read h w =>
  show Gd (qP s h w).2/\s.nxt<=(qP s h w).2.nxt/\(qP s h w).2.nxt<=s.nxt+1;unfold qP;split
  ·split
   ·rename_i c2
    refine⟨?_,by rw[Ti];exact apv _,by rw[Ti];show s.nxt<=s.nxt+1;omega⟩;have hi:w.toNat<s.names.length:=(by rw[d.g.n8];omega);have gd:s.names.getD w.toNat none=s.names[w.toNat]:=(by simp[List.getD,hi]);have mm:s.names[w.toNat]∈s.names:=apA hi;rw[<-gd]at mm;cases e:s.names.getD w.toNat none with
    | none=>exact d.put (λt e=>by cases e)
    | some t =>
     rw[e]at mm;obtain⟨ws,m⟩:=d.g.nn t mm;show Gd (if t∈(tR s h (.th t)).eh then ui (tR s h (.th t)) t else tR s h (.th t));have g2:Good (tR s h (.th t)):=d.g.put λu z=>by cases z;exact⟨ws,m⟩
     by_cases c:t∈s.eh
     ·rw[if_pos (show t∈(tR s h (.th t)).eh from c)]
      refine Gd.jz ⟨g2,d.dy,d.df,d.rd⟩ c λu hu=>?_;rcases rk hu with hu|hu
      ·exact .inr (d.dh u hu)
      ·injection hu with hu;exact .inl hu
     ·rw[if_neg (show ¬t∈(tR s h (.th t)).eh from c)]
      exact d.put λu z=>by cases z;exact⟨⟨ws,m⟩,c⟩
   ·exact same
  ·exact same
 | word h x =>
  show Gd (qa s h x).2/\s.nxt<=(qa s h x).2.nxt/\(qa s h x).2.nxt<=s.nxt+1;unfold qa;split
  ·rename_i t e
   split
   ·split
    ·exact same
    ·rename_i c
     exact⟨⟨d.g.cB (d.g.hand e) c,d.dy,d.dh,d.df,d.rd⟩,apv _,by show s.nxt<=s.nxt+1;omega⟩
   ·exact same
  ·exact same
 | small=>exact⟨d.small,apv _,by show s.nxt<=s.nxt+1;omega⟩
 | turn =>
  show Gd (Ro s).2/\s.nxt<=(Ro s).2.nxt/\(Ro s).2.nxt<=s.nxt+1;unfold Ro;split
  ·rename_i c
   rw[show Wm s=(none,Zo s) from if_pos c];exact⟨d.fin,apv _,by show s.nxt<=s.nxt+1;omega⟩
  ·rename_i c
   rw[show GH s=(none,Ys (pL s)) from if_neg c];exact⟨d.small.beg rfl,apv _,by show s.nxt<=s.nxt+1;omega⟩
theorem gd0{my:Bool}{room limit:Int}:Gd (s0 my room limit):=⟨good0,(λt m=>nomatch m),(λt _ m=>nomatch m),(λu ws t m=>nomatch m),λ_=>rfl⟩
noncomputable def UU(K:W.Frag):Sp:=λvs H Q _=>∃(a:Addr) (ns:List Int),vs=[.ref a]/\SqL K H a 4e4/\ns.length<=63/\∀ H',Q (.bl true) H'
open Classical in
noncomputable def res(H:Hp)(F:Addr->Prop):Hp:=λb=>if F b/\(∀ us,H b≠some (.tup us)) then none else H b
noncomputable def Ex(H:Hp)(b:Addr):Prop:=∃ u,H b=some u
theorem res_some{H:Hp}{F:Addr->Prop}{b:Addr}{u:HO}(h:res H F b=some u):H b=some u/\(¬F b\/∃ us,u=.tup us):=by
 unfold res at h;split at h
 ·cases h
 ·rename_i c
  refine⟨h,apF λz=>c ⟨apF λy=>z (.inl y),λus q=>z (.inr ⟨us,?_⟩)⟩⟩;rw[h]at q;exact ao4 q
theorem JI{H:Hp}{F:Addr->Prop}{b:Addr}{u:HO}(h:H b=some u)(c:¬F b\/∃ us,u=.tup us):res H F b=some u:=by
 unfold res;rw[if_neg]
 ·exact h
 ·rintro⟨f,n⟩
  rcases c with c|⟨us,rfl⟩
  ·exact c f
  ·exact n us h
theorem Ql{H:Hp}{F:Addr->Prop}:aw (res H F) H:=λ_ _ q=>(res_some q).1
theorem DU{H:Hp}{F:Addr->Prop}:bg H (res H F):=λ_ us q=>JI q (.inr ⟨us,rfl⟩)
theorem VM{H:Hp}{F F':Addr->Prop}(h:∀ b,F' b->F b):aw (res H F) (res H F'):=λb u q=>JI (res_some q).1 ((res_some q).2.imp (λn f=>n (h b f)) id)
theorem IA{H H':Hp}{b:Addr}{u:HO}(h:H b=none)(q:H' b=some u):res H' (Ex H) b=some u:=JI q (.inl λ⟨_,z⟩=>by rw[h]at z;cases z)
theorem ajZ{H:Hp}{n:Nat}{p:Addr}{us:List V}{xs:List Vl}(h:H p=some (.lst us))(l:us.length=xs.length)(k:∀(i:Nat) (u:V) (x:Vl),us[i]?=some u->xs[i]?=some x->Rp H n u x):Rp H (n+1) 4e3 (.l xs):=⟨p,us,rfl,h,l,k⟩
theorem aj0{H:Hp}{n:Nat}{p:Addr}{us:List V}{xs:List Vl}(h:H p=some (.tup us))(l:us.length=xs.length)(k:∀(i:Nat) (u:V) (x:Vl),us[i]?=some u->xs[i]?=some x->Rp H n u x):Rp H (n+1) 4e3 (.t xs):=⟨p,us,rfl,h,l,k⟩
theorem Sf{H:Hp}{p:Addr}{xs:List V}{ws:List Wd}(h:H p=some (.lst xs))(r:Rel H xs ws):Rp H 2 4e3 (.l (ws.map Wd.vl)):=ajZ h (by rw[aoG];exact r.1) λi u x h1 h2=>by
 rw[aoR]at h2;obtain⟨w,hw,rfl⟩:=aoZ.mp h2;exact(r.2 i u w h1 hw).rp
theorem Xq{H:Hp}{v:V}{a:Vl}:∀(k:Nat) {n:Nat},Rp H n v a->Rp H (n+k) v a
 | 0,_,h=>h
 | k+1,_,h=>(Xq k h).up
noncomputable def yG(D:Ad):Sp:=λvs H Q _=>∃ x A s,vs=[.ref x]/\IH D H x A s/\Good s/\(∀ p H',aw H H'->H p=none->H' p=some (.lst A.hx)->Q 4e3 H')
noncomputable abbrev BF:List Str:=["self"]
theorem zN:av BF ["self"] (ar lU):=fsc
theorem zO(F:Fun K "hands" "IdealHeap.hands" lU D.bP D.dO)(T:Txt K mg D)
  (cC:9e7 1 D.bM D.dJ ["self"] (pY D)):9e7 2 D.bP D.dO ["self"] (yG D):=by
 refine F.oa zN F.b1 λcdv A' outer s' H vs Q E hr h=>?_;obtain⟨x,A,s,rfl,J,G,k⟩:=h;refine⟨_,(PSs.nox (aj (aF (cC.m0 hr 1e5 T.a6 T.kW aV)))),?_⟩;exact⟨_,rfl,x,D.ab,_,_,.ref A.hd,rfl,J.ax,T.ae,T.aB,pX,A.hd,A.hdx,_,rfl,J.ahd,rfl,A.hd,A.hdx,A.hl,A.hx,s.aZ,rfl,J.hn G,k⟩
noncomputable def Tj(D:Ad):Sp:=λvs H Q _=>∃ nt ntx nl xs,vs=[.ref nt]/\Nt D H nt ntx nl xs/\∀ p H',aw H H'->H p=none->H' p=some 4e9->Q 4e3 H'
noncomputable abbrev vq:List Str:=["self"]
theorem tU:av vq ["self"] (ar jm):=fsc
theorem tV(F:Fun K "all_named" "NameTable.all_named" jm D.bH D.eF)(T:Txt K mg D):9e7 1 D.bH D.eF ["self"] (Tj D):=by
 refine F.oa tU F.b1 λcdv A' outer s' H vs Q E hr h=>?_;obtain⟨nt,ntx,nl,xs,rfl,N,k⟩:=h;refine⟨_,(PSs.nox (aj (aF (lF pM rfl T.yQ PyProof.Rows.Boot.«list» (aa 1e5 ah))))),?_⟩;exact⟨_,rfl,nt,D.aD,ntx,_,.ref nl,rfl,N.i,T.dS,T.ck,rfl,nl,xs,rfl,.inl (SqL.of N.l),λp hp=>k p _ (aw.upd hp) hp ag⟩
noncomputable def yI(D:Ad):Sp:=λvs H Q _=>∃ x A s,vs=[.ref x]/\IH D H x A s/\Good s/\(∀ p H',aw H H'->H p=none->H' p=some (.lst (s.names.map nmV))->Q 4e3 H')
noncomputable abbrev BG:List Str:=["self"]
theorem zP:av BG ["self"] (ar lV):=fsc
theorem zQ(F:Fun K "names" "IdealHeap.names" lV D.bQ D.dP)(T:Txt K mg D)
  (jo:9e7 1 D.bH D.eF ["self"] (Tj D)):9e7 2 D.bQ D.dP ["self"] (yI D):=by
 refine F.oa zP F.b1 λcdv A' outer s' H vs Q E hr h=>?_;obtain⟨x,A,s,rfl,J,G,k⟩:=h;refine⟨_,(PSs.nox (aj (aF (jo.m0 hr 1e5 T.dS T.tO aV)))),?_⟩;exact⟨_,rfl,x,D.ab,_,_,.ref A.nt,rfl,J.ax,T.ae,T.dI,US,A.nt,A.ntx,_,rfl,J.ant,rfl,A.nt,A.ntx,A.nl,_,rfl,J.ntb G,k⟩
noncomputable def qY(D:Ad):Sp:=λvs H Q _=>∃ x A s,vs=[.ref x]/\IH D H x A s/\Good s/\(∀ p H',aw H H'->H p=none->H' p=some (.lst ((keys s).map V.int))->Q 4e3 H')
noncomputable abbrev zR:List Str:=["self"]
theorem xX:av zR ["self"] (ar kU):=fsc
theorem xY(F:Fun K "things" "IdealHeap.things" kU D.bp D.cN)(T:Txt K mg D):9e7 1 D.bp D.cN ["self"] (qY D):=by
 refine F.oa xX F.b1 λcdv A' outer s' H vs Q E hr h=>?_;obtain⟨x,A,s,rfl,J,G,k⟩:=h;refine⟨_,(PSs.nox (aj (aF (bj (LB rfl) rfl T.xN PyProof.Rows.Boot.«sorted» (aa 1e5 ah))))),?_⟩;exact⟨_,rfl,x,D.ab,_,_,.ref A.fh,rfl,J.ax,T.ae,T.aC,tL,A.fh,_,keys s,rfl,.inl J.afh,UT s A,(by unfold keys;rw[aoG];exact ao7 G.few 2e0),G.asc.imp (λh=>Int.le_of_lt h),λp hp=>k p _ (aw.upd hp) hp ag⟩
noncomputable def VN(D:Ad):Sp:=λvs H Q _=>∃ x A s,vs=[.ref x]/\IH D H x A s/\Good s/\(Q (.int s.nxt) H)
noncomputable abbrev DV:List Str:=["self"]
theorem BH:av DV ["self"] (ar nF):=fsc
theorem BI(F:Fun K "made" "IdealHeap.made" nF D.eQ D.j5)(T:Txt K mg D):9e7 1 D.eQ D.j5 ["self"] (VN D):=by
 refine F.oa BH F.b1 λcdv A' outer s' H vs Q E hr h=>?_;obtain⟨x,A,s,rfl,J,G,k⟩:=h;refine⟨_,(PSs.nox (aj (aF 1e5))),?_⟩;exact⟨_,rfl,x,D.ab,_,_,.int s.nxt,rfl,J.ax,T.ae,T.fU,Zl,k⟩
noncomputable def Wr(D:Ad):Sp:=λvs H Q E=>∃ x A s,∃ t:Int,vs=[.ref x,.int t]/\IH D H x A s/\Good s/\Sm t/\(t∈keys s->Q .non H)/\(t∉keys s->Bad D.iT H E)
noncomputable abbrev xZ:List Str:=["self","t"]
theorem vU:av xZ ["self","t"] (ar kB):=fsc
theorem vV(F:Fun K "look_at_held" "Heap.look_at_held" kB D.bt D.fQ)(T:Txt K mg D)
  (ak:9e7 1 D.aq D.aA ["self","text"] (AM K)):9e7 3 D.bt D.fQ ["self","t"] (Wr D):=by
 refine F.oa vU F.b2 λcdv A' outer s' H vs Q E hr h=>?_;obtain⟨x,A,s,t,rfl,J,G,ht,k,kb⟩:=h;have hu:=jw hr;refine⟨_,(aj (bS (t9 (ow hu (pv 1) 1e5) 3e2)
   (aj (fA rfl kj (ak.e hr T.Q5 T.Q3 px (aa (i4 (aY (km (pv 1)) (aY gj i3))) ah))))
   aR)),?_⟩
 refine⟨_,rfl,_,rfl,x,D.ab,_,_,.ref A.fh,rfl,J.ax,T.ae,T.aC,tL,A.fh,_,rfl,tM.k (k:=Sum.inl t) J.afh,_,rfl,?_⟩;rw[(UT s A).isS];by_cases c:t∈keys s
 ·rw[decide_eq_true c]
  exact xI (k c)
 ·rw[decide_eq_false c]
  exact vK ⟨_,rfl,t,rfl,ht,λy hy ea hea=>b7 T.Q4 5e6 (kb c) ea hea⟩
noncomputable def tE(D:Ad):Sp:=λvs H Q E=>∃ x A s,∃ t:Int,vs=[.ref x,.int t]/\IH D H x A s/\Good s/\Sm t/\(t∈keys s->∀ p H',aw H H'->H p=none->H' p=some (.lst (A.fx t))->Q 4e3 H')/\(t∉keys s->Bad D.iT H E)
noncomputable abbrev vt:List Str:=["self","t"]
theorem tW:av vt ["self","t"] (ar jn):=fsc
theorem tX(F:Fun K "fields_of" "IdealHeap.fields_of" jn D.aH D.aW)(T:Txt K mg D)
  (kC:9e7 3 D.bt D.fQ ["self","t"] (Wr D)):9e7 4 D.aH D.aW ["self","t"] (tE D):=by
 refine F.oa tW F.b2 λcdv A' outer s' H vs Q E hr h=>?_;obtain⟨x,A,s,t,rfl,J,G,ht,k,kb⟩:=h;have hu:=jw hr;refine⟨_,(ai (aE (kC.m hr (pv 0) T.ae T.qV px 2e2))
  (aj (aF (lF pM rfl T.yQ PyProof.Rows.Boot.«list» (aa (hG hu 1e5 (pv 1) 1e7) ah))))),?_⟩
 refine⟨_,rfl,x,_,_,rfl,J.ax,1e4,_,rfl,x,A,s,t,rfl,J,G,ht,λm=>?_,kb⟩;obtain⟨ws,mw⟩:=mem_keys.mp m;exact⟨_,rfl,x,D.ab,_,_,.ref A.fh,rfl,J.ax,T.ae,T.aC,tL,_,rfl,A.fh,_,rfl,J.Zm G mw,A.fa t,_,rfl,.inl (SqL.of (J.afl _ _ mw).1),λp hp=>k m p _ (aw.upd hp) hp ag⟩
end
end K39
end
section
namespace L2
open PySem PySem.Spec PyProof.Rows LX
section
variable{P:Program}{w:World}{K:W.Frag}{mg:Str->Option Value}{base:Heap}{N:List Str}{qual:Str}{scope:Scope}{f:Addr}{cdv:Value}{A:Around}{outer:List Env}{s₀:Shared}{H₀:Hp}{E₀:XK}
noncomputable def XO(P:Program)(w:World)(qual:Str)(scope:Scope)(f:Addr)(cdv:Value)(A:Around)(outer:List Env)(s₀:Shared)(H₀:Hp)(E₀:XK)(base:Heap)(e:Value)(s:Shared):Prop :=
 ∃(ea:Addr) (c:Value) (od:Option Addr) (fs:Array Value) (sl:Array (Option Value)) (T0:Option Addr),e=.ref ea/\(A.deeper (envOfC qual scope s₀.heap.objs.size f cdv)).frames=some (envOfC qual scope s₀.heap.objs.size f cdv::outer)/\s.heap.FunFrames base (envOfC qual scope s₀.heap.objs.size f cdv::outer)/\s.heap.get? ea=some (fL c od fs sl)/\yz s.heap ea fs T0 /\
  ∀(m:Heap) (T:Addr) (fs':Array Value),s.heap.objs.size<=T->Kept (gO (envOfC qual scope s₀.heap.objs.size f cdv::outer)) (ea::T0.toList) s.heap m->m.get? ea=some (fL c od fs' sl)->fs'[0]?=fs[0]?->yz m ea fs' (some T)->CXE P w outer H₀ s₀ E₀ (.ref ea) {s with heap:=m}
noncomputable def XN(P:Program)(w:World)(outer:List Env)(s₀:Shared)(H₀:Hp)(E₀:XK)(L:Addr)(e:Value)(s:Shared):Prop :=
 ∃(ea T:Addr) (c oc:Value) (od d:Option Addr) (fs ts:Array Value) (sl sm:Array (Option Value)),e=.ref ea/\s.heap.get? ea=some (fL c od fs sl)/\fs[1]?=some (.ref T)/\T≠ea/\s.heap.get? T=some (fL oc d ts sm)/\ts[3]?=some (rawInt L) /\
  ∀ m:Heap,(∀ b o,b≠T->s.heap.get? b=some o->m.get? b=some o)->yz m ea fs (some T)->m.get? ea=some (fL c od fs sl)->CXE P w outer H₀ s₀ E₀ (.ref ea) {s with heap:=m}
noncomputable def XR(P:Program)(w:World)(qual:Str)(scope:Scope)(f:Addr)(cdv:Value)(A:Around)(outer:List Env)(s₀:Shared)(H₀:Hp)(E₀:XK)(base:Heap)(e:Value)(s:Shared):Prop :=
 XO P w qual scope f cdv A outer s₀ H₀ E₀ base e s\/XN P w outer s₀ H₀ E₀ s₀.heap.objs.size e s
theorem VO{pins:List (Addr×Obj)}{σ:St}{H H':Hp}{s s':Shared}{ea C T:Addr}{od:Option Addr}{fs:Array Value}{sl:Array (Option Value)}(I:Inv (cxE P w K mg base N qual scope f cdv A outer s₀ H₀ E₀) pins σ H s)
  (l:Lies P w (cxE P w K mg base N qual scope f cdv A outer s₀ H₀ E₀).stack H H' s ea C T od fs sl s') (hE:E₀ (.ref C) od H'):XO P w qual scope f cdv A outer s₀ H₀ E₀ base (.ref ea) s':=by
 refine⟨ea,_,_,_,_,_,rfl,I.ok.frames,Lies.frames I l,l.at_,l.trail,λm T' fs' z1 z2 z3 z4 z5=>?_⟩;obtain⟨un,hok⟩:=l.on (t':=s'.toks) I z2;have J:Inv (cxE P w K mg base N qual scope f cdv A outer s₀ H₀ E₀) pins σ H' {s' with heap:=m}:=I.NI l.os un hok l.bare (λb z=>absurd z 1e9);have old:∀ b o,s₀.heap.get? b=some o->∃ o',s.heap.get? b=some o':=λb o z=>I.base.there b o z (ap7);have e0:s₀.heap.get? ea=none:=by
  cases q:s₀.heap.get? ea with
  | none=>rfl
  | some o =>
   obtain⟨o',z⟩:=old ea o q;rw[l.acb]at z;cases z
 have t0:s₀.heap.get? T'=none:=by
  cases q:s₀.heap.get? T' with
  | none=>rfl
  | some o =>
   obtain⟨o1,y1⟩:=old T' o q;obtain⟨o2,y2⟩:=l.un.there T' o1 y1 1e9;exact absurd (aoQ y2) (Nat.not_lt.mpr z1)
 obtain⟨a0,ha⟩:=l.args;exact⟨ea,C,T',od,fs',sl,H',rfl,⟨J.os,J.bare,J.base,J.hok,e0,t0,l.Xe,l.hok.fresh z1,z3,⟨a0,by rw[z4];exact ha⟩,z5⟩,hE⟩
theorem XR.xe{e:Value}{s:Shared}(h:XR P w qual scope f cdv A outer s₀ H₀ E₀ base e s):(cxE P w K mg base N qual scope f cdv A outer s₀ H₀ E₀).xe e s:=by
 rcases h with⟨ea,c,od,fs,sl,T0,rfl,hA,F,he,t,k⟩|⟨ea,T,c,oc,od,d,fs,ts,sl,sm,rfl,he,h1,ne,hT,h3,k⟩
 ·exact R4 hA F rfl he t k
 ·have h3s:3<ts.size:=(ao9.mp h3).1
  show wpAny _ _ (leaving _ (.ref ea)) _ _ s;unfold leaving noteFrame;refine wpAny_bind ?_;show wpAny _ _ (field (.ref ea) 1 >>= _) _ _ s;refine wpAny_bind (wpAny_field he rfl h1 ?_);rw[if_pos (show(Value.ref T != Value.none)=true by simp)];refine wpAny_bind (wpAny_field hT rfl h3 ?_);rw[if_pos 1e9];exact wpAny_pure (uW he h1 ne hT h3s k)
theorem Rq:PassesOwn (model P w) (A.deeper (envOfC qual scope s₀.heap.objs.size f cdv)) (envOfC qual scope s₀.heap.objs.size f cdv) (XR P w qual scope f cdv A outer s₀ H₀ E₀ base):=by
 intro e s h;have aj1:∀ {s1:Shared},XN P w outer s₀ H₀ E₀ s₀.heap.objs.size e s1->cameBackBy (model P w) (A.deeper (envOfC qual scope s₀.heap.objs.size f cdv)) (envOfC qual scope s₀.heap.objs.size f cdv) (XR P w qual scope f cdv A outer s₀ H₀ E₀ base) e s1:=by
  rintro s1 ⟨ea,T,c,oc,od,d,fs,ts,sl,sm,rfl,he,h1,ne,hT,h3,k⟩;have h3s:3<ts.size:=(ao9.mp h3).1;unfold cameBackBy setFlight;refine wpAny_bind (wpAny_field he rfl h1 ?_);dsimp only;rw[if_neg 1e9];refine wpAny_bind (wpAny_field he rfl h1 ?_);rw[if_pos (show(Value.ref T != Value.none)=true by simp)];refine wpAny_setField hT rfl h3s ?_;have oth:∀ b o,b≠T->s1.heap.get? b=some o->(s1.heap.update T (Obj.mapFields (·.setIfInBounds 3 (rawInt s₀.heap.objs.size)))).get? b=some o:=λb o hb q=>(apj _ _ (aoT hb)).trans q;exact .inr ⟨ea,T,c,oc,od,d,fs,ts.setIfInBounds 3 (rawInt s₀.heap.objs.size),sl,sm,rfl,oth _ _ (aoT ne) he,h1,ne,Dx hT,by simp[h3s],λm q1 q2 q3=>k m (λb o hb q=>q1 b o hb (oth b o hb q)) q2 q3⟩
 rcases h with⟨ea,c,od,fs,sl,T0,rfl,hA,F,he,t,k⟩|⟨ea,T,c,oc,od,d,fs,ts,sl,sm,rfl,he,h1,ne,hT,h3,k⟩
 ·refine Ny hA F rfl he t λm T oc ts z1 z2 z3 z4 z5=>aj1 ?_
  have Te:T≠ea:=apX (ao0 (aoQ he) z1);have f1:(fs.setIfInBounds 1 (Value.ref T))[1]?=some (.ref T):=by
   have:=t.size
   simp[this]
  refine⟨ea,T,c,oc,od,none,_,ts,sl,#[],rfl,z3,f1,Te,z4,z5,λm' q1 q2 q3=>k m' T _ z1 ⟨λb o q hb hx=>?_,λb o q hb hx=>?_⟩ q3 1e9 q2⟩
  ·exact q1 b o (aoW (ao0 (aoQ q) z1)) (z2.plain b o q hb hx)
  ·obtain⟨sm,r⟩:=z2.frame b o q hb hx
   exact⟨sm,q1 b _ (aoW (ao0 (aoQ q) z1)) r⟩
 ·have h3s:3<ts.size:=(ao9.mp h3).1
  show wpAny _ _ (noteFrame (.ref ea) _) _ _ s;unfold noteFrame;show wpAny _ _ (field (.ref ea) 1 >>= _) _ _ s;refine wpAny_bind (wpAny_field he rfl h1 ?_);rw[if_pos (show(Value.ref T != Value.none)=true by simp)];refine wpAny_bind (wpAny_field hT rfl h3 ?_);rw[if_pos 1e9];exact wpAny_pure (aj1 ⟨ea,T,c,oc,od,d,fs,ts,sl,sm,rfl,he,h1,ne,hT,h3,k⟩)
noncomputable abbrev cxR(P:Program)(w:World)(K:W.Frag)(mg:Str->Option Value)(base:Heap)(N:List Str)(qual:Str)(scope:Scope)(f:Addr)(cdv:Value)(A:Around)(outer:List Env)(s₀:Shared)(H₀:Hp)(E₀:XK):Cx :=
 (cxE P w K mg base N qual scope f cdv A outer s₀ H₀ E₀).Jk (XR P w qual scope f cdv A outer s₀ H₀ E₀ base)
theorem PSs.xr{st:List Stmt}{t:TS}(h:PSs (cxR P w K mg base N qual scope f cdv A outer s₀ H₀ E₀) st t):PSs (cxE P w K mg base N qual scope f cdv A outer s₀ H₀ E₀) st t:=λpins s σ H D I hw =>
 wpAny_mono (h pins s σ H D (I.Jk _) hw) (λ_ _ q=>q.r6) λ_ _ z=>z.xe
theorem Rr{E:XK}(hE:∀ c od H',E c od H'->E₀ c od H'):iA (CXE P w) (cxR P w K mg base N qual scope f cdv A outer s₀ H₀ E₀) (λ_=>E):=λpins σ H s e s' I h=>by
 obtain⟨ea,C,T,od,fs,sl,H',rfl,l,q⟩:=h;exact .inl (VO I.r6 l (hE _ _ _ q))
theorem aj2:PassesOwn (model P w) (cxR P w K mg base N qual scope f cdv A outer s₀ H₀ E₀).A (cxR P w K mg base N qual scope f cdv A outer s₀ H₀ E₀).env (cxR P w K mg base N qual scope f cdv A outer s₀ H₀ E₀).xe:=Rq
end
end L2
end
section
namespace K39
open PySem L2 LX
section
variable{P:Program}{w:World}{K:W.Frag}{mg:Str->Option Value}{base:Heap}{D:Ad}
theorem But.same{m:Addr}{H H1:Hp}(s:aw H H1):But m H H1:=λb u _ q=>s b u q
inductive Mw where
 | no
 | num (n:Int)
 | ad (a:Int)
 | hd (t n:Int)
 | mv (a n:Int)
noncomputable def Mw.its:Mw->List V
 | .no=>[]
 | .num n=>[.str "number",.int n]
 | .ad a=>[.str "at",.int a]
 | .hd t n=>[.str "head",.int t,.int n]
 | .mv a n=>[.str "moved",.int a,.int n]
noncomputable def Mw.kind:Mw->Str
 | .no => "none"
 | .num _ => "number"
 | .ad _ => "at"
 | .hd _ _ => "head"
 | .mv _ _ => "moved"
noncomputable def MV(H:Hp)(v:V)(w:Mw):Prop:=(w=.no/\v=.non)\/(w≠.no/\∃ t,v=.ref t/\H t=some (.tup w.its))
theorem MV.keep{H H':Hp}{v:V}{w:Mw}(h:MV H v w)(s:bg H H'):MV H' v w:=by
 rcases h with h|⟨n,t,e,q⟩
 ·exact .inl h
 ·exact .inr ⟨n,t,e,s _ _ q⟩
noncomputable def MR(H:Hp)(xs:List V)(ws:List Mw):Prop:=xs.length=ws.length/\∀(i:Nat) (v:V) (w:Mw),xs[i]?=some v->ws[i]?=some w->MV H v w
theorem MR.keep{H H':Hp}{xs:List V}{ws:List Mw}(h:MR H xs ws)(s:bg H H'):MR H' xs ws:=⟨h.1,λi v w a b=>(h.2 i v w a b).keep s⟩
theorem MR.get{H:Hp}{xs:List V}{ws:List Mw}(h:MR H xs ws){i:Nat}{w:Mw}(hw:ws[i]?=some w):∃ v,xs[i]?=some v/\MV H v w:=by
 have hi:i<xs.length:=by rw[h.1];exact(aoE.mp hw).1
 exact⟨_,aoF hi,h.2 i _ _ (aoF hi) hw⟩
theorem MR.set{H:Hp}{xs:List V}{ws:List Mw}{i:Nat}{v:V}{w:Mw}(h:MR H xs ws)(hv:MV H v w):MR H (xs.set i v) (ws.set i w):=by
 refine⟨by rw[apb,apb];exact h.1,λj u y a b=>?_⟩;by_cases e:i=j
 ·subst e
  rw[aqw]at a b;simp only[if_true]at a b;split at a
  ·split at b
   ·cases a;cases b;exact hv
   ·cases b
  ·cases a
 ·rw[apz e]at a b
  exact h.2 j u y a b
theorem MR.rep{H:Hp}{n:Nat}:MR H (List.replicate n .non) (List.replicate n .no):=⟨by rw[apg,apg],λi v w a b=>by
 rw[apH]at a b;split at a
 ·rename_i c
  rw[if_pos c]at b;cases a;cases b;exact .inl ⟨rfl,rfl⟩
 ·cases a⟩
structure Mm(D:Ad)(H:Hp)(m mx c:Addr)(xs:List V)(ws:List Mw):Prop where
 i:H m=some (.ins D.bK mx [("cells",.ref c)])
 l:H c=some 4e9
 r:MR H xs ws
 z:ws.length<=10000
section
variable{D:Ad}{H H':Hp}{m mx c:Addr}{xs:List V}{ws:List Mw}
theorem Mm.same(M:Mm D H m mx c xs ws)(s:aw H H'):Mm D H' m mx c xs ws:=⟨s _ _ M.i,s _ _ M.l,M.r.keep (bg.of s),M.z⟩
theorem Mm.mc(M:Mm D H m mx c xs ws):m≠c:=az M.i M.l 1e0
theorem Mm.set(M:Mm D H m mx c xs ws){i:Nat}{v:V}{w:Mw}(hv:MV H v w):Mm D (upd H c (.lst (xs.set i v))) m mx c (xs.set i v) (ws.set i w) :=
 ⟨by rw[af M.mc];exact M.i,ag,(M.r.set hv).keep (bg.set M.l (by intro z y;cases y)),by rw[apb];exact M.z⟩
end
theorem Dq(n:Nat):(List.replicate n [V.non]).flatten=List.replicate n .non:=by
 induction n with
 | zero=>rfl
 | succ n ih=>rw[apl,apQ,ih,apl];rfl
noncomputable def thg(ws:List Mw)(a:Int):Option (Int×Int):=if 0<=a then(match ws[a.toNat]? with|some (.hd t n)=>if a+n<ws.length then some (t,n) else none|_=>none) else none
theorem Qm{ws:List Mw}{a t n:Int}(h:thg ws a=some (t,n)):0<=a/\ws[a.toNat]?=some (.hd t n)/\a+n<ws.length:=by
 unfold thg at h;split at h
 ·rename_i h0
  split at h
  ·rename_i t' n' e
   split at h
   ·rename_i hl
    cases h;exact⟨h0,e,hl⟩
   ·cases h
  ·cases h
 ·cases h
structure Gm(ws:List Mw):Prop where
 hd:∀ t n,Mw.hd t n∈ws->0<=n/\n<=1000
 mv:∀ a n,Mw.mv a n∈ws->Sm a
inductive Rv(ws:List Mw):Nat->Int->Option Int->Prop where
 | out {a:Int}:¬(0<=a/\a<ws.length)->Rv ws 0 a none
 | stop {a:Int} {w:Mw}:0<=a->ws[a.toNat]?=some w->(∀ b n,w≠.mv b n)->Rv ws 0 a (some a)
 | step {k:Nat} {a b n:Int} {r:Option Int}:0<=a->ws[a.toNat]?=some (.mv b n)->Rv ws k b r->Rv ws (k+1) a r
noncomputable def yJ(ws:List Mw):Nat->List Mw->List Mw
 | _,[]=>ws
 | i,u::r=>yJ (ws.set i u) (i+1) r
theorem Ln(ws:List Mw)(i:Nat)(us:List Mw):(yJ ws i us).length=ws.length:=by
 induction us generalizing ws i with
 | nil=>rfl
 | cons u r ih=>unfold yJ;rw[ih,apb]
theorem Rt(ws:List Mw)(i:Nat)(us:List Mw)(u:Mw):yJ ws i (us++[u])=(yJ ws i us).set (i+us.length) u:=by
 induction us generalizing ws i with
 | nil=>rfl
 | cons v r ih =>
  show yJ (ws.set i v) (i+1) (r++[u])=(yJ (ws.set i v) (i+1) r).set (i+(r.length+1)) u;rw[ih,show i+1+r.length=i+(r.length+1) by omega]
theorem VP(ws:List Mw)(i:Nat)(us:List Mw)(j:Nat)(hl:i+us.length<=ws.length):(yJ ws i us)[j]?=if i<=j/\j<i+us.length then us[j-i]? else ws[j]?:=by
 induction us generalizing ws i with
 | nil=>rw[if_neg 1e9];rfl
 | cons u r ih =>
  show(yJ (ws.set i u) (i+1) r)[j]?=_;rw[aph]at hl ⊢;rw[ih (ws.set i u) (i+1) (by rw[apb];omega)];by_cases c:i=j
  ·subst c
   rw[if_neg 1e1,if_pos 1e1,apo 1e1,aqb];rfl
  ·by_cases d:i+1<=j/\j<i+1+r.length
   ·rw[if_pos d,if_pos 1e1,show j-i=(j-(i+1))+1 by omega,List.getElem?_cons_succ]
   ·rw[if_neg d,if_neg 1e1,apz c]
noncomputable def layW(ws:List Mw)(a:Nat)(t:Int)(us:List Mw):List Mw:=yJ (ws.set a (.hd t us.length)) (a+1) us
noncomputable def qS(ws:List Mw)(a n:Nat):List Mw:=(ws.drop (a+1)).take n
noncomputable def Qn(D:Ad):Sp:=λvs H Q _=>∃ m dx,∃ n:Int,vs=[.ref m,.int n]/\H m=some (.ins D.bK dx [])/\0<=n/\n<=10000/\∀ c H',But m H H'->H c=none->Mm D H' m dx c (List.replicate n.toNat .non) (List.replicate n.toNat .no)->Q .non H'
noncomputable abbrev BJ:List Str:=["self","size"]
theorem zS:av BJ ["self","size"] (ar lX):=fsc
theorem zU(F:Fun K "__init__" "Memory.__init__" lX D.c6 D.g8)(T:Txt K mg D):9e7 1 D.c6 D.g8 ["self","size"] (Qn D):=by
 refine F.oa zS F.b2 λcdv A' outer s' H vs Q E hr h=>?_;obtain⟨m,dx,n,rfl,hm,n0,n1,k⟩:=h;refine⟨_,(aj (iL (pv 0) (aJ GC (lD (aa bR ah)) (pv 1)) rfl)),?_⟩;refine⟨by show 1<=sizeLine;decide,λp hp=>⟨_,rfl,p,n,_,rfl,rfl,ag,by omega,by omega,by show 1*n.toNat<=sizeLine;exact ao7 (show 1*n.toNat<=10000 by omega) 2e0,λq hq=>?_⟩⟩;have np:m≠p:=ao hm hp;have hm1:upd H p (.lst [.non]) m=some (.ins D.bK dx []):=by rw[af np];exact hm
 have nq:m≠q:=ao hm1 hq;have qp:q≠p:=λe=>by rw[e,ag]at hq;cases hq
 have hq0:H q=none:=by rw[af qp]at hq;exact hq
 refine⟨_,rfl,m,D.bK,dx,[],rfl,(by rw[af nq];exact hm1),T.bD,T.iO,by decide,?_⟩;refine k q _ (((But.upd hp).trans (But.upd hq)).trans But.self) hq0 ⟨ag,?_,MR.rep,by rw[apg];omega⟩;rw[af (aoT nq),ag,Dq]
noncomputable def Jb(D:Ad):Sp:=λvs H Q _=>∃ m mx c xs ws,vs=[.ref m]/\Mm D H m mx c xs ws/\Q (.int ws.length) H
noncomputable abbrev JJ:List Str:=["self"]
theorem Ha:av JJ ["self"] (ar sr):=fsc
theorem Hg(F:Fun K "size" "Memory.size" sr D.fg D.jr)(T:Txt K mg D):9e7 1 D.fg D.jr ["self"] (Jb D):=by
 refine F.oa Ha F.b1 λcdv A' outer s' H vs Q E hr h=>?_;obtain⟨m,mx,c,xs,ws,rfl,M,k⟩:=h;refine⟨_,(PSs.nox (aj (aF (bj aP rfl T.ji PyProof.Rows.Boot.«len» (aa 1e5 ah))))),?_⟩;refine⟨_,rfl,m,D.bK,mx,_,.ref c,rfl,M.i,T.bD,T.iO,rfl,c,_,rfl,.inl (SqL.of M.l),?_⟩;rw[M.r.1];exact k
noncomputable def Jd(D:Ad):Sp:=λvs H Q E=>∃ m mx c xs ws,∃ a:Int,vs=[.ref m,.int a]/\Mm D H m mx c xs ws/\Sm a/\(if 0<=a/\a<ws.length then Q .non H else Bad D.a9 H E)
noncomputable abbrev rK:List Str:=["self","a"]
theorem qZ:av rK ["self","a"] (ar g9):=fsc
theorem ra(F:Fun K "look_at_address" "Memory.look_at_address" g9 D.aX D.cg)(T:Txt K mg D)
  (ak:9e7 1 D.aq D.aA ["self","text"] (AM K)):9e7 3 D.aX D.cg ["self","a"] (Jd D):=by
 refine F.oa qZ F.b2 λcdv A' outer s' H vs Q E hr h=>?_;obtain⟨m,mx,c,xs,ws,a,rfl,M,ha,k⟩:=h;refine⟨_,(aj (bS (qJ (pE AK yy au (pv 1) (bj aP rfl T.ji PyProof.Rows.Boot.«len» (aa 1e5 ah))))
   (aj (fA rfl kj (ak.e hr T.sD T.nY px (aa (i4 (aY gj (aY (km (pv 1)) i3))) ah))))
   aR)),?_⟩
 have el:=M.r.1;by_cases g:0<=a/\a<(ws.length:Int)
 ·rw[if_pos g]at k
  refine⟨_,rfl,0,a,rfl,rfl,_,rfl,eT (λ_=>⟨_,rfl,m,D.bK,mx,_,.ref c,rfl,M.i,T.bD,T.iO,rfl,c,_,rfl,.inl (SqL.of M.l),a,_,rfl,rfl,_,rfl,eT (λh2=>absurd h2 (by rw[el,decide_eq_true g.2];decide)) (λ_=>k)⟩) (λh1=>absurd (decide_eq_true g.1) h1)⟩
 ·rw[if_neg g]at k
  by_cases g0:0<=a
  ·have g1:¬a<(ws.length:Int):=λz=>g ⟨g0,z⟩
   refine⟨_,rfl,0,a,rfl,rfl,_,rfl,eT (λ_=>⟨_,rfl,m,D.bK,mx,_,.ref c,rfl,M.i,T.bD,T.iO,rfl,c,_,rfl,.inl (SqL.of M.l),a,_,rfl,rfl,_,rfl,eT (λ_=>⟨_,rfl,a,rfl,ha,λy hy ea hea=>b7 T.js 5e6 k ea hea⟩) (λh2=>absurd (by rw[el,decide_eq_false g1];rfl) h2)⟩) (λh1=>absurd (decide_eq_true g0) h1)⟩
  ·refine⟨_,rfl,0,a,rfl,rfl,_,rfl,eT (λh1=>absurd (of_decide_eq_true h1) g0) (λ_=>⟨_,rfl,vK ⟨_,rfl,a,rfl,ha,λy hy ea hea=>b7 T.js 5e6 k ea hea⟩⟩)⟩
noncomputable def yW(D:Ad):Sp:=λvs H Q E=>∃ m mx c xs ws,∃ a:Int,vs=[.ref m,.int a]/\Mm D H m mx c xs ws/\Sm a/\(if 0<=a/\a<ws.length then ∀ v w,xs[a.toNat]?=some v->ws[a.toNat]?=some w->MV H v w->Q v H else Bad D.a9 H E)
noncomputable abbrev Oz:List Str:=["self","a"]
theorem L7:av Oz ["self","a"] (ar xi):=fsc
theorem L8(F:Fun K "at" "Memory.at" xi D.dH D.gB)(T:Txt K mg D)
  (cn:9e7 3 D.aX D.cg ["self","a"] (Jd D)):9e7 4 D.dH D.gB ["self","a"] (yW D):=by
 refine F.oa L7 F.b2 λcdv A' outer s' H vs Q E hr h=>?_;obtain⟨m,mx,c,xs,ws,a,rfl,M,ha,k⟩:=h;refine⟨_,(ai (aE (cn.m hr (pv 0) T.bD T.j6 px 2e2))
  (aj (aF (bT gI 1e5 (pv 1) 1e7)))),?_⟩
 have el:=M.r.1;refine⟨_,rfl,m,_,_,rfl,M.i,1e4,_,rfl,m,mx,c,xs,ws,a,rfl,M,ha,?_⟩;by_cases g:0<=a/\a<(ws.length:Int)
 ·rw[if_pos g]at k ⊢
  have hw:ws[a.toNat]?=some (ws[a.toNat]' 1e1):=aoF _;obtain⟨v,hv,mv⟩:=M.r.get hw;exact⟨_,rfl,m,D.bK,mx,_,.ref c,rfl,M.i,T.bD,T.iO,rfl,_,rfl,c,xs,a,v,rfl,rfl,SqL.of M.l,yR g.1 hv,k v _ hv hw mv⟩
 ·rw[if_neg g]at k ⊢
  exact k
noncomputable def IB(D:Ad):Sp:=λvs H Q E=>∃ m mx c xs ws,∃(a:Int) (v:V) (w:Mw),vs=[.ref m,.int a,v]/\Mm D H m mx c xs ws/\Sm a/\MV H v w/\(if 0<=a/\a<ws.length then(Mm D (upd H c (.lst (xs.set a.toNat v))) m mx c (xs.set a.toNat v) (ws.set a.toNat w)->Q .non (upd H c (.lst (xs.set a.toNat v)))) else Bad D.a9 H E)
noncomputable abbrev L9:List Str:=["self","a","word"]
theorem JK:av L9 ["self","a","word"] (ar uu):=fsc
theorem JL(F:Fun K "put" "Memory.put" uu D.fE D.ja)(T:Txt K mg D)
  (cn:9e7 3 D.aX D.cg ["self","a"] (Jd D)):9e7 4 D.fE D.ja ["self","a","word"] (IB D):=by
 refine F.oa JK F.b3 λcdv A' outer s' H vs Q E hr h=>?_;obtain⟨m,mx,c,xs,ws,a,v,w,rfl,M,ha,hv,k⟩:=h;refine⟨_,(ai (aE (cn.m hr (pv 0) T.bD T.j6 px 2e2))
  (aj (lC (pv 2) (ua 1e5 (pv 1) set_list)))),?_⟩
 have el:=M.r.1;refine⟨_,rfl,m,_,_,rfl,M.i,1e4,_,rfl,m,mx,c,xs,ws,a,rfl,M,ha,?_⟩;by_cases g:0<=a/\a<(ws.length:Int)
 ·rw[if_pos g]at k ⊢
  exact⟨_,rfl,_,rfl,m,D.bK,mx,_,.ref c,rfl,M.i,T.bD,T.iO,rfl,_,rfl,c,xs,a,a.toNat,rfl,rfl,M.l,Iq g.1 (by rw[el];exact g.2),k (M.set hv)⟩
 ·rw[if_neg g]at k ⊢
  exact k
noncomputable def IC:Sp:=λvs H Q _=>∃ v w,vs=[v]/\MV H v w/\Q (.str w.kind) H
theorem OA(F:Fun K "kind_of" "kind_of" yC D.eI D.ig)(T:Txt K mg D):9e7 1 D.eI D.ig ["value"] (IC):=by
 refine F.oa Ir F.b1 λcdv A' outer s' H vs Q E hr h=>?_;obtain⟨v,w,rfl,hv,k⟩:=h;refine⟨_,(PSs.nox (aj (aF (pB (aG jI (pv 0) bR (aU _)) cK (bT cf (pv 0) au 1e7))))),?_⟩;rcases hv with⟨rfl,rfl⟩|⟨n,t,rfl,ht⟩
 ·exact⟨_,rfl,rfl,_,rfl,eT (λ_=>k) (λh=>absurd 1e9 h)⟩
 ·refine⟨_,rfl,rfl,_,rfl,eT (λh=>by simp at h) (λ_=>⟨_,rfl,t,_,0,.str w.kind,rfl,rfl,SqT.of ht,?_,k⟩)⟩
  cases w with
  | no=>exact absurd rfl n
  | _=>rfl
noncomputable def NB(D:Ad):Sp:=λvs H Q E=>∃ m mx c xs ws,∃ a n:Int,vs=[.ref m,.int a,.int n]/\Mm D H m mx c xs ws/\Sm a/\Sm n/\(if 0<=a/\a+n<ws.length then Q .non H else Bad D.a9 H E)
noncomputable abbrev Hh:List Str:=["memory","a","fields"]
theorem F6:av Hh ["memory","a","fields"] (ar qw):=fsc
theorem F7(F:Fun K "look_at_room" "look_at_room" qw D.c8 D.iN)(T:Txt K mg D)
  (ju:9e7 1 D.fg D.jr ["self"] (Jb D))
  (ak:9e7 1 D.aq D.aA ["self","text"] (AM K)):9e7 3 D.c8 D.iN ["memory","a","fields"] (NB D):=by
 refine F.oa F6 F.b3 λcdv A' outer s' H vs Q E hr h=>?_;obtain⟨m,mx,c,xs,ws,a,n,rfl,M,ha,hn,k⟩:=h;refine⟨_,(aj (bS (PW.pt (pw_or (aG yy (pv 1) au (aU _)) (pw_or1 (aG YW (aJ cc (pv 1) (pv 2)) (ju.m0 hr (pv 0) T.bD T.wK px) (aU _)))))
   (aj (fA rfl kj (ak.e hr T.sD T.nY px (aa (i4 (aY gj (aY (km (pv 2)) (aY gj (aY (km (pv 1)) i3))))) ah))))
   aR)),?_⟩
 by_cases g0:a<0
 ·rw[if_neg (λz=>by have:=z.1;omega)]at k
  exact⟨_,rfl,a,0,rfl,rfl,_,rfl,jP (decide_eq_true g0) (vK ⟨_,rfl,n,rfl,hn,_,rfl,a,rfl,ha,λy hy ea hea=>b7 T.js 5e6 k ea hea⟩)⟩
 ·refine⟨_,rfl,a,0,rfl,rfl,_,rfl,fV (decide_eq_false g0) ⟨_,rfl,_,rfl,a,n,rfl,rfl,_,rfl,m,_,_,rfl,M.i,1e4,m,mx,c,xs,ws,rfl,M,_,_,rfl,rfl,_,rfl,?_⟩⟩
  by_cases g:0<=a/\a+n<(ws.length:Int)
  ·rw[if_pos g]at k
   exact fV (decide_eq_false 1e1) k
  ·rw[if_neg g]at k
   exact jP (decide_eq_true 1e1) ⟨_,rfl,n,rfl,hn,_,rfl,a,rfl,ha,λy hy ea hea=>b7 T.js 5e6 k ea hea⟩
noncomputable def Qo(D:Ad):Sp:=λvs H Q E=>∃ m mx c xs ws,∃(a:Int) (kd:Addr),vs=[.ref m,.int a,.ref kd]/\Mm D H m mx c xs ws/\Gm ws/\Sm a/\H kd=some (.tup [.str "head"])/\(match thg ws a with|some (_,n)=>Q (.int n) H|none=>Bad D.a9 H E)
noncomputable abbrev JM:List Str:=["memory","a","kinds","word"]
theorem wU:av JM ["memory","a","kinds"] (ar si):=fsc
theorem Hi(F:Fun K "fields_told" "fields_told" si D.eV D.kG)(T:Txt K mg D)
  (bw:9e7 4 D.dH D.gB ["self","a"] (yW D))
  (fW:9e7 1 D.eI D.ig ["value"] (IC))
  (iR:9e7 3 D.c8 D.iN ["memory","a","fields"] (NB D))
  (ak:9e7 1 D.aq D.aA ["self","text"] (AM K)):9e7 5 D.eV D.kG ["memory","a","kinds"] (Qo D):=by
 refine F.oa wU F.b3 λcdv A' outer s' H vs Q E hr h=>?_;obtain⟨m,mx,c,xs,ws,a,kd,rfl,M,gm,ha,hkd,k⟩:=h;refine⟨_,(ai (aO (i:=3) wU.nd rfl 1e3 (bw.m hr (pv 0) T.bD T.hU px 2e2))
  (ai (bS (PW.pt (pw_or (aG Lz (vL fW.g (hr.mono 2e0) rfl T.qO T.lJ fW.b .nil px 5e3) (pv 2) 3e2) (pw_or1 (aG yy 3e9 au (aU _)))))
   (aj (fA rfl kj (ak.e hr T.sD T.nY px (aa (i4 (aY gj (aY (km (pv 1)) i3))) ah))))
   aR)
  (ai (aE (iR.c hr T.wM T.mC px (aa (pv 0) (aa (pv 1) (aa 3e9 ah)))))
  (aj (aF 3e9))))),?_⟩
 refine⟨_,rfl,m,_,_,rfl,M.i,1e4,_,rfl,m,mx,c,xs,ws,a,rfl,M,ha,?_⟩;by_cases g:0<=a/\a<(ws.length:Int)
 ·rw[if_pos g]
  intro v wd hv hw mv;refine⟨_,rfl,v,wd,rfl,mv,_,rfl,kd,_,rfl,.inr (SqT.of hkd),rfl,rfl,_,rfl,?_⟩;have nh:(∀ t n,wd≠.hd t n)->thg ws a=none:=λh=>by
   unfold thg;rw[if_pos g.1,hw];cases wd with
   | hd t n=>exact absurd rfl (h t n)
   | _=>rfl
  have bad:(∀ t n,wd≠.hd t n)->(!inV (V.str wd.kind) [V.str "head"])=true:=λh=>by
   cases wd with
   | hd t n=>exact absurd rfl (h t n)
   | _=>kernel_rfl
  by_cases hh:∃ t n,wd=.hd t n
  ·obtain⟨t,n,rfl⟩:=hh
   have hn:=gm.hd t n (aoI hw);obtain⟨_,p,rfl,hp⟩:=mv.resolve_left (λz=>by cases z.1);refine fV 1e4 ⟨_,rfl,p,_,2,.int n,rfl,rfl,SqT.of hp,rfl,n,0,rfl,rfl,_,rfl,fV (decide_eq_false 1e1) ?_⟩;refine⟨_,rfl,_,rfl,_,rfl,p,_,2,.int n,rfl,rfl,SqT.of hp,rfl,m,mx,c,xs,ws,a,n,rfl,M,ha,Sm.of 1e1 1e1,?_⟩;by_cases l:a+n<(ws.length:Int)
   ·rw[if_pos ⟨g.1,l⟩]
    rw[show thg ws a=some (t,n) by unfold thg;rw[if_pos g.1,hw];exact if_pos l]at k;exact⟨_,rfl,p,_,2,.int n,rfl,rfl,SqT.of hp,rfl,k⟩
   ·rw[if_neg (λz=>l z.2)]
    rw[show thg ws a=none by unfold thg;rw[if_pos g.1,hw];exact if_neg l]at k;exact k
  ·have h:∀ t n,wd≠.hd t n:=λt n e=>hh ⟨t,n,e⟩
   rw[nh h]at k;exact jP (bad h) (vK ⟨_,rfl,a,rfl,ha,λy hy ea hea=>b7 T.js 5e6 k ea hea⟩)
 ·rw[if_neg g]
  have:thg ws a=none:=by
   unfold thg;by_cases h0:0<=a
   ·rw[if_pos h0,List.getElem?_eq_none_iff.mpr 1e1]
   ·rw[if_neg h0]
  rw[this]at k;exact k
noncomputable def Ws(D:Ad):Sp:=λvs H Q E=>∃ m mx c xs ws,∃ a:Int,vs=[.ref m,.int a]/\Mm D H m mx c xs ws/\Gm ws/\Sm a/\(match thg ws a with|some (_,n)=>∀ H',aw H H'->Q (.int n) H'|none=>Bad D.a9 H E)
noncomputable abbrev OB:List Str:=["memory","a"]
theorem Ma:av OB ["memory","a"] (ar wX):=fsc
theorem Mb(F:Fun K "fields_at" "fields_at" wX D.hW D.oy)(T:Txt K mg D)
  (sO:9e7 5 D.eV D.kG ["memory","a","kinds"] (Qo D)):9e7 6 D.hW D.oy ["memory","a"] (Ws D):=by
 refine F.oa Ma F.b2 λcdv A' outer s' H vs Q E hr h=>?_;obtain⟨m,mx,c,xs,ws,a,rfl,M,gm,ha,k⟩:=h;refine⟨_,(aj (aF (sO.c hr T.Jr T.sG px (aa (pv 0) (aa (pv 1) (aa (cW (aa cK ah)) ah)))))),?_⟩;refine⟨_,rfl,_,rfl,by show 1<=sizeLine;decide,λkd hkd=>?_⟩;have s1:=aw.upd (o:=.tup [V.str "head"]) hkd;refine⟨m,mx,c,xs,ws,a,kd,rfl,M.same s1,gm,ha,ag,?_⟩;cases e:thg ws a with
 | none=>rw[e]at k;exact k.same s1
 | some z=>rw[e]at k;exact k _ s1
noncomputable def JN(D:Ad):Sp:=λvs H Q E=>∃ m mx c xs ws,∃ a:Int,vs=[.ref m,.int a]/\Mm D H m mx c xs ws/\Gm ws/\Sm a/\(match thg ws a with|some (t,n)=>∀ p l ys H',aw H H'->H l=none->H' p=some (.tup [.int t,.ref l])->H' l=some 5e0->MR H' ys (qS ws a.toNat n.toNat)->Q 4e3 H'|none=>Bad D.a9 H E)
noncomputable abbrev ID:List Str:=["memory","a","fields"]
theorem Fl:av ID ["memory","a"] (ar uX):=fsc
theorem OC(F:Fun K "thing_at" "thing_at" uX D.fT D.j3)(T:Txt K mg D)
  (xy:9e7 6 D.hW D.oy ["memory","a"] (Ws D))
  (bw:9e7 4 D.dH D.gB ["self","a"] (yW D)):9e7 7 D.fT D.j3 ["memory","a"] (JN D):=by
 refine F.oa Fl F.b2 λcdv A' outer s' H vs Q E hr h=>?_;obtain⟨m,mx,c,xs,ws,a,rfl,M,gm,ha,k⟩:=h;refine⟨_,(ai (aO (i:=2) Fl.nd rfl 1e3 (xy.c hr T.Oi T.xq px (aa (pv 0) 2e2)))
  (aj (aF (cW (aa (bT cf (bw.m hr (pv 0) T.bD T.hU px 2e2) au 1e7) (aa (jD (cl:=[("memory",s'.heap.objs.size+1),("a",s'.heap.objs.size+2)]) (x := "k") (idx:=[1,0]) (NC:=["k","a","memory"]) ?co1 rfl (qK rfl T.tw 3e3) (λC fp s₀ H₀=>(bw.m hr (pv 2) T.bD T.hU yA (aa (aJ cc (aJ cc (pv 1) au) (pv 0)) ah)))) ah)))))),?_⟩
 case co1 =>
  exact gk (sc:=ar uX) (N:=ID) (ns:=["memory","a"]) rfl rfl rfl 2e4 rfl rfl (by
   intro q hq;rcases ao2.mp hq with rfl|hq
   ·rfl
   rw[aoH.mp hq];rfl)
 have el:=M.r.1;refine⟨_,rfl,_,rfl,m,mx,c,xs,ws,a,rfl,M,gm,ha,?_⟩;cases e:thg ws a with
 | none=>rw[e]at k;exact k
 | some z =>
  obtain⟨t,n⟩:=z;rw[e]at k;obtain⟨a0,hw,al⟩:=Qm e;have hn:=gm.hd t n (aoI hw);intro H1 s1;have M1:=M.same s1;refine⟨_,rfl,m,_,_,rfl,M1.i,1e4,_,rfl,m,mx,c,xs,ws,a,rfl,M1,ha,?_⟩;rw[if_pos ⟨a0,by omega⟩];intro v w2 hv hw2 mv;rw[hw]at hw2;cases hw2;obtain⟨_,p,rfl,hp⟩:=mv.resolve_left (λz=>by cases z.1);have z:=M.z;obtain⟨n,rfl⟩:∃ j:Nat,n=(j:Int):=⟨n.toNat,by omega⟩;simp only[Int.toNat_natCast]at k;refine⟨p,_,1,.int t,rfl,rfl,SqT.of hp,rfl,_,rfl,n,rfl,by omega,by omega,λL hL=>?_⟩;refine Ih (lo:=0) (n:=n) (λi ys Hc=>ys=(xs.drop (a.toNat+1)).take i/\aw H1 Hc/\Hc L=some 5e0) ⟨rfl,aw.upd hL,ag⟩ (λi ys Hc hi ⟨e,_,z⟩=>⟨z,by rw[e,aoS,apT];omega⟩) (by exact ao7 (show n<=10000 by omega) 2e0) (λi ys Hc hi ⟨e,sc,z⟩=>?_) (λys Hc ⟨e,sc,z⟩=>?_)
  ·have M2:=M1.same sc
   have hx:ws[(a+1+(0+(i:Int))).toNat]?=some (ws[(a+1+(0+(i:Int))).toNat]' 1e1):=aoF _;refine⟨_,rfl,m,_,_,rfl,M2.i,1e4,_,rfl,a,1,rfl,rfl,_,rfl,_,_,rfl,rfl,m,mx,c,xs,ws,_,rfl,M2,Sm.of 1e1 1e1,?_⟩;rw[if_pos ⟨by omega,by omega⟩];intro v w2 hv2 _ _;refine⟨z,?_,λb u q=>by rw[af (ao q hL)];exact sc b u q,ag⟩;have hd:(xs.drop (a.toNat+1))[i]?=some v:=by
    rw[apW,<-hv2];congr 1
    omega
   rw[e,List.take_succ,hd];rfl
  ·refine⟨by show 2<=sizeLine;decide,λq hq=>?_⟩
   have s3:=aw.upd (o:=.tup [V.int t,V.ref L]) hq;refine k q L _ _ ((s1.trans sc).trans s3) (aw.none s1 hL) ag (by rw[s3 _ _ z,e]) ⟨by unfold qS;rw[aoS,aoS,apT,apT,el],λi v w2 g1 g2=>?_⟩;unfold qS at g2;rw[aqt]at g1 g2;split at g1
   ·rename_i ci
    rw[if_pos ci,apW]at g2;rw[apW]at g1;exact(M.r.2 _ _ _ g1 g2).keep ((bg.of s1).trans ((bg.of sc).trans (bg.of s3)))
   ·cases g1
noncomputable def NT(D:Ad):Sp:=λvs H Q E=>∃ m mx c xs ws,∃(a:Int) (j:Nat) (r:Option Int),vs=[.ref m,.int a]/\Mm D H m mx c xs ws/\Gm ws/\Sm a/\Rv ws j a r/\(match r with|some z=>Q (.int z) H|none=>Bad D.a9 H E)
noncomputable abbrev Ru:List Str:=["memory","a","word"]
theorem rY:av Ru ["memory","a"] (ar AQ):=fsc
theorem OD(F:Fun K "resolved" "resolved" AQ D.gL D.lB)(T:Txt K mg D)
  (bw:9e7 4 D.dH D.gB ["self","a"] (yW D))
  (fW:9e7 1 D.eI D.ig ["value"] (IC)):9e7 5 D.gL D.lB ["memory","a"] (NT D):=by
 refine F.oa rY F.b2 λcdv A' outer s' H vs Q E hr h=>?_;obtain⟨m,mx,c,xs,ws,a,j,r,rfl,M,gm,ha,hr',k⟩:=h;refine⟨_,(PSs.xr (ai (aO (i:=2) rY.nd rfl 1e3 (bw.m hr (pv 0) T.bD T.hU (Rr λ_ _ _ q=>q) 2e2))
  (ai (IS aj2 (aG tK (vL fW.g (hr.mono 2e0) rfl T.qO T.lJ fW.b .nil (Rr λ_ _ _ q=>q) 3e3) cK (aU _))
   (ai (aO (i:=1) rY.nd rfl 1e3 (bT cf (pv 2) au 1e7))
   (aj (aO (i:=2) rY.nd rfl 1e3 (bw.m hr (pv 0) T.bD T.hU (Rr λ_ _ _ q=>q) 2e2)))))
  (aj (aF (pv 1)))))),?_⟩
 have at_:∀(Q':VK) (a:Int) (j:Nat),Sm a->Rv ws j a r->(∀ v w,xs[a.toNat]?=some v->ws[a.toNat]?=some w->MV H v w->0<=a->a<ws.length->Q' v H)->yW D [.ref m,.int a] H Q' E:=λQ' a j ha hr' q=>by
  refine⟨m,mx,c,xs,ws,a,rfl,M,ha,?_⟩;by_cases g:0<=a/\a<(ws.length:Int)
  ·rw[if_pos g]
   exact λv w h1 h2 h3=>q v w h1 h2 h3 g.1 g.2
  ·rw[if_neg g]
   cases hr' with
   | out _=>exact k
   | stop h0 hw _=>exact absurd ⟨h0,by have:=(aoE.mp hw).1;omega⟩ g
   | step h0 hw _=>exact absurd ⟨h0,by have:=(aoE.mp hw).1;omega⟩ g
 refine⟨_,rfl,m,_,_,rfl,M.i,1e4,_,rfl,at_ _ a j ha hr' λv w hv hw mv a0 al=>?_⟩;refine⟨λn σ Hx=>∃(a:Int) (v:V) (w:Mw),σ=[some (.ref m),some (.int a),some v]/\Hx=H/\Rv ws n a r/\MV H v w/\ws[a.toNat]?=some w/\0<=a/\a<ws.length,⟨j,a,v,w,rfl,rfl,hr',mv,hw,a0,al⟩,?_⟩;rintro n σ Hx ⟨a,v,w,rfl,rfl,hr2,mv,hw,a0,al⟩;refine⟨_,rfl,v,w,rfl,mv,rfl,_,rfl,?_⟩;by_cases hm:∃ b z,w=.mv b z
 ·obtain⟨b,z,rfl⟩:=hm
  obtain⟨_,p,rfl,hp⟩:=mv.resolve_left (λz=>by cases z.1);refine jP 1e4 ?_;cases hr2 with
  | out h=>exact absurd ⟨a0,al⟩ h
  | stop _ h2 h3=>rw[hw]at h2;cases h2;exact absurd rfl (h3 b z)
  | @step n' _ b' _ _ _ h2 h3 =>
   rw[hw]at h2;cases h2;have sb:=gm.mv b z (aoI hw);refine⟨λσ' H'=>∃ m',m'<n'+1/\∃(a:Int) (v:V) (w:Mw),σ'=[some (.ref m),some (.int a),some v]/\H'=Hx/\Rv ws m' a r/\MV Hx v w/\ws[a.toNat]?=some w/\0<=a/\a<ws.length,λ_ _ h=>h,?_⟩;refine⟨_,rfl,p,_,1,.int b,rfl,rfl,SqT.of hp,rfl,?_⟩;exact⟨_,rfl,m,_,_,rfl,M.i,1e4,_,rfl,at_ _ b n' sb h3 λv w hv hw mv a0 al=>⟨n',aqm _,b,v,w,rfl,rfl,h3,mv,hw,a0,al⟩⟩
 ·have nm:∀ b z,w≠.mv b z:=λb z e=>hm ⟨b,z,e⟩
  refine fV ?_ ?_
  ·cases w with
   | mv b z=>exact absurd rfl (nm b z)
   | _=>kernel_rfl
  ·cases hr2 with
   | out h=>exact absurd ⟨a0,al⟩ h
   | stop _ _ _=>exact⟨_,rfl,k⟩
   | step _ h2 _=>rw[hw]at h2;cases h2;exact absurd rfl (nm _ _)
noncomputable def Lk(ws:List Mw)(kv:List (Key×V)):Wd->Mw->Prop
 | .no,w=>w=.no
 | .num n,w=>w=.num n
 | .th t,w=>∃(a:Int) (j:Nat) (z:Int),w=.ad a/\Sm a/\Rv ws j a (some z)/\ir kv 2e7=some (.int z)
noncomputable def Qp(D:Ad):Sp:=λvs H Q _=>∃ m mx c xs ws,∃(a:Int) (j:Nat) (z:Int),vs=[.ref m,.int a]/\Mm D H m mx c xs ws/\Gm ws/\Sm a/\Rv ws j a (some z)/\Q (.int z) H
noncomputable abbrev OE:List Str:=["memory","a"]
theorem Mc:av OE ["memory","a"] (ar wY):=fsc
theorem Md(F:Fun K "place_met" "place_met" wY D.hX D.oz)(T:Txt K mg D)
  (iw:9e7 5 D.gL D.lB ["memory","a"] (NT D)):9e7 6 D.hX D.oz ["memory","a"] (Qp D):=by
 refine F.oa Mc F.b2 λcdv A' outer s' H vs Q E hr h=>?_;obtain⟨m,mx,c,xs,ws,a,j,z,rfl,M,gm,ha,hr',k⟩:=h;obtain⟨cdT,xT⟩:=T.js.cls;refine⟨_,(aj (SK rfl rfl rfl T.nY xT (λpins E' EK hp=>aj (aF (vL iw.g (hr.mono 2e0) rfl T.AV T.qX iw.b .nil hp (aa (pv 0) 2e2)))) (λea=>aj (aF bR)))),?_⟩;exact⟨_,rfl,_,rfl,m,mx,c,xs,ws,a,j,some z,rfl,M,gm,ha,hr',k⟩
noncomputable def ND(D:Ad):Sp:=λvs H Q _=>∃ m mx c xs ws,∃(v y:V) (wd:Wd) (mw:Mw) (dd:Addr) (kv:List (Key×V)),vs=[v,.ref m,y,.ref dd]/\Mm D H m mx c xs ws/\Gm ws/\WV H v wd/\MV H y mw/\H dd=some (.dK kv)/\Lk ws kv wd mw/\Q (.bl true) H
noncomputable abbrev Ur:List Str:=["value","memory","word","stands"]
theorem Rw:av Ur ["value","memory","word","stands"] (ar EV):=fsc
theorem Rx(F:Fun K "is_like" "is_like" EV D.jH D.qN)(T:Txt K mg D)
  (kE:9e7 1 D.eI D.ig ["value"] (NR))
  (fW:9e7 1 D.eI D.ig ["value"] (IC))
  (xA:9e7 6 D.hX D.oz ["memory","a"] (Qp D)):9e7 7 D.jH D.qN ["value","memory","word","stands"] (ND D):=by
 refine F.oa Rw F.b4 λcdv A' outer s' H vs Q E hr h=>?_;obtain⟨m,mx,c,xs,ws,v,y,wd,mw,dd,kv,rfl,M,gm,hv,hy,hd,lk,k⟩:=h;have hu:=jw hr;refine⟨_,(PSs.nox (ai (bS (aG QL (kE.c hr T.qO T.lJ aV 6e0) cK (aU _))
   (aj (aF (vJ (V9 (n:=1) hu) (pv 2) (pv 0) (aU _))))
   aR)
  (aj (aF (ZE (vJ tK (vL fW.g (hr.mono 2e0) rfl T.qO T.lJ fW.b .nil aV 3e3) cK (aU _)) (ZD (vJ tK (xA.c hr T.Oj T.xt aV (aa (pv 1) (aa (bT cf (pv 2) au 1e7) ah))) (hG hu (pv 3) (bT cf (pv 0) au 1e7) 1e7) (aU _)))))))),?_⟩
 cases wd with
 | no =>
  have hv:v=.non:=hv;subst hv;have lk:mw=.no:=lk;subst lk;obtain⟨_,rfl⟩:=hy.resolve_right (λz=>z.1 rfl);have r1:Rp H 1 V.non (.a .non):=⟨rfl,rfl⟩;refine⟨_,rfl,_,.no,rfl,rfl,rfl,_,rfl,jP 1e4 ⟨_,rfl,_,rfl,_,_,r1,r1,?_⟩⟩;rw[pF r1 r1];exact k
 | num n =>
  obtain⟨t,rfl,ht⟩:=hv;have lk:mw=.num n:=lk;subst lk;obtain⟨_,p,rfl,hp⟩:=hy.resolve_left (λz=>by cases z.1);have r1:Rp H 1 (V.ref t) (.t [.a (.str "number"),.a (.int n)]):=⟨t,_,rfl,ht,rfl,(λj u x h1 h2=>by match j,h1,h2 with|0,h1,h2=>cases h1;cases h2;exact⟨rfl,rfl⟩|1,h1,h2=>cases h1;cases h2;exact⟨rfl,rfl⟩|j+2,h1,_=>cases h1)⟩
  have r2:Rp H 1 (V.ref p) (.t [.a (.str "number"),.a (.int n)]):=⟨p,_,rfl,hp,rfl,(λj u x h1 h2=>by match j,h1,h2 with|0,h1,h2=>cases h1;cases h2;exact⟨rfl,rfl⟩|1,h1,h2=>cases h1;cases h2;exact⟨rfl,rfl⟩|j+2,h1,_=>cases h1)⟩
  refine⟨_,rfl,_,.num n,rfl,⟨t,rfl,ht⟩,rfl,_,rfl,jP 1e4 ⟨_,rfl,_,rfl,_,_,r2,r1,?_⟩⟩;rw[pF r1 r1];exact k
 | th t =>
  obtain⟨q,rfl,hq⟩:=hv;obtain⟨a,j,z,rfl,sa,rv,hk⟩:=lk;obtain⟨nn,p,rfl,hp⟩:=hy.resolve_left (λz=>by cases z.1);refine⟨_,rfl,_,.th t,rfl,⟨q,rfl,hq⟩,rfl,_,rfl,fV 1e4 ?_⟩;refine⟨_,rfl,_,.ad a,rfl,.inr ⟨nn,p,rfl,hp⟩,rfl,_,rfl,jP 1e4 ?_⟩;refine⟨_,rfl,_,rfl,p,_,1,.int a,rfl,rfl,SqT.of hp,rfl,m,mx,c,xs,ws,a,j,z,rfl,M,gm,sa,rv,?_⟩;refine⟨_,rfl,_,rfl,q,_,1,.int t,rfl,rfl,SqT.of hq,rfl,dd,.int z,rfl,.inl ⟨kv,Sum.inl t,.inl hd,rfl,hk.symm⟩,rfl,?_⟩;simpa using k
noncomputable def Pr(H:Hp)(ps:List V)(ks:List Int)(g:Int->Int):Prop:=ps.length=ks.length/\∀(i:Nat) (u:V) (t:Int),ps[i]?=some u->ks[i]?=some t->∃ q,u=.ref q/\H q=some (.tup [.int t,.int (g t)])
theorem Pr.keep{H H':Hp}{ps:List V}{ks:List Int}{g:Int->Int}(p:Pr H ps ks g)(s:bg H H'):Pr H' ps ks g:=⟨p.1,λi u t a b=>by obtain⟨q,e,h⟩:=p.2 i u t a b;exact⟨q,e,s _ _ h⟩⟩
noncomputable def kvG(ks:List Int)(g:Int->Int):List (Key×V):=ks.map λt=>(Sum.inl t,V.int (g t))
theorem DW{g:Int->Int}{t:Int}:∀ {ks:List Int},t∈ks->ir (kvG ks g) 2e7=some (.int (g t))
 | [],m=>nomatch m
 | a::ks,m=>by
  by_cases e:a=t
  ·subst e;exact fP rfl
  ·show ir ((Sum.inl a,V.int (g a))::kvG ks g) _=_
   rw[fz (λz=>e (Sum.inl.inj z))];exact DW ((ao2.mp m).resolve_left (aoT e))
theorem Pr.dict{H:Hp}{g:Int->Int}:∀ {ps:List V} {ks:List Int},Pr H ps ks g->∃ xs:List Addr,ps=xs.map V.ref/\Paired (λx (p:Key×V)=>H x=some (.tup [kV p.1,p.2])) xs (kvG ks g)
 | [],[],_=>⟨[],rfl,.nil⟩
 | [],_::_,h=>by cases h.1
 | _::_,[],h=>by cases h.1
 | u::ps,t::ks,h=>by
  obtain⟨xs,e,p⟩:=Pr.dict (ps:=ps) (ks:=ks) ⟨Nat.succ.inj h.1,λi v y a b=>h.2 (i+1) v y a b⟩;obtain⟨q,rfl,hq⟩:=h.2 0 u t rfl rfl;exact⟨q::xs,by rw[e];rfl,.cons hq p⟩
theorem Lo{ks:List Int}{g:Int->Int}(h:ks.Nodup):((kvG ks g).map (·.1)).Nodup:=by
 unfold kvG;rw[apn];exact List.pairwise_map.mpr (h.imp λn e=>n (Sum.inl.inj e))
structure Pic(ws:List Mw)(s:HS)(g:Int->Int):Prop where
 hd:∀ t wd,(t,wd)∈s.aQ->0<=g t/\g t+(wd.length:Int)<ws.length/\ws[(g t).toNat]?=some (.hd t wd.length)/\∀(i:Nat) (w:Wd),wd[i]?=some w->∃ mw,ws[(g t).toNat+1+i]?=some mw/\Lk ws (kvG 4e6 g) w mw
 dj:∀ t wd t' wd',(t,wd)∈s.aQ->(t',wd')∈s.aQ->t≠t'->g t+(wd.length:Int)<g t'\/g t'+(wd'.length:Int)<g t
theorem keys_nodup{s:HS}(G:Good s):(keys s).Nodup:=G.asc.imp λh=>Int.ne_of_lt h
structure NG(D:Ad)(H:Hp)(x:Addr)(A:HA)(s:HS)(m mx c:Addr)(xs:List V)(ws:List Mw)(b:Addr)(ps:List V)(g:Int->Int):Prop where
 J:IH D H x A s
 G:Good s
 M:Mm D H m mx c xs ws
 gm:Gm ws
 P:Pic ws s g
 hb:H b=some (.lst ps)
 pr:Pr H ps 4e6 g
 nx:s.nxt<10000
theorem NG.same{D:Ad}{H H':Hp}{x:Addr}{A:HA}{s:HS}{m mx c:Addr}{xs:List V}{ws:List Mw}{b:Addr}{ps:List V}{g:Int->Int}(S:NG D H x A s m mx c xs ws b ps g)(e:aw H H'):NG D H' x A s m mx c xs ws b ps g:=⟨S.J.same e,S.G,S.M.same e,S.gm,S.P,e _ _ S.hb,S.pr.keep (bg.of e),S.nx⟩
theorem NG.at{D:Ad}{H:Hp}{x:Addr}{A:HA}{s:HS}{m mx c:Addr}{xs:List V}{ws:List Mw}{b:Addr}{ps:List V}{g:Int->Int}(S:NG D H x A s m mx c xs ws b ps g){i:Nat}{v:V}(hi:ps[i]?=some v):∃ t q wd,v=.ref q/\H q=some (.tup [.int t,.int (g t)])/\t∈keys s/\(keys s)[i]?=some t/\(t,wd)∈s.aQ:=by
 have hl:i<(keys s).length:=by rw[<-S.pr.1];exact(aoE.mp hi).1
 have hk:(keys s)[i]?=some (keys s)[i]:=aoF hl;obtain⟨q,e,h⟩:=S.pr.2 i v _ hi hk;obtain⟨wd,mw⟩:=mem_keys.mp (aoI hk);exact⟨_,q,wd,e,h,aoI hk,hk,mw⟩
noncomputable def Je(D:Ad):Sp:=λvs H Q _=>∃ m mx c xs ws,∃(kd:Str) (tl wl b:Addr) (us ys ps:List V) (ks:List Int) (g:Int->Int),vs=[.str kd,.ref tl,.ref m,.ref wl,.ref b]/\Mm D H m mx c xs ws/\Gm ws/\H tl=some (.lst us)/\H wl=some 5e0/\us.length=ys.length/\(∀(i:Nat) (v y:V),us[i]?=some v->ys[i]?=some y->∃ wd mw,WV H v wd/\MV H y mw/\Lk ws (kvG ks g) wd mw)/\H b=some (.lst ps)/\Pr H ps ks g/\ks.Nodup/\∀ H',aw H H'->Q .non H'
noncomputable abbrev x8:List Str:=["kind","told","memory","words","book","stands","i","value"]
theorem gU:av x8 ["kind","told","memory","words","book"] (ar kA):=fsc
theorem vW(F:Fun K "first_unlike_word" "first_unlike_word" kA D.br D.dQ)(T:Txt K mg D)
  (qT:9e7 7 D.jH D.qN ["value","memory","word","stands"] (ND D)):9e7 8 D.br D.dQ ["kind","told","memory","words","book"] (Je D):=by
 refine F.oa gU F.b5 λcdv A' outer s' H vs Q E hr h=>?_;obtain⟨m,mx,c,xs,ws,kd,tl,wl,b,us,ys,ps,ks,g,rfl,M,gm,ht,hw,lu,hl,hb,pr,nd,k⟩:=h;refine⟨_,(PSs.nox (ai (aO (i:=5) gU.nd rfl 1e3 (lF (Il rfl) rfl T.NP PyProof.Rows.Boot.«dict» 3e0))
  (ai (eK aoY rfl (vM rfl T.ic 2e2) (nV rfl (bz (aK (i:=6) gU.nd rfl 1e3) (bz (aK (i:=7) gU.nd rfl 1e3) jY)))
   (aj (bS (qJ (De (qT.c hr T.Lf T.yE aV (aa (pv 7) (aa (pv 2) (aa (bT gI (pv 3) (pv 6) 1e7) (aa (pv 5) ah)))))))
    (aj (aF (cW (aa (pv 0) (aa (pv 6) ah)))))
    aR)))
  (aj (aF bR))))),?_⟩
 obtain⟨bs,rfl,pd⟩:=pr.dict;refine⟨_,rfl,b,bs,kvG ks g,rfl,hb,pd,Lo nd,λdd hdd=>?_⟩;have s1:=aw.upd (o:=.dK (kvG ks g)) hdd;refine⟨_,rfl,tl,rfl,⟨_,SqL.of (s1 _ _ ht)⟩,rj (K:=K) (a:=tl) (xs:=us) (λi σ Hx=>∃ v6 v7,σ=[some (.str kd),some (.ref tl),some (.ref m),some (.ref wl),some (.ref b),some (.ref dd),v6,v7]/\aw (upd H dd (.dK (kvG ks g))) Hx) ⟨none,none,rfl,aw.refl _⟩ (λi σ Hx _ ⟨_,_,_,sx⟩=>SqL.of (sx _ _ (s1 _ _ ht))) ?_ ?_⟩
 ·rintro i v σ Hx tp hi ⟨v6,v7,rfl,sx⟩ htp
  have t1:=aw.upd (o:=.tup [.int (i:Int),v]) htp;have S:=(s1.trans sx).trans t1;obtain⟨y,hy⟩:∃ y,ys[i]?=some y:=⟨ys[i]'(by rw[<-lu];exact(aoE.mp hi).1),aoF _⟩;obtain⟨wd,mw,h1,h2,h3⟩:=hl i v y hi hy;refine⟨tp,_,rfl,SqT.of ag,rfl,_,_,rfl,_,_,rfl,rfl,?_⟩;exact⟨_,rfl,_,rfl,_,rfl,_,rfl,wl,ys,_,y,rfl,rfl,SqL.of (S _ _ hw),yK hy,_,rfl,m,mx,c,xs,ws,v,y,wd,mw,dd,_,rfl,M.same S,gm,h1.keep (bg.of S),h2.keep (bg.of S),t1 _ _ (sx _ _ ag),h3,true,rfl,fV rfl ⟨_,_,rfl,sx.trans t1⟩⟩
 ·rintro σ Hx ⟨v6,v7,rfl,sx⟩
  exact k _ (s1.trans sx)
noncomputable def EZ(D:Ad):Sp:=λvs H Q _=>∃ x A s m mx c xs ws b ps g,vs=[.ref x,.ref m,.ref b]/\NG D H x A s m mx c xs ws b ps g/\∀ H',aw H H'->Q .non H'
noncomputable abbrev vX:List Str:=["ideal","memory","book","stands","pair","k","value"]
theorem eG:av vX ["ideal","memory","book"] (ar jK):=fsc
theorem vv(F:Fun K "first_unlike_field" "first_unlike_field" jK D.a7 D.dt)(T:Txt K mg D)
  (qT:9e7 7 D.jH D.qN ["value","memory","word","stands"] (ND D))
  (ay:9e7 4 D.aH D.aW ["self","t"] (tE D))
  (bw:9e7 4 D.dH D.gB ["self","a"] (yW D)):9e7 8 D.a7 D.dt ["ideal","memory","book"] (EZ D):=by
 refine F.oa eG F.b3 λcdv A' outer s' H vs Q E hr h=>?_;obtain⟨x,A,s,m,mx,c,xs,ws,b,ps,g,rfl,S,k⟩:=h;refine⟨_,(PSs.nox (ai (aO (i:=3) eG.nd rfl 1e3 (lF (Il rfl) rfl T.NP PyProof.Rows.Boot.«dict» 3e3))
  (ai (eK aoY rfl (cI (pv 2)) (aK (i:=4) eG.nd rfl 1e3)
   (aj (eK aoY rfl (vM rfl T.ic (aa (ay.m hr (pv 0) T.ae T.bC aV (aa (bT cf (pv 4) au 1e7) ah)) ah)) (nV rfl (bz (aK (i:=5) eG.nd rfl 1e3) (bz (aK (i:=6) eG.nd rfl 1e3) jY)))
    (aj (bS (qJ (De (qT.c hr T.Lf T.yE aV (aa (pv 6) (aa (pv 1) (aa (bw.m hr (pv 1) T.bD T.hU aV (aa (aJ cc (aJ cc (bT cf (pv 4) au 1e7) au) (pv 5)) ah)) 5e3))))))
     (aj (aF (cW (aa cK (aa (bT cf (pv 4) au 1e7) (aa (pv 5) ah))))))
     aR)))))
  (aj (aF bR))))),?_⟩
 have z:=S.M.z;obtain⟨bs,eb,pd⟩:=S.pr.dict;refine⟨_,rfl,b,bs,kvG 4e6 g,rfl,by rw[<-eb];exact S.hb,pd,Lo (keys_nodup S.G),λdd hdd=>?_⟩;have s1:=aw.upd (o:=.dK (kvG 4e6 g)) hdd;refine⟨_,rfl,b,rfl,⟨_,SqL.of (s1 _ _ S.hb)⟩,gN (K:=K) (a:=b) (xs:=ps) (λi σ Hx=>∃ v4 v5 v6,σ=[some 5e2,some (.ref m),some (.ref b),some (.ref dd),v4,v5,v6]/\aw (upd H dd (.dK (kvG 4e6 g))) Hx) ⟨none,none,none,rfl,aw.refl _⟩ (λi σ Hx _ ⟨_,_,_,_,sx⟩=>SqL.of (sx _ _ (s1 _ _ S.hb))) ?_ ?_⟩
 ·rintro i v σ Hx hi ⟨v4,v5,v6,rfl,sx⟩
  have S1:=S.same (s1.trans sx);obtain⟨t,q,wd,rfl,hq,mk,_,mw⟩:=S1.at hi;obtain⟨t0,t1⟩:=S.G.lt t wd mw;obtain⟨g0,g1,_,gw⟩:=S.P.hd t wd mw;have nx:=S.nx;refine⟨_,rfl,x,_,_,rfl,S1.J.ax,1e4,_,rfl,q,_,0,.int t,rfl,rfl,SqT.of hq,rfl,x,A,s,t,rfl,S1.J,S.G,Sm.of 1e1 1e1,(λ_ p H1 sp hp zp=>?_),(λn=>absurd mk n)⟩;refine⟨p,rfl,⟨_,SqL.of zp⟩,rj (K:=K) (a:=p) (xs:=A.fx t) (λj σ Hy=>∃ v5 v6,σ=[some 5e2,some (.ref m),some (.ref b),some (.ref dd),some (.ref q),v5,v6]/\aw H1 Hy) ⟨_,_,rfl,aw.refl _⟩ (λi σ Hy _ ⟨_,_,_,sy⟩=>SqL.of (sy _ _ zp)) ?_ ?_⟩
  ·rintro j v σ Hy tp hj ⟨v5,v6,rfl,sy⟩ htp
   have t2:=aw.upd (o:=.tup [.int (j:Int),v]) htp;have e2:=(sp.trans sy).trans t2;have S2:=S1.same e2;have R:=(S1.J.afl t wd mw).2;have jl:j<wd.length:=(by rw[<-R.1];exact(aoE.mp hj).1);obtain⟨w',hw'⟩:∃ w',wd[j]?=some w':=⟨_,aoF jl⟩;obtain⟨mw',hmw,lk⟩:=gw j w' hw';refine⟨tp,_,rfl,SqT.of ag,rfl,_,_,rfl,_,_,rfl,rfl,?_⟩;refine⟨_,rfl,_,rfl,_,rfl,m,_,_,rfl,S2.M.i,1e4,_,rfl,q,_,1,.int (g t),rfl,rfl,SqT.of (e2 _ _ hq),rfl,_,1,rfl,rfl,_,rfl,_,_,rfl,rfl,m,mx,c,xs,ws,_,rfl,S2.M,Sm.of 1e1 1e1,?_⟩;rw[if_pos ⟨by omega,by omega⟩];intro y w2 hy hw2 mv;rw[show(g t+1+(j:Int)).toNat=(g t).toNat+1+j by omega,hmw]at hw2;cases hw2;exact⟨_,rfl,m,mx,c,xs,ws,v,y,w',mw',dd,_,rfl,S2.M,S.gm,(R.2 j v w' hj hw').keep (bg.of e2),mv,e2 _ _ (sx _ _ ag),lk,true,rfl,fV rfl ⟨_,_,rfl,sy.trans t2⟩⟩
  ·rintro σ Hy ⟨v5,v6,rfl,sy⟩
   exact⟨_,_,_,rfl,sx.trans (sp.trans sy)⟩
 ·rintro σ Hx ⟨v4,v5,v6,rfl,sx⟩
  exact k _ (s1.trans sx)
noncomputable def Qq(D:Ad):Sp:=λvs H Q _=>∃ x A s m mx c xs ws b ps g,vs=[.ref x,.ref m,.ref b]/\NG D H x A s m mx c xs ws b ps g/\∀ H',aw H H'->Q .non H'
noncomputable abbrev DX:List Str:=["ideal","memory","book","pair"]
theorem jA:av DX ["ideal","memory","book"] (ar j2):=fsc
theorem BK(F:Fun K "first_headless" "first_headless" j2 D.bA D.dw)(T:Txt K mg D)
  (ay:9e7 4 D.aH D.aW ["self","t"] (tE D))
  (bw:9e7 4 D.dH D.gB ["self","a"] (yW D)):9e7 5 D.bA D.dw ["ideal","memory","book"] (Qq D):=by
 refine F.oa jA F.b3 λcdv A' outer s' H vs Q E hr h=>?_;obtain⟨x,A,s,m,mx,c,xs,ws,b,ps,g,rfl,S,k⟩:=h;have hu:=jw hr;refine⟨_,(PSs.nox (ai (eK aoY rfl (cI (pv 2)) (aK (i:=3) jA.nd rfl 1e3)
   (aj (bS (aG (R9 (n:=1) hu) (bw.m hr (pv 1) T.bD T.hU aV (aa 3e9 ah)) (cW (aa cK (aa 3e9 (aa (bj aP rfl T.ji PyProof.Rows.Boot.«len» (aa (ay.m hr (pv 0) T.ae T.bC aV (aa 3e9 ah)) ah)) ah)))) (aU _))
    (aj (aF (cW (aa cK (aa 3e9 ah)))))
    aR)))
  (aj (aF bR)))),?_⟩
 have z:=S.M.z;have nx:=S.nx;refine⟨_,rfl,b,rfl,⟨_,SqL.of S.hb⟩,gN (K:=K) (a:=b) (xs:=ps) (λi σ Hx=>∃ v3,σ=[some 5e2,some (.ref m),some (.ref b),v3]/\aw H Hx) ⟨none,rfl,aw.refl _⟩ (λi σ Hx _ ⟨_,_,sx⟩=>SqL.of (sx _ _ S.hb)) ?_ ?_⟩
 ·rintro i v σ Hx hi ⟨v3,rfl,sx⟩
  have S1:=S.same sx;obtain⟨t,q,wd,rfl,hq,mk,_,mw⟩:=S1.at hi;obtain⟨t0,t1⟩:=S.G.lt t wd mw;obtain⟨g0,g1,gh,_⟩:=S.P.hd t wd mw;have R:=(S1.J.afl t wd mw).2;refine⟨_,rfl,m,_,_,rfl,S1.M.i,1e4,_,rfl,q,_,1,.int (g t),rfl,rfl,SqT.of hq,rfl,m,mx,c,xs,ws,g t,rfl,S1.M,Sm.of 1e1 1e1,?_⟩;rw[if_pos ⟨g0,by omega⟩];intro y w2 hy hw2 mv;rw[gh]at hw2;cases hw2;obtain⟨_,p1,rfl,hp1⟩:=mv.resolve_left (λz=>by cases z.1);refine⟨_,rfl,q,_,0,.int t,rfl,rfl,SqT.of hq,rfl,_,rfl,x,_,_,rfl,S1.J.ax,1e4,_,rfl,q,_,0,.int t,rfl,rfl,SqT.of hq,rfl,x,A,s,t,rfl,S1.J,S1.G,Sm.of 1e1 1e1,(λ_ p H1 sp hp zp=>?_),(λn=>absurd mk n)⟩;refine⟨p,_,rfl,.inl (SqL.of zp),by show 3<=sizeLine;decide,λr hr'=>?_⟩;have t3:=aw.upd (o:=.tup [V.str "head",V.int t,V.int (A.fx t).length]) hr';have e1:((A.fx t).length:Int)=wd.length:=by rw[R.1]
  have r1:Rp (upd H1 r (.tup [V.str "head",V.int t,V.int (A.fx t).length])) 1 (V.ref p1) (.t [.a (.str "head"),.a (.int t),.a (.int wd.length)]):=⟨p1,_,rfl,t3 _ _ (sp _ _ hp1),rfl,(λj u x h1 h2=>by match j,h1,h2 with|0,h1,h2=>cases h1;cases h2;exact⟨rfl,rfl⟩|1,h1,h2=>cases h1;cases h2;exact⟨rfl,rfl⟩|2,h1,h2=>cases h1;cases h2;exact⟨rfl,rfl⟩|j+3,h1,_=>cases h1)⟩
  have r2:Rp (upd H1 r (.tup [V.str "head",V.int t,V.int (A.fx t).length])) 1 (V.ref r) (.t [.a (.str "head"),.a (.int t),.a (.int wd.length)]):=⟨r,_,rfl,by rw[ag,e1],rfl,(λj u x h1 h2=>by match j,h1,h2 with|0,h1,h2=>cases h1;cases h2;exact⟨rfl,rfl⟩|1,h1,h2=>cases h1;cases h2;exact⟨rfl,rfl⟩|2,h1,h2=>cases h1;cases h2;exact⟨rfl,rfl⟩|j+3,h1,_=>cases h1)⟩
  refine⟨_,_,r1,r2,_,rfl,fV (by rw[pF r1 r1];rfl) ⟨_,rfl,(sx.trans sp).trans t3⟩⟩
 ·rintro σ Hx ⟨v3,rfl,sx⟩
  exact k _ sx
noncomputable def Qr(D:Ad):Sp:=λvs H Q _=>∃ x A s q,∃(t a:Int) (wd:List Wd),vs=[.ref x,.ref q]/\IH D H x A s/\Good s/\s.nxt<10000/\H q=some (.tup [.int t,.int a])/\(t,wd)∈s.aQ/\∀ p H',aw H H'->H p=none->H' p=some (.lst (((List.range (wd.length+1)).map λi:Nat=>a+(i:Int)).map V.int))->Q 4e3 H'
noncomputable abbrev wV:List Str:=["ideal","pair"]
theorem F9:av wV ["ideal","pair"] (ar mj):=fsc
theorem Ga(F:Fun K "addresses_of" "addresses_of" mj D.dZ D.jS)(T:Txt K mg D)
  (ay:9e7 4 D.aH D.aW ["self","t"] (tE D))
  (jj:9e7 3 D.gK D.lA ["fields"] (rW D)):9e7 5 D.dZ D.jS ["ideal","pair"] (Qr D):=by
 refine F.oa F9 F.b2 λcdv A' outer s' H vs Q E hr h=>?_;obtain⟨x,A,s,q,t,a,wd,rfl,J,G,nx,hq,mw,k⟩:=h;refine⟨_,(PSs.nox (aj (aF (jD (cl:=[("pair",s'.heap.objs.size+1)]) (x := "i") (idx:=[1]) (NC:=["i","pair"]) ?co1 rfl (qK rfl T.tw (aa (jj.c hr T.AU T.qW aV (aa (bj aP rfl T.ji PyProof.Rows.Boot.«len» (aa (ay.m hr (pv 0) T.ae T.bC aV (aa (bT cf (pv 1) au 1e7) ah)) ah)) ah)) ah)) (λC fp s₀ H₀=>(aJ cc (bT (r:=XW K) cf (pv 1) au 1e7) (pv 0))))))),?_⟩
 case co1 =>
  exact gk (sc:=ar mj) (N:=wV) (ns:=["pair"]) rfl rfl rfl 2e4 rfl rfl (by
   intro q hq;rw[aoH.mp hq];rfl)
 have mk:t∈keys s:=mem_keys.mpr ⟨wd,mw⟩;obtain⟨t0,t1⟩:=G.lt t wd mw;have f6:=G.f6 t wd mw;have R:=(J.afl t wd mw).2;have e0:(A.fx t).length=wd.length:=R.1;refine⟨_,rfl,x,_,_,rfl,J.ax,1e4,_,rfl,q,_,0,.int t,rfl,rfl,SqT.of hq,rfl,x,A,s,t,rfl,J,G,Sm.of 1e1 1e1,(λ_ p H1 sp hp zp=>?_),(λn=>absurd mk n)⟩;refine⟨p,_,rfl,.inl (SqL.of zp),_,rfl,Sm.of 1e1 1e1,?_⟩;rw[if_pos ⟨by omega,by omega⟩];refine⟨_,rfl,by omega,by omega,λL hL=>?_⟩;rw[show(((A.fx t).length:Int)+1).toNat=wd.length+1 by omega];refine Ih (lo:=0) (n:=wd.length+1) (λi ys Hc=>ys=((List.range i).map λi:Nat=>a+(i:Int)).map V.int/\aw H1 Hc/\Hc L=some 5e0) ⟨rfl,aw.upd hL,ag⟩ (λi ys Hc hi ⟨e,_,z⟩=>⟨z,by rw[e,aoG,aoG,apE]⟩) (lE 1e1) (λi ys Hc hi ⟨e,sc,z⟩=>?_) (λys Hc ⟨e,sc,z⟩=>?_)
 ·refine⟨_,rfl,q,_,1,.int a,rfl,rfl,SqT.of (sc _ _ (sp _ _ hq)),rfl,_,rfl,_,_,rfl,rfl,z,?_,λb u y=>by rw[af (ao y hL)];exact sc b u y,ag⟩
  rw[aqB,aoV,aoV,e];simp
 ·exact k L _ (sp.trans sc) (aw.none sp hL) (by rw[z,e])
structure Plc(ws:List Mw)(s:HS)(g:Int->Int):Prop where
 in_:∀ t wd,(t,wd)∈s.aQ->0<=g t/\g t+(wd.length:Int)<ws.length
 dj:∀ t wd t' wd',(t,wd)∈s.aQ->(t',wd')∈s.aQ->t≠t'->g t+(wd.length:Int)<g t'\/g t'+(wd'.length:Int)<g t
structure Qs(D:Ad)(H:Hp)(x:Addr)(A:HA)(s:HS)(m mx c:Addr)(xs:List V)(ws:List Mw)(b:Addr)(ps:List V)(g:Int->Int):Prop where
 J:IH D H x A s
 G:Good s
 M:Mm D H m mx c xs ws
 gm:Gm ws
 P:Plc ws s g
 hb:H b=some (.lst ps)
 pr:Pr H ps 4e6 g
 nx:s.nxt<10000
section
variable{D:Ad}{H H':Hp}{x:Addr}{A:HA}{s:HS}{m mx c:Addr}{xs:List V}{ws:List Mw}{b:Addr}{ps:List V}{g:Int->Int}
theorem Pic.plc(P:Pic ws s g):Plc ws s g:=⟨λt wd m=>⟨(P.hd t wd m).1,(P.hd t wd m).2.1⟩,P.dj⟩
theorem NG.p(S:NG D H x A s m mx c xs ws b ps g):Qs D H x A s m mx c xs ws b ps g:=⟨S.J,S.G,S.M,S.gm,S.P.plc,S.hb,S.pr,S.nx⟩
theorem Qs.same(S:Qs D H x A s m mx c xs ws b ps g)(e:aw H H'):Qs D H' x A s m mx c xs ws b ps g:=⟨S.J.same e,S.G,S.M.same e,S.gm,S.P,e _ _ S.hb,S.pr.keep (bg.of e),S.nx⟩
theorem Qs.at(S:Qs D H x A s m mx c xs ws b ps g){i:Nat}{v:V}(hi:ps[i]?=some v):∃ t q wd,v=.ref q/\H q=some (.tup [.int t,.int (g t)])/\t∈keys s/\(keys s)[i]?=some t/\(t,wd)∈s.aQ:=by
 have hl:i<(keys s).length:=by rw[<-S.pr.1];exact(aoE.mp hi).1
 have hk:(keys s)[i]?=some (keys s)[i]:=aoF hl;obtain⟨q,e,h⟩:=S.pr.2 i v _ hi hk;obtain⟨wd,mw⟩:=mem_keys.mp (aoI hk);exact⟨_,q,wd,e,h,aoI hk,hk,mw⟩
end
noncomputable def adr(s:HS)(g:Int->Int)(ts:List Int):List Int:=ts.flatMap λt=>(List.range ((fld s t).length+1)).map λi:Nat=>g t+(i:Int)
noncomputable def Dr(as:List Int):List (Key×V):=as.map λa=>(Sum.inl a,V.int 1)
theorem E0{a:Int}:∀ {as:List Int},a∉as->ir (Dr as) (Sum.inl a)=none
 | [],_=>rfl
 | b::as,m=>by
  show ir ((Sum.inl b,V.int 1)::Dr as) _=_;rw[fz (λz=>m (by rw[Sum.inl.inj z];exact ao3))];exact E0 λz=>m (ao6 _ z)
theorem Lp{a:Int}:∀ {as:List Int},a∈as->ir (Dr as) (Sum.inl a)=some (.int 1)
 | [],m=>nomatch m
 | b::as,m=>by
  by_cases e:b=a
  ·subst e;exact fP rfl
  ·show ir ((Sum.inl b,V.int 1)::Dr as) _=_
   rw[fz (λz=>e (Sum.inl.inj z))];exact Lp ((ao2.mp m).resolve_left (aoT e))
theorem Us{a:Int}{as:List Int}(h:a∉as):putK (Dr as) (Sum.inl a) (.int 1)=Dr (as++[a]):=by
 rw[ue _ (E0 h)];unfold Dr;rw[aoV];rfl
theorem Tn{s:HS}{g:Int->Int}{ts:List Int}{a:Int}:a∈adr s g ts↔∃ t∈ts,∃ k:Nat,k<(fld s t).length+1/\a=g t+(k:Int):=by
 unfold adr;rw[List.mem_flatMap];constructor
 ·rintro⟨t,m,h⟩
  obtain⟨k,hk,e⟩:=ao5.mp h;exact⟨t,m,k,apU.mp hk,e.symm⟩
 ·rintro⟨t,m,k,hk,e⟩
  exact⟨t,m,ao5.mpr ⟨k,apU.mpr hk,e.symm⟩⟩
theorem VQ{s:HS}{g:Int->Int}{ts:List Int}{t:Int}:adr s g (ts++[t])=adr s g ts++(List.range ((fld s t).length+1)).map λi:Nat=>g t+(i:Int):=by
 unfold adr;rw[List.flatMap_append];simp
theorem To{s:HS}{g:Int->Int}(G:Good s):∀ {ts:List Int},(∀ t∈ts,t∈keys s)->(adr s g ts).length<=7*ts.length
 | [],_=>aoL _
 | t::ts,h=>by
  have e:adr s g (t::ts)=((List.range ((fld s t).length+1)).map λi:Nat=>g t+(i:Int))++adr s g ts:=rfl;obtain⟨wd,mw⟩:=mem_keys.mp (h t ao3);have f6:=G.f6 t wd mw;rw[<-G.fld mw]at f6;rw[e,aoJ,aoG,apE,aph]
  have:=To (g:=g) G λt m=>h t (ao6 _ m)
  omega
theorem Yx{s:HS}{g:Int->Int}{ws:List Mw}(G:Good s)(P:Plc ws s g){i:Nat}{t:Int}{wd:List Wd}(ht:(keys s)[i]?=some t)(mw:(t,wd)∈s.aQ){k:Nat}(hk:k<wd.length+1):g t+(k:Int)∉adr s g ((keys s).take i):=λm=>by
 obtain⟨u,mu,k',hk',e⟩:=Tn.mp m;have nu:t≠u:=λe=>by
  subst e;obtain⟨j,hj,ej⟩:=ap3.mp mu;rw[aoS]at hj;rw[aqx]at ej;have hi:=(aoE.mp ht)
  have:=apN.mp (show(keys s).Pairwise (·< ·) from G.asc) j i 1e1 hi.1 1e1
  rw[ej,hi.2]at this;omega
 obtain⟨wu,mwu⟩:=mem_keys.mp (apO mu);rw[G.fld mwu]at hk';rcases P.dj t wd u wu mw mwu nu with h|h<;>omega
noncomputable def Sg(D:Ad):Sp:=λvs H Q _=>∃ x A s m mx c xs ws b ps g,vs=[.ref x,.ref m,.ref b]/\Qs D H x A s m mx c xs ws b ps g/\∀ H',aw H H'->Q .non H'
noncomputable abbrev BL:List Str:=["ideal","memory","book","uses","pair","a"]
theorem eN:av BL ["ideal","memory","book"] (ar lM):=fsc
theorem zV(F:Fun K "first_misplaced" "first_misplaced" lM D.bL D.fM)(T:Txt K mg D)
  (mF:9e7 5 D.dZ D.jS ["ideal","pair"] (Qr D))
  (ju:9e7 1 D.fg D.jr ["self"] (Jb D)):9e7 6 D.bL D.fM ["ideal","memory","book"] (Sg D):=by
 refine F.oa eN F.b3 λcdv A' outer s' H vs Q E hr h=>?_;obtain⟨x,A,s,m,mx,c,xs,ws,b,ps,g,rfl,S,k⟩:=h;have hu:=jw hr;refine⟨_,(PSs.nox (ai (aO (i:=3) eN.nd rfl 1e3 jE)
  (ai (eK aoY rfl (cI (pv 2)) (aK (i:=4) eN.nd rfl 1e3)
   (aj (eK aoY rfl (cI (mF.c hr T.wN T.mD aV (aa (pv 0) 3e0))) (aK (i:=5) eN.nd rfl 1e3)
    (aj (mY hu (pv 3) (pv 5) (aJ cc (Vn hu (pv 3) (pv 5) au ⟨rfl,rfl,rfl,rfl⟩) au) rfl)))))
  (ai (eK aoY rfl (cI (pv 2)) (aK (i:=4) eN.nd rfl 1e3)
   (aj (eK aoY rfl (cI (mF.c hr T.wN T.mD aV (aa (pv 0) 3e0))) (aK (i:=5) eN.nd rfl 1e3)
    (aj (bS (PW.pt (pw_or (qJ (pE AK yy au (pv 5) (ju.m0 hr (pv 1) T.bD T.wK aV))) (pw_or1 (aG QM (hG hu (pv 3) (pv 5) 1e7) au (aU _)))))
     (aj (aF (cW (aa cK (aa (bT cf (pv 4) au 1e7) ah)))))
     aR)))))
  (aj (aF bR)))))),?_⟩
 have z:=S.M.z;have nx:=S.nx;have lt:(keys s).length<=10000:=by unfold keys;rw[aoG];exact S.G.few
 intro dd hdd;have s1:=aw.upd (o:=.dK []) hdd;refine⟨_,rfl,b,rfl,⟨_,SqL.of (s1 _ _ S.hb)⟩,gN (K:=K) (a:=b) (xs:=ps) (λi σ Hx=>∃ v4 v5,σ=[some 5e2,some (.ref m),some (.ref b),some (.ref dd),v4,v5]/\aw H Hx/\Hx dd=some (.dK (Dr (adr s g ((keys s).take i))))) ⟨none,none,rfl,s1,ag⟩ (λi σ Hx _ ⟨_,_,_,sx,_⟩=>SqL.of (sx _ _ S.hb)) ?_ ?_⟩
 ·rintro i v σ Hx hi ⟨v4,v5,rfl,sx,hd⟩
  have S1:=S.same sx;obtain⟨t,q,wd,rfl,hq,mk,ki,mw⟩:=S1.at hi;have ef:=S.G.fld mw;have f6:=S.G.f6 t wd mw;have al:=To (g:=g) S.G (ts:=(keys s).take i) λt m=>apO m;have tl:((keys s).take i).length<=(keys s).length:=by rw[aoS];omega
  refine⟨_,rfl,_,rfl,x,A,s,q,t,g t,wd,rfl,S1.J,S.G,nx,hq,mw,λp H1 sp hp zp=>?_⟩;refine⟨p,rfl,⟨_,SqL.of zp⟩,gN (K:=K) (a:=p) (xs:=((List.range (wd.length+1)).map λi:Nat=>g t+(i:Int)).map V.int) (λj σ Hy=>∃ v5,σ=[some 5e2,some (.ref m),some (.ref b),some (.ref dd),some (.ref q),v5]/\aw H Hy/\Hy p=some (.lst (((List.range (wd.length+1)).map λi:Nat=>g t+(i:Int)).map V.int))/\Hy dd=some (.dK (Dr (adr s g ((keys s).take i)++(List.range j).map λi:Nat=>g t+(i:Int))))) ⟨_,rfl,sx.trans sp,zp,by rw[show((List.range 0).map λi:Nat=>g t+(i:Int))=[] from rfl,apw];exact sp _ _ hd⟩ (λj σ Hy _ ⟨_,_,_,y,_⟩=>SqL.of y) ?_ ?_⟩
  ·rintro j v σ Hy hj ⟨v5,rfl,sy,hy,hyd⟩
   have jl:j<wd.length+1:=(by have:=(aoE.mp hj).1;rw[aoG,aoG,apE]at this;exact this);rw[aoR,aoR,ap9 jl]at hj;cases hj;have na:g t+(j:Int)∉adr s g ((keys s).take i)++(List.range j).map λi:Nat=>g t+(i:Int):=λy=>by
    rcases aoU.mp y with y|y
    ·exact Yx S.G S.P ki mw jl y
    ·obtain⟨k',hk',e⟩:=ao5.mp y
     have:=apU.mp hk'
     omega
   refine⟨_,rfl,dd,rfl,.inl ⟨_,.inl hyd⟩,_,rfl,_,tM.k (k:=Sum.inl (g t+(j:Int))) hyd,0,1,(by rw[E0 na];rfl),rfl,_,rfl,_,rfl,dd,_,rfl,Fg.k (k:=Sum.inl (g t+(j:Int))) hyd (by unfold Dr;rw[aoG,aoJ,aoG,apE];exact apx (show(adr s g ((keys s).take i)).length+j<=80000 by omega) 2e0),?_⟩;refine⟨_,rfl,λb u y=>by rw[af (ao y hdd)];exact sy b u y,by rw[af (az hy hyd (by intro y;cases y))];exact hy,?_⟩;rw[ag,show V.int (0+1)=.int 1 from rfl,Us na,ap1,aqB,aoV];rfl
  ·rintro σ Hy ⟨v5,rfl,sy,hy,hyd⟩
   refine⟨_,_,rfl,sy,?_⟩;rw[aoG,aoG,apE]at hyd;rw[take_snoc ki,VQ,ef];exact hyd
 ·rintro σ Hx ⟨v4,v5,rfl,sx,hd⟩
  rw[S.pr.1,aoM (aoL _)]at hd;refine⟨_,rfl,b,rfl,⟨_,SqL.of (sx _ _ S.hb)⟩,gN (K:=K) (a:=b) (xs:=ps) (λi σ Hy=>∃ v4 v5,σ=[some 5e2,some (.ref m),some (.ref b),some (.ref dd),v4,v5]/\aw Hx Hy) ⟨_,_,rfl,aw.refl _⟩ (λi σ Hy _ ⟨_,_,_,sy⟩=>SqL.of (sy _ _ (sx _ _ S.hb))) ?_ ?_⟩
  ·rintro i v σ Hy hi ⟨v4,v5,rfl,sy⟩
   have S1:=S.same (sx.trans sy);obtain⟨t,q,wd,rfl,hq,mk,ki,mw⟩:=S1.at hi;have ef:=S.G.fld mw;obtain⟨g0,g1⟩:=S.P.in_ t wd mw;refine⟨_,rfl,_,rfl,x,A,s,q,t,g t,wd,rfl,S1.J,S.G,nx,hq,mw,λp H1 sp hp zp=>?_⟩;refine⟨p,rfl,⟨_,SqL.of zp⟩,gN (K:=K) (a:=p) (xs:=((List.range (wd.length+1)).map λi:Nat=>g t+(i:Int)).map V.int) (λj σ Hz=>∃ v5,σ=[some 5e2,some (.ref m),some (.ref b),some (.ref dd),some (.ref q),v5]/\aw H1 Hz) ⟨_,rfl,aw.refl _⟩ (λj σ Hz _ ⟨_,_,sz⟩=>SqL.of (sz _ _ zp)) ?_ ?_⟩
   ·rintro j v σ Hz hj ⟨v5,rfl,sz⟩
    have jl:j<wd.length+1:=(by have:=(aoE.mp hj).1;rw[aoG,aoG,apE]at this;exact this);rw[aoR,aoR,ap9 jl]at hj;cases hj;have S2:=S1.same (sp.trans sz);have ma:g t+(j:Int)∈adr s g 4e6:=Tn.mpr ⟨t,mk,j,by rw[ef];exact jl,rfl⟩;refine⟨_,rfl,0,g t+(j:Int),rfl,rfl,_,rfl,jP (decide_eq_true 1e1) ?_⟩;refine⟨_,rfl,m,_,_,rfl,S2.M.i,1e4,m,mx,c,xs,ws,rfl,S2.M,_,_,rfl,rfl,_,rfl,fV (by rw[decide_eq_true (show g t+(j:Int)<(ws.length:Int) by omega)];rfl) ?_⟩;exact⟨_,rfl,_,rfl,dd,.int 1,rfl,.inl ⟨_,Sum.inl (g t+(j:Int)),.inl (sz _ _ (sp _ _ (sy _ _ hd))),rfl,(Lp ma).symm⟩,1,1,rfl,rfl,_,rfl,fV rfl ⟨_,rfl,sz⟩⟩
   ·rintro σ Hz ⟨v5,rfl,sz⟩
    exact⟨_,_,rfl,sy.trans (sp.trans sz)⟩
  ·rintro σ Hy ⟨v4,v5,rfl,sy⟩
   exact k _ (sx.trans sy)
noncomputable def Xr(D:Ad):Sp:=λvs H Q _=>∃ x A s m mx c xs ws b ps g,∃(hl nl:Addr) (ys zs:List V),vs=[.ref x,.ref m,.ref hl,.ref nl,.ref b]/\NG D H x A s m mx c xs ws b ps g/\H hl=some 5e0/\H nl=some (.lst zs)/\ys.length=8/\zs.length=8/\(∀(i:Nat) (w:Wd) (y:V),s.aZ[i]?=some w->ys[i]?=some y->∃ mw,MV H y mw/\Lk ws (kvG 4e6 g) w mw)/\(∀(i:Nat) (n:Option Int) (y:V),s.names[i]?=some n->zs[i]?=some y->∃ mw,MV H y mw/\Lk ws (kvG 4e6 g) (nmW n) mw)/\∀ H',aw H H'->Q .non H'
noncomputable abbrev jW:List Str:=["ideal","memory","hands","names","book","unlike","named"]
theorem bh:av jW ["ideal","memory","hands","names","book"] (ar fH):=fsc
theorem Gb(F:Fun K "first_unlike" "first_unlike" fH D.bJ D.dY)(T:Txt K mg D)
  (aS:9e7 1 D.bp D.cN ["self"] (qY D))
  (fN:9e7 6 D.bL D.fM ["ideal","memory","book"] (Sg D))
  (nR:9e7 5 D.bA D.dw ["ideal","memory","book"] (Qq D))
  (dv:9e7 8 D.a7 D.dt ["ideal","memory","book"] (EZ D))
  (cw:9e7 8 D.br D.dQ ["kind","told","memory","words","book"] (Je D))
  (cE:9e7 2 D.bP D.dO ["self"] (yG D))
  (cF:9e7 2 D.bQ D.dP ["self"] (yI D))
  (bG:9e7 3 D.cx D.eU ["t"] (iP)):9e7 9 D.bJ D.dY ["ideal","memory","hands","names","book"] (Xr D):=by
 refine F.oa bh F.b5 λcdv A' outer s' H vs Q E hr h=>?_;obtain⟨x,A,s,m,mx,c,xs,ws,b,ps,g,hl,nl,ys,zs,rfl,S,hy,hz,l8,n8,hH,hN,k⟩:=h;refine⟨_,(PSs.nox (ai (bS (aG (V5 hr.VW) (jD (cl:=[]) (x := "pair") (idx:=[]) (NC:=["pair"]) ?co2 rfl (cI (pv 4)) (λC fp s₀ H₀=>(bT (r:=XW K) cf (pv 0) au 1e7))) (aS.m0 hr (pv 0) T.ae T.dU aV) (aU _))
   (aj (aF (cW (aa cK ah))))
   aR)
  (ai (aO (i:=5) bh.nd rfl 1e3 (fN.c hr T.rq T.jy aV (aa (pv 0) (aa (pv 1) 3e0))))
  (ai (bS (aG jI (pv 5) bR (aU _))
   (aj (aO (i:=5) bh.nd rfl 1e3 (nR.c hr T.tq T.j8 aV (aa (pv 0) (aa (pv 1) 3e0)))))
   aR)
  (ai (bS (aG jI (pv 5) bR (aU _))
   (aj (aO (i:=5) bh.nd rfl 1e3 (dv.c hr T.og T.gQ aV (aa (pv 0) (aa (pv 1) 3e0)))))
   aR)
  (ai (bS (aG jI (pv 5) bR (aU _))
   (aj (aO (i:=5) bh.nd rfl 1e3 (cw.c hr T.iu T.dW aV (aa cK (aa (cE.m0 hr (pv 0) T.ae T.kY aV) (aa (pv 1) (aa (pv 2) 3e0)))))))
   aR)
  (ai (bS (aG jI (pv 5) bR (aU _))
   (ai (Ii (cl:=[]) (x := "t") (idx:=[]) (NC:=["t"]) (i:=6) bh.nd rfl rfl ?co1 rfl (cI (cF.m0 hr (pv 0) T.ae T.kZ aV)) (λC fp s₀ H₀=>(pB (aG jI (pv 0) bR (aU _)) bR (bG.c hr T.kN T.ip yA 6e0))))
   (aj (aO (i:=5) bh.nd rfl 1e3 (cw.c hr T.iu T.dW aV (aa cK (aa (pv 6) (aa (pv 1) (aa (pv 3) 3e0))))))))
   aR)
  (aj (aF (pv 5)))))))))),?_⟩
 case co1 =>
  exact gk (sc:=ar fH) (N:=jW) (ns:=[]) rfl rfl rfl 2e4 rfl rfl (by
   intro q hq;cases hq)
 case co2 =>
  exact gk (sc:=ar fH) (N:=jW) (ns:=[]) rfl rfl rfl 2e4 rfl rfl (by
   intro q hq;cases hq)
 have lp:=S.pr.1;have lk:(keys s).length<=10000:=by unfold keys;rw[aoG];exact S.G.few
 refine⟨_,rfl,b,rfl,⟨_,SqL.of S.hb⟩,λL hL=>?_⟩;refine fG (K:=K) (a:=b) (xs:=ps) (λi us Hc=>us=((keys s).take i).map V.int/\aw H Hc/\Hc L=some (.lst us)) ⟨rfl,aw.upd hL,ag⟩ (λi us Hc hi ⟨e,_,z⟩=>⟨z,by rw[e,aoG,aoS];omega⟩) (λi us Hc _ ⟨_,sc,_⟩=>SqL.of (sc _ _ S.hb)) (lE 1e1) (λi v us Hc hi ⟨e,sc,z⟩=>?_) (λus H1 ⟨e,s1,z1⟩=>?_)
 ·obtain⟨t,q,wd,rfl,hq,mk,ki,mw⟩:=S.at hi
  refine⟨_,rfl,q,_,0,.int t,rfl,rfl,SqT.of (sc _ _ hq),rfl,z,?_,λb u y=>by rw[af (ao y hL)];exact sc b u y,ag⟩;rw[take_snoc ki,aoV,e];rfl
 ·rw[lp,aoM (aoL _)]at e
  subst e;have S1:=S.same s1;refine⟨_,rfl,x,_,_,rfl,S1.J.ax,1e4,x,A,s,rfl,S1.J,S.G,λp2 H2 s2 hp2 z2=>?_⟩;have fl:((keys s).map V.int).all lr=true:=by rw[List.all_map];exact apJ.mpr λ_ _=>rfl
  refine⟨L,p2,_,_,rfl,rfl,SqL.of (s2 _ _ z1),SqL.of z2,rfl,fl,fl,_,rfl,fV (by rw[Ij rfl,decide_eq_true rfl];rfl) ?_⟩;have S2:=S1.same s2;refine⟨_,rfl,_,rfl,_,rfl,x,A,s,m,mx,c,xs,ws,b,ps,g,rfl,S2.p,λH3 s3=>?_⟩;have S3:=S2.same s3;refine⟨_,rfl,rfl,_,rfl,jP (decide_eq_true rfl) ⟨_,rfl,_,rfl,_,rfl,x,A,s,m,mx,c,xs,ws,b,ps,g,rfl,S3,λH4 s4=>?_⟩⟩;have S4:=S3.same s4;refine⟨_,rfl,rfl,_,rfl,jP (decide_eq_true rfl) ⟨_,rfl,_,rfl,_,rfl,x,A,s,m,mx,c,xs,ws,b,ps,g,rfl,S4,λH5 s5=>?_⟩⟩;have S5:=S4.same s5;have E5:=((s1.trans s2).trans s3).trans (s4.trans s5);refine⟨_,rfl,rfl,_,rfl,jP (decide_eq_true rfl) ⟨_,rfl,x,_,_,rfl,S5.J.ax,1e4,x,A,s,rfl,S5.J,S.G,λp6 H6 s6 hp6 z6=>?_⟩⟩;have S6:=S5.same s6;have E6:=E5.trans s6;refine⟨_,rfl,_,rfl,_,rfl,m,mx,c,xs,ws, "hand",p6,hl,b,A.hx,ys,ps,keys s,g,rfl,S6.M,S.gm,z6,E6 _ _ hy,by rw[S6.J.rhl.1,S.G.h8,l8],λi v y h1 h2=>?_,S6.hb,S6.pr,keys_nodup S.G,λH7 s7=>?_⟩
  ·obtain⟨w',hw'⟩:∃ w',s.aZ[i]?=some w':=⟨s.aZ[i]'(by rw[<-S6.J.rhl.1];exact(aoE.mp h1).1),aoF _⟩
   obtain⟨mw',e1,e2⟩:=hH i w' y hw' h2;exact⟨w',mw',S6.J.rhl.2 i v w' h1 hw',e1.keep (bg.of E6),e2⟩
  have S7:=S6.same s7;have E7:=E6.trans s7;refine⟨_,rfl,rfl,_,rfl,jP (decide_eq_true rfl) ⟨_,rfl,x,_,_,rfl,S7.J.ax,1e4,x,A,s,rfl,S7.J,S.G,λp8 H8 s8 hp8 z8=>?_⟩⟩;refine⟨p8,rfl,⟨_,SqL.of z8⟩,λL2 hL2=>?_⟩;refine fG (K:=K) (a:=p8) (xs:=s.names.map nmV) (λi us Hc=>us.length=i/\aw H8 Hc/\Hc L2=some (.lst us)/\∀(j:Nat) (u:V) (n:Option Int),us[j]?=some u->s.names[j]?=some n->WV Hc u (nmW n)) ⟨rfl,aw.upd hL2,ag,(λj u n h=>by cases h)⟩ (λi us Hc _ ⟨e,_,z,_⟩=>⟨z,e⟩) (λi us Hc _ ⟨_,sc,_⟩=>SqL.of (sc _ _ z8)) (by rw[aoG,S.G.n8];decide) (λi v us Hc hi ⟨e,sc,z,hq⟩=>?_) (λus H9 ⟨e,s9,z9,hq⟩=>?_)
  ·rw[aoR]at hi
   obtain⟨n,hn,rfl⟩:=aoZ.mp hi;have fin:∀(u:V) (Hd:Hp),aw Hc Hd->WV Hd u (nmW n)->Hd L2=some (.lst us)/\(us++[u]).length=i+1/\aw H8 (upd Hd L2 (.lst (us++[u])))/\upd Hd L2 (.lst (us++[u])) L2=some (.lst (us++[u]))/\∀(j:Nat) (u':V) (n:Option Int),(us++[u])[j]?=some u'->s.names[j]?=some n->WV (upd Hd L2 (.lst (us++[u]))) u' (nmW n):=λu Hd sd wu=>by
    have zd:=sd _ _ z;refine⟨zd,by rw[aoJ,e];rfl,λb v y=>by rw[af (ao y hL2)];exact sd _ _ (sc b v y),ag,λj u' n' h1 h2=>?_⟩;have tu:bg Hd (upd Hd L2 (.lst (us++[u]))):=bg.set zd (by intro z y;cases y);rcases aps j us.length with cj|cj
    ·rw[aoX cj]at h1
     exact((hq j u' n' h1 h2).keep (bg.of sd)).keep tu
    ·have ej:j=us.length:=by have:=(aoE.mp h1).1;rw[aoJ,apc]at this;omega
     rw[ej,ao1 (aoL _),aqb]at h1;cases h1;rw[ej,e,hn]at h2;cases h2;exact wu.keep tu
   cases n with
   | none=>exact⟨_,rfl,rfl,_,rfl,jP (decide_eq_true rfl) (fin .non Hc (aw.refl _) rfl)⟩
   | some t =>
    obtain⟨wt,mwt⟩:=S.G.nn t (aoI hn);refine⟨_,rfl,rfl,_,rfl,fV (decide_eq_false 1e0) ⟨_,rfl,t,rfl,(S.G.lt t wt mwt).1,λtp Hd sd hd=>?_⟩⟩;exact fin (.ref tp) Hd sd ⟨tp,rfl,hd⟩
  ·have S9:=(S7.same s8).same s9
   have E9:=(E7.trans s8).trans s9;rw[aoG]at e;refine⟨_,rfl,_,rfl,_,rfl,_,rfl,m,mx,c,xs,ws, "name",L2,nl,b,us,zs,ps,keys s,g,rfl,S9.M,S.gm,z9,E9 _ _ hz,by rw[e,S.G.n8,n8],λi v y h1 h2=>?_,S9.hb,S9.pr,keys_nodup S.G,λH10 s10=>?_⟩
   ·obtain⟨n',hn'⟩:∃ n',s.names[i]?=some n':=⟨s.names[i]'(by rw[<-e];exact(aoE.mp h1).1),aoF _⟩
    obtain⟨mw',e1,e2⟩:=hN i n' y hn' h2;exact⟨nmW n',mw',hq i v n' h1 hn',e1.keep (bg.of E9),e2⟩
   ·exact⟨_,rfl,k _ (E9.trans s10)⟩
noncomputable def Qt(D:Ad):Sp:=λvs H Q E=>Xr D vs H (λ_ H'=>Q (.bl true) H') E
noncomputable abbrev Me:List Str:=["ideal","memory","hands","names","book"]
theorem yX:av Me ["ideal","memory","hands","names","book"] (ar pN):=fsc
theorem JO(F:Fun K "is_picture" "is_picture" pN D.dr D.hJ)(T:Txt K mg D)
  (qF:9e7 9 D.bJ D.dY ["ideal","memory","hands","names","book"] (Xr D)):9e7 10 D.dr D.hJ ["ideal","memory","hands","names","book"] (Qt D):=by
 refine F.oa yX F.b5 λcdv A' outer s' H vs Q E hr h=>?_;obtain⟨x,A,s,m,mx,c,xs,ws,b,ps,g,hl,nl,ys,zs,rfl,S,hy,hz,l8,n8,hH,hN,k⟩:=h;refine⟨_,(PSs.nox (aj (aF (vJ jI (qF.c hr T.qA T.jV aV (aa (pv 0) (aa (pv 1) (aa (pv 2) (aa (pv 3) 3e0))))) bR (aU _))))),?_⟩;exact⟨_,rfl,_,rfl,_,rfl,_,rfl,_,rfl,x,A,s,m,mx,c,xs,ws,b,ps,g,hl,nl,ys,zs,rfl,S,hy,hz,l8,n8,hH,hN,λH' s'=>⟨rfl,k _ s'⟩⟩
theorem Sm.of7{n:Int}(h0:-100000000<=n)(h1:n<=100000000):Sm n:=K8 (Nat.lt_trans (show n.natAbs<200000000 by omega) 2e0)
theorem adb{a b:Int}(y:decide (V.int a=V.int b)=true):a=b:=by
 have:=of_decide_eq_true y
 injection this
theorem aaf{a b:Int}(y:¬decide (V.int a=V.int b)=true):¬a=b:=λz=>y (decide_eq_true (by rw[z]))
noncomputable def IE(K:W.Frag):Sp:=λvs H Q _=>∃(a:Addr) (ns:List Int) (j:Int),vs=[.ref a,.int j]/\SqL K H a 4e4/\0<=j/\Q (.int (ns.getD j.toNat 0)) H
noncomputable abbrev OF:List Str:=["script","k"]
theorem Mf:av OF ["script","k"] (ar xj):=fsc
theorem Mg(F:Fun K "_law_cell" "_law_cell" xj D.fK D.jX)(T:Txt K mg D):9e7 1 D.fK D.jX ["script","k"] (IE K):=by
 refine F.oa Mf F.b2 λcdv A' outer s' H vs Q E hr h=>?_;obtain⟨a,ns,j,rfl,hS,j0,k⟩:=h;refine⟨_,(PSs.nox (ai (bS (aG yy (pv 1) (bj aP rfl T.ji PyProof.Rows.Boot.«len» 6e0) (aU _))
   (aj (aF (bT gI (pv 0) (pv 1) 1e7)))
   aR)
  (aj (aF au)))),?_⟩
 refine⟨_,rfl,_,rfl,a,_,rfl,.inl hS,j,_,rfl,rfl,_,rfl,eT (λh=>?_) (λh=>?_)⟩
 case refine_2 =>
  have hl:ns.length<=j.toNat:=by
   have h:=of_decide_eq_false (apm.mpr h);rw[aoG]at h;omega
  rw[apB,List.getElem?_eq_none_iff.mpr hl]at k;exact k
 have hl:j.toNat<ns.length:=by
  have:=of_decide_eq_true h
  rw[aoG]at this;omega
 exact⟨_,rfl,_,rfl,a,_,j,.int ns[j.toNat],rfl,rfl,hS,yR j0 (by rw[aoR,aoF hl];rfl),by rw[apB,aoF hl]at k;exact k⟩
noncomputable def Ds:Sp:=λvs H Q _=>∃ c j:Int,vs=[.int c,.int j]/\0<=j/\j<=1000/\∀ r:Int,0<=r->r<=300000000->Q (.int r) H
noncomputable abbrev Mh:List Str:=["cell","k","first","second"]
theorem sP:av Mh ["cell","k"] (ar uv):=fsc
theorem JP(F:Fun K "_law_mixed" "_law_mixed" uv D.ed D.jc)(T:Txt K mg D):9e7 1 D.ed D.jc ["cell","k"] (Ds):=by
 refine F.oa sP F.b2 λcdv A' outer s' H vs Q E hr h=>?_;obtain⟨c,j,rfl,j0,j1,k⟩:=h;refine⟨_,(PSs.nox (ai (aO (i:=2) sP.nd rfl 1e3 (aJ iK (aJ kh (aJ cc (aJ cc (pv 0) (aJ kh au (pv 1))) au) au) au))
  (ai (aO (i:=3) sP.nd rfl 1e3 (aJ iK (aJ cc (aJ cc (aJ kh (pv 2) (pv 2)) (aJ kh au (pv 1))) au) au))
  (aj (aF (aJ qU (aJ iK (aJ kh (pv 3) (pv 3)) au) au)))))),?_⟩
 refine⟨_,rfl,_,rfl,7919,j,rfl,rfl,.inl ⟨by decide,by decide⟩,c,_,rfl,rfl,_,1,rfl,rfl,_,48271,rfl,rfl,.inr ⟨by decide,by decide⟩,_,2147483647,rfl,rfl,(by show(0:Int)<2147483647;decide),?_⟩;have q0:=api ((c+7919*j+1)*48271) (show(2147483647:Int)≠0 by decide);have q1:=ape ((c+7919*j+1)*48271) (show(0:Int)<2147483647 by decide);obtain⟨n2,en2⟩:∃ n2:Int,(c+7919*j+1)*48271%2147483647=n2:=⟨_,rfl⟩;rw[en2]at q0 q1;simp only[en2,yw];refine⟨_,rfl,_,rfl,n2,n2,rfl,rfl,.inl ⟨by omega,by omega⟩,_,rfl,40692,j,rfl,rfl,.inl ⟨by decide,by decide⟩,_,_,rfl,rfl,_,3,rfl,rfl,_,2147483629,rfl,rfl,(by show(0:Int)<2147483629;decide),?_⟩;have q2:=api (n2*n2+40692*j+3) (show(2147483629:Int)≠0 by decide);have q3:=ape (n2*n2+40692*j+3) (show(0:Int)<2147483629 by decide);obtain⟨n3,en3⟩:∃ n3:Int,(n2*n2+40692*j+3)%2147483629=n3:=⟨_,rfl⟩;rw[en3]at q2 q3;simp only[en3,yw];refine⟨_,rfl,_,rfl,n3,n3,rfl,rfl,.inl ⟨by omega,by omega⟩,_,2147483587,rfl,rfl,(by show(0:Int)<2147483587;decide),_,8,rfl,rfl,⟨by decide,by decide⟩,?_⟩;have q4:=api (n3*n3) (show(2147483587:Int)≠0 by decide);have q5:=ape (n3*n3) (show(0:Int)<2147483587 by decide);exact k _ (Int.ediv_nonneg q4 2e0) (by generalize n3*n3%2147483587=y at q4 q5;show y/8<=_;omega)
noncomputable def Wu(D:Ad):Sp:=λvs H Q E=>∃ x A s,∃ w:Int,vs=[.ref x,.int w]/\IH D H x A s/\Gd s/\(w=14\/s.rnd=true)/\∀ dd,dd.ok->Fin D x A s H (dDo s dd) Q E
noncomputable abbrev Mi:List Str:=["heap","way"]
theorem JQ:av Mi ["heap","way"] (ar uw):=fsc
theorem JR(F:Fun K "_law_round" "_law_round" uw D.f7 D.mL)(T:Txt K mg D)
  (cD:9e7 5 D.bO D.dN ["self"] (Dn D))
  (pA:9e7 4 D.eB D.jh ["self"] (Wo D)):9e7 9 D.f7 D.mL ["heap","way"] (Wu D):=by
 refine F.oa JQ F.b2 λcdv A' outer s' H vs Q E hr h=>?_;obtain⟨x,A,s,w,rfl,J,Gs,hw,k⟩:=h;refine⟨_,(aj (bS (aG tK (pv 1) au (aU _))
   (aj (aE (cD.m0 hr (pv 0) T.ae T.kX px)))
   (aj (aE (pA.m0 hr (pv 0) T.ae T.DA px))))),?_⟩
 refine⟨_,rfl,rfl,_,rfl,eT (λy=>⟨_,rfl,x,_,_,rfl,J.ax,1e4,x,A,s,rfl,J,Gs.g,k .small trivial⟩) (λy=>?_)⟩;have q:=hw.resolve_left (aaf y);refine⟨_,rfl,x,_,_,rfl,J.ax,1e4,x,A,s,rfl,J,Gs,?_⟩;have k:=k .turn trivial;rw[show dDo s .turn=Wm s from if_pos q]at k;exact k
noncomputable def Qu(D:Ad):Sp:=λvs H Q E=>∃ x A s,∃ n:Int,vs=[.ref x,.int n]/\IH D H x A s/\Gd s/\s.nxt<10000/\∀ dd,dd.ok->Fin D x A s H (dDo s dd) Q E
noncomputable abbrev OG:List Str:=["heap","number","way","h","g","k"]
theorem mR:av OG ["heap","number"] (ar xk):=fsc
theorem Mj(F:Fun K "_law_deed" "_law_deed" xk D.h9 D.oJ)(T:Txt K mg D)
  (nS:9e7 8 D.dC D.iH ["self","h","n"] (Qj D))
  (uN:9e7 7 D.fD D.mK ["self","g","k","h"] (Qc D))
  (xB:9e7 7 D.gx D.oA ["self","h","g","k"] (SV D))
  (xC:9e7 6 D.gy D.oB ["self","h","g"] (SR D))
  (xD:9e7 5 D.gz D.oE ["self","h"] (SS D))
  (sQ:9e7 6 D.dR D.kI ["self","h","x"] (Lh D))
  (xE:9e7 7 D.gA D.oH ["self","w","h"] (SU D))
  (nU:9e7 7 D.dD D.iI ["self","h","w"] (Qk D))
  (jQ:9e7 1 D.bX D.fe ["self"] (Wq D))
  (uO:9e7 9 D.f7 D.mL ["heap","way"] (Wu D))
  (me:9e7 6 D.cZ D.g4 ["self"] (Wn D)):9e7 10 D.h9 D.oJ ["heap","number"] (Qu D):=by
 refine F.oa mR F.b2 λcdv A' outer s' H vs Q E hr h=>?_;obtain⟨x,A,s,n,rfl,J,Gs,hnx,k⟩:=h;refine⟨_,(ai (aO (i:=2) mR.nd rfl 1e3 (aJ iK (pv 1) au))
  (ai (aO (i:=3) mR.nd rfl 1e3 (aJ iK (aJ qU (pv 1) au) au))
  (ai (aO (i:=4) mR.nd rfl 1e3 (aJ iK (aJ qU (pv 1) au) au))
  (ai (aO (i:=5) mR.nd rfl 1e3 (aJ iK (aJ qU (pv 1) au) au))
  (aj (bS (aG yy (pv 2) au (aU _))
   (aj (aE (nS.m hr (pv 0) T.ae T.Bb px (aa (pv 3) (aa (aJ iK (aJ qU (pv 1) au) au) ah)))))
   (aj (bS (aG yy (pv 2) au (aU _))
    (aj (aE (uN.m hr (pv 0) T.ae T.zi px (aa (pv 4) (aa (pv 5) 5e3)))))
    (aj (bS (aG tK (pv 2) au (aU _))
     (aj (aE (xB.m hr (pv 0) T.ae T.A7 px (aa (pv 3) (aa (pv 4) (aa (pv 5) ah))))))
     (aj (bS (aG tK (pv 2) au (aU _))
      (aj (aE (xC.m hr (pv 0) T.ae T.A8 px (aa (pv 3) 3e0))))
      (aj (bS (aG tK (pv 2) au (aU _))
       (aj (aE (xD.m hr (pv 0) T.ae T.A9 px 5e3)))
       (aj (bS (aG tK (pv 2) au (aU _))
        (aj (aE (sQ.m hr (pv 0) T.ae T.xM px (aa (pv 3) (aa (aJ ZI (aJ iK (aJ qU (pv 1) au) (aJ Df au au)) au) ah)))))
        (aj (bS (aG tK (pv 2) au (aU _))
         (aj (aE (xE.m hr (pv 0) T.ae T.Ba px (aa (pv 5) 5e3))))
         (aj (bS (aG tK (pv 2) au (aU _))
          (aj (aE (nU.m hr (pv 0) T.ae T.Bc px (aa (pv 3) (aa (pv 5) ah)))))
          (aj (bS (PW.pt (pw_or (aG tK (pv 2) au (aU _)) (pw_or1 (De (jQ.m0 hr (pv 0) T.ae T.va px)))))
           (aj (aE (uO.c hr T.LL T.uE px (aa (pv 0) 3e3))))
           (aj (aE (me.m0 hr (pv 0) T.ae T.zj px))))))))))))))))))))))))),?_⟩
 have G:=Gs.g;have b1:=m8 n 16;have b2:=m8 n 128;have b4:0<=n/1024%7/\n/1024%7<7:=⟨api _ 2e0,ape _ 2e0⟩;have b5:0<=n/7168%7/\n/7168%7<7:=⟨api _ 2e0,ape _ 2e0⟩;have b6:0<=n/7168%(10 ^ Int.toNat 7)/\n/7168%(10 ^ Int.toNat 7)<10000000:=⟨api _ 2e0,ape _ 2e0⟩;refine⟨_,rfl,n,16,rfl,rfl,(by show(0:Int)<16;decide),?_⟩;refine⟨_,rfl,n,16,rfl,rfl,⟨by decide,by decide⟩,_,8,rfl,rfl,(by show(0:Int)<8;decide),?_⟩;refine⟨_,rfl,n,128,rfl,rfl,⟨by decide,by decide⟩,_,8,rfl,rfl,(by show(0:Int)<8;decide),?_⟩;refine⟨_,rfl,n,1024,rfl,rfl,⟨by decide,by decide⟩,_,7,rfl,rfl,(by show(0:Int)<7;decide),?_⟩;refine⟨_,rfl,_,5,rfl,rfl,_,rfl,eT (λy=>?_) (λy=>?_)⟩
 ·exact⟨_,rfl,x,_,_,rfl,J.ax,1e4,_,rfl,_,rfl,n,7168,rfl,rfl,⟨by decide,by decide⟩,_,7,rfl,rfl,(by show(0:Int)<7;decide),x,A,s,(n/16%8),(n/7168%7),rfl,J,Gs,hnx,Sm.of7 1e1 1e1,Sm.of7 1e1 1e1,k (.make (n/16%8) (n/7168%7)) ⟨b1,by omega,by omega⟩⟩
 refine⟨_,rfl,_,8,rfl,rfl,_,rfl,eT (λy=>?_) (λy=>?_)⟩
 ·exact⟨_,rfl,x,_,_,rfl,J.ax,1e4,_,rfl,_,rfl,_,rfl,x,A,s,(n/128%8),(n/1024%7),(n/16%8),rfl,J,G,Sm.of7 1e1 1e1,Sm.of7 1e1 1e1,Sm.of7 1e1 1e1,k (.store (n/128%8) (n/1024%7) (n/16%8)) ⟨b2,by omega,by omega,b1⟩⟩
 refine⟨_,rfl,rfl,_,rfl,eT (λy=>?_) (λy=>?_)⟩
 ·exact⟨_,rfl,x,_,_,rfl,J.ax,1e4,_,rfl,_,rfl,_,rfl,x,A,s,(n/16%8),(n/128%8),(n/1024%7),rfl,J,G,Sm.of7 1e1 1e1,Sm.of7 1e1 1e1,Sm.of7 1e1 1e1,k (.load (n/16%8) (n/128%8) (n/1024%7)) ⟨b1,b2,by omega,by omega⟩⟩
 refine⟨_,rfl,rfl,_,rfl,eT (λy=>?_) (λy=>?_)⟩
 ·exact⟨_,rfl,x,_,_,rfl,J.ax,1e4,_,rfl,_,rfl,x,A,s,(n/16%8),(n/128%8),rfl,J,G,Sm.of7 1e1 1e1,Sm.of7 1e1 1e1,k (.copy (n/16%8) (n/128%8)) ⟨b1,b2⟩⟩
 refine⟨_,rfl,rfl,_,rfl,eT (λy=>?_) (λy=>?_)⟩
 ·exact⟨_,rfl,x,_,_,rfl,J.ax,1e4,_,rfl,x,A,s,(n/16%8),rfl,J,G,Sm.of7 1e1 1e1,k (.drop (n/16%8)) b1⟩
 refine⟨_,rfl,rfl,_,rfl,eT (λy=>?_) (λy=>?_)⟩
 ·exact⟨_,rfl,x,_,_,rfl,J.ax,1e4,_,rfl,_,rfl,n,7168,rfl,rfl,⟨by decide,by decide⟩,10,7,rfl,rfl,⟨by decide,by decide⟩,_,_,rfl,rfl,(by show(0:Int)<10 ^ Int.toNat 7;decide +kernel),_,400,rfl,rfl,x,A,s,(n/16%8),(n/7168%(10 ^ Int.toNat 7)-400),rfl,J,G,Sm.of7 1e1 1e1,Sm.of7 1e1 1e1,k (.number (n/16%8) (n/7168%(10 ^ Int.toNat 7)-400)) ⟨b1,by omega,by omega⟩⟩
 refine⟨_,rfl,rfl,_,rfl,eT (λy=>?_) (λy=>?_)⟩
 ·exact⟨_,rfl,x,_,_,rfl,J.ax,1e4,_,rfl,_,rfl,x,A,s,(n/1024%7),(n/16%8),rfl,J,G,Sm.of7 1e1 1e1,Sm.of7 1e1 1e1,k (.name (n/1024%7) (n/16%8)) ⟨⟨by omega,by omega⟩,b1⟩⟩
 refine⟨_,rfl,rfl,_,rfl,eT (λy=>?_) (λy=>?_)⟩
 ·exact⟨_,rfl,x,_,_,rfl,J.ax,1e4,_,rfl,_,rfl,x,A,s,(n/16%8),(n/1024%7),rfl,J,G,Sm.of7 1e1 1e1,Sm.of7 1e1 1e1,k (.read (n/16%8) (n/1024%7)) ⟨b1,⟨by omega,by omega⟩⟩⟩
 refine⟨_,rfl,rfl,_,rfl,eT (λy=>vK ?_) (λy=>?_)⟩
 ·exact⟨_,rfl,_,rfl,x,A,s,_,rfl,J,Gs,.inl (adb y),k⟩
 refine⟨_,rfl,x,_,_,rfl,J.ax,1e4,x,A,s,rfl,J,_,rfl,eT (λq=>?_) (λq=>?_)⟩
 ·exact⟨_,rfl,_,rfl,x,A,s,_,rfl,J,Gs,.inr q,k⟩
 ·have k:=k .turn trivial
  rw[show dDo s .turn=GH s from if_neg q]at k;exact⟨_,rfl,x,_,_,rfl,J.ax,1e4,x,A,s,rfl,J,Gs,k⟩
theorem Qv(ns:List Int)(lo hi:Option Int):∃ cs:List Int,VY 4e4 lo hi=cs.map V.int/\cs.length<=ns.length/\(∀ c∈cs,c∈ns)/\∀ m,hi=some m->0<=m->cs.length<=m.toNat:=by
 refine⟨(ns.drop (HT.sIx ns.length 0 lo)).take (HT.sIx ns.length ns.length hi-HT.sIx ns.length 0 lo),?_,?_,λc hc=>List.mem_of_mem_drop (apO hc),λm e m0=>?_⟩
 ·unfold VY
  rw[aoG,List.map_take,List.map_drop]
 ·rw[aoS,apT]
  omega
 ·subst e
  rw[aoS]
  have:HT.sIx ns.length ns.length (some m)<=m.toNat:=by
   show(if m<0 then(m+(ns.length:Int)).toNat else min m.toNat ns.length)<=_;rw[if_neg 1e1];omega
  omega
noncomputable def Tp(K:W.Frag):Sp:=λvs H Q _=>∃(a:Addr) (ns:List Int) (mo:Int),vs=[.ref a,.int mo]/\SqL K H a 4e4/\ns.length<=63/\0<=mo/\∀(p:Addr) (zs:List Int) (H':Hp),aw H H'->H p=none->H' p=some (.lst (zs.map V.int))->zs.length<=mo.toNat->Q 4e3 H'
noncomputable abbrev Hj:List Str:=["script","most","numbers","way","k","cell","rest","turn"]
theorem eD:av Hj ["script","most"] (ar qy):=fsc
theorem Ge(F:Fun K "_law_numbers" "_law_numbers" qy D.d7 D.jU)(T:Txt K mg D)
  (ie:9e7 1 D.fK D.jX ["script","k"] (IE K))
  (cX:9e7 1 D.ed D.jc ["cell","k"] (Ds)):9e7 2 D.d7 D.jU ["script","most"] (Tp K):=by
 refine F.oa eD F.b2 λcdv A' outer s' H vs Q E hr h=>?_;obtain⟨a,ns,mo,rfl,hS,hlen,m0,k⟩:=h;have hu:=jw hr;refine⟨_,(PSs.nox (ai (aO (i:=2) eD.nd rfl 1e3 (lD (aa au (aa (aJ cc (aJ kh au au) (aJ kh au au)) (aa (aJ cc (aJ kh au au) (aJ kh au au)) ah)))))
  (ai (aO (i:=3) eD.nd rfl 1e3 (aJ iK (ie.c hr T.xu T.oW aV (aa (pv 0) (aa au ah))) au))
  (ai (eK aoY rfl (vM rfl T.ic 6e0) (nV rfl (bz (aK (i:=4) eD.nd rfl 1e3) (bz (aK (i:=5) eD.nd rfl 1e3) jY)))
   (ai (aO (i:=6) eD.nd rfl 1e3 (aJ iK (pv 5) (aJ Df au au)))
   (aj (eK aoY rfl (qK rfl T.tw (aa (aJ cc au (aJ iK (pv 6) au)) ah)) (aK (i:=7) eD.nd rfl 1e3)
    (ai (aE (Ie PySem.F.plainAttrs_list PySem.F.slot_list_append PySem.F.type_list_append ou (pv 2) (aa (aJ iK (bT gI (lD (aa (aJ qU (pv 6) au) (aa (cX.c hr T.kq T.hV aV (aa (pv 6) (aa (aJ cc (aJ kh au (pv 4)) (pv 7)) ah))) ah))) (pv 3) 1e7) (aJ Df au au)) ah)))
    (aj (aO (i:=6) eD.nd rfl 1e3 (aJ qU (pv 6) (aJ Df au au)))))))))
  (aj (aF (Py SA (pv 2) Sv (Sw (pv 1))))))))),?_⟩
 refine⟨16,1,rfl,rfl,.inl ⟨by decide,by decide⟩,3,7168,rfl,rfl,.inl ⟨by decide,by decide⟩,_,_,rfl,rfl,16,2,rfl,rfl,.inl ⟨by decide,by decide⟩,2,7168,rfl,rfl,.inl ⟨by decide,by decide⟩,_,_,rfl,rfl,by show 3<=sizeLine;decide,λp hp=>?_⟩;have s1:=aw.upd (o:=.lst (([0,16*1+3*7168,16*2+2*7168]:List Int).map V.int)) hp;refine⟨_,rfl,a,ns,0,rfl,s1.seq hS,by decide,_,2,rfl,rfl,(by show(0:Int)<2;decide),?_⟩;have w0:=api (ns.getD (Int.toNat 0) 0) (show(2:Int)≠0 by decide);have w1:=ape (ns.getD (Int.toNat 0) 0) (show(0:Int)<2 by decide);obtain⟨wv,ew⟩:∃ wv:Int,ns.getD (Int.toNat 0) 0%2=wv:=⟨_,rfl⟩;show yw 3 (V.int (ns.getD (Int.toNat 0) 0%2)) _ _ _;rw[ew]at w0 w1 ⊢;refine⟨_,rfl,a,rfl,⟨_,s1.seq hS⟩,rj (K:=K) (a:=a) (xs:=ns.map V.int) (λi σ Hx=>∃(v4 v5 v6 v7:Option V) (zs:List Int),σ=[some (.ref a),some (.int mo),some 4e3,some (.int wv),v4,v5,v6,v7]/\aw H Hx/\Hx p=some (.lst (zs.map V.int))/\zs.length<=3+4*i) ⟨none,none,none,none,([0,16*1+3*7168,16*2+2*7168]:List Int),rfl,s1,ag,by decide⟩ (λi σ Hx _ ⟨_,_,_,_,_,_,sx,_⟩=>sx.seq hS) ?_ ?_⟩
 ·rintro i v σ Hx tp hi ⟨v4,v5,v6,v7,zs,rfl,sx,zx,lx⟩ htp
  rw[aoR]at hi;obtain⟨zc,hz,rfl⟩:=aoZ.mp hi;have il:i<ns.length:=(aoE.mp hz).1;have t1:=aw.upd (o:=.tup [.int (i:Int),.int zc]) htp;refine⟨tp,_,rfl,SqT.of ag,rfl,_,_,rfl,_,_,rfl,rfl,?_⟩;refine⟨_,rfl,10,60,rfl,rfl,⟨by decide,by decide⟩,zc,_,rfl,rfl,(by show(0:Int)<10 ^ Int.toNat 60;decide +kernel),?_⟩;obtain⟨r,er⟩:∃ r:Int,zc%10 ^ Int.toNat 60=r:=⟨_,rfl⟩;show yw 6 (V.int (zc%10 ^ Int.toNat 60)) _ _ _;rw[er];have r0:=api r (show(4:Int)≠0 by decide);have r4:=ape r (show(0:Int)<4 by decide);refine⟨_,rfl,r,4,rfl,rfl,(by show(0:Int)<4;decide),1,_,rfl,rfl,_,rfl,by omega,by omega,yx (lo:=0) (n:=(1+r%4).toNat) (λj σ Hy=>∃(r:Int) (v7:Option V) (zs:List Int),σ=[some (.ref a),some (.int mo),some 4e3,some (.int wv),some (.int (i:Int)),some (.int zc),some (.int r),v7]/\aw H Hy/\Hy p=some (.lst (zs.map V.int))/\zs.length<=3+4*i+j) ⟨r,v7,zs,rfl,sx.trans t1,t1 _ _ zx,by omega⟩ ?_ ?_⟩
  ·rintro j σ Hy hj ⟨r',v7,zs,rfl,sy,zy,ly⟩
   refine⟨_,rfl,.inl ⟨rfl,_,SqL.of zy⟩,_,rfl,r',4,rfl,rfl,⟨by decide,by decide⟩,_,rfl,_,rfl,5,_,rfl,rfl,.inl ⟨by decide,by decide⟩,_,rfl,_,_,rfl,rfl,r',_,rfl,by omega,by omega,λrm m0 m1=>⟨by show 2<=sizeLine;decide,λl2 hl2=>?_⟩⟩;obtain⟨y,hy⟩:∃ y:Int,atI [V.int (r' / 4),V.int rm] wv=some (.int y):=by
    rcases(show wv=0\/wv=1 by omega) with e|e
    ·rw[e];exact⟨r' / 4,rfl⟩
    ·rw[e];exact⟨rm,rfl⟩
   have t2:=aw.upd (o:=.lst [V.int (r' / 4),V.int rm]) hl2;refine⟨_,rfl,l2,_,wv,.int y,rfl,rfl,SqL.of ag,hy,10,13,rfl,rfl,⟨by decide,by decide⟩,y,_,rfl,rfl,(by show(0:Int)<10 ^ Int.toNat 13;decide +kernel),p,_,_,rfl,rfl,t2 _ _ zy,apx (show(zs.map V.int).length<=1000 by rw[aoG];omega) 2e0,?_⟩;refine⟨_,rfl,10,5,rfl,rfl,⟨by decide,by decide⟩,r',_,rfl,rfl,⟨by decide +kernel,by decide +kernel⟩,?_⟩;exact⟨_,_,zs++[y%10 ^ Int.toNat 13],rfl,λb u g=>by rw[af (ao g hp)];exact t2 _ _ (sy b u g),by rw[ag,aoV];rfl,by rw[aoJ,apc];omega⟩
  ·rintro σ Hy ⟨r',v7,zs,rfl,sy,zy,ly⟩
   exact⟨_,_,_,_,zs,rfl,sy,zy,by omega⟩
 ·rintro σ Hx ⟨v4,v5,v6,v7,zs,rfl,sx,zx,lx⟩
  obtain⟨cs,ec,cl,cm,cb⟩:=Qv zs none (some mo);refine⟨_,rfl,_,rfl,_,rfl,p,_,rfl,SqL.of zx,λq hq=>?_⟩;rw[ec];exact k q cs _ (sx.trans (aw.upd hq)) (aw.none sx hq) ag (cb mo rfl m0)
theorem Yy(T:Txt K mg D)(e:Er):∃ cd,jC K (D.er e) cd/\cd.mro.contains (.ref D.aL)=true:=by
 cases e with
 | hand=>exact T.Oc
 | name=>exact T.Od
 | field=>exact T.LD
 | count=>exact T.LC
 | room=>exact T.Q6
 | words=>exact T.Dz
 | on=>exact T.Og
 | no=>exact T.Oh
noncomputable def Qw(K:W.Frag)(D:Ad):Sp:=λvs H Q _=>∃(a:Addr) (ns:List Int) (mo:Int),vs=[.ref a,.int mo]/\SqL K H a 4e4/\ns.length<=63/\0<=mo/\mo<=1000/\∀ x A s H',IH D H' x A s->Gd s->s.nxt<=mo->aw H H'->(∀ b,cJ x A s b->H b=none)->Q 5e2 H'
noncomputable abbrev OH:List Str:=["script","most","heap","refused","number"]
theorem mS:av OH ["script","most"] (ar xm):=fsc
theorem Ml(F:Fun K "_law_heap" "_law_heap" xm D.ia D.oK)(T:Txt K mg D)
  (ie:9e7 1 D.fK D.jX ["script","k"] (IE K))
  (qG:9e7 2 D.d7 D.jU ["script","most"] (Tp K))
  (rZ:9e7 10 D.h9 D.oJ ["heap","number"] (Qu D))
  (gW:9e7 4 D.bW D.eZ ["self","young","limit"] (yV D)):9e7 11 D.ia D.oK ["script","most"] (Qw K D):=by
 refine F.oa mS F.b2 λcdv A' outer s' H vs Q E hr h=>?_;obtain⟨a,ns,mo,rfl,hS,hlen,m0,m1,k⟩:=h;obtain⟨cdH,xH⟩:=T.h;refine⟨_,(PSs.nox (ai (aO (i:=2) mS.nd rfl 1e3 (Su T.uA gW.g (hr.mono 2e0) rfl T.LH gW.b .nil Wf (aa (bT gI (lD (aa au (aa au (aa au ah)))) (aJ iK (ie.c hr T.xu T.oW aV (aa (pv 0) (aa au ah))) au) 1e7) (aa au ah))))
  (ai (aO (i:=3) mS.nd rfl 1e3 au)
  (ai (eK aoY rfl (cI (qG.c hr T.GS T.qB aV (aa (pv 0) 2e2))) (aK (i:=4) mS.nd rfl 1e3)
   (aj (SK rfl rfl rfl T.mH xH (λpins E' EK hp=>aj (aE (vL rZ.g (hr.mono 2e0) rfl T.Ol T.xv rZ.b .nil hp (aa (pv 2) 3e0)))) (λea=>aj (aO (i:=3) mS.nd rfl 1e3 (aJ cc (pv 3) au))))))
  (aj (aF (pv 2))))))),?_⟩
 refine⟨by show 3<=sizeLine;decide,λp0 hp0=>?_⟩;have a0:=aw.upd (o:=.lst [V.int 0,V.int 20,V.int 64]) hp0;have w0:=api (ns.getD (Int.toNat 1) 0) (show(3:Int)≠0 by decide);have w1:=ape (ns.getD (Int.toNat 1) 0) (show(0:Int)<3 by decide);obtain⟨y,hy,y7⟩:∃ y:Int,atI [V.int 0,V.int 20,V.int 64] (ns.getD (Int.toNat 1) 0%3)=some (.int y)/\(y=0\/(7<=y/\y<=64)):=by
  generalize ns.getD (Int.toNat 1) 0%3=w at w0 w1;rcases(show w=0\/w=1\/w=2 by omega) with e|e|e
  ·rw[e];exact⟨0,rfl,.inl rfl⟩
  ·rw[e];exact⟨20,rfl,.inr 2e0⟩
  ·rw[e];exact⟨64,rfl,.inr 2e0⟩
 refine⟨_,rfl,a,ns,1,rfl,a0.seq hS,by decide,_,3,rfl,rfl,(by show(0:Int)<3;decide),p0,_,_,_,rfl,rfl,SqL.of ag,hy,?_⟩;intro x dx hx hdx nd;refine⟨x,dx,y,120,rfl,ag,y7,by decide,by decide,λA0 H1 J0 B0 F0=>⟨rfl,?_⟩⟩;have s1:aw (upd H p0 (.lst [V.int 0,V.int 20,V.int 64])) H1:=λb u q=>B0 b u (ao q hx) (by rw[af (ao q hx),af (ao q hdx)];exact q);have F1:∀ b,cJ x A0 (s0 (decide (y>0)) y 120) b->H b=none:=λb fb=>by
  rcases F0 b fb with e|e
  ·rw[e];exact aw.none a0 hx
  ·refine aw.none a0 ?_
   by_cases c:b=x
   ·rw[c];exact hx
   ·by_cases c2:b=dx
    ·rw[c2];exact hdx
    ·rw[af c,af c2]at e;exact e
 have S1:=a0.trans s1;clear F0 B0 nd;refine⟨_,rfl,_,rfl,a,ns,mo,rfl,S1.seq hS,hlen,m0,λp zs H2 s2 hp zp zl=>?_⟩;have np:¬cJ x A0 (s0 (decide (y>0)) y 120) p:=J0.fresh hp;refine⟨p,rfl,⟨_,SqL.of zp⟩,gN (K:=K) (a:=p) (xs:=zs.map V.int) (λi σ Hx=>∃ A s r v4,σ=[some (.ref a),some (.int mo),some 5e2,some (.int r),v4]/\IH D Hx x A s/\Gd s/\s.nxt<=i/\Fr (cJ x A0 (s0 (decide (y>0)) y 120)) H2 3e6 Hx) ⟨A0,_,0,none,rfl,J0.same s2,gd0,apv _,Fr.refl⟩ (λi σ Hx _ ⟨_,_,_,_,_,_,_,_,fr⟩=>SqL.of (fr.out np zp).1) ?_ ?_⟩
 ·rintro i v σ Hx hi ⟨A,s,r,v4,rfl,J,Gs,nx,fr⟩
  rw[aoR]at hi;obtain⟨n,hn,rfl⟩:=aoZ.mp hi;have il:i<zs.length:=(aoE.mp hn).1;refine⟨_,rfl,_,rfl,x,A,s,n,rfl,J,Gs,by omega,λdd ok=>?_⟩;obtain⟨g1,_,g3⟩:=ada Gs 1e1 ok;intro A1 H3 J1 fr1;cases e:(dDo s dd).1 with
  | none=>exact⟨A1,_,_,_,rfl,J1,g1,by omega,fr.trans fr1⟩
  | some er =>
   obtain⟨cd,xc,hm⟩:=Yy T er;exact⟨D.er er,cd,rfl,xc,hm,⟨_,rfl,r,1,rfl,rfl,A1,_,_,_,rfl,J1,g1,by omega,fr.trans fr1⟩⟩
 ·rintro σ Hx ⟨A,s,r,v4,rfl,J,Gs,nx,fr⟩
  rw[aoG]at nx;refine⟨_,rfl,k x A s Hx J Gs 1e1 (λb u q=>(fr.out (λf=>by rw[F1 b f]at q;cases q) (s2 _ _ (S1 _ _ q))).1) λb f=>?_⟩;rcases fr.grow b f with f0|e
  ·exact F1 b f0
  ·exact aw.none (S1.trans s2) e
noncomputable def JS(g:Int->Int)(t b:Int):Int->Int:=λu=>if u=t then b else g u
structure Dg(kvs:List (Key×V))(ms:List Int)(g:Int->Int):Prop where
 k:Kys kvs ms
 v:∀ t∈ms,ir kvs 2e7=some (.int (g t))
theorem Dg.new{kvs:List (Key×V)}{ms:List Int}{g:Int->Int}(d:Dg kvs ms g){t b:Int}(h:t∉ms):Dg (putK kvs 2e7 (.int b)) (ms++[t]) (JS g t b):=by
 refine⟨d.k.snoc h,λu m=>?_⟩;rw[uc];unfold JS;by_cases e:u=t
 ·subst e;rw[if_pos rfl,if_pos rfl]
 ·rw[if_neg (λz=>e (Sum.inl.inj z)),if_neg e]
  exact d.v u ((aoU.mp m).resolve_right λz=>e (aoH.mp z))
structure Pl(s:HS)(ts ms:List Int)(g:Int->Int)(a:Int):Prop where
 pm:(ts++ms).Perm 4e6
 a0:0<=a
 a1:a<=5+10*(ms.length:Int)
 bd:∀ t∈ms,0<=g t/\g t+((fld s t).length:Int)<a
 dj:∀ t∈ms,∀ u∈ms,t≠u->g t+((fld s t).length:Int)<g u\/g u+((fld s u).length:Int)<g t
theorem Pl.key{s:HS}{ts ms:List Int}{g:Int->Int}{a:Int}(P:Pl s ts ms g a){t:Int}(h:t∈ts):t∈keys s:=P.pm.mem_iff.mp (apf _ h)
theorem Pl.out{s:HS}{ts ms:List Int}{g:Int->Int}{a:Int}(G:Good s)(P:Pl s ts ms g a){t:Int}(h:t∈ts):t∉ms:=λm=>by
 have n:=P.pm.nodup_iff.mpr (keys_nodup G);exact(apC.mp n).2.2 t h t m rfl
theorem Lq:∀ {ts:List Int} {k:Nat},(ts.map V.int).eraseIdx k=(ts.eraseIdx k).map V.int
 | [],_=>rfl
 | _::_,0=>rfl
 | a::ts,k+1=>congrArg (V.int a::·) (Lq (ts:=ts) (k:=k))
theorem aoo{n j:Nat}(h:j<n):seqIndex? (j:Int) n=some j:=by
 unfold seqIndex?;have e:¬((j:Int)<0):=by omega
 simp only[if_neg e];simp[h]
theorem IF:∀ {ts:List Int} {k:Nat} {t:Int},ts[k]?=some t->(t::ts.eraseIdx k).Perm ts
 | [],_,_,h=>by cases h
 | a::ts,0,t,h=>by cases h;exact .refl _
 | a::ts,k+1,t,h=>(List.Perm.swap a t (ts.eraseIdx k)).trans ((IF (ts:=ts) (k:=k) h).cons a)
theorem Pl.next{s:HS}{ts ms:List Int}{g:Int->Int}{a e:Int}(G:Good s)(P:Pl s ts ms g a){k:Nat}{t:Int}(h:ts[k]?=some t)(e0:0<=e)(e3:e<=3):Pl s (ts.eraseIdx k) (ms++[t]) (JS g t a) (a+1+((fld s t).length:Int)+e):=by
 have mt:=aoI h;have no:=P.out G mt;obtain⟨wd,mw⟩:=mem_keys.mp (P.key mt);have f6:=G.f6 t wd mw;rw[<-G.fld mw]at f6;have a0:=P.a0;have a1:=P.a1;have gt:JS g t a t=a:=by unfold JS;rw[if_pos rfl]
 have gu:∀ {u:Int},u∈ms->JS g t a u=g u:=λ{u} m=>by unfold JS;rw[if_neg (λz=>no (by rw[<-z];exact m))]
 have sp:∀ {u:Int},u∈ms++[t]->u∈ms\/u=t:=λm=>(aoU.mp m).imp id aoH.mp;refine⟨?_,by omega,by rw[aoJ,apc];omega,λu m=>?_,λu m v m' n=>?_⟩
 ·have p1:=IF h
  have p2:(ts.eraseIdx k++(ms++[t])).Perm (t::(ts.eraseIdx k++ms)):=by rw[<-ap1];exact List.perm_middle.trans (by rw[apw])
  exact(p2.trans (p1.append_right ms)).trans P.pm
 ·rcases sp m with h1|h1
  ·rw[gu h1];have:=P.bd u h1;omega
  ·rw[h1,gt];omega
 ·rcases sp m with h1|h1
  ·rcases sp m' with h2|h2
   ·rw[gu h1,gu h2];exact P.dj u h1 v h2 n
   ·rw[h2,gu h1,gt];exact .inl (P.bd u h1).2
  ·rcases sp m' with h2|h2
   ·rw[h1,gu h2,gt];exact .inr (P.bd v h2).2
   ·exact absurd (h1.trans h2.symm) n
noncomputable def Lr(D:Ad):Sp:=λvs H Q _=>∃ x A s,∃ tY:Int,vs=[.ref x,.int tY]/\IH D H x A s/\Good s/\s.nxt<=200/\∀(r d:Addr) (kvs:List (Key×V)) (ms:List Int) (g:Int->Int) (a:Int) (H':Hp),aw H H'->H' r=some (.tup [.ref d,.int a])->H' d=some 2e6->Dg kvs ms g->Pl s [] ms g a->Q (.ref r) H'
noncomputable abbrev JT:List Str:=["heap","seed","things","places","a","t"]
theorem iS:av JT ["heap","seed"] (ar sv):=fsc
theorem Hk(F:Fun K "_law_places" "_law_places" sv D.fi D.kK)(T:Txt K mg D)
  (aS:9e7 1 D.bp D.cN ["self"] (qY D))
  (cX:9e7 1 D.ed D.jc ["cell","k"] (Ds))
  (ay:9e7 4 D.aH D.aW ["self","t"] (tE D)):9e7 6 D.fi D.kK ["heap","seed"] (Lr D):=by
 refine F.oa iS F.b2 λcdv A' outer s' H vs Q E hr h=>?_;obtain⟨x,A,s,tY,rfl,J,G,nx,k⟩:=h;have hu:=jw hr;refine⟨_,(PSs.nox (ai (aO (i:=2) iS.nd rfl 1e3 (lF pM rfl T.yQ PyProof.Rows.Boot.«list» (aa (aS.m0 hr (pv 0) T.ae T.dU aV) ah)))
  (ai (aO (i:=3) iS.nd rfl 1e3 jE)
  (ai (aO (i:=4) iS.nd rfl 1e3 (aJ iK (pv 1) au))
  (ai (IS aoY (Pu (pv 2) (by intro _;rfl))
   (ai (aO (i:=5) iS.nd rfl 1e3 (Ie PySem.F.plainAttrs_list PySem.F.slot_list_pop PySem.F.type_list_pop Vi (pv 2) (aa (aJ iK (vL cX.g (hr.mono 2e0) rfl T.kq T.hV cX.b .nil aV (aa (pv 1) (aa (aJ cc au (bj aP rfl T.ji PyProof.Rows.Boot.«len» 3e3)) ah))) (bj aP rfl T.ji PyProof.Rows.Boot.«len» 3e3)) ah)))
   (ai (mY hu (pv 3) (pv 5) (pv 4) rfl)
   (aj (aO (i:=4) iS.nd rfl 1e3 (aJ cc (aJ cc (aJ cc (pv 4) au) (bj aP rfl T.ji PyProof.Rows.Boot.«len» (aa (ay.m hr (pv 0) T.ae T.bC aV (aa (pv 5) ah)) ah))) (bT gI (lD (aa au (aa au (aa au (aa au ah))))) (aJ iK (cX.c hr T.kq T.hV aV (aa (pv 1) (aa (aJ cc au (pv 5)) ah))) au) 1e7)))))))
  (aj (aF (cW (aa (pv 3) 3e0))))))))),?_⟩
 have lk:(keys s).length<=200:=by
  have:=G.sd
  unfold keys;rw[aoG];omega
 refine⟨_,rfl,x,_,_,rfl,J.ax,1e4,x,A,s,rfl,J,G,λp1 H1 s1 hp1 z1=>⟨p1,_,rfl,.inl (SqL.of z1),λth hth=>?_⟩⟩;have s2:=aw.upd (o:=.lst ((keys s).map V.int)) hth;intro d hd;have s3:=aw.upd (o:=.dK []) hd;have S3:=(s1.trans s2).trans s3;have td:th≠d:=ao ag hd;have aop:H th=none:=aw.none s1 hth;have hd0:H d=none:=aw.none (s1.trans s2) hd;have g0:=api tY (show(5:Int)≠0 by decide);have g5:=ape tY (show(0:Int)<5 by decide);refine⟨_,rfl,tY,5,rfl,rfl,(by show(0:Int)<5;decide),?_⟩;refine⟨λn σ Hx=>∃(a:Int) (v5:Option V) (ts ms:List Int) (g:Int->Int) (kvs:List (Key×V)),σ=[some 5e2,some (.int tY),some (.ref th),some (.ref d),some (.int a),v5]/\aw H Hx/\Hx th=some (.lst (ts.map V.int))/\Hx d=some 2e6/\Dg kvs ms g/\Pl s ts ms g a/\ts.length=n,⟨_,_,none,keys s,[],(λ_=>0),[],rfl,S3,by rw[af td];exact ag,ag,⟨rfl,λt m=>nomatch m⟩,⟨by rw[apw],g0,by show tY%5<=5+10*(0:Int);omega,(λt m=>nomatch m),(λt m=>nomatch m)⟩,rfl⟩,?_⟩;rintro n σ Hx ⟨a,v5,ts,ms,g,kvs,rfl,sx,ht,hdx,dg,pl,ln⟩;have aoC:ts.length+ms.length=(keys s).length:=by rw[<-aoJ];exact pl.pm.length_eq
 refine⟨_,rfl,_,.inl ⟨_,SqL.of ht,rfl⟩,?_⟩;by_cases hn:ts=[]
 ·subst hn
  refine fV rfl ⟨_,rfl,_,rfl,by show 2<=sizeLine;decide,λr hr'=>?_⟩;have t1:=aw.upd (o:=.tup [.ref d,.int a]) hr';exact k r d kvs ms g a _ (sx.trans t1) ag (t1 _ _ hdx) dg pl
 have lp:0<ts.length:=List.length_pos_iff.mpr hn;refine jP (by rw[Bool.not_eq_true',List.isEmpty_eq_false_iff];exact λz=>hn (List.map_eq_nil_iff.mp z)) ?_;refine⟨λσ' H'=>∃ m',m'<n/\∃(a:Int) (v5:Option V) (ts ms:List Int) (g:Int->Int) (kvs:List (Key×V)),σ'=[some 5e2,some (.int tY),some (.ref th),some (.ref d),some (.int a),v5]/\aw H H'/\H' th=some (.lst (ts.map V.int))/\H' d=some 2e6/\Dg kvs ms g/\Pl s ts ms g a/\ts.length=m',λ_ _ h=>h,?_⟩;have lm:(ts.map V.int).length=ts.length:=aoG ..;refine⟨_,rfl,.inl ⟨rfl,_,SqL.of ht⟩,_,rfl,_,rfl,th,_,rfl,.inl (SqL.of ht),3,_,rfl,rfl,tY,_,rfl,by omega,by omega,λr r0 r1=>⟨_,rfl,th,_,rfl,.inl (SqL.of ht),r,_,rfl,rfl,by show(0:Int)<((ts.map V.int).length:Int);omega,?_⟩⟩;have x0:=api r (show((ts.map V.int).length:Int)≠0 by omega);have x1:=ape r (show(0:Int)<((ts.map V.int).length:Int) by omega);obtain⟨j,ej⟩:∃ j:Nat,r%((ts.map V.int).length:Int)=j:=⟨(r%((ts.map V.int).length:Int)).toNat,by omega⟩;have jl:j<ts.length:=by omega
 obtain⟨t,htj⟩:∃ t,ts[j]?=some t:=⟨_,aoF jl⟩;have mt:=aoI htj;have mk:=pl.key mt;obtain⟨wd,mw⟩:=mem_keys.mp mk;obtain⟨t0,t1⟩:=G.lt t wd mw;refine⟨th,_,_,j,.int t,rfl,rfl,ht,by rw[ej];omega,by rw[ej];omega,by rw[ej,lm];exact aoo jl,by rw[aoR,htj];rfl,?_⟩;have ee:(ts.map V.int).eraseIdx j=(ts.eraseIdx j).map V.int:=Lq;rw[ee];have J1:=J.same sx;have nth:∀ {b:Addr} {u:HO},H b=some u->b≠th:=λq=>ao q aop;have sy:aw H (upd Hx th (.lst ((ts.eraseIdx j).map V.int))):=λb u q=>by rw[af (nth q)];exact sx b u q
 have hdy:(upd Hx th (.lst ((ts.eraseIdx j).map V.int))) d=some 2e6:=by rw[af (aoT td)];exact hdx
 have hty:(upd Hx th (.lst ((ts.eraseIdx j).map V.int))) th=some (.lst ((ts.eraseIdx j).map V.int)):=ag;generalize upd Hx th (.lst ((ts.eraseIdx j).map V.int))=Hy at sy hdy hty ⊢;have no:=pl.out G mt;have lkv:=dg.k.len;refine⟨_,rfl,_,rfl,_,rfl,d,_,rfl,Fg.k (k:=Sum.inl t) hdy (by rw[lkv];exact om 1e1),?_⟩;have sz:aw H (upd Hy d (.dK (putK kvs 2e7 (.int a)))):=λb u q=>by rw[af (ao q hd0)];exact sy b u q
 have htz:(upd Hy d (.dK (putK kvs 2e7 (.int a)))) th=some (.lst ((ts.eraseIdx j).map V.int)):=by rw[af td];exact hty
 have hdz:(upd Hy d (.dK (putK kvs 2e7 (.int a)))) d=some (.dK (putK kvs 2e7 (.int a))):=ag;generalize upd Hy d (.dK (putK kvs 2e7 (.int a)))=Hz at sz htz hdz ⊢;have Jz:=J.same sz;have R:=(Jz.afl t wd mw).2;refine⟨_,rfl,a,1,rfl,rfl,_,rfl,x,_,_,rfl,Jz.ax,1e4,_,rfl,x,A,s,t,rfl,Jz,G,Sm.of 1e1 1e1,(λ_ p H3 sp hp zp=>?_),(λn=>absurd mk n)⟩;refine⟨p,_,rfl,.inl (SqL.of zp),_,_,rfl,rfl,by show 4<=sizeLine;decide,λl4 hl4=>?_⟩;have s4:=aw.upd (o:=.lst [V.int 0,V.int 0,V.int 1,V.int 3]) hl4;refine⟨_,rfl,_,rfl,70,t,rfl,rfl,tY,_,rfl,by omega,by omega,λrm m0 m1=>⟨rm,4,rfl,rfl,(by show(0:Int)<4;decide),?_⟩⟩;have q0:=api rm (show(4:Int)≠0 by decide);have q4:=ape rm (show(0:Int)<4 by decide);obtain⟨e,he,e0,e3⟩:∃ e:Int,atI [V.int 0,V.int 0,V.int 1,V.int 3] (rm%4)=some (.int e)/\0<=e/\e<=3:=by
  generalize rm%4=w at q0 q4;rcases(show w=0\/w=1\/w=2\/w=3 by omega) with z|z|z|z
  ·rw[z];exact⟨0,rfl,by decide,by decide⟩
  ·rw[z];exact⟨0,rfl,by decide,by decide⟩
  ·rw[z];exact⟨1,rfl,by decide,by decide⟩
  ·rw[z];exact⟨3,rfl,by decide,by decide⟩
 refine⟨l4,_,_,.int e,rfl,rfl,SqL.of ag,he,_,_,rfl,rfl,?_⟩;have S4:=sp.trans s4;have pn:=pl.next G htj e0 e3;refine⟨ts.length-1,by omega,_,_,ts.eraseIdx j,ms++[t],JS g t a,_,rfl,sz.trans S4,S4 _ _ htz,S4 _ _ hdz,dg.new no,?_,by rw[List.length_eraseIdx,if_pos jl]⟩;rw[R.1,<-G.fld mw];exact pn
noncomputable def Lds(H:Hp)(kl:List (Key×V))(ts:List Int)(g f:Int->Int):Prop:=∀ t∈ts,∃ q,ir kl 2e7=some (.ref q)/\H q=some (.lst [.int (g t),.int (f t),.int (f t+1)])
noncomputable def Spk(g f:Int->Int):Wd->Mw->Prop
 | .no,w=>w=.no
 | .num n,w=>w=.num n
 | .th t,w=>∃ a,w=.ad a/\(a=g t\/a=f t\/a=f t+1)
theorem at3{g f:Int->Int}{t m:Int}:∃ a:Int,atI [V.int (g t),V.int (f t),V.int (f t+1)] (m%3)=some (.int a)/\(a=g t\/a=f t\/a=f t+1):=by
 have q0:=api m (show(3:Int)≠0 by decide);have q3:=ape m (show(0:Int)<3 by decide);generalize m%3=w at q0 q3;rcases(show w=0\/w=1\/w=2 by omega) with z|z|z
 ·rw[z];exact⟨g t,rfl,.inl rfl⟩
 ·rw[z];exact⟨f t,rfl,.inr 2e9⟩
 ·rw[z];exact⟨f t+1,rfl,.inr (.inr rfl)⟩
theorem Tq{α:Type}{l:List α}{d w:α}{n i:Nat}(hl:l.length=n)(hi:l[i]?=some w):(l.take i++List.replicate (n-i) d).set i w=l.take (i+1)++List.replicate (n-(i+1)) d:=by
 have il:=(aoE.mp hi).1;rw[show n-i=(n-(i+1))+1 by omega,apl,List.set_append_right _ _ (by rw[aoS];omega),aoS,show i-min i l.length=0 by omega,take_snoc hi,ap1];rfl
noncomputable def Wv:Sp:=λvs H Q _=>∃(v:V) (wd:Wd) (dl:Addr) (kl:List (Key×V)) (ts:List Int) (g f:Int->Int) (m:Int),vs=[v,.ref dl,.int m]/\WV H v wd/\H dl=some (.dK kl)/\Lds H kl ts g f/\(∀ t,wd=.th t->t∈ts)/\∀ y mw H',aw H H'->MV H' y mw->Spk g f wd mw->Q y H'
noncomputable abbrev JU:List Str:=["value","leads","m"]
theorem Hl:av JU ["value","leads","m"] (ar sA):=fsc
theorem Hm(F:Fun K "_law_spoken" "_law_spoken" sA D.fq D.kL)(T:Txt K mg D):9e7 1 D.fq D.kL ["value","leads","m"] (Wv):=by
 refine F.oa Hl F.b3 λcdv A' outer s' H vs Q E hr h=>?_;obtain⟨v,wd,dl,kl,ts,g,f,m,rfl,hv,hd,ld,hts,k⟩:=h;have hu:=jw hr;refine⟨_,(PSs.nox (ai (bS (PW.pt (pw_or (aG jI (pv 0) bR (aU _)) (pw_or1 (aG tK (bT cf (pv 0) au 1e7) cK (aU _)))))
   (aj (aF (pv 0)))
   aR)
  (aj (aF (cW (aa cK (aa (bT gI (hG hu (pv 1) (bT cf (pv 0) au 1e7) 1e7) (aJ iK (pv 2) au) 1e7) ah))))))),?_⟩
 cases wd with
 | no =>
  have hv:v=.non:=hv;subst hv;exact⟨_,rfl,rfl,_,rfl,jP (decide_eq_true rfl) (vK ⟨_,rfl,k _ .no H (aw.refl _) (.inl ⟨rfl,rfl⟩) rfl⟩)⟩
 | num n =>
  obtain⟨t,rfl,ht⟩:=hv;exact⟨_,rfl,rfl,_,rfl,fV (decide_eq_false 1e0) ⟨_,rfl,t,_,0,.str "number",rfl,rfl,SqT.of ht,rfl,rfl,_,rfl,jP 1e4 ⟨_,rfl,k _ (.num n) H (aw.refl _) (.inr ⟨1e0,t,rfl,ht⟩) rfl⟩⟩⟩
 | th t =>
  obtain⟨q,rfl,hq⟩:=hv;obtain⟨q2,hv2,hq2⟩:=ld t (hts t rfl);obtain⟨a,ha,ea⟩:=at3 (g:=g) (f:=f) (t:=t) (m:=m);refine⟨_,rfl,rfl,_,rfl,fV (decide_eq_false 1e0) ⟨_,rfl,q,_,0,.str "thing",rfl,rfl,SqT.of hq,rfl,rfl,_,rfl,fV 1e4 ?_⟩⟩;exact⟨_,rfl,_,rfl,q,_,1,.int t,rfl,rfl,SqT.of hq,rfl,dl,.ref q2,rfl,.inl ⟨kl,Sum.inl t,.inl hd,rfl,hv2.symm⟩,_,rfl,m,3,rfl,rfl,(by show(0:Int)<3;decide),q2,_,_,.int a,rfl,rfl,SqL.of hq2,ha,by show 2<=sizeLine;decide,λr hr'=>k _ (.ad a) _ (aw.upd hr') (.inr ⟨1e0,r,rfl,ag⟩) ⟨a,rfl,ea⟩⟩
noncomputable def Tr(D:Ad):Sp:=λvs H Q _=>∃(l:Addr) (ys:List V) (ws:List Mw),vs=[.ref l]/\H l=some 5e0/\MR H ys ws/\ws.length<=10000/\∀ m mx c H',aw H H'->H c=none->Mm D H' m mx c ys ws->Q (.ref m) H'
noncomputable abbrev JV:List Str:=["model","memory","a"]
theorem qH:av JV ["model"] (ar sC):=fsc
theorem Ho(F:Fun K "_law_memory" "_law_memory" sC D.ft D.kM)(T:Txt K mg D)
  (jB:9e7 1 D.c6 D.g8 ["self","size"] (Qn D))
  (fF:9e7 4 D.fE D.ja ["self","a","word"] (IB D)):9e7 5 D.ft D.kM ["model"] (Tr D):=by
 refine F.oa qH F.b1 λcdv A' outer s' H vs Q E hr h=>?_;obtain⟨l,ys,ws,rfl,hl,ry,z,k⟩:=h;refine⟨_,(PSs.nox (ai (aO (i:=1) qH.nd rfl 1e3 (Su T.EW jB.g (hr.mono 2e0) rfl T.Uj jB.b .nil Wf (aa (bj aP rfl T.ji PyProof.Rows.Boot.«len» 6e0) ah)))
  (ai (eK aoY rfl (qK rfl T.tw (aa (bj aP rfl T.ji PyProof.Rows.Boot.«len» 6e0) ah)) (aK (i:=2) qH.nd rfl 1e3)
   (aj (aE (fF.m hr (pv 1) T.bD T.nZ aV (aa (pv 2) (aa (bT gI (pv 0) (pv 2) 1e7) ah))))))
  (aj (aF (pv 1)))))),?_⟩
 have el:=ry.1;refine⟨_,rfl,l,_,rfl,.inl (SqL.of hl),?_⟩;intro m mx hm hmx nd;refine⟨m,mx,ys.length,rfl,ag,by omega,by omega,λc H1 B1 hc M1=>⟨rfl,?_⟩⟩;have s1:aw H H1:=λb u q=>B1 b u (ao q hm) (by rw[af (ao q hm),af (ao q hmx)];exact q);have hHc:H c=none:=by
  by_cases e:c=m
  ·rw[e];exact hm
  ·by_cases e2:c=mx
   ·rw[e2];exact hmx
   ·rw[af e,af e2]at hc;exact hc
 refine⟨_,rfl,l,_,rfl,.inl (SqL.of (s1 _ _ hl)),_,rfl,by omega,by omega,yx (lo:=0) (n:=(ys.length:Int).toNat) (λi σ Hx=>∃ v2,σ=[some (.ref l),some (.ref m),v2]/\aw H Hx/\Mm D Hx m mx c (ys.take i++List.replicate (ys.length-i) .non) (ws.take i++List.replicate (ys.length-i) .no)) ⟨none,rfl,s1,M1⟩ ?_ ?_⟩
 ·rintro i σ Hx hi ⟨v2,rfl,sx,Mx⟩
  have il:i<ys.length:=by omega
  obtain⟨y,hy⟩:∃ y,ys[i]?=some y:=⟨_,aoF il⟩;obtain⟨w',hw'⟩:∃ w',ws[i]?=some w':=⟨ws[i]' 1e1,aoF _⟩;refine⟨_,rfl,m,_,_,rfl,Mx.i,1e4,_,rfl,_,rfl,_,rfl,l,ys,_,y,rfl,rfl,SqL.of (sx _ _ hl),by rw[Int.zero_add];exact yK hy,m,mx,c,_,_,_,y,w',rfl,Mx,Sm.of 1e1 1e1,(ry.2 i y w' hy hw').keep (bg.of sx),?_⟩;rw[if_pos ⟨by omega,by rw[aoJ,aoS,apg];omega⟩];intro M2;refine⟨_,rfl,λb u q=>by rw[af (ao q hHc)];exact sx b u q,?_⟩;rw[show(0+(i:Int)).toNat=i by omega,Tq rfl hy]at M2 ⊢;rw[Tq 1e1 hw']at M2;exact M2
 ·rintro σ Hx ⟨v2,rfl,sx,Mx⟩
  rw[Int.toNat_natCast,aqb,aoM (aoL _),aoM 1e1,List.replicate_zero,apw,List.replicate_zero,apw]at Mx;exact⟨_,rfl,k m mx c Hx sx hHc Mx⟩
noncomputable def Fw(ws:List Mw)(s:HS)(g f:Int->Int)(ts:List Int):Prop:=∀ t∈ts,ws[(f t).toNat]?=some (.mv (g t) (fld s t).length)/\ws[(f t+1).toNat]?=some (.mv (f t) (fld s t).length)
noncomputable def Hc(ws:List Mw)(s:HS)(g f:Int->Int)(t:Int)(k:Nat):Prop:=ws[(g t).toNat]?=some (.hd t (fld s t).length)/\∀(i:Nat) (w:Wd),i<k->(fld s t)[i]?=some w->∃ mw,ws[(g t).toNat+1+i]?=some mw/\Spk g f w mw
noncomputable def Fr3(sp:Int)(n:Nat)(f:Int->Int)(ts:List Int):Prop:=∀ t∈ts,sp<=f t/\f t+1<sp+2*(n:Int)
theorem Spk.lk{ws:List Mw}{s:HS}{g f:Int->Int}{w:Wd}{mw:Mw}(h:Spk g f w mw)(F:Fw ws s g f (keys s))(h0:∀ t∈keys s,0<=g t/\0<=f t/\f t<=100000/\g t<=100000/\ws[(g t).toNat]?=some (.hd t (fld s t).length))(ht:∀ t,w=.th t->t∈keys s):Lk ws (kvG 4e6 g) w mw:=by
 cases w with
 | no=>exact h
 | num n=>exact h
 | th t =>
  obtain⟨a,e,h⟩:=h;have mt:=ht t rfl;obtain⟨g0,f0,fb,gb,hh⟩:=h0 t mt;obtain⟨f1,f2⟩:=F t mt;have r0:Rv ws 0 (g t) (some (g t)):=.stop g0 hh (λb n z=>by cases z);have r1:Rv ws 1 (f t) (some (g t)):=.step f0 f1 r0;have r2:Rv ws 2 (f t+1) (some (g t)):=.step 1e1 f2 r1;have hv:=DW (g:=g) mt;rcases h with h|h|h
  ·exact⟨a,0,g t,e,Sm.of 1e1 1e1,by rw[h];exact r0,hv⟩
  ·exact⟨a,1,g t,e,Sm.of 1e1 1e1,by rw[h];exact r1,hv⟩
  ·exact⟨a,2,g t,e,Sm.of 1e1 1e1,by rw[h];exact r2,hv⟩
theorem NU{ws:List Mw}{i j:Nat}{w:Mw}(h:i≠j):(ws.set i w)[j]?=ws[j]?:=apz h
theorem Fw.keep{ws:List Mw}{s:HS}{g f:Int->Int}{ts:List Int}(F:Fw ws s g f ts){p:Nat}{w:Mw}(h:∀ t∈ts,p≠(f t).toNat/\p≠(f t+1).toNat):Fw (ws.set p w) s g f ts:=λt m=>by
 obtain⟨h1,h2⟩:=h t m;rw[NU h1,NU h2];exact F t m
theorem Hc.keep{ws:List Mw}{s:HS}{g f:Int->Int}{t:Int}{k:Nat}(h:Hc ws s g f t k){p:Nat}{w:Mw}(hp:p≠(g t).toNat/\∀ i,i<k->p≠(g t).toNat+1+i):Hc (ws.set p w) s g f t k :=
 ⟨by rw[NU hp.1];exact h.1,λi w' hi hw'=>by rw[NU (hp.2 i hi)];exact h.2 i w' hi hw'⟩
theorem Gm.of{ws:List Mw}(h1:∀(j:Nat) (t n:Int),ws[j]?=some (.hd t n)->0<=n/\n<=1000)(h2:∀(j:Nat) (a n:Int),ws[j]?=some (.mv a n)->Sm a):Gm ws :=
 ⟨λt n m=>by obtain⟨j,e⟩:=apZ.mp m;exact h1 j t n e,λt n m=>by obtain⟨j,e⟩:=apZ.mp m;exact h2 j t n e⟩
theorem Gm.set{ws:List Mw}(g:Gm ws){i:Nat}{w:Mw}(h1:∀ t n,w=.hd t n->0<=n/\n<=1000)(h2:∀ b n,w=.mv b n->Sm b):Gm (ws.set i w):=by
 refine Gm.of (λj t n e=>?_) (λj b n e=>?_)
 ·rcases List.mem_or_eq_of_mem_set (aoI e) with m|m
  ·exact g.hd t n m
  ·exact h1 t n m.symm
 ·rcases List.mem_or_eq_of_mem_set (aoI e) with m|m
  ·exact g.mv b n m
  ·exact h2 b n m.symm
noncomputable def Ldm(ml:Addr)(H:Hp)(kl:List (Key×V))(ts:List Int)(g f:Int->Int):Prop:=∀ t∈ts,∃ q,q≠ml/\ir kl 2e7=some (.ref q)/\H q=some (.lst [.int (g t),.int (f t),.int (f t+1)])
theorem Ldm.lds{ml:Addr}{H:Hp}{kl:List (Key×V)}{ts:List Int}{g f:Int->Int}(h:Ldm ml H kl ts g f):Lds H kl ts g f:=λt m=>by obtain⟨q,_,a,b⟩:=h t m;exact⟨q,a,b⟩
theorem Ldm.keep{ml:Addr}{H H':Hp}{kl:List (Key×V)}{ts:List Int}{g f:Int->Int}(h:Ldm ml H kl ts g f)(k:∀ q us,q≠ml->H q=some (.lst us)->H' q=some (.lst us)):Ldm ml H' kl ts g f:=λt m=>by obtain⟨q,n,a,b⟩:=h t m;exact⟨q,n,a,k q _ n b⟩
noncomputable def Bm(ml dl:Addr)(H H':Hp):Prop:=∀ b u,b≠ml->b≠dl->H b=some u->H' b=some u
theorem Bm.same{ml dl:Addr}{H H1 H2:Hp}(a:Bm ml dl H H1)(s:aw H1 H2):Bm ml dl H H2:=λb u h1 h2 q=>s _ _ (a b u h1 h2 q)
theorem Bm.um{ml dl:Addr}{H H1:Hp}{o:HO}(a:Bm ml dl H H1):Bm ml dl H (upd H1 ml o):=λb u h1 h2 q=>by rw[af h1];exact a b u h1 h2 q
theorem Bm.ud{ml dl:Addr}{H H1:Hp}{o:HO}(a:Bm ml dl H H1):Bm ml dl H (upd H1 dl o):=λb u h1 h2 q=>by rw[af h2];exact a b u h1 h2 q
theorem Spk.plain{g f:Int->Int}{w:Wd}{mw:Mw}(h:Spk g f w mw):(∀ t n,mw≠.hd t n)/\∀ b n,mw≠.mv b n:=by
 cases w with
 | no=>have h:mw=.no:=h;rw[h];exact⟨(λ_ _ z=>by cases z),(λ_ _ z=>by cases z)⟩
 | num x=>have h:mw=.num x:=h;rw[h];exact⟨(λ_ _ z=>by cases z),(λ_ _ z=>by cases z)⟩
 | th t=>obtain⟨a,h,_⟩:=h;rw[h];exact⟨(λ_ _ z=>by cases z),(λ_ _ z=>by cases z)⟩
theorem aag{Hd:Hp}{L:Addr}{us:List V}{u:V}{m0:Mw}{P:Nat->Mw->Prop}(z:Hd L=some (.lst us))(hq:∀(j:Nat) (y:V),us[j]?=some y->∃ mw,MV Hd y mw/\P j mw)(h:MV Hd u m0)(h2:P us.length m0):∀(j:Nat) (y:V),(us++[u])[j]?=some y->∃ mw,MV (upd Hd L (.lst (us++[u]))) y mw/\P j mw:=λj y hj=>by
 have tu:bg Hd (upd Hd L (.lst (us++[u]))):=bg.set z (by intro z y;cases y);rcases aps j us.length with c|c
 ·rw[aoX c]at hj
  obtain⟨mw,e1,e2⟩:=hq j y hj;exact⟨mw,e1.keep tu,e2⟩
 ·have ej:j=us.length:=by have:=(aoE.mp hj).1;rw[aoJ,apc]at this;omega
  rw[ej,ao1 (aoL _),aqb]at hj;cases hj;rw[ej];exact⟨m0,h.keep tu,h2⟩
structure Md1(H:Hp)(ml dl:Addr)(s:HS)(g f:Int->Int)(a:Int)(n:Nat)(ts:List Int)(mys:List V)(mws:List Mw)(kl:List (Key×V)):Prop where
 l:H ml=some (.lst mys)
 r:MR H mys mws
 n:mws.length=n
 gm:Gm mws
 fw:Fw mws s g f ts
 fr:Fr3 a ts.length f ts
 d:H dl=some (.dK kl)
 ky:Kys kl ts
 ld:Ldm ml H kl ts g f
section
variable{H H':Hp}{ml dl:Addr}{s:HS}{g f:Int->Int}{a:Int}{n:Nat}{ts:List Int}{mys:List V}{mws:List Mw}{kl:List (Key×V)}
theorem Md1.same(h:Md1 H ml dl s g f a n ts mys mws kl)(e:aw H H'):Md1 H' ml dl s g f a n ts mys mws kl:=⟨e _ _ h.l,h.r.keep (bg.of e),h.n,h.gm,h.fw,h.fr,e _ _ h.d,h.ky,h.ld.keep λq us _ y=>e _ _ y⟩
theorem Md1.set(h:Md1 H ml dl s g f a n ts mys mws kl){p:Nat}{v:V}{w:Mw}(mv:MV H v w)(g1:∀ t n,w=.hd t n->0<=n/\n<=1000)(g2:∀ b n,w=.mv b n->Sm b)(hp:∀ t∈ts,p≠(f t).toNat/\p≠(f t+1).toNat):Md1 (upd H ml (.lst (mys.set p v))) ml dl s g f a n ts (mys.set p v) (mws.set p w) kl:=by
 have tu:bg H (upd H ml (.lst (mys.set p v))):=bg.set h.l (by intro z y;cases y);exact⟨ag,(h.r.set mv).keep tu,by rw[apb];exact h.n,h.gm.set g1 g2,h.fw.keep hp,h.fr,by rw[af (az h.d h.l (by intro y;cases y))];exact h.d,h.ky,h.ld.keep λq us n y=>by rw[af n];exact y⟩
theorem Md1.next(h:Md1 H ml dl s g f a n ts mys mws kl){t b:Int}{q:Addr}(nt:t∉ts)(hq:H q=some (.lst [.int (g t),.int b,.int (b+1)]))(nq:q≠ml)(eb:b=a+2*(ts.length:Int))(w1:mws[b.toNat]?=some (.mv (g t) (fld s t).length))(w2:mws[(b+1).toNat]?=some (.mv b (fld s t).length))(nm:ml≠dl) :
  Md1 (upd H dl (.dK (putK kl 2e7 (.ref q)))) ml dl s g (K39.JS f t b) a n (ts++[t]) mys mws (putK kl 2e7 (.ref q)):=by
 have tu:bg H (upd H dl (.dK (putK kl 2e7 (.ref q)))):=bg.set h.d (by intro z y;cases y);have gt:K39.JS f t b t=b:=by unfold K39.JS;rw[if_pos rfl]
 have gu:∀ {u:Int},u∈ts->K39.JS f t b u=f u:=λ{u} m=>by unfold K39.JS;rw[if_neg (λz=>nt (by rw[<-z];exact m))]
 have sp:∀ {u:Int},u∈ts++[t]->u∈ts\/u=t:=λm=>(aoU.mp m).imp id aoH.mp;have kd:∀ {c:Addr} {us:List V},H c=some (.lst us)->(upd H dl (.dK (putK kl 2e7 (.ref q)))) c=some (.lst us):=λy=>by rw[af (az y h.d 1e0)];exact y
 refine⟨kd h.l,h.r.keep tu,h.n,h.gm,λu m=>?_,λu m=>?_,ag,h.ky.snoc nt,λu m=>?_⟩
 ·rcases sp m with e|e
  ·rw[gu e];exact h.fw u e
  ·rw[e,gt];exact⟨w1,w2⟩
 ·rw[aoJ,apc]
  rcases sp m with e|e
  ·rw[gu e];have:=h.fr u e;omega
  ·rw[e,gt];omega
 ·rw[uc]
  rcases sp m with e|e
  ·obtain⟨q',n',y1,y2⟩:=h.ld u e
   rw[if_neg (λz=>nt (by rw[<-Sum.inl.inj z];exact e)),gu e];exact⟨q',n',y1,kd y2⟩
  ·rw[e,if_pos rfl,gt]
   exact⟨q,nq,rfl,kd hq⟩
end
noncomputable def Qx(D:Ad):Sp:=λvs H Q _=>∃ x A s,∃ tY:Int,vs=[.ref x,.int tY]/\IH D H x A s/\Gd s/\s.nxt<=90/\∀(r ml hl nl bl:Addr) (mys ys zs ps:List V) (ws:List Mw) (g:Int->Int) (H':Hp),aw H H'->H ml=none->H hl=none->H nl=none->H bl=none->H' r=some (.tup [.ref ml,.ref hl,.ref nl,.ref bl])->H' ml=some (.lst mys)->MR H' mys ws->ws.length<=9000->Gm ws->Pic ws s g->H' hl=some 5e0->ys.length=8->(∀(i:Nat) (w:Wd) (y:V),s.aZ[i]?=some w->ys[i]?=some y->∃ mw,MV H' y mw/\Lk ws (kvG 4e6 g) w mw)->H' nl=some (.lst zs)->zs.length=8->(∀(i:Nat) (n:Option Int) (y:V),s.names[i]?=some n->zs[i]?=some y->∃ mw,MV H' y mw/\Lk ws (kvG 4e6 g) (nmW n) mw)->H' bl=some (.lst ps)->Pr H' ps 4e6 g->Q (.ref r) H'
noncomputable abbrev qb:List Str:=["heap","seed","places","spare","model","leads","k","t","many","values","hands","names"]
theorem cz:av qb ["heap","seed"] (ar kn):=fsc
theorem JW(F:Fun K "_law_model" "_law_model" kn D.f9 D.mM)(T:Txt K mg D)
  (sR:9e7 6 D.fi D.kK ["heap","seed"] (Lr D))
  (aS:9e7 1 D.bp D.cN ["self"] (qY D))
  (ay:9e7 4 D.aH D.aW ["self","t"] (tE D))
  (oq:9e7 1 D.fq D.kL ["value","leads","m"] (Wv))
  (cX:9e7 1 D.ed D.jc ["cell","k"] (Ds))
  (cE:9e7 2 D.bP D.dO ["self"] (yG D))
  (cF:9e7 2 D.bQ D.dP ["self"] (yI D)):9e7 7 D.f9 D.mM ["heap","seed"] (Qx D):=by
 refine F.oa cz F.b2 λcdv A' outer s' H vs Q E hr h=>?_;obtain⟨x,A,s,tY,rfl,J,Gs,nx,k⟩:=h;have hu:=jw hr;refine⟨_,(PSs.nox (ai (lC (sR.c hr T.Js T.sI aV (aa (pv 0) 2e2)) (nV rfl (bz (aK (i:=2) cz.nd rfl (Or.inr rfl)) (bz (aK (i:=3) cz.nd rfl 1e3) jY))))
  (ai (aO (i:=4) cz.nd rfl 1e3 (aJ GC (lD (aa bR ah)) (aJ cc (aJ cc (pv 3) (aJ kh au (bj K7 rfl T.ji PyProof.Rows.Boot.«len» 3e3))) au)))
  (ai (aO (i:=5) cz.nd rfl (Or.inr rfl) jE)
  (ai (eK aoY rfl (vM rfl T.ic (aa (aS.m0 hr (pv 0) T.ae T.dU aV) ah)) (nV rfl (bz (aK (i:=6) cz.nd rfl 1e3) (bz (aK (i:=7) cz.nd rfl 1e3) jY)))
   (ai (aO (i:=8) cz.nd rfl 1e3 (bj aP rfl T.ji PyProof.Rows.Boot.«len» (aa (ay.m hr (pv 0) T.ae T.bC aV (aa (pv 7) ah)) ah)))
   (ai (lC (cW (aa cK (aa (hG hu (pv 2) (pv 7) 1e7) (aa (pv 8) ah)))) (ua (pv 4) (aJ cc (pv 3) (aJ kh au (pv 6))) set_list))
   (ai (lC (cW (aa cK (aa (aJ cc (pv 3) (aJ kh au (pv 6))) (aa (pv 8) ah)))) (ua (pv 4) (aJ cc (aJ cc (pv 3) (aJ kh au (pv 6))) au) set_list))
   (aj (mY hu (pv 5) (pv 7) (lD (aa (hG hu (pv 2) (pv 7) 1e7) (aa (aJ cc (pv 3) (aJ kh au (pv 6))) (aa (aJ cc (aJ cc (pv 3) (aJ kh au (pv 6))) au) ah)))) rfl))))))
  (ai (eK aoY rfl (cI (aS.m0 hr (pv 0) T.ae T.dU aV)) (aK (i:=7) cz.nd rfl 1e3)
   (ai (aO (i:=9) cz.nd rfl 1e3 (ay.m hr (pv 0) T.ae T.bC aV (aa (pv 7) ah)))
   (ai (lC (cW (aa cK (aa (pv 7) (aa (bj aP rfl T.ji PyProof.Rows.Boot.«len» (aa (pv 9) ah)) ah)))) (ua (pv 4) (hG hu (pv 2) (pv 7) 1e7) set_list))
   (aj (eK aoY rfl (qK rfl T.tw (aa (bj aP rfl T.ji PyProof.Rows.Boot.«len» (aa (pv 9) ah)) ah)) (aK (i:=6) cz.nd rfl 1e3)
    (aj (lC (oq.c hr T.yP T.oi aV (aa (bT gI (pv 9) (pv 6) 1e7) (aa (pv 5) (aa (cX.c hr T.kq T.hV aV (aa (pv 1) (aa (aJ cc (aJ kh au (pv 7)) (pv 6)) ah))) ah)))) (ua (pv 4) (aJ cc (aJ cc (hG hu (pv 2) (pv 7) 1e7) au) (pv 6)) set_list))))))))
  (ai (Ii (cl:=[("seed",s'.heap.objs.size+1),("leads",s'.heap.objs.size+3)]) (x := "value") (idx:=[5,1]) (NC:=["value","leads","seed"]) (i:=10) cz.nd rfl rfl ?co3 rfl (cI (cE.m0 hr (pv 0) T.ae T.kY aV)) (λC fp s₀ H₀=>(oq.c hr T.yP T.oi yA (aa (pv 0) (aa (pv 1) (aa (cX.c hr T.kq T.hV yA (aa (pv 2) (aa au ah))) ah))))))
  (ai (Ii (cl:=[("seed",s'.heap.objs.size+1),("leads",s'.heap.objs.size+3)]) (x := "t") (idx:=[5,1]) (NC:=["t","leads","seed"]) (i:=11) cz.nd rfl rfl ?co2 rfl (cI (cF.m0 hr (pv 0) T.ae T.kZ aV)) (λC fp s₀ H₀=>(pB (aG jI (pv 0) bR (aU _)) bR (cW (aa cK (aa (bT (r:=aaD K) gI (hG hu (pv 1) (pv 0) 1e7) (aJ iK (cX.c hr T.kq T.hV yA (aa (pv 2) (aa (aJ cc au (pv 0)) ah))) au) 1e7) ah))))))
  (aj (aF (cW (aa (pv 4) (aa (pv 10) (aa (pv 11) (aa (jD (cl:=[("places",s'.heap.objs.size+2)]) (x := "t") (idx:=[2]) (NC:=["t","places"]) ?co1 rfl (cI (aS.m0 hr (pv 0) T.ae T.dU aV)) (λC fp s₀ H₀=>(cW (aa (pv 0) (aa (hG hu (pv 1) (pv 0) 1e7) ah))))) ah))))))))))))))),?_⟩
 case co1 =>
  exact gk (sc:=ar kn) (N:=qb) (ns:=["places"]) rfl rfl rfl 2e4 rfl rfl (by
   intro q hq;rw[aoH.mp hq];rfl)
 case co2 =>
  exact gk (sc:=ar kn) (N:=qb) (ns:=["seed","leads"]) rfl rfl rfl 2e4 rfl rfl (by
   intro q hq;rcases ao2.mp hq with rfl|hq
   ·rfl
   rw[aoH.mp hq];rfl)
 case co3 =>
  exact gk (sc:=ar kn) (N:=qb) (ns:=["seed","leads"]) rfl rfl rfl 2e4 rfl rfl (by
   intro q hq;rcases ao2.mp hq with rfl|hq
   ·rfl
   rw[aoH.mp hq];rfl)
 have G:=Gs.g;have lk:(keys s).length<=90:=by
  have:=G.sd
  unfold keys;rw[aoG];omega
 refine⟨_,rfl,_,rfl,x,A,s,tY,rfl,J,G,by omega,λr0 d kvs ms g a H1 s1 hr0 hd dg pl=>?_⟩;refine⟨r0,_,rfl,SqT.of hr0,rfl,_,_,rfl,_,_,rfl,rfl,?_⟩;have pm:ms.Perm 4e6:=pl.pm;have lms:ms.length=(keys s).length:=pm.length_eq;have lkv:=dg.k.len;have a0:=pl.a0;have a1:=pl.a1;obtain⟨n,en⟩:∃ n:Nat,a+2*(kvs.length:Int)+3=n:=⟨(a+2*(kvs.length:Int)+3).toNat,by omega⟩;refine⟨by show 1<=sizeLine;decide,λp1 hp1=>⟨_,rfl,_,rfl,d,kvs,rfl,(aw.upd hp1) _ _ hd,2,_,rfl,rfl,.inl ⟨by decide,by decide⟩,a,_,rfl,rfl,_,3,rfl,rfl,p1,a+2*(kvs.length:Int)+3,_,rfl,rfl,ag,by omega,by omega,by show 1*(a+2*(kvs.length:Int)+3).toNat<=sizeLine;exact ao7 (show _<=10000 by omega) 2e0,λml hml=>?_⟩⟩;rw[show(a+2*(kvs.length:Int)+3).toNat=n by omega,Dq];have s2:=aw.upd (o:=.lst [V.non]) hp1;have s3:=aw.upd (o:=.lst (List.replicate n V.non)) hml;intro dl hdl;have s4:=aw.upd (o:=.dK []) hdl;have S4:=(s1.trans s2).trans (s3.trans s4);have ach:H ml=none:=aw.none (s1.trans s2) hml;have aj3:H dl=none:=aw.none ((s1.trans s2).trans s3) hdl;have zml:=s4 _ _ (ag (H:=upd H1 p1 (.lst [V.non])) (a:=ml) (o:=.lst (List.replicate n V.non)));have zdl:(upd (upd (upd H1 p1 (.lst [V.non])) ml (.lst (List.replicate n V.non))) dl 5e1) dl=some 5e1:=ag;have zd:=s4 _ _ (s3 _ _ (s2 _ _ hd));have ndm:d≠ml:=ao (s2 _ _ hd) hml;have ndl:d≠dl:=ao (s3 _ _ (s2 _ _ hd)) hdl;have nml:ml≠dl:=az zml zdl (by intro y;cases y);generalize upd (upd (upd H1 p1 (.lst [V.non])) ml (.lst (List.replicate n V.non))) dl 5e1=H4 at S4 zml zdl zd ⊢;have J4:=J.same S4;refine⟨_,rfl,x,_,_,rfl,J4.ax,1e4,x,A,s,rfl,J4,G,λp3 H5 s5 hp3 z5=>?_⟩;have np3:p3≠ml:=aoT (ao zml hp3);have aoq:p3≠dl:=aoT (ao zdl hp3);have S5:=S4.trans s5;have toS:∀ {Hx:Hp},Bm ml dl H5 Hx->aw H Hx:=λb c u q=>b c u (ao q ach) (ao q aj3) (S5 _ _ q);refine⟨p3,rfl,⟨_,SqL.of z5⟩,rj (K:=K) (a:=p3) (xs:=(keys s).map V.int) (λi σ Hx=>∃(f:Int->Int) (mys:List V) (mws:List Mw) (kl:List (Key×V)) (v6 v7 v8:Option V),σ=[some 5e2,some (.int tY),some (.ref d),some (.int a),some (.ref ml),some (.ref dl),v6,v7,v8,none,none,none]/\Bm ml dl H5 Hx/\Md1 Hx ml dl s g f a n ((keys s).take i) mys mws kl)
  ⟨λ_=>0,_,List.replicate n .no,[],none,none,none,rfl,(λb u _ _ q=>q),⟨s5 _ _ zml,MR.rep,apg,Gm.of (λj t m e=>by rw[apH]at e;split at e<;>cases e) (λj t m e=>by rw[apH]at e;split at e<;>cases e),(λt m=>nomatch m),(λt m=>nomatch m),s5 _ _ zdl,rfl,(λt m=>nomatch m)⟩⟩ (λi σ Hx _ ⟨_,_,_,_,_,_,_,_,b,_⟩=>SqL.of (b p3 _ np3 aoq z5)) ?_ ?_⟩
 ·rintro i v σ Hx tp hi ⟨f,mys,mws,kl,v6,v7,v8,rfl,bx,mx⟩ htp
  rw[aoR]at hi;obtain⟨t,ht,rfl⟩:=aoZ.mp hi;have mk:=aoI ht;have mt:t∈ms:=pm.mem_iff.mpr mk;obtain⟨wd,mw⟩:=mem_keys.mp mk;obtain⟨t0,t1⟩:=G.lt t wd mw;have ef:=G.fld mw;have il:i<(keys s).length:=(aoE.mp ht).1;have ltk:((keys s).take i).length=i:=by rw[aoS];omega
  have e1:=aw.upd (o:=.tup [.int (i:Int),.int t]) htp;have J1:=(J.same (toS bx)).same e1;refine⟨tp,_,rfl,SqT.of ag,rfl,_,_,rfl,_,_,rfl,rfl,?_⟩;refine⟨_,rfl,x,_,_,rfl,J1.ax,1e4,_,rfl,x,A,s,t,rfl,J1,G,Sm.of 1e1 1e1,(λ_ p H6 s6 hp6 z6=>?_),(λn=>absurd mk n)⟩;have R:=(J1.afl t wd mw).2;refine⟨p,_,rfl,.inl (SqL.of z6),?_⟩;show yw 8 (V.int (A.fx t).length) _ _ _;rw[show((A.fx t).length:Int)=((fld s t).length:Int) by rw[R.1,ef]];have S6:=e1.trans s6;have m6:=mx.same S6;have b6:=bx.same S6;have hd6:=b6 d _ ndm ndl (s5 _ _ zd);obtain⟨g0,g1⟩:=pl.bd t mt;refine⟨_,rfl,_,rfl,d,.int (g t),rfl,.inl ⟨kvs,Sum.inl t,.inl hd6,rfl,(dg.v t mt).symm⟩,_,rfl,by show 3<=sizeLine;decide,λq7 hq7=>?_⟩;have s7:=aw.upd (o:=.tup [V.str "moved",V.int (g t),V.int (fld s t).length]) hq7;have m7:=m6.same s7;have m8:=m7.set (p:=(a+2*(i:Int)).toNat) (v:=.ref q7) (w:=.mv (g t) (fld s t).length) (.inr ⟨1e0,q7,rfl,ag⟩) (λ_ _ z=>by cases z) (λb n z=>by cases z;exact Sm.of 1e1 1e1) (λu mu=>by have:=mx.fr u mu;rw[ltk]at this;omega);refine⟨_,rfl,_,rfl,_,rfl,2,_,rfl,rfl,.inl ⟨by decide,by decide⟩,a,_,rfl,rfl,ml,mys,a+2*(i:Int),(a+2*(i:Int)).toNat,rfl,rfl,m7.l,Iq 1e1 (by rw[m7.r.1,m7.n];omega),?_⟩;have b8:=(b6.same s7).um (o:=.lst (mys.set (a+2*(i:Int)).toNat (.ref q7)));refine⟨_,rfl,_,rfl,2,_,rfl,rfl,.inl ⟨by decide,by decide⟩,a,_,rfl,rfl,_,rfl,by show 3<=sizeLine;decide,λq9 hq9=>?_⟩;have s9:=aw.upd (o:=.tup [V.str "moved",V.int (a+2*(i:Int)),V.int (fld s t).length]) hq9;have m9:=m8.same s9;have m10:=m9.set (p:=(a+2*(i:Int)+1).toNat) (v:=.ref q9) (w:=.mv (a+2*(i:Int)) (fld s t).length) (.inr ⟨1e0,q9,rfl,ag⟩) (λ_ _ z=>by cases z) (λb n z=>by cases z;exact Sm.of 1e1 1e1) (λu mu=>by have:=mx.fr u mu;rw[ltk]at this;omega);refine⟨_,rfl,_,rfl,_,rfl,2,_,rfl,rfl,.inl ⟨by decide,by decide⟩,a,_,rfl,rfl,_,1,rfl,rfl,ml,_,a+2*(i:Int)+1,(a+2*(i:Int)+1).toNat,rfl,rfl,m9.l,Iq 1e1 (by rw[m9.r.1,m9.n];omega),?_⟩;have b10:=(b8.same s9).um (o:=.lst ((mys.set (a+2*(i:Int)).toNat (.ref q7)).set (a+2*(i:Int)+1).toNat (.ref q9)));have aor:=b10 d _ ndm ndl (s5 _ _ zd);refine⟨_,rfl,_,rfl,d,.int (g t),rfl,.inl ⟨kvs,Sum.inl t,.inl aor,rfl,(dg.v t mt).symm⟩,_,rfl,_,rfl,2,_,rfl,rfl,.inl ⟨by decide,by decide⟩,a,_,rfl,rfl,_,rfl,_,rfl,2,_,rfl,rfl,.inl ⟨by decide,by decide⟩,a,_,rfl,rfl,_,1,rfl,rfl,by show 3<=sizeLine;decide,λq11 hq11=>?_⟩;have s11:=aw.upd (o:=.lst [V.int (g t),V.int (a+2*(i:Int)),V.int (a+2*(i:Int)+1)]) hq11;have m11:=m10.same s11;have lkl:=m11.ky.len;refine⟨_,rfl,_,rfl,dl,_,rfl,Fg.k (k:=Sum.inl t) m11.d (by rw[lkl];exact om 1e1),?_⟩;have nt:t∉(keys s).take i:=λm=>by
   obtain⟨j,hj,ej⟩:=ap3.mp m;rw[aoS]at hj;rw[aqx]at ej;have hi:=(aoE.mp ht)
   have:=apN.mp (show(keys s).Pairwise (·< ·) from G.asc) j i 1e1 hi.1 1e1
   rw[ej,hi.2]at this;omega
  have nn:=m11.n;rw[apb,apb]at nn;have mf:=m11.next (t:=t) (b:=a+2*(i:Int)) nt ag (aoT (ao m10.l hq11)) (by rw[ltk]) (by rw[apz 1e1,apo 1e1]) (by rw[apo (by rw[apb];omega)]) nml;rw[take_snoc ht];exact⟨_,_,_,_,_,_,_,rfl,(b10.same s11).ud,mf⟩
 ·rintro σ Hx ⟨f,mys,mws,kl,v6,v7,v8,rfl,bx,mx⟩
  rw[aoG,aoM (aoL _)]at mx;have J1:=J.same (toS bx);refine⟨_,rfl,x,_,_,rfl,J1.ax,1e4,x,A,s,rfl,J1,G,λp6 H6 s6 hp6 z6=>?_⟩;have np6:p6≠ml:=aoT (ao mx.l hp6);have aos:p6≠dl:=aoT (ao mx.d hp6);have S6:=(toS bx).trans s6;have b6:=bx.same s6;have hd6:=b6 d _ ndm ndl (s5 _ _ zd);have aci:∀ {Hx:Hp},Bm ml dl H6 Hx->aw H Hx:=λb c u q=>b c u (ao q ach) (ao q aj3) (S6 _ _ q);have frk:∀ u∈keys s,a<=f u:=λu mu=>(mx.fr u mu).1;refine⟨p6,rfl,⟨_,SqL.of z6⟩,gN (K:=K) (a:=p6) (xs:=(keys s).map V.int) (λi σ Hx=>∃(mys:List V) (mws:List Mw) (v6 v7 v9:Option V),σ=[some 5e2,some (.int tY),some (.ref d),some (.int a),some (.ref ml),some (.ref dl),v6,v7,v8,v9,none,none]/\Bm ml dl H6 Hx/\Md1 Hx ml dl s g f a n 4e6 mys mws kl/\∀ u∈(keys s).take i,Hc mws s g f u (fld s u).length)
   ⟨_,_,_,_,_,rfl,(λb u _ _ q=>q),mx.same s6,(λu m=>nomatch m)⟩ (λi σ Hx _ ⟨_,_,_,_,_,_,b,_⟩=>SqL.of (b p6 _ np6 aos z6)) ?_ ?_⟩
  ·rintro i v σ Hx hi ⟨mys,mws,v6,v7,v9,rfl,bx,mx,hc⟩
   rw[aoR]at hi;obtain⟨t,ht,rfl⟩:=aoZ.mp hi;have mk:=aoI ht;have mt:t∈ms:=pm.mem_iff.mpr mk;obtain⟨wd,mw⟩:=mem_keys.mp mk;obtain⟨t0,t1⟩:=G.lt t wd mw;have ef:=G.fld mw;have f6:(fld s t).length<=6:=(by rw[ef];exact G.f6 t wd mw);obtain⟨g0,g1⟩:=pl.bd t mt;have il:i<(keys s).length:=(aoE.mp ht).1;have nt:∀ u∈(keys s).take i,u≠t:=λu m e=>by
    obtain⟨j,hj,ej⟩:=ap3.mp m;rw[aoS]at hj;rw[aqx]at ej;have hi:=(aoE.mp ht)
    have:=apN.mp (show(keys s).Pairwise (·< ·) from G.asc) j i 1e1 hi.1 1e1
    rw[ej,hi.2]at this;omega
   have away:∀ u∈(keys s).take i,∀ p:Nat,g t<=p->(p:Int)<=g t+((fld s t).length:Int)->p≠(g u).toNat/\∀ j,j<(fld s u).length->p≠(g u).toNat+1+j:=λu m p h1 h2=>by
    have mu:u∈ms:=pm.mem_iff.mpr (apO m);have u0:=(pl.bd u mu).1;have dj:=pl.dj t mt u mu (aoT (nt u m));exact⟨by omega,λj hj=>by omega⟩
   have aj4:∀ p:Nat,(p:Int)<=g t+((fld s t).length:Int)->∀ u∈keys s,p≠(f u).toNat/\p≠(f u+1).toNat:=λp hp u mu=>by
    have:=frk u mu
    omega
   have J1:=J.same (aci bx);refine⟨_,rfl,x,_,_,rfl,J1.ax,1e4,_,rfl,x,A,s,t,rfl,J1,G,Sm.of 1e1 1e1,(λ_ p H7 s7 hp7 z7=>?_),(λn=>absurd mk n)⟩;have R:=(J1.afl t wd mw).2;have eR:(A.fx t).length=(fld s t).length:=(by rw[R.1,ef]);refine⟨_,rfl,_,rfl,p,_,rfl,.inl (SqL.of z7),by show 3<=sizeLine;decide,λq8 hq8=>?_⟩;rw[show((A.fx t).length:Int)=((fld s t).length:Int) by rw[eR]];have s8:=aw.upd (o:=.tup [V.str "head",V.int t,V.int (fld s t).length]) hq8;have m8:=(mx.same s7).same s8;have b8:=(bx.same s7).same s8;have hd8:=b8 d _ ndm ndl hd6;have npm:p≠ml:=aoT (ao mx.l hp7);have npd:p≠dl:=aoT (ao mx.d hp7);have m9:=m8.set (p:=(g t).toNat) (v:=.ref q8) (w:=.hd t (fld s t).length) (.inr ⟨1e0,q8,rfl,ag⟩) (λ_ n z=>by cases z;omega) (λb n z=>by cases z) (aj4 _ 1e1);have b9:=b8.um (o:=.lst (mys.set (g t).toNat (.ref q8)));have zp9:(upd (upd H7 q8 (.tup [V.str "head",V.int t,V.int (fld s t).length])) ml (.lst (mys.set (g t).toNat (.ref q8)))) p=some (.lst (A.fx t)):=(by rw[af npm];exact s8 _ _ z7);have c9:∀ u∈(keys s).take i,Hc (mws.set (g t).toNat (.hd t (fld s t).length)) s g f u (fld s u).length:=λu m=>(hc u m).keep (away u m _ 1e1 1e1);have d9:Hc (mws.set (g t).toNat (.hd t (fld s t).length)) s g f t 0:=⟨by rw[apo (by rw[mx.n];omega)],λi w h=>absurd h (aqf _)⟩;refine⟨_,rfl,_,rfl,_,rfl,d,.int (g t),rfl,.inl ⟨kvs,Sum.inl t,.inl hd8,rfl,(dg.v t mt).symm⟩,ml,mys,g t,(g t).toNat,rfl,rfl,m8.l,Iq 1e1 (by rw[m8.r.1,m8.n];omega),?_⟩;generalize upd (upd H7 q8 (.tup [V.str "head",V.int t,V.int (fld s t).length])) ml (.lst (mys.set (g t).toNat (.ref q8)))=H9 at m9 b9 zp9 ⊢;refine⟨_,rfl,p,_,rfl,.inl (SqL.of zp9),_,rfl,by omega,by omega,yx (lo:=0) (n:=((A.fx t).length:Int).toNat) (λj σ Hy=>∃(mys:List V) (mws:List Mw) (v6:Option V),σ=[some 5e2,some (.int tY),some (.ref d),some (.int a),some (.ref ml),some (.ref dl),v6,some (.int t),v8,some 4e3,none,none]/\Bm ml dl H6 Hy/\Hy p=some (.lst (A.fx t))/\Md1 Hy ml dl s g f a n 4e6 mys mws kl/\(∀ u∈(keys s).take i,Hc mws s g f u (fld s u).length)/\Hc mws s g f t j) ⟨_,_,_,rfl,b9,zp9,m9,c9,d9⟩ ?_ ?_⟩
   ·rintro j σ Hy hj ⟨mys,mws,v6,rfl,bY,zy,my,cy,dy⟩
    have jl:j<(fld s t).length:=1e1;obtain⟨v,hv⟩:∃ v,(A.fx t)[j]?=some v:=⟨(A.fx t)[j]' 1e1,aoF _⟩;obtain⟨w',hw'⟩:∃ w',(fld s t)[j]?=some w':=⟨_,aoF jl⟩;have Jy:=J.same (aci bY);have Ry:=(Jy.afl t wd mw).2;refine⟨_,rfl,_,rfl,p,A.fx t,_,v,rfl,rfl,SqL.of zy,by rw[Int.zero_add];exact yK hv,_,rfl,_,rfl,_,rfl,9,_,rfl,rfl,.inl ⟨by decide,by decide⟩,_,rfl,_,_,rfl,rfl,tY,_,rfl,by omega,by omega,λrm m0 m1=>⟨v,w',dl,kl,keys s,g,f,rm,rfl,Ry.2 j v w' hv (by rw[<-ef];exact hw'),my.d,my.ld.lds,(λu e=>?_),λy mw' H' s' mv spk=>?_⟩⟩
    ·obtain⟨wu,mu⟩:=G.ff t wd u mw (by rw[<-e,<-ef];exact aoI hw')
     exact mem_keys.mpr ⟨wu,mu⟩
    ·have m':=my.same s'
     have b':=bY.same s';have hd':=b' d _ ndm ndl hd6;have ms':=m'.set (p:=(g t+1+(j:Int)).toNat) mv (λt n z=>absurd z (spk.plain.1 t n)) (λb n z=>absurd z (spk.plain.2 b n)) (aj4 _ 1e1);refine⟨_,rfl,_,rfl,_,rfl,d,.int (g t),rfl,.inl ⟨kvs,Sum.inl t,.inl hd',rfl,(dg.v t mt).symm⟩,_,1,rfl,rfl,_,rfl,_,_,rfl,rfl,ml,mys,g t+1+(0+(j:Int)),(g t+1+(j:Int)).toNat,rfl,rfl,m'.l,(by rw[Int.zero_add];exact Iq 1e1 (by rw[m'.r.1,m'.n];omega)),?_⟩;refine⟨_,_,_,rfl,b'.um,by rw[af npm];exact s' _ _ zy,ms',λu m=>(cy u m).keep (away u m _ 1e1 1e1),?_⟩;have kp:=dy.keep (p:=(g t+1+(j:Int)).toNat) (w:=mw') ⟨by omega,λi hi=>by omega⟩;refine⟨kp.1,λi w hi hw=>?_⟩;rcases aps i j with c|c
     ·exact kp.2 i w c hw
     ·have e:i=j:=by omega
      subst e;rw[hw']at hw;cases hw;exact⟨mw',by rw[show(g t).toNat+1+i=(g t+1+(i:Int)).toNat by omega,apo (by rw[my.n];omega)],spk⟩
   ·rintro σ Hy ⟨mys,mws,v6,rfl,bY,zy,my,cy,dy⟩
    rw[Int.toNat_natCast,eR]at dy;refine⟨_,_,_,_,_,rfl,bY,my,λu m=>?_⟩;rw[take_snoc ht]at m;rcases aoU.mp m with m|m
    ·exact cy u m
    ·rw[aoH.mp m];exact dy
  ·rintro σ Hx ⟨mys,mws,v6,v7,v9,rfl,bx,mx,hc⟩
   rw[aoG,aoM (aoL _)]at hc;have h0:∀ t∈keys s,0<=g t/\0<=f t/\f t<=100000/\g t<=100000/\mws[(g t).toNat]?=some (.hd t (fld s t).length):=λt mt=>by
    have q1:=pl.bd t (pm.mem_iff.mpr mt);have q2:=mx.fr t mt;exact⟨q1.1,by omega,by omega,by omega,(hc t mt).1⟩
   have acj:∀ {w:Wd} {mw:Mw},Spk g f w mw->(∀ t,w=.th t->t∈keys s)->Lk mws (kvG 4e6 g) w mw:=λh ht=>h.lk mx.fw h0 ht;have pic:Pic mws s g:=by
    refine⟨λt wd mw=>?_,λt wd t' wd' m1 m2 nn=>?_⟩
    ·have mt:=mem_keys.mpr ⟨wd,mw⟩
     obtain⟨q1,q2⟩:=pl.bd t (pm.mem_iff.mpr mt);have ef:=G.fld mw;obtain⟨c1,c2⟩:=hc t mt;rw[ef]at q2 c1 c2;refine⟨q1,by rw[mx.n];omega,c1,λi w hw=>?_⟩;obtain⟨mw',e1,e2⟩:=c2 i w (aoE.mp hw).1 hw;refine⟨mw',e1,acj e2 λu e=>?_⟩;obtain⟨wu,mu⟩:=G.ff t wd u mw (by rw[<-e];exact aoI hw);exact mem_keys.mpr ⟨wu,mu⟩
    ·have:=pl.dj t (pm.mem_iff.mpr (mem_keys.mpr ⟨wd,m1⟩)) t' (pm.mem_iff.mpr (mem_keys.mpr ⟨wd',m2⟩)) nn
     rw[G.fld m1,G.fld m2]at this;exact this
   have SX:=aci bx;have hdx:=bx d _ ndm ndl hd6;have Jx:=J.same SX;refine⟨_,rfl,x,_,_,rfl,Jx.ax,1e4,x,A,s,rfl,Jx,G,λp7 H7 s7 hp7 z7=>⟨p7,rfl,⟨_,SqL.of z7⟩,λL hL=>?_⟩⟩;have fin:∀ {Hb Hd He:Hp} {L:Addr} {us:List V} {u:V} {m0:Mw} {P:Nat->Mw->Prop} {i:Nat},Hb L=none->aw Hb Hd->Hd L=some (.lst us)->us.length=i->(∀(j:Nat) (y:V),us[j]?=some y->∃ mw,MV Hd y mw/\P j mw)->aw Hd He->MV He u m0->P i m0->He L=some (.lst us)/\(us++[u]).length=i+1/\aw Hb (upd He L (.lst (us++[u])))/\upd He L (.lst (us++[u])) L=some (.lst (us++[u]))/\∀(j:Nat) (y:V),(us++[u])[j]?=some y->∃ mw,MV (upd He L (.lst (us++[u]))) y mw/\P j mw:=λ{Hb Hd He L us u m0 P i} hb sc z e hq sd mv pm0 =>
    ⟨sd _ _ z,by rw[aoJ,e];rfl,(λb v y=>by rw[af (ao y hb)];exact sd _ _ (sc b v y)),ag,aag (sd _ _ z) (λj y hj=>by obtain⟨mw,e1,e2⟩:=hq j y hj;exact⟨mw,e1.keep (bg.of sd),e2⟩) mv (by rw[e];exact pm0)⟩
   refine fG (K:=K) (a:=p7) (xs:=A.hx) (λi us Hd=>us.length=i/\aw H7 Hd/\Hd L=some (.lst us)/\∀(j:Nat) (y:V),us[j]?=some y->∃ mw,MV Hd y mw/\∀ w,s.aZ[j]?=some w->Spk g f w mw) ⟨rfl,aw.upd hL,ag,(λj y h=>by cases h)⟩ (λi us Hd _ ⟨e,_,z,_⟩=>⟨z,e⟩) (λi us Hd _ ⟨_,sc,_⟩=>SqL.of (sc _ _ z7)) (by rw[Jx.rhl.1,G.h8];decide) (λi v us Hd hi ⟨e,sc,z,hq⟩=>?_) (λus H8 ⟨e8,s8,z8,hq8⟩=>?_)
   ·have S8:=s7.trans sc
    obtain⟨w',hw'⟩:∃ w',s.aZ[i]?=some w':=⟨s.aZ[i]'(by rw[<-Jx.rhl.1];exact(aoE.mp hi).1),aoF _⟩;refine⟨_,rfl,_,rfl,_,rfl,tY,200,rfl,by decide,by decide,λrm m0 m1=>⟨v,w',dl,kl,keys s,g,f,rm,rfl,(Jx.rhl.2 i v w' hi hw').keep (bg.of S8),S8 _ _ mx.d,(mx.ld.keep λq us _ y=>S8 _ _ y).lds,(λu e=>?_),λy mw' He sd mv spk=>?_⟩⟩
    ·obtain⟨wu,mu⟩:=G.hh u (by rw[<-e];exact aoI hw')
     exact mem_keys.mpr ⟨wu,mu⟩
    ·exact fin (P:=λj mw=>∀ w,s.aZ[j]?=some w->Spk g f w mw) hL sc z e hq sd mv (λw h=>by rw[hw']at h;cases h;exact spk)
   have S8:=s7.trans s8;have J8:=Jx.same S8;refine⟨_,rfl,x,_,_,rfl,J8.ax,1e4,x,A,s,rfl,J8,G,λp9 H9 s9 hp9 z9=>⟨p9,rfl,⟨_,SqL.of z9⟩,λL2 hL2=>?_⟩⟩;refine fG (K:=K) (a:=p9) (xs:=s.names.map nmV) (λi us Hd=>us.length=i/\aw H9 Hd/\Hd L2=some (.lst us)/\∀(j:Nat) (y:V),us[j]?=some y->∃ mw,MV Hd y mw/\∀ o,s.names[j]?=some o->Spk g f (nmW o) mw) ⟨rfl,aw.upd hL2,ag,(λj y h=>by cases h)⟩ (λi us Hd _ ⟨e,_,z,_⟩=>⟨z,e⟩) (λi us Hd _ ⟨_,sc,_⟩=>SqL.of (sc _ _ z9)) (by rw[aoG,G.n8];decide) (λi v us2 Hd hi ⟨e,sc,z,hq⟩=>?_) (λus2 H10 ⟨e10,s10,z10,aot⟩=>?_)
   ·rw[aoR]at hi
    obtain⟨o,ho,rfl⟩:=aoZ.mp hi;have S10:=(S8.trans s9).trans sc;cases o with
    | none=>exact⟨_,rfl,rfl,_,rfl,jP (decide_eq_true rfl) (fin (P:=λj mw=>∀ o,s.names[j]?=some o->Spk g f (nmW o) mw) (m0:=.no) hL2 sc z e hq (aw.refl _) (.inl ⟨rfl,rfl⟩) (λw h=>by rw[ho]at h;cases h;rfl))⟩
    | some t =>
     obtain⟨wt,mwt⟩:=G.nn t (aoI ho);obtain⟨t0,t1⟩:=G.lt t wt mwt;obtain⟨q2,_,hv2,hq2⟩:=mx.ld t (mem_keys.mpr ⟨wt,mwt⟩);refine⟨_,rfl,rfl,_,rfl,fV (decide_eq_false 1e0) ⟨_,rfl,_,rfl,dl,.ref q2,rfl,.inl ⟨kl,Sum.inl t,.inl (S10 _ _ mx.d),rfl,hv2.symm⟩,_,rfl,_,rfl,300,t,rfl,rfl,tY,_,rfl,by omega,by omega,λrm m0 m1=>?_⟩⟩;obtain⟨a',ha,ea⟩:=at3 (g:=g) (f:=f) (t:=t) (m:=rm);refine⟨rm,3,rfl,rfl,(by show(0:Int)<3;decide),q2,_,_,.int a',rfl,rfl,SqL.of (S10 _ _ hq2),ha,by show 2<=sizeLine;decide,λr hr'=>?_⟩;exact fin (P:=λj mw=>∀ o,s.names[j]?=some o->Spk g f (nmW o) mw) (m0:=.ad a') hL2 sc z e hq (aw.upd hr') (.inr ⟨1e0,r,rfl,ag⟩) (λw h=>by rw[ho]at h;cases h;exact⟨a',rfl,ea⟩)
   have S10:=(S8.trans s9).trans s10;have J10:=Jx.same S10;refine⟨_,rfl,_,rfl,_,rfl,_,rfl,x,_,_,rfl,J10.ax,1e4,x,A,s,rfl,J10,G,λp11 H11 s11 hp11 z11=>⟨p11,rfl,⟨_,SqL.of z11⟩,λL3 hL3=>?_⟩⟩;refine fG (K:=K) (a:=p11) (xs:=(keys s).map V.int) (λi us Hd=>us.length=i/\aw H11 Hd/\Hd L3=some (.lst us)/\∀(j:Nat) (u:V) (t:Int),us[j]?=some u->(keys s)[j]?=some t->∃ q,u=.ref q/\Hd q=some (.tup [.int t,.int (g t)])) ⟨rfl,aw.upd hL3,ag,(λj u t h=>by cases h)⟩ (λi us Hd _ ⟨e,_,z,_⟩=>⟨z,e⟩) (λi us Hd _ ⟨_,sc,_⟩=>SqL.of (sc _ _ z11)) (by rw[aoG];exact lE 1e1) (λi v us3 Hd hi ⟨e,sc,z,hq⟩=>?_) (λps H12 ⟨e12,s12,z12,aou⟩=>?_)
   ·rw[aoR]at hi
    obtain⟨t,ht,rfl⟩:=aoZ.mp hi;have mt:t∈ms:=pm.mem_iff.mpr (aoI ht);refine⟨_,rfl,_,rfl,_,rfl,d,.int (g t),rfl,.inl ⟨kvs,Sum.inl t,.inl (sc _ _ (s11 _ _ (S10 _ _ hdx))),rfl,(dg.v t mt).symm⟩,by show 2<=sizeLine;decide,λq hq'=>?_⟩;have s3:=aw.upd (o:=.tup [V.int t,V.int (g t)]) hq';have z3:=s3 _ _ z;refine⟨z3,by rw[aoJ,e];rfl,λb u y=>by rw[af (ao y hL3)];exact s3 _ _ (sc b u y),ag,λj u t' h1 h2=>?_⟩;rcases aps j us3.length with cj|cj
    ·rw[aoX cj]at h1
     obtain⟨q',e1,e2⟩:=hq j u t' h1 h2;exact⟨q',e1,by rw[af (az (s3 _ _ e2) z3 (by intro y;cases y))];exact s3 _ _ e2⟩
    ·have ej:j=us3.length:=by have:=(aoE.mp h1).1;rw[aoJ,apc]at this;omega
     rw[ej,ao1 (aoL _),aqb]at h1;cases h1;rw[ej,e,ht]at h2;cases h2;exact⟨q,rfl,by rw[af (az ag z3 (by intro y;cases y))];exact ag⟩
   ·rw[aoG]at e12 e10
    refine⟨by show 4<=sizeLine;decide,λr hr'=>?_⟩;have s13:=aw.upd (o:=.tup [.ref ml,.ref L,.ref L2,.ref L3]) hr';have F10:=(s11.trans s12).trans s13;have F8:=(s9.trans s10).trans F10;have FX:=S8.trans F8;refine k r ml L L2 L3 mys us us2 ps mws g _ (SX.trans FX) ach (aw.none (SX.trans s7) hL) (aw.none (SX.trans (S8.trans s9)) hL2) (aw.none (SX.trans (S10.trans s11)) hL3) ag (FX _ _ mx.l) (mx.r.keep (bg.of FX)) (by rw[mx.n];omega) mx.gm pic (F8 _ _ z8) (by rw[e8,Jx.rhl.1,G.h8]) (λi w y h1 h2=>?_) (F10 _ _ z10) (by rw[e10,G.n8]) (λi o y h1 h2=>?_) (s13 _ _ z12) ⟨e12,λi u t h1 h2=>by obtain⟨q,e1,e2⟩:=aou i u t h1 h2;exact⟨q,e1,s13 _ _ e2⟩⟩
    ·obtain⟨mw',e1,e2⟩:=hq8 i y h2
     refine⟨mw',e1.keep (bg.of F8),acj (e2 w h1) λu e=>?_⟩;obtain⟨wu,mu⟩:=G.hh u (by rw[<-e];exact aoI h1);exact mem_keys.mpr ⟨wu,mu⟩
    ·obtain⟨mw',e1,e2⟩:=aot i y h2
     refine⟨mw',e1.keep (bg.of F10),acj (e2 o h1) λu e=>?_⟩;cases o with
     | none=>cases e
     | some t =>
      cases e;obtain⟨wu,mu⟩:=G.nn _ (aoI h1);exact mem_keys.mpr ⟨wu,mu⟩
end
end K39
end
section
namespace L2
open PySem PySem.Spec PyProof.Rows LX
section
variable{X:Cx}{scope:Scope}{cl:List (Str×Addr)}{xs:List Str}{idx:List Nat}{NC:List Str}{C:Addr}{fp:List Addr}{pins:List (Addr×Obj)}{σ:St}{H:Hp}{s:Shared}
end
section
variable{X:Cx}{scope:Scope}{cl:List (Str×Addr)}{xs:List Str}{idx:List Nat}{NC:List Str}{C:Addr}{fp:List Addr}{pins:List (Addr×Obj)}{σ:St}{H:Hp}{s:Shared}
end
noncomputable def ade:R2:=λx y H Q=>∃ b c:Bool,x=.bl b/\y=.bl c/\Q (.bl (!decide (b=c))) H
theorem NH{X:Cx}:OpR X (compareOp .IsNot) ade:=by
 rintro pins s σ H x y v u Q I rx ry ⟨b,c,rfl,rfl,q⟩;cases rx;cases ry;refine wpAny_isNot_plain rfl (dG I q ?_);cases b<;>cases c<;>rfl
theorem kP{H:Hp}{l:Addr}{o:HO}(_:aw H (upd H l o)):upd H l o l=some o:=ag
end L2
end
section
namespace K39
open PySem L2 LX
section
variable{P:Program}{w:World}{K:W.Frag}{mg:Str->Option Value}{base:Heap}{D:Ad}
theorem Jf{ws:List Mw}{a:Nat}{t:Int}{us:List Mw}:(layW ws a t us).length=ws.length:=by unfold layW;rw[Ln,apb]
theorem IG{ws:List Mw}{a n:Nat}(h:a+n<ws.length):(qS ws a n).length=n:=by unfold qS;rw[aoS,apT];omega
noncomputable def Ww(D:Ad):Sp:=λvs H Q _=>∃ m mx c xs ws,∃(a t:Int) (l:Addr) (ys:List V) (us:List Mw),vs=[.ref m,.int a,.int t,.ref l]/\Mm D H m mx c xs ws/\H l=some 5e0/\MR H ys us/\l≠c/\0<=a/\a+us.length<ws.length/\∀ xs' H',But c H H'->Mm D H' m mx c xs' (layW ws a.toNat t us)->Q .non H'
noncomputable abbrev adf:List Str:=["memory","a","t","values","k","value"]
theorem Si:av adf ["memory","a","t","values"] (ar Xj):=fsc
theorem aah(F:Fun K "lay" "lay" Xj D.FF D.QZ)(T:Txt K mg D)
  (iR:9e7 3 D.c8 D.iN ["memory","a","fields"] (NB D))
  (fF:9e7 4 D.fE D.ja ["self","a","word"] (IB D)):9e7 6 D.FF D.QZ ["memory","a","t","values"] (Ww D):=by
 refine F.oa Si F.b4 λcdv A' outer s' H vs Q E hr h=>?_;obtain⟨m,mx,c,xs,ws,a,t,l,ys,us,rfl,M,hl,ru,nlc,a0,al,k⟩:=h;refine⟨_,(PSs.nox (ai (aE (iR.c hr T.wM T.mC aV (aa (pv 0) (aa (pv 1) (aa (bj aP rfl T.ji PyProof.Rows.Boot.«len» 5e3) ah)))))
  (ai (aE (fF.m hr (pv 0) T.bD T.nZ aV (aa (pv 1) (aa (cW (aa cK (aa (pv 2) (aa (bj aP rfl T.ji PyProof.Rows.Boot.«len» 5e3) ah)))) ah))))
  (aj (eK aoY rfl (vM rfl T.ic 5e3) (nV rfl (bz (aK (i:=4) Si.nd rfl 1e3) (bz (aK (i:=5) Si.nd rfl 1e3) jY)))
   (aj (aE (fF.m hr (pv 0) T.bD T.nZ aV (aa (aJ cc (aJ cc (pv 1) au) (pv 4)) (aa (pv 5) ah)))))))))),?_⟩
 have z:=M.z;have eu:=ru.1;refine⟨_,rfl,_,rfl,_,rfl,l,ys,rfl,.inl (SqL.of hl),m,mx,c,xs,ws,a,ys.length,rfl,M,Sm.of 1e1 1e1,Sm.of 1e1 1e1,?_⟩;rw[if_pos ⟨a0,by omega⟩];refine⟨_,rfl,m,_,_,rfl,M.i,1e4,_,rfl,_,rfl,_,rfl,l,ys,rfl,.inl (SqL.of hl),by show 3<=sizeLine;decide,λp hp=>?_⟩;have s1:=aw.upd (o:=.tup [V.str "head",V.int t,V.int ys.length]) hp;refine⟨m,mx,c,xs,ws,a,.ref p,.hd t us.length,rfl,M.same s1,Sm.of 1e1 1e1,.inr ⟨1e0,p,rfl,by rw[ag,eu];rfl⟩,?_⟩;rw[if_pos ⟨a0,by omega⟩];intro M2;have b2:But c H (upd (upd H p (.tup [V.str "head",V.int t,V.int ys.length])) c (.lst (xs.set a.toNat 4e3))):=(But.same s1).trans But.self;refine⟨_,rfl,l,rfl,⟨_,SqL.of (b2 l _ nlc hl)⟩,rj (K:=K) (a:=l) (xs:=ys) (λi σ Hx=>∃ v4 v5 xs',σ=[some (.ref m),some (.int a),some (.int t),some (.ref l),v4,v5]/\But c H Hx/\Mm D Hx m mx c xs' (yJ (ws.set a.toNat (.hd t us.length)) (a.toNat+1) (us.take i)))
  ⟨none,none,_,rfl,b2,M2⟩ (λi σ Hx _ ⟨_,_,_,_,b,_⟩=>SqL.of (b l _ nlc hl)) ?_ ?_⟩
 ·rintro i v σ Hx tp hi ⟨v4,v5,xs',rfl,bx,Mx⟩ htp
  have s3:=aw.upd (o:=.tup [.int (i:Int),v]) htp;refine⟨tp,_,rfl,SqT.of ag,rfl,_,_,rfl,_,_,rfl,rfl,?_⟩;have hil:i<us.length:=by rw[<-eu];exact(aoE.mp hi).1
  have hu':us[i]?=some us[i]:=aoF hil;have ll:(yJ (ws.set a.toNat (.hd t us.length)) (a.toNat+1) (us.take i)).length=ws.length:=by rw[Ln,apb]
  have M3:=Mx.same s3;have tv:bg H (upd Hx tp (.tup [.int (i:Int),v])):=λb us q=>s3 _ _ (bx b _ (az q M.l 1e0) q);refine⟨_,rfl,m,_,_,rfl,M3.i,1e4,_,rfl,a,1,rfl,rfl,_,rfl,_,_,rfl,rfl,_,rfl,m,mx,c,xs',_,a+1+(i:Int),v,us[i],rfl,M3,Sm.of 1e1 1e1,(ru.2 i v _ hi hu').keep tv,?_⟩;rw[ll,if_pos ⟨by omega,by omega⟩];intro M4;refine⟨_,_,xs'.set (a+1+(i:Int)).toNat v,rfl,(bx.trans (But.same s3)).trans But.self,?_⟩;rw[take_snoc hu',Rt,aoS,show a.toNat+1+min i us.length=(a+1+(i:Int)).toNat by omega];exact M4
 ·rintro σ Hx ⟨v4,v5,xs',rfl,bx,Mx⟩
  rw[eu,aoM (aoL _)]at Mx;exact k xs' Hx bx Mx
noncomputable def Ts(D:Ad):Sp:=λvs H Q _=>∃ m mx c xs ws,∃ a b t n:Int,vs=[.ref m,.int a,.int b]/\Mm D H m mx c xs ws/\Gm ws/\thg ws a=some (t,n)/\0<=b/\b+n<ws.length/\∀ xs' H',But c H H'->Mm D H' m mx c xs' ((layW ws b.toNat t (qS ws a.toNat n.toNat)).set a.toNat (.mv b n))->Q .non H'
noncomputable abbrev aai:List Str:=["memory","a","b","thing"]
theorem Tt:av aai ["memory","a","b"] (ar Sa):=fsc
theorem Yz(F:Fun K "move" "move" Sa D.vO D.Jp)(T:Txt K mg D)
  (fX:9e7 7 D.fT D.j3 ["memory","a"] (JN D))
  (Xs:9e7 6 D.FF D.QZ ["memory","a","t","values"] (Ww D))
  (fF:9e7 4 D.fE D.ja ["self","a","word"] (IB D)):9e7 8 D.vO D.Jp ["memory","a","b"] (Ts D):=by
 refine F.oa Tt F.b3 λcdv A' outer s' H vs Q E hr h=>?_;obtain⟨m,mx,c,xs,ws,a,b,t,n,rfl,M,gm,ht,b0,bl,k⟩:=h;refine⟨_,(PSs.nox (ai (aO (i:=3) Tt.nd rfl 1e3 (fX.c hr T.uZ T.oe aV (aa (pv 0) 2e2)))
  (ai (aE (Xs.c hr T.acY T.Xk aV (aa (pv 0) (aa (pv 2) (aa 3e9 (aa 3e9 ah))))))
  (aj (aE (fF.m hr (pv 0) T.bD T.nZ aV (aa (pv 1) (aa (cW (aa cK (aa (pv 2) (aa (bj aP rfl T.ji PyProof.Rows.Boot.«len» (aa 3e9 ah)) ah)))) ah)))))))),?_⟩
 have z:=M.z;obtain⟨a0,hw,al⟩:=Qm ht;have hn:=gm.hd t n (aoI hw);have sl:(qS ws a.toNat n.toNat).length=n.toNat:=IG 1e1;refine⟨_,rfl,_,rfl,m,mx,c,xs,ws,a,rfl,M,gm,Sm.of 1e1 1e1,?_⟩;rw[ht];intro p l ys H1 s1 hl0 hp hl ry;have M1:=M.same s1;have nlc:l≠c:=aoT (ao M.l hl0);refine⟨_,rfl,_,rfl,_,rfl,p,_,0,.int t,rfl,rfl,SqT.of hp,rfl,_,rfl,p,_,1,.ref l,rfl,rfl,SqT.of hp,rfl,m,mx,c,xs,ws,b,t,l,ys,_,rfl,M1,hl,ry,nlc,b0,by rw[sl];omega,λxs2 H2 b2 M2=>?_⟩;have hp2:=b2 p _ (az hp M1.l 1e0) hp;have hl2:=b2 l _ nlc hl;refine⟨_,rfl,m,_,_,rfl,M2.i,1e4,_,rfl,_,rfl,_,rfl,p,_,1,.ref l,rfl,rfl,SqT.of hp2,rfl,l,ys,rfl,.inl (SqL.of hl2),by show 3<=sizeLine;decide,λq hq=>?_⟩;have s3:=aw.upd (o:=.tup [V.str "moved",V.int b,V.int ys.length]) hq;have ey:(ys.length:Int)=n:=by rw[ry.1,sl];omega
 refine⟨m,mx,c,xs2,_,a,.ref q,.mv b n,rfl,M2.same s3,Sm.of 1e1 1e1,.inr ⟨1e0,q,rfl,by rw[ag,ey];rfl⟩,?_⟩;rw[Jf,if_pos ⟨a0,by omega⟩];intro M4;exact k _ _ (((But.same s1).trans b2).trans ((But.same s3).trans But.self)) M4
theorem Tu:∀ {a b:List Int},a.Pairwise (·< ·)->b.Pairwise (·< ·)->(∀ t,t∈a↔t∈b)->a=b
 | [],[],_,_,_=>rfl
 | [],y::b,_,_,h=>absurd ((h y).mpr ao3) 1e9
 | x::a,[],_,_,h=>absurd ((h x).mp ao3) 1e9
 | x::a,y::b,pa,pb,h=>by
  rw[aqg]at pa pb;have e:x=y:=by
   rcases ao2.mp ((h x).mp ao3) with e|e
   ·exact e
   ·rcases ao2.mp ((h y).mpr ao3) with f|f
    ·exact f.symm
    ·have:=pb.1 x e
     have:=pa.1 y f
     omega
  subst e;rw[Tu pa.2 pb.2 λt=>⟨λm=>?_,λm=>?_⟩]
  ·rcases ao2.mp ((h t).mp (ao6 _ m)) with e|e
   ·have:=pa.1 t m;omega
   ·exact e
  ·rcases ao2.mp ((h t).mpr (ao6 _ m)) with e|e
   ·have:=pb.1 t m;omega
   ·exact e
theorem Fm:∀ {l:List Int},l.Pairwise (·<=·)->l.Nodup->l.Pairwise (·< ·)
 | [],_,_=>.nil
 | a::r,h,n=>by
  rw[aqg]at h ⊢;rw[apP]at n;exact⟨λb m=>by have h1:=h.1 b m;have h2:a≠b:=λe=>n.1 (by rw[e];exact m);omega,Fm h.2 n.2⟩
structure Dgn(kvs:List (Key×V))(ms:List Int)(g:Int->Int):Prop where
 k:Kys kvs ms
 n:ms.Nodup
 v:∀ t∈ms,ir kvs 2e7=some (.int (g t))
theorem Dgn.nil{g:Int->Int}:Dgn [] [] g:=⟨rfl,List.nodup_nil,λt m=>nomatch m⟩
theorem Ut{kvs:List (Key×V)}{ms:List Int}{t:Int}{v:V}(k:Kys kvs ms)(h:t∈ms):Kys (putK kvs 2e7 v) ms:=by
 unfold Kys at k ⊢;rw[<-k];have hs:(kvs.any λkv=>decide (kv.1=(Sum.inl t:Key)))=true:=by
  have m:(Sum.inl t:Key)∈kvs.map (·.1):=by rw[k];exact ao5.mpr ⟨t,h,rfl⟩
  obtain⟨p,mp,e⟩:=ao5.mp m;exact List.any_eq_true.mpr ⟨p,mp,decide_eq_true e⟩
 unfold putK;rw[if_pos hs,apn];refine apD λp _=>?_;show(if p.1=Sum.inl t then(p.1,v) else p).1=p.1;split<;>rfl
theorem Dgn.put{kvs:List (Key×V)}{ms:List Int}{g:Int->Int}(d:Dgn kvs ms g){t:Int}:∃ ms',Dgn (putK kvs 2e7 (.int (g t))) ms' g/\(∀ u,u∈ms'↔u∈ms\/u=t)/\ms'.length<=ms.length+1:=by
 by_cases c:t∈ms
 ·refine⟨ms,⟨Ut d.k c,d.n,λu m=>?_⟩,λu=>⟨.inl,λz=>z.elim id λe=>by rw[e];exact c⟩,ap8 _⟩
  by_cases e:u=t
  ·subst e;rw[uc,if_pos rfl]
  ·rw[uc,if_neg (λz=>e (Sum.inl.inj z))];exact d.v u m
 ·refine⟨ms++[t],⟨?_,?_,λu m=>?_⟩,λu=>by rw[aoU,aoH],by rw[aoJ];exact aoL _⟩
  ·rw[ue _ (d.k.non c)]
   have:=d.k
   unfold Kys at this ⊢;rw[aoV,aoV,this];rfl
  ·rw[apC]
   exact⟨d.n,by simp,λa ha b hb=>by rw[aoH.mp hb];exact λe=>c (by rw[<-e];exact ha)⟩
  ·by_cases e:u=t
   ·subst e;rw[uc,if_pos rfl]
   ·rw[uc,if_neg (λz=>e (Sum.inl.inj z))];exact d.v u ((aoU.mp m).resolve_right λz=>e (aoH.mp z))
noncomputable def Ld(ws:List Mw)(a:Int)(o:Option (Int×Int)):Prop:=∃ j r,Rv ws j a r/\(match r with|none=>o=none|some z=>(match thg ws z with|some (t,_)=>o=some (t,z)|none=>o=none))
theorem adg{ws:List Mw}{j:Nat}{a z:Int}(h:Rv ws j a (some z)):0<=z/\z<ws.length:=by
 generalize e:some z=r at h;induction h with
 | out _=>cases e
 | stop h0 hw _=>cases e;exact⟨h0,by have:=(aoE.mp hw).1;omega⟩
 | step _ _ _ ih=>exact ih e
noncomputable def Tv(D:Ad):Sp:=λvs H Q E=>∃ m mx c xs ws,∃(l:Addr) (as:List Int) (F:Int->Option (Int×Int)) (g:Int->Int),vs=[.ref m,.ref l]/\Mm D H m mx c xs ws/\Gm ws/\H l=some (.lst (as.map V.int))/\as.length<=60/\(∀ a∈as,Sm a/\Ld ws a (F a))/\(∀ a∈as,∀ t z,F a=some (t,z)->z=g t)/\((∀ a∈as,(F a).isSome=true)->∀ p ps ks H',aw H H'->H p=none->H' p=some (.lst ps)->Pr H' ps ks g->ks.Pairwise (·< ·)->(∀ t,t∈ks↔∃ a∈as,∃ z,F a=some (t,z))->ks.length<64->Q 4e3 H')/\(¬(∀ a∈as,(F a).isSome=true)->Bad D.a9 H E)
noncomputable abbrev Ls:List Str:=["memory","firsts","stands","first","a"]
theorem u7:av Ls ["memory","firsts"] (ar yD):=fsc
theorem Rz(F:Fun K "book_of" "book_of" yD D.kD D.tN)(T:Txt K mg D)
  (iw:9e7 5 D.gL D.lB ["memory","a"] (NT D))
  (fX:9e7 7 D.fT D.j3 ["memory","a"] (JN D)):9e7 8 D.kD D.tN ["memory","firsts"] (Tv D):=by
 refine F.oa u7 F.b2 λcdv A' outer s' H vs Q E hr h=>?_;obtain⟨m,mx,c,xs,ws,l,as,F,g,rfl,M,gm,hl,la,hF,hg,k,kb⟩:=h;have hu:=jw hr;refine⟨_,(PSs.xr (ai (aO (i:=2) u7.nd rfl (Or.inr rfl) jE)
  (ai (eK aj2 rfl (cI (pv 1)) (aK (i:=3) u7.nd rfl 1e3)
   (ai (aO (i:=4) u7.nd rfl 1e3 (iw.c hr T.AV T.qX (Rr λ_ _ _ q=>q) (aa (pv 0) 5e3)))
   (aj (mY hu (pv 2) (bT cf (fX.c hr T.uZ T.oe (Rr λ_ _ _ q=>q) (aa (pv 0) 3e0)) au 1e7) (pv 4) rfl))))
  (aj (aF (jD (cl:=[("stands",s'.heap.objs.size+1)]) (x := "t") (idx:=[2]) (NC:=["t","stands"]) ?co1 rfl (cI (bj (LA rfl) rfl T.xN PyProof.Rows.Boot.«sorted» 3e3)) (λC fp s₀ H₀=>(cW (aa (pv 0) (aa (hG hu (pv 1) (pv 0) 1e7) ah)))))))))),?_⟩
 case co1 =>
  exact gk (sc:=ar yD) (N:=Ls) (ns:=["stands"]) rfl rfl rfl 2e4 rfl rfl (by
   intro q hq;rw[aoH.mp hq];rfl)
 have z:=M.z;intro d hd;have s0:=aw.upd (o:=.dK []) hd;refine⟨_,rfl,l,rfl,⟨_,SqL.of (s0 _ _ hl)⟩,gN (K:=K) (a:=l) (xs:=as.map V.int) (λi σ Hx=>∃ v3 v4 kvs ms,σ=[some (.ref m),some (.ref l),some (.ref d),v3,v4]/\aw H Hx/\Hx d=some 2e6/\Dgn kvs ms g/\ms.length<=i/\(∀ t,t∈ms↔∃ a∈as.take i,∃ z,F a=some (t,z))/\∀ a∈as.take i,(F a).isSome=true)
  ⟨none,none,[],[],rfl,s0,ag,Dgn.nil,aoL _,(λt=>⟨(λm=>nomatch m),λ⟨a,m,_⟩=>nomatch m⟩),(λa m=>nomatch m)⟩ (λi σ Hx _ ⟨_,_,_,_,_,sx,_⟩=>SqL.of (sx _ _ hl)) ?_ ?_⟩
 ·rintro i v σ Hx hi ⟨v3,v4,kvs,ms,rfl,sx,zd,dg,lm,hm,hs⟩
  rw[aoR]at hi;obtain⟨a,hai,rfl⟩:=aoZ.mp hi;have ma:a∈as:=aoI hai;have tk:=take_snoc hai;obtain⟨sa,j,r,hr1,hr2⟩:=hF a ma;have Mx:=M.same sx;refine⟨_,rfl,_,rfl,m,mx,c,xs,ws,a,j,r,rfl,Mx,gm,sa,hr1,?_⟩;have bad:F a=none->Bad D.a9 Hx E:=λe=>(kb λh=>by have:=h a ma;rw[e]at this;cases this).same sx;cases r with
  | none=>exact bad hr2
  | some zz =>
   obtain⟨z0,z1⟩:=adg hr1;refine⟨_,rfl,?_⟩;refine⟨_,rfl,_,rfl,_,rfl,m,mx,c,xs,ws,zz,rfl,Mx,gm,Sm.of 1e1 1e1,?_⟩;cases et:thg ws zz with
   | none =>
    simp only[et]at hr2;exact bad hr2
   | some q =>
    obtain⟨t,n⟩:=q;simp only[et]at hr2;intro p l2 ys H1 s1 _ hp _ _;have eg:=hg a ma t zz hr2;obtain⟨ms',dg',hm',lm'⟩:=dg.put (t:=t);have lk:=dg.k.len;refine⟨p,_,0,.int t,rfl,rfl,SqT.of hp,rfl,d,_,rfl,Fg.k (k:=Sum.inl t) (s1 _ _ zd) (by rw[lk];exact om (by have:=(aoE.mp hai).1;omega)),?_⟩;rw[eg];refine⟨_,_,_,ms',rfl,λb u q=>by rw[af (ao q hd)];exact s1 _ _ (sx b u q),ag,dg',by omega,λu=>?_,λb mb=>?_⟩
    ·rw[hm' u,hm u,tk]
     constructor
     ·rintro(⟨b,mb,y⟩|rfl)
      ·exact⟨b,apf _ mb,y⟩
      ·exact⟨a,aoP _ (aoH.mpr rfl),zz,hr2⟩
     ·rintro⟨b,mb,y,hy⟩
      rcases aoU.mp mb with mb|mb
      ·exact .inl ⟨b,mb,y,hy⟩
      ·rw[aoH.mp mb,hr2]at hy
       cases hy;exact .inr rfl
    ·rw[tk]at mb
     rcases aoU.mp mb with mb|mb
     ·exact hs b mb
     ·rw[aoH.mp mb,hr2];rfl
 ·rintro σ Hx ⟨v3,v4,kvs,ms,rfl,sx,zd,dg,lm,hm,hs⟩
  rw[aoG]at lm;rw[aoG,aoM (aoL _)]at hm hs;refine⟨_,rfl,d,kvs,ms,rfl,zd,dg.k,by omega,λp1 ks hp1 pm srt=>?_⟩;have s2:=aw.upd (o:=.lst (ks.map V.int)) hp1;have zd2:=s2 _ _ zd;have asc:=Fm srt (pm.nodup_iff.mpr dg.n);have lks:ks.length=ms.length:=pm.length_eq;refine⟨p1,rfl,⟨_,SqL.of ag⟩,λL hL=>?_⟩;refine fG (K:=K) (a:=p1) (xs:=ks.map V.int) (λi ys Hc=>ys.length=i/\aw (upd Hx p1 (.lst (ks.map V.int))) Hc/\Hc L=some 5e0/\∀(j:Nat) (u:V) (t:Int),ys[j]?=some u->ks[j]?=some t->∃ q,u=.ref q/\Hc q=some (.tup [.int t,.int (g t)])) ⟨rfl,aw.upd hL,ag,(λj u t h=>by cases h)⟩ (λi ys Hc _ ⟨e,_,z,_⟩=>⟨z,e⟩) (λi ys Hc _ ⟨_,sc,_⟩=>SqL.of (sc _ _ ag)) (by rw[aoG];exact lE 1e1) (λi v ys Hc hi ⟨e,sc,z,hq⟩=>?_) (λys Hc ⟨e,sc,z,hq⟩=>?_)
  ·rw[aoR]at hi
   obtain⟨t,ht,rfl⟩:=aoZ.mp hi;have mt:t∈ms:=pm.mem_iff.mp (aoI ht);refine⟨_,rfl,_,rfl,_,rfl,d,.int (g t),rfl,.inl ⟨kvs,Sum.inl t,.inl (sc _ _ zd2),rfl,(dg.v t mt).symm⟩,by show 2<=sizeLine;decide,λq hq'=>?_⟩;have s3:=aw.upd (o:=.tup [V.int t,V.int (g t)]) hq';have z3:=s3 _ _ z;refine⟨z3,by rw[aoJ,e];rfl,λb u y=>by rw[af (ao y hL)];exact s3 _ _ (sc b u y),ag,λj u t' h1 h2=>?_⟩;rcases aps j ys.length with cj|cj
   ·rw[aoX cj]at h1
    obtain⟨q',e1,e2⟩:=hq j u t' h1 h2;exact⟨q',e1,by rw[af (az (s3 _ _ e2) z3 (by intro y;cases y))];exact s3 _ _ e2⟩
   ·have ej:j=ys.length:=by have:=(aoE.mp h1).1;rw[aoJ,apc]at this;omega
    rw[ej,ao1 (aoL _),aqb]at h1;cases h1;rw[ej,e,ht]at h2;cases h2;exact⟨q,rfl,by rw[af (az (kP s3) z3 (by intro y;cases y))];exact kP s3⟩
  ·rw[aoG]at e
   refine k hs L ys ks Hc ((sx.trans s2).trans sc) (aw.none (sx.trans s2) hL) z ⟨e,hq⟩ asc (λt=>?_) 1e1;rw[pm.mem_iff,hm t]
noncomputable def Tw:Sp:=λvs H Q _=>∃(b:Addr) (ps:List V) (ks:List Int) (g:Int->Int) (t:Int),vs=[.ref b,.int t]/\H b=some (.lst ps)/\Pr H ps ks g/\Q (if t∈ks then .int (g t) else .non) H
noncomputable abbrev Mn:List Str:=["book","t","pair"]
theorem yY:av Mn ["book","t"] (ar uj):=fsc
theorem JX(F:Fun K "address_in" "address_in" uj D.fY D.mG)(T:Txt K mg D):9e7 1 D.fY D.mG ["book","t"] (Tw):=by
 refine F.oa yY F.b2 λcdv A' outer s' H vs Q E hr h=>?_;obtain⟨b,ps,ks,g,t,rfl,hb,pr,k⟩:=h;refine⟨_,(PSs.nox (ai (eK aoY rfl (cI (pv 0)) (aK (i:=2) yY.nd rfl 1e3)
   (aj (bS (aG tK (bT cf (pv 2) au 1e7) (pv 1) (aU _))
    (aj (aF (bT cf (pv 2) au 1e7)))
    aR)))
  (aj (aF bR)))),?_⟩
 refine⟨_,rfl,b,rfl,⟨_,SqL.of hb⟩,gN (K:=K) (a:=b) (xs:=ps) (λi σ Hx=>∃ v2,σ=[some (.ref b),some (.int t),v2]/\Hx=H/\t∉ks.take i) ⟨none,rfl,rfl,(λm=>nomatch m)⟩ (λi σ Hx _ ⟨_,_,e,_⟩=>by rw[e];exact SqL.of hb) ?_ ?_⟩
 ·rintro i v σ Hx hi ⟨v2,rfl,rfl,nt⟩
  have hil:i<ks.length:=by rw[<-pr.1];exact(aoE.mp hi).1
  have hk:ks[i]?=some ks[i]:=aoF hil;obtain⟨u,eu⟩:∃ u,ks[i]=u:=⟨_,rfl⟩;rw[eu]at hk;obtain⟨q,rfl,hq⟩:=pr.2 i v u hi hk;refine⟨_,rfl,q,_,0,.int u,rfl,rfl,SqT.of hq,rfl,_,rfl,rfl,_,rfl,?_⟩;by_cases c:u=t
  ·subst c
   rw[if_pos (aoI hk)]at k;exact jP 1e9 ⟨_,rfl,q,_,1,.int (g u),rfl,rfl,SqT.of hq,rfl,k⟩
  ·refine fV (by simp[c]) ⟨_,rfl,rfl,?_⟩
   rw[take_snoc hk,aoU];exact λz=>z.elim nt λz=>c (aoH.mp z).symm
 ·rintro σ Hx ⟨v2,rfl,rfl,nt⟩
  rw[pr.1,aoM (aoL _)]at nt;rw[if_neg nt]at k;exact k
theorem YA{ws:List Mw}{a:Nat}{t:Int}{us:List Mw}(h:a+us.length<ws.length)(j:Nat):(layW ws a t us)[j]?=if j=a then some (.hd t us.length) else if a<j/\j<=a+us.length then us[j-(a+1)]? else ws[j]?:=by
 unfold layW;rw[VP _ _ _ _ (by rw[apb];omega)];by_cases c:j=a
 ·subst c
  rw[if_neg 1e1,if_pos rfl,apo 1e1]
 ·rw[if_neg c]
  by_cases d:a<j/\j<=a+us.length
  ·rw[if_pos 1e1,if_pos d]
  ·rw[if_neg 1e1,if_neg d,apz (aoT c)]
structure Rm(ws:List Mw)(s:HS)(g:Int->Int)(sp:Int):Prop where
 hi:∀ t wd,(t,wd)∈s.aQ->g t+(wd.length:Int)<sp
 s0:0<=sp
 no:∀ j:Nat,sp<=j->j<ws.length->ws[j]?=some .no
noncomputable def mvW(ws:List Mw)(a b t n:Int):List Mw:=(layW ws b.toNat t (qS ws a.toNat n.toNat)).set a.toNat (.mv b n)
noncomputable def gM(g:Int->Int)(t b:Int):Int->Int:=λu=>if u=t then b else g u
theorem DY{ws:List Mw}{a b t n:Int}:(mvW ws a b t n).length=ws.length:=by unfold mvW;rw[apb,Jf]
theorem GI{ws:List Mw}{a b t n:Int}(a0:0<=a)(n0:0<=n)(b0:0<=b)(al:a+n<ws.length)(bl:b+n<ws.length)(j:Nat):(mvW ws a b t n)[j]?=if(j:Int)=a then some (.mv b n) else if(j:Int)=b then some (.hd t n) else if b<j/\(j:Int)<=b+n then ws[(a+1+(j-(b+1))).toNat]? else ws[j]?:=by
 unfold mvW;have sl:(qS ws a.toNat n.toNat).length=n.toNat:=IG 1e1;rw[aqw,Jf];by_cases c:a.toNat=j
 ·rw[if_pos c,if_pos 1e1,if_pos 1e1]
 ·rw[if_neg c,if_neg (show ¬(j:Int)=a by omega),YA (by rw[sl];omega)]
  by_cases d:j=b.toNat
  ·rw[if_pos d,if_pos (show(j:Int)=b by omega),sl,show((n.toNat:Nat):Int)=n by omega]
  ·rw[if_neg d,if_neg (show ¬(j:Int)=b by omega),sl]
   by_cases e:b.toNat<j/\j<=b.toNat+n.toNat
   ·rw[if_pos e,if_pos (show b<(j:Int)/\(j:Int)<=b+n by omega)]
    unfold qS;rw[aqt,if_pos 1e1,apW];congr 1
    omega
   ·rw[if_neg e,if_neg 1e1]
section
variable{ws:List Mw}{s:HS}{g:Int->Int}{b t:Int}{wd:List Wd}
theorem II(P:Pic ws s g)(R:Rm ws s g b)(mt:(t,wd)∈s.aQ)(bl:b+(wd.length:Int)<ws.length){j:Nat}{w:Mw}(hw:ws[j]?=some w)(n:w≠.no)(nj:(j:Int)≠g t):(mvW ws (g t) b t wd.length)[j]?=some w:=by
 obtain⟨p0,p1,_,_⟩:=P.hd t wd mt;have jl:=(aoE.mp hw).1;have jb:(j:Int)<b:=Int.not_le.mp λz=>by
  have:=R.no j z jl
  rw[hw]at this;exact n (ao4 this)
 rw[GI p0 1e1 R.s0 p1 bl,if_neg nj,if_neg 1e1,if_neg 1e1];exact hw
theorem Zp(P:Pic ws s g)(R:Rm ws s g b)(mt:(t,wd)∈s.aQ)(bl:b+(wd.length:Int)<ws.length){j:Nat}{a0 z:Int}(h:Rv ws j a0 (some z))(hz:∃ t' n',ws[z.toNat]?=some (.hd t' n')):∃ j',Rv (mvW ws (g t) b t wd.length) j' a0 (some (if z=g t then b else z)):=by
 obtain⟨p0,p1,ph,_⟩:=P.hd t wd mt;have at_:=GI (t:=t) p0 (show(0:Int)<=wd.length by omega) R.s0 p1 bl;have hlt:=R.hi t wd mt;have b0:=R.s0;generalize e:some z=r at h;induction h with
 | out h=>cases e
 | @stop a' w h0 hw hn =>
  cases e;by_cases c:z=g t
  ·rw[if_pos c]
   refine⟨1,.step h0 (b:=b) (n:=(wd.length:Int)) ?_ (.stop b0 (w:=.hd t wd.length) ?_ (by intro x y z;cases z))⟩
   ·rw[at_,if_pos 1e1]
   ·rw[at_,if_neg 1e1,if_pos 1e1]
  ·rw[if_neg c]
   obtain⟨t',n',e'⟩:=hz;exact⟨0,.stop h0 (II P R mt bl e' 1e0 1e1) (by intro x y z;cases z)⟩
 | @step k a b' n r h0 hw hr ih =>
  obtain⟨j',h'⟩:=ih e;subst e;refine⟨j'+1,.step h0 (II P R mt bl hw 1e0 λz=>?_) h'⟩
  have:a.toNat=(g t).toNat:=by omega
  rw[this,ph]at hw;cases hw
theorem Pic.hdz(P:Pic ws s g){u:Int}(hu:u∈keys s):∃ t' n',ws[(g u).toNat]?=some (.hd t' n'):=by
 obtain⟨wu,mu⟩:=mem_keys.mp hu;exact⟨_,_,(P.hd u wu mu).2.2.1⟩
theorem Pic.gne(P:Pic ws s g){u:Int}{wu:List Wd}(mt:(t,wd)∈s.aQ)(mu:(u,wu)∈s.aQ)(n:u≠t):g u≠g t:=by
 have:=P.dj u wu t wd mu mt n
 omega
theorem Xu(P:Pic ws s g)(R:Rm ws s g b)(mt:(t,wd)∈s.aQ)(bl:b+(wd.length:Int)<ws.length){w:Wd}{mw:Mw}(h:Lk ws (kvG (keys s) g) w mw)(hk:∀ u,w=.th u->u∈keys s):Lk (mvW ws (g t) b t wd.length) (kvG 4e6 (gM g t b)) w mw:=by
 cases w with
 | no=>exact h
 | num n=>exact h
 | th u =>
  have mu:=hk u rfl;obtain⟨a,j,z,e,sm,rv,v⟩:=h;rw[DW mu]at v;injection v with v;injection v with v;subst v;obtain⟨j',rv'⟩:=Zp P R mt bl rv (P.hdz mu);refine⟨a,j',_,e,sm,rv',?_⟩;rw[DW mu];unfold gM;obtain⟨wu,mwu⟩:=mem_keys.mp mu;by_cases c:u=t
  ·rw[if_pos c,if_pos (by rw[c])]
  ·rw[if_neg c,if_neg (P.gne mt mwu c)]
theorem aaj(G:Good s)(P:Pic ws s g)(R:Rm ws s g b)(mt:(t,wd)∈s.aQ)(bl:b+(wd.length:Int)<ws.length):Pic (mvW ws (g t) b t wd.length) s (gM g t b):=by
 obtain⟨p0,p1,ph,pf⟩:=P.hd t wd mt;have at_:=GI (t:=t) p0 (show(0:Int)<=wd.length by omega) R.s0 p1 bl;have hlt:=R.hi t wd mt;have b0:=R.s0;have gt:gM g t b t=b:=if_pos rfl;have gu:∀ {u:Int},u≠t->gM g t b u=g u:=λh=>if_neg h;have same:∀ {w wd':List Wd},(t,wd')∈s.aQ->wd'=wd:=λm=>by rw[<-G.fld m,G.fld mt]
 refine⟨λu wu mu=>?_,λu wu v wv mu mv n=>?_⟩
 ·by_cases c:u=t
  ·subst c
   obtain rfl:=same (w:=wu) mu;rw[gt,DY];refine⟨b0,bl,?_,λi w hw=>?_⟩
   ·rw[at_,if_neg 1e1,if_pos 1e1]
   ·have il:=(aoE.mp hw).1
    obtain⟨mw,e1,e2⟩:=pf i w hw;refine⟨mw,?_,Xu P R mt bl e2 λv e=>mem_keys.mpr (G.ff _ _ v mu (by rw[<-e];exact aoI hw))⟩;rw[at_,if_neg 1e1,if_neg 1e1,if_pos 1e1,show(g u+1+(((b.toNat+1+i:Nat):Int)-(b+1))).toNat=(g u).toNat+1+i by omega];exact e1
  ·obtain⟨q0,q1,qh,qf⟩:=P.hd u wu mu
   have dj:=P.dj u wu t wd mu mt c;have hu:=R.hi u wu mu;rw[gu c,DY];refine⟨q0,q1,II P R mt bl qh 1e0 1e1,λi w hw=>?_⟩;have il:=(aoE.mp hw).1;obtain⟨mw,e1,e2⟩:=qf i w hw;refine⟨mw,?_,Xu P R mt bl e2 λv e=>mem_keys.mpr (G.ff _ _ v mu (by rw[<-e];exact aoI hw))⟩;rw[at_,if_neg 1e1,if_neg 1e1,if_neg 1e1];exact e1
 ·by_cases c:u=t
  ·by_cases d:v=t
   ·exact absurd (c.trans d.symm) n
   ·rw[c,gt,gu d]
    exact .inr (R.hi v wv mv)
  ·by_cases d:v=t
   ·rw[d,gt,gu c]
    exact .inl (R.hi u wu mu)
   ·rw[gu c,gu d]
    exact P.dj u wu v wv mu mv n
theorem adh(gm:Gm ws)(P:Pic ws s g)(R:Rm ws s g b)(mt:(t,wd)∈s.aQ)(bl:b+(wd.length:Int)<ws.length)(f6:wd.length<=6)(z:ws.length<=10000):Gm (mvW ws (g t) b t wd.length):=by
 obtain⟨p0,p1,ph,pf⟩:=P.hd t wd mt;have at_:=GI (t:=t) p0 (show(0:Int)<=wd.length by omega) R.s0 p1 bl;have b0:=R.s0;have key:∀ w∈mvW ws (g t) b t wd.length,w=.mv b wd.length\/w=.hd t wd.length\/w∈ws:=λw m=>by
  obtain⟨j,hj⟩:=List.getElem?_of_mem m;rw[at_]at hj;split at hj
  ·exact .inl (ao4 hj).symm
  ·split at hj
   ·exact .inr (.inl (ao4 hj).symm)
   ·split at hj
    ·exact .inr (.inr (aoI hj))
    ·exact .inr (.inr (aoI hj))
 refine⟨λt' n m=>?_,λa n m=>?_⟩
 ·rcases key _ m with e|e|e
  ·cases e
  ·cases e;omega
  ·exact gm.hd t' n e
 ·rcases key _ m with e|e|e
  ·cases e;exact Sm.of 1e1 1e1
  ·cases e
  ·exact gm.mv a n e
theorem adi(G:Good s)(P:Pic ws s g)(R:Rm ws s g b)(mt:(t,wd)∈s.aQ)(bl:b+(wd.length:Int)<ws.length):Rm (mvW ws (g t) b t wd.length) s (gM g t b) (b+wd.length+1):=by
 obtain⟨p0,p1,ph,pf⟩:=P.hd t wd mt;have at_:=GI (t:=t) p0 (show(0:Int)<=wd.length by omega) R.s0 p1 bl;have b0:=R.s0;have hlt:=R.hi t wd mt;refine⟨λu wu mu=>?_,by omega,λj h1 h2=>?_⟩
 ·by_cases c:u=t
  ·subst c
   rw[show gM g u b u=b from if_pos rfl,<-G.fld mu,G.fld mt];omega
  ·rw[show gM g t b u=g u from if_neg c]
   have:=R.hi u wu mu
   omega
 ·rw[DY]at h2
  rw[at_,if_neg 1e1,if_neg 1e1,if_neg 1e1];exact R.no j 1e1 h2
end
theorem adj(b n t l:Int):eqD 1 (.t [.a (.str "moved"),.a (.int b),.a (.int n)]) (.t [.a (.str "head"),.a (.int t),.a (.int l)])=false:=by
 have n1:eqV (.str "moved") (.str "head")=false:=by decide +kernel
 simp[eqD,aqB,n1]
theorem Dt{H:Hp}{t:Addr}{z:Str}{a b:Int}(h:H t=some (.tup [.str z,.int a,.int b])):Rp H 1 (.ref t) (.t [.a (.str z),.a (.int a),.a (.int b)]):=by
 refine⟨t,_,rfl,h,rfl,λi u x h1 h2=>?_⟩
 match i,h1,h2 with
 | 0,h1,h2=>cases h1;cases h2;exact⟨rfl,rfl⟩
 | 1,h1,h2=>cases h1;cases h2;exact⟨rfl,rfl⟩
 | 2,h1,h2=>cases h1;cases h2;exact⟨rfl,rfl⟩
 | i+3,h1,_=>simp at h1
structure Off(ws:List Mw)(s:HS)(g:Int->Int)(t:Int):Prop where
 m:∃ wd,(t,wd)∈s.aQ
 f:∃ b n,ws[(g t).toNat]?=some (.mv b n)
 o:∀ u wu,(u,wu)∈s.aQ->u≠t->ws[(g u).toNat]?=some (.hd u wu.length)
noncomputable def Lu(D:Ad):Sp:=λvs H Q _=>∃ x A s m mx c xs ws b ps g,∃ t:Int,vs=[.ref x,.ref m,.ref b]/\Qs D H x A s m mx c xs ws b ps g/\Off ws s g t/\∀ p H',aw H H'->H' p=some (.tup [.str "head",.int t])->Q 4e3 H'
theorem zW(F:Fun K "first_headless" "first_headless" j2 D.bA D.dw)(T:Txt K mg D)
  (ay:9e7 4 D.aH D.aW ["self","t"] (tE D))
  (bw:9e7 4 D.dH D.gB ["self","a"] (yW D)):9e7 5 D.bA D.dw ["ideal","memory","book"] (Lu D):=by
 refine F.oa jA F.b3 λcdv A' outer s' H vs Q E hr h=>?_;obtain⟨x,A,s,m,mx,c,xs,ws,b,ps,g,t,rfl,S,F,k⟩:=h;have hu:=jw hr;refine⟨_,(PSs.nox (ai (eK aoY rfl (cI (pv 2)) (aK (i:=3) jA.nd rfl 1e3)
   (aj (bS (aG (R9 (n:=1) hu) (bw.m hr (pv 1) T.bD T.hU aV (aa 3e9 ah)) (cW (aa cK (aa 3e9 (aa (bj aP rfl T.ji PyProof.Rows.Boot.«len» (aa (ay.m hr (pv 0) T.ae T.bC aV (aa 3e9 ah)) ah)) ah)))) (aU _))
    (aj (aF (cW (aa cK (aa 3e9 ah)))))
    aR)))
  (aj (aF bR)))),?_⟩
 have z:=S.M.z;have nx:=S.nx;refine⟨_,rfl,b,rfl,⟨_,SqL.of S.hb⟩,gN (K:=K) (a:=b) (xs:=ps) (λi σ Hx=>∃ v3,σ=[some 5e2,some (.ref m),some (.ref b),v3]/\aw H Hx/\t∉(keys s).take i) ⟨none,rfl,aw.refl _,(λm=>nomatch m)⟩ (λi σ Hx _ ⟨_,_,sx,_⟩=>SqL.of (sx _ _ S.hb)) ?_ ?_⟩
 ·rintro i v σ Hx hi ⟨v3,rfl,sx,nt⟩
  have S1:=S.same sx;obtain⟨u,q,wd,rfl,hq,mk,ki,mw⟩:=S1.at hi;obtain⟨t0,t1⟩:=S.G.lt u wd mw;obtain⟨g0,g1⟩:=S.P.in_ u wd mw;have R:=(S1.J.afl u wd mw).2;refine⟨_,rfl,m,_,_,rfl,S1.M.i,1e4,_,rfl,q,_,1,.int (g u),rfl,rfl,SqT.of hq,rfl,m,mx,c,xs,ws,g u,rfl,S1.M,Sm.of 1e1 1e1,?_⟩;rw[if_pos ⟨g0,by omega⟩];intro y w2 hy hw2 mv;have tail:∀(V1:Vl) (p1:Addr),y=.ref p1->Rp Hx 1 (.ref p1) V1->True:=λ_ _ _ _=>trivial;by_cases c:u=t
  ·subst c
   obtain⟨bb,nn,e⟩:=F.f;rw[e]at hw2;cases hw2;obtain⟨_,p1,rfl,hp1⟩:=mv.resolve_left (λz=>by cases z.1);refine⟨_,rfl,q,_,0,.int u,rfl,rfl,SqT.of hq,rfl,_,rfl,x,_,_,rfl,S1.J.ax,1e4,_,rfl,q,_,0,.int u,rfl,rfl,SqT.of hq,rfl,x,A,s,u,rfl,S1.J,S1.G,Sm.of 1e1 1e1,(λ_ p H1 sp hp zp=>?_),(λn=>absurd mk n)⟩;refine⟨p,_,rfl,.inl (SqL.of zp),by show 3<=sizeLine;decide,λr hr'=>?_⟩;have t3:=aw.upd (o:=.tup [V.str "head",V.int u,V.int (A.fx u).length]) hr';refine⟨_,_,Dt (t3 _ _ (sp _ _ hp1)),Dt ag,_,rfl,jP (by rw[adj];rfl) ?_⟩;refine⟨_,rfl,q,_,0,.int u,rfl,rfl,SqT.of (t3 _ _ (sp _ _ hq)),rfl,by show 2<=sizeLine;decide,λe he=>?_⟩;exact k e _ (((sx.trans sp).trans t3).trans (aw.upd he)) ag
  ·rw[F.o u wd mw c]at hw2
   cases hw2;obtain⟨_,p1,rfl,hp1⟩:=mv.resolve_left (λz=>by cases z.1);refine⟨_,rfl,q,_,0,.int u,rfl,rfl,SqT.of hq,rfl,_,rfl,x,_,_,rfl,S1.J.ax,1e4,_,rfl,q,_,0,.int u,rfl,rfl,SqT.of hq,rfl,x,A,s,u,rfl,S1.J,S1.G,Sm.of 1e1 1e1,(λ_ p H1 sp hp zp=>?_),(λn=>absurd mk n)⟩;refine⟨p,_,rfl,.inl (SqL.of zp),by show 3<=sizeLine;decide,λr hr'=>?_⟩;have t3:=aw.upd (o:=.tup [V.str "head",V.int u,V.int (A.fx u).length]) hr';have e1:((A.fx u).length:Int)=wd.length:=(by rw[R.1]);have r1:=Dt (t3 _ _ (sp _ _ hp1));have r2:Rp (upd H1 r (.tup [V.str "head",V.int u,V.int (A.fx u).length])) 1 (V.ref r) (.t [.a (.str "head"),.a (.int u),.a (.int wd.length)]):=(by rw[<-e1];exact Dt ag);refine⟨_,_,r1,r2,_,rfl,fV (by rw[pF r1 r1];rfl) ⟨_,rfl,(sx.trans sp).trans t3,?_⟩⟩;rw[take_snoc ki,aoU,aoH];exact λz=>z.elim nt λe=>c e.symm
 ·rintro σ Hx ⟨v3,rfl,sx,nt⟩
  rw[S.pr.1,aoM (aoL _)]at nt;exact absurd (mem_keys.mpr F.m) nt
noncomputable def NV(D:Ad):Sp:=λvs H Q _=>∃ x A s m mx c xs ws b ps g,∃(hl nl:Addr) (t:Int),vs=[.ref x,.ref m,.ref hl,.ref nl,.ref b]/\Qs D H x A s m mx c xs ws b ps g/\Off ws s g t/\∀ p H',aw H H'->H' p=some (.tup [.str "head",.int t])->Q 4e3 H'
theorem DZ(F:Fun K "first_unlike" "first_unlike" fH D.bJ D.dY)(T:Txt K mg D)
  (aS:9e7 1 D.bp D.cN ["self"] (qY D))
  (fN:9e7 6 D.bL D.fM ["ideal","memory","book"] (Sg D))
  (mh:9e7 5 D.bA D.dw ["ideal","memory","book"] (Lu D))
  (dv:9e7 8 D.a7 D.dt ["ideal","memory","book"] (EZ D))
  (cw:9e7 8 D.br D.dQ ["kind","told","memory","words","book"] (Je D))
  (cE:9e7 2 D.bP D.dO ["self"] (yG D))
  (cF:9e7 2 D.bQ D.dP ["self"] (yI D))
  (bG:9e7 3 D.cx D.eU ["t"] (iP)):9e7 9 D.bJ D.dY ["ideal","memory","hands","names","book"] (NV D):=by
 refine F.oa bh F.b5 λcdv A' outer s' H vs Q E hr h=>?_;obtain⟨x,A,s,m,mx,c,xs,ws,b,ps,g,hl,nl,t,rfl,S,F,k⟩:=h;refine⟨_,(PSs.nox (ai (bS (aG (V5 hr.VW) (jD (cl:=[]) (x := "pair") (idx:=[]) (NC:=["pair"]) ?co2 rfl (cI (pv 4)) (λC fp s₀ H₀=>(bT (r:=XW K) cf (pv 0) au 1e7))) (aS.m0 hr (pv 0) T.ae T.dU aV) (aU _))
   (aj (aF (cW (aa cK ah))))
   aR)
  (ai (aO (i:=5) bh.nd rfl 1e3 (fN.c hr T.rq T.jy aV (aa (pv 0) (aa (pv 1) 3e0))))
  (ai (bS (aG jI (pv 5) bR (aU _))
   (aj (aO (i:=5) bh.nd rfl 1e3 (mh.c hr T.tq T.j8 aV (aa (pv 0) (aa (pv 1) 3e0)))))
   aR)
  (ai (bS (aG jI (pv 5) bR (aU _))
   (aj (aO (i:=5) bh.nd rfl 1e3 (dv.c hr T.og T.gQ aV (aa (pv 0) (aa (pv 1) 3e0)))))
   aR)
  (ai (bS (aG jI (pv 5) bR (aU _))
   (aj (aO (i:=5) bh.nd rfl 1e3 (cw.c hr T.iu T.dW aV (aa cK (aa (cE.m0 hr (pv 0) T.ae T.kY aV) (aa (pv 1) (aa (pv 2) 3e0)))))))
   aR)
  (ai (bS (aG jI (pv 5) bR (aU _))
   (ai (Ii (cl:=[]) (x := "t") (idx:=[]) (NC:=["t"]) (i:=6) bh.nd rfl rfl ?co1 rfl (cI (cF.m0 hr (pv 0) T.ae T.kZ aV)) (λC fp s₀ H₀=>(pB (aG jI (pv 0) bR (aU _)) bR (bG.c hr T.kN T.ip yA 6e0))))
   (aj (aO (i:=5) bh.nd rfl 1e3 (cw.c hr T.iu T.dW aV (aa cK (aa (pv 6) (aa (pv 1) (aa (pv 3) 3e0))))))))
   aR)
  (aj (aF (pv 5)))))))))),?_⟩
 case co1 =>
  exact gk (sc:=ar fH) (N:=jW) (ns:=[]) rfl rfl rfl 2e4 rfl rfl (by
   intro q hq;cases hq)
 case co2 =>
  exact gk (sc:=ar fH) (N:=jW) (ns:=[]) rfl rfl rfl 2e4 rfl rfl (by
   intro q hq;cases hq)
 have lp:=S.pr.1;have lk:(keys s).length<=10000:=by unfold keys;rw[aoG];exact S.G.few
 refine⟨_,rfl,b,rfl,⟨_,SqL.of S.hb⟩,λL hL=>?_⟩;refine fG (K:=K) (a:=b) (xs:=ps) (λi us Hc=>us=((keys s).take i).map V.int/\aw H Hc/\Hc L=some (.lst us)) ⟨rfl,aw.upd hL,ag⟩ (λi us Hc hi ⟨e,_,z⟩=>⟨z,by rw[e,aoG,aoS];omega⟩) (λi us Hc _ ⟨_,sc,_⟩=>SqL.of (sc _ _ S.hb)) (lE 1e1) (λi v us Hc hi ⟨e,sc,z⟩=>?_) (λus H1 ⟨e,s1,z1⟩=>?_)
 ·obtain⟨t,q,wd,rfl,hq,mk,ki,mw⟩:=S.at hi
  refine⟨_,rfl,q,_,0,.int t,rfl,rfl,SqT.of (sc _ _ hq),rfl,z,?_,λb u y=>by rw[af (ao y hL)];exact sc b u y,ag⟩;rw[take_snoc ki,aoV,e];rfl
 rw[lp,aoM (aoL _)]at e;subst e;have S1:=S.same s1;refine⟨_,rfl,x,_,_,rfl,S1.J.ax,1e4,x,A,s,rfl,S1.J,S.G,λp2 H2 s2 hp2 z2=>?_⟩;have fl:((keys s).map V.int).all lr=true:=by rw[List.all_map];exact apJ.mpr λ_ _=>rfl
 refine⟨L,p2,_,_,rfl,rfl,SqL.of (s2 _ _ z1),SqL.of z2,rfl,fl,fl,_,rfl,fV (by rw[Ij rfl,decide_eq_true rfl];rfl) ?_⟩;have S2:=S1.same s2;refine⟨_,rfl,_,rfl,_,rfl,x,A,s,m,mx,c,xs,ws,b,ps,g,rfl,S2,λH3 s3=>?_⟩;have S3:=S2.same s3;refine⟨_,rfl,rfl,_,rfl,jP (decide_eq_true rfl) ⟨_,rfl,_,rfl,_,rfl,x,A,s,m,mx,c,xs,ws,b,ps,g,t,rfl,S3,F,λp H4 s4 hp=>?_⟩⟩;exact⟨_,rfl,rfl,_,rfl,fV (decide_eq_false 1e0) ⟨_,rfl,rfl,_,rfl,fV (decide_eq_false 1e0) ⟨_,rfl,rfl,_,rfl,fV (decide_eq_false 1e0) ⟨_,rfl,k p H4 (((s1.trans s2).trans s3).trans s4) hp⟩⟩⟩⟩
noncomputable def Lv(D:Ad):Sp:=λvs H Q E=>NV D vs H (λ_ H'=>Q (.bl false) H') E
theorem Hq(F:Fun K "is_picture" "is_picture" pN D.dr D.hJ)(T:Txt K mg D)
  (gX:9e7 9 D.bJ D.dY ["ideal","memory","hands","names","book"] (NV D)):9e7 10 D.dr D.hJ ["ideal","memory","hands","names","book"] (Lv D):=by
 refine F.oa yX F.b5 λcdv A' outer s' H vs Q E hr h=>?_;obtain⟨x,A,s,m,mx,c,xs,ws,b,ps,g,hl,nl,t,rfl,S,F,k⟩:=h;refine⟨_,(PSs.nox (aj (aF (vJ jI (gX.c hr T.qA T.jV aV (aa (pv 0) (aa (pv 1) (aa (pv 2) (aa (pv 3) 3e0))))) bR (aU _))))),?_⟩;exact⟨_,rfl,_,rfl,_,rfl,_,rfl,_,rfl,x,A,s,m,mx,c,xs,ws,b,ps,g,hl,nl,t,rfl,S,F,λp H' s' hp=>⟨rfl,k p _ s' hp⟩⟩
theorem Lk.th{ws:List Mw}{s:HS}{g:Int->Int}{t:Int}{mw:Mw}(h:Lk ws (kvG (keys s) g) (.th t) mw)(m:t∈keys s):∃(a:Int) (j:Nat),mw=.ad a/\Sm a/\Rv ws j a (some (g t)):=by
 obtain⟨a,j,z,e,sm,rv,v⟩:=h;rw[DW m]at v;injection v with v;injection v with v;exact⟨a,j,e,sm,by rw[v];exact rv⟩
theorem Pic.thg{ws:List Mw}{s:HS}{g:Int->Int}(P:Pic ws s g){t:Int}{wd:List Wd}(m:(t,wd)∈s.aQ):K39.thg ws (g t)=some (t,(wd.length:Int)):=by
 obtain⟨a0,a1,h,_⟩:=P.hd t wd m;unfold K39.thg;rw[if_pos a0,h];exact if_pos a1
noncomputable def shV(s:HS)(t:Int):Vl:=.t [.a (.int t),.a (.int t),.l ((fld s t).map Wd.vl)]
noncomputable def SH(s:HS):Vl:=.t [.l ((keys s).map (shV s)),.l (s.aZ.map Wd.vl),.l ((s.names.map nmW).map Wd.vl)]
noncomputable def TL(H0 H:Hp)(tl:Addr)(s:HS)(ps:List V)(ts:List Int):Prop:=ps.length=ts.length/\∀(i:Nat) (v:V) (t:Int),ps[i]?=some v->ts[i]?=some t->∃ q lf us,v=.ref q/\H q=some (.tup [.int t,.int t,.ref lf])/\H0 lf=none/\lf≠tl/\H lf=some (.lst us)/\Rel H us (fld s t)
theorem TL.keep{H0 H H':Hp}{tl:Addr}{s:HS}{ps:List V}{ts:List Int}(h:TL H0 H tl s ps ts)(b:But tl H H')(z:∃ vs,H tl=some (.lst vs)):TL H0 H' tl s ps ts:=by
 obtain⟨vs,z⟩:=z;have tk:bg H H':=λt us q=>b t _ (az q z 1e0) q;exact⟨h.1,λi v t h1 h2=>by obtain⟨q,lf,us,e1,e2,e3,e4,e5,e6⟩:=h.2 i v t h1 h2;exact⟨q,lf,us,e1,tk _ _ e2,e3,e4,b _ _ e4 e5,e6.keep tk⟩⟩
theorem TL.snoc{H0 H:Hp}{tl:Addr}{s:HS}{ps:List V}{ts:List Int}(h:TL H0 H tl s ps ts){q lf:Addr}{us:List V}{t:Int}(e2:H q=some (.tup [.int t,.int t,.ref lf]))(e3:H0 lf=none)(e4:lf≠tl)(e5:H lf=some (.lst us))(e6:Rel H us (fld s t)):TL H0 H tl s (ps++[.ref q]) (ts++[t]):=by
 refine⟨by rw[aoJ,aoJ,h.1];rfl,λi v u h1 h2=>?_⟩;rcases aps i ps.length with c|c
 ·rw[aoX c]at h1
  rw[aoX (by rw[<-h.1];exact c)]at h2;exact h.2 i v u h1 h2
 ·rw[ao1 c]at h1
  rw[ao1 (by rw[<-h.1];exact c),<-h.1]at h2;have c0:i-ps.length=0:=by have:=(aoE.mp h1).1;rw[apc]at this;omega
  rw[c0]at h1 h2;cases h1;cases h2;exact⟨q,lf,us,rfl,e2,e3,e4,e5,e6⟩
theorem Rel.snoc{H:Hp}{xs:List V}{ws:List Wd}{v:V}{w:Wd}(a:Rel H xs ws)(b:WV H v w):Rel H (xs++[v]) (ws++[w]):=by
 refine⟨by rw[aoJ,aoJ,a.1];rfl,λi u y h1 h2=>?_⟩;rcases aps i xs.length with c|c
 ·rw[aoX c]at h1
  rw[aoX (by rw[<-a.1];exact c)]at h2;exact a.2 i u y h1 h2
 ·rw[ao1 c]at h1
  rw[ao1 (by rw[<-a.1];exact c),<-a.1]at h2;have c0:i-xs.length=0:=by have:=(aoE.mp h1).1;rw[apc]at this;omega
  rw[c0]at h1 h2;cases h1;cases h2;exact b
theorem TL.rp{H0 H:Hp}{tl:Addr}{s:HS}{ps:List V}{ts:List Int}(h:TL H0 H tl s ps ts)(h0:H0 tl=none)(z:H tl=some (.lst ps)):Rp (res H (Ex H0)) 4 (.ref tl) (.l (ts.map (shV s))):=by
 refine ajZ (IA h0 z) (by rw[aoG];exact h.1) λi v y h1 h2=>?_;rw[aoR]at h2;obtain⟨t,ht,rfl⟩:=aoZ.mp h2;obtain⟨q,lf,us,rfl,e2,e3,e4,e5,e6⟩:=h.2 i v t h1 ht;refine aj0 (DU _ _ e2) rfl λj u w g1 g2=>?_
 match j,g1,g2 with
 | 0,g1,g2=>cases g1;cases g2;exact Rp.flat rfl
 | 1,g1,g2=>cases g1;cases g2;exact Rp.flat rfl
 | 2,g1,g2=>cases g1;cases g2;exact Sf (IA e3 e5) (e6.keep DU)
 | j+3,g1,_=>simp at g1
noncomputable def Qy(D:Ad):Sp:=λvs H Q _=>∃ m mx c xs ws,∃(y:V) (mw:Mw) (wd:Wd) (s:HS) (g:Int->Int),vs=[.ref m,y]/\Mm D H m mx c xs ws/\Gm ws/\MV H y mw/\Lk ws (kvG 4e6 g) wd mw/\Pic ws s g/\(∀ t,wd=.th t->t∈keys s)/\∀ v H',aw H H'->WV H' v wd->Q v H'
noncomputable abbrev OI:List Str:=["memory","word"]
theorem Mo:av OI ["memory","word"] (ar xn):=fsc
theorem Mp(F:Fun K "_law_said" "_law_said" xn D.ib D.oO)(T:Txt K mg D)
  (iw:9e7 5 D.gL D.lB ["memory","a"] (NT D))
  (fX:9e7 7 D.fT D.j3 ["memory","a"] (JN D)):9e7 9 D.ib D.oO ["memory","word"] (Qy D):=by
 refine F.oa Mo F.b2 λcdv A' outer s' H vs Q E hr h=>?_;obtain⟨m,mx,c,xs,ws,y,mw,wd,s,g,rfl,M,gm,mv,lk,P,hk,k⟩:=h;refine⟨_,(PSs.nox (ai (bS (PW.pt (pw_or (aG jI (pv 1) bR (aU _)) (pw_or1 (aG tK (bT cf (pv 1) au 1e7) cK (aU _)))))
   (aj (aF (pv 1)))
   aR)
  (aj (aF (cW (aa cK (aa (bT cf (fX.c hr T.uZ T.oe aV (aa (pv 0) (aa (iw.c hr T.AV T.qX aV (aa (pv 0) (aa (bT cf (pv 1) au 1e7) ah))) ah))) au 1e7) ah))))))),?_⟩
 cases wd with
 | no =>
  have e:mw=.no:=lk;subst e;rcases mv with⟨_,rfl⟩|⟨n,_⟩
  ·exact⟨_,rfl,rfl,_,rfl,jP rfl (vK ⟨_,rfl,k _ _ (aw.refl _) rfl⟩)⟩
  ·exact absurd rfl n
 | num n =>
  have e:mw=.num n:=lk;subst e;obtain⟨_,q,rfl,hq⟩:=mv.resolve_left (λz=>by cases z.1);exact⟨_,rfl,rfl,_,rfl,fV rfl ⟨_,rfl,q,_,0,.str "number",rfl,rfl,SqT.of hq,rfl,rfl,_,rfl,jP 1e4 ⟨_,rfl,k _ _ (aw.refl _) ⟨q,rfl,hq⟩⟩⟩⟩
 | th t =>
  have mt:=hk t rfl;obtain⟨a,j,rfl,sm,rv⟩:=lk.th mt;obtain⟨_,q,rfl,hq⟩:=mv.resolve_left (λz=>by cases z.1);obtain⟨ws',mw'⟩:=mem_keys.mp mt;obtain⟨g0,g1,_⟩:=P.hd t ws' mw';have z:=M.z;refine⟨_,rfl,rfl,_,rfl,fV rfl ⟨_,rfl,q,_,0,.str "at",rfl,rfl,SqT.of hq,rfl,rfl,_,rfl,fV 1e4 ?_⟩⟩;refine⟨_,rfl,_,rfl,_,rfl,q,_,1,.int a,rfl,rfl,SqT.of hq,rfl,m,mx,c,xs,ws,a,j,some (g t),rfl,M,gm,sm,rv,?_⟩;refine⟨m,mx,c,xs,ws,g t,rfl,M,gm,Sm.of 1e1 1e1,?_⟩;rw[P.thg mw'];intro p l ys H1 s1 hl hp zl r;exact⟨p,_,0,.int t,rfl,rfl,SqT.of hp,rfl,by show 2<=sizeLine;decide,λe he=>k _ _ (s1.trans (aw.upd he)) ⟨e,rfl,ag⟩⟩
noncomputable def Qz(D:Ad):Sp:=λvs H Q _=>∃ m mx c xs ws,∃(hl nl bl:Addr) (ys zs ps:List V) (s:HS) (g:Int->Int),vs=[.ref m,.ref hl,.ref nl,.ref bl]/\Mm D H m mx c xs ws/\Gm ws/\Pic ws s g/\Good s/\s.nxt<=90/\H hl=some 5e0/\H nl=some (.lst zs)/\H bl=some (.lst ps)/\Pr H ps 4e6 g/\ys.length=8/\zs.length=8/\(∀(i:Nat) (w:Wd) (y:V),s.aZ[i]?=some w->ys[i]?=some y->∃ mw,MV H y mw/\Lk ws (kvG 4e6 g) w mw)/\(∀(i:Nat) (n:Option Int) (y:V),s.names[i]?=some n->zs[i]?=some y->∃ mw,MV H y mw/\Lk ws (kvG 4e6 g) (nmW n) mw)/\∀ v H',aw H H'->Rp (res H' (Ex H)) 5 v (SH s)->Q v H'
noncomputable abbrev qc:List Str:=["memory","hands","names","book","told","t","a","number","values"]
theorem jv:av qc ["memory","hands","names","book"] (ar ko):=fsc
theorem JY(F:Fun K "_law_shape" "_law_shape" ko D.gc D.mN)(T:Txt K mg D)
  (fX:9e7 7 D.fT D.j3 ["memory","a"] (JN D))
  (pe:9e7 9 D.ib D.oO ["memory","word"] (Qy D)):9e7 10 D.gc D.mN ["memory","hands","names","book"] (Qz D):=by
 refine F.oa jv F.b4 λcdv A' outer s' H vs Q E hr h=>?_;obtain⟨m,mx,c,xs,ws,hl,nl,bl,ys,zs,ps,s,g,rfl,M,gm,P,G,nx,hy,hz,hb,pr,l8,n8,hH,hN,k⟩:=h;refine⟨_,(PSs.nox (ai (aO (i:=4) jv.nd rfl 1e3 (lD ah))
  (ai (eK aoY rfl (cI (pv 3)) (nV rfl (bz (aK (i:=5) jv.nd rfl 1e3) (bz (aK (i:=6) jv.nd rfl 1e3) jY)))
   (ai (lC (fX.c hr T.uZ T.oe aV (aa (pv 0) (aa (pv 6) ah))) (nV rfl (bz (aK (i:=7) jv.nd rfl 1e3) (bz (aK (i:=8) jv.nd rfl 1e3) jY))))
   (aj (aE (Ie PySem.F.plainAttrs_list PySem.F.slot_list_append PySem.F.type_list_append ou (pv 4) (aa (cW (aa (pv 5) (aa (pv 7) (aa (jD (cl:=[("memory",s'.heap.objs.size+1)]) (x := "word") (idx:=[0]) (NC:=["word","memory"]) ?co3 rfl (cI (pv 8)) (λC fp s₀ H₀=>(pe.c hr T.xx T.oZ yA (aa (pv 1) 6e0)))) ah)))) ah))))))
  (aj (aF (cW (aa (pv 4) (aa (jD (cl:=[("memory",s'.heap.objs.size+1)]) (x := "word") (idx:=[0]) (NC:=["word","memory"]) ?co2 rfl (cI (pv 1)) (λC fp s₀ H₀=>(pe.c hr T.xx T.oZ yA (aa (pv 1) 6e0)))) (aa (jD (cl:=[("memory",s'.heap.objs.size+1)]) (x := "word") (idx:=[0]) (NC:=["word","memory"]) ?co1 rfl (cI (pv 2)) (λC fp s₀ H₀=>(pe.c hr T.xx T.oZ yA (aa (pv 1) 6e0)))) ah))))))))),?_⟩
 case co1 =>
  exact gk (sc:=ar ko) (N:=qc) (ns:=["memory"]) rfl rfl rfl 2e4 rfl rfl (by
   intro q hq;rw[aoH.mp hq];rfl)
 case co2 =>
  exact gk (sc:=ar ko) (N:=qc) (ns:=["memory"]) rfl rfl rfl 2e4 rfl rfl (by
   intro q hq;rw[aoH.mp hq];rfl)
 case co3 =>
  exact gk (sc:=ar ko) (N:=qc) (ns:=["memory"]) rfl rfl rfl 2e4 rfl rfl (by
   intro q hq;rw[aoH.mp hq];rfl)
 have z:=M.z;have lk:(keys s).length<=90:=by
  have:=G.sd
  unfold keys;rw[aoG];omega
 refine⟨by show 0<=sizeLine;decide,λtl htl=>?_⟩;have s0:=aw.upd (o:=.lst ([]:List V)) htl;refine⟨_,rfl,bl,rfl,⟨_,SqL.of (s0 _ _ hb)⟩,gN (K:=K) (a:=bl) (xs:=ps) (λi σ Hx=>∃(v5 v6 v7 v8:Option V) (qs:List V),σ=[some (.ref m),some (.ref hl),some (.ref nl),some (.ref bl),some (.ref tl),v5,v6,v7,v8]/\aw H Hx/\Hx tl=some (.lst qs)/\TL H Hx tl s qs ((keys s).take i)) ⟨none,none,none,none,[],rfl,s0,ag,rfl,(λi v t h=>by cases h)⟩ (λi σ Hx _ ⟨_,_,_,_,_,_,sx,_⟩=>SqL.of (sx _ _ hb)) ?_ ?_⟩
 ·rintro i v σ Hx hi ⟨v5,v6,v7,v8,qs,rfl,sx,zt,tlx⟩
  have il:i<(keys s).length:=by rw[<-pr.1];exact(aoE.mp hi).1
  have ki:(keys s)[i]?=some (keys s)[i]:=aoF il;obtain⟨t,et⟩:∃ t,(keys s)[i]=t:=⟨_,rfl⟩;rw[et]at ki;obtain⟨q,rfl,hq⟩:=pr.2 i v t hi ki;obtain⟨wd,mw⟩:=mem_keys.mp (aoI ki);obtain⟨g0,g1,_,pf⟩:=P.hd t wd mw;have f6:=G.f6 t wd mw;have Mx:=M.same sx;refine⟨q,_,rfl,SqT.of (sx _ _ hq),rfl,_,_,rfl,_,_,rfl,rfl,?_⟩;refine⟨_,rfl,_,rfl,m,mx,c,xs,ws,g t,rfl,Mx,gm,Sm.of 1e1 1e1,?_⟩;rw[P.thg mw];intro p l fs H1 s1 hl0 hp zl r;refine⟨p,_,rfl,SqT.of hp,rfl,_,_,rfl,_,_,rfl,rfl,?_⟩;have es:qS ws (g t).toNat (wd.length:Int).toNat=(List.range wd.length).map λj=>ws.getD ((g t).toNat+1+j) .no:=by
   unfold qS;rw[Int.toNat_natCast];refine List.ext_getElem? λj=>?_;rw[aqt,apW,aoR];by_cases c:j<wd.length
   ·rw[if_pos c,ap9 c,apy,apB,aoF 1e1]
    rfl
   ·rw[if_neg c,List.getElem?_eq_none (by rw[apE];omega)]
    rfl
  have lf:fs.length=wd.length:=by rw[r.1,es,aoG,apE]
  have rv0:=r;clear r;have zt1:=s1 _ _ zt;refine⟨_,rfl,.inl ⟨rfl,_,SqL.of zt1⟩,_,rfl,_,rfl,_,rfl,l,rfl,⟨_,SqL.of zl⟩,λL hL=>?_⟩;refine fG (K:=K) (a:=l) (xs:=fs) (λi us Hd=>aw H1 Hd/\Hd L=some (.lst us)/\Rel Hd us ((wd).take i)) ⟨aw.upd hL,ag,rfl,(λj v w h=>by cases h)⟩ (λi us Hd hi ⟨_,z,r⟩=>⟨z,by rw[r.1,aoS];omega⟩) (λi us Hd _ ⟨sc,_⟩=>SqL.of (sc _ _ zl)) (lE 1e1) (λi v us Hd hi ⟨sc,z,r⟩=>?_) (λus2 H2 ⟨s2,z2,r2⟩=>?_)
  ·have jl:i<wd.length:=by rw[<-lf];exact(aoE.mp hi).1
   have hw:wd[i]?=some wd[i]:=aoF jl;obtain⟨wi,ew⟩:∃ wi,wd[i]=wi:=⟨_,rfl⟩;rw[ew]at hw;obtain⟨mwi,e1,lk1⟩:=pf i wi hw;have mv:=rv0.2 i v mwi hi (by rw[es,aoR,ap9 jl,apy,apB,e1];rfl);refine⟨_,rfl,_,rfl,m,mx,c,xs,ws,v,mwi,wi,s,g,rfl,(Mx.same s1).same sc,gm,mv.keep (bg.of sc),lk1,P,(λu eu=>mem_keys.mpr (G.ff t wd u mw (by rw[<-eu];exact aoI hw))),λy Hf sf wy=>⟨sf _ _ z,λb u q=>by rw[af (ao q hL)];exact sf _ _ (sc b u q),ag,?_⟩⟩;rw[take_snoc hw];exact((‹Rel Hd us _›.keep (bg.of sf)).snoc wy).keep (bg.set (sf _ _ z) (by intro z y;cases y))
  rw[lf,aoM (aoL _)]at r2;refine⟨by show 3<=sizeLine;decide,λe he=>?_⟩;have s3:=aw.upd (o:=.tup [V.int t,V.int t,V.ref L]) he;have s23:=s2.trans s3;have zt3:=s23 _ _ zt1;have nL:L≠tl:=aoT (ao zt1 hL);have lq:=tlx.1;rw[aoS]at lq;refine⟨tl,_,_,rfl,rfl,zt3,om 1e1,?_⟩;have S3:aw H _:=(sx.trans s1).trans s23;refine⟨_,_,_,_,qs++[.ref e],rfl,λb u q=>by rw[af (ao q htl)];exact S3 b u q,ag,?_⟩;rw[take_snoc ki];have t3:=tlx.keep (But.same (s1.trans s23)) ⟨_,zt⟩;exact(t3.snoc (kP s3) (aw.none (sx.trans s1) hL) nL (s3 _ _ z2) (by rw[G.fld mw];exact r2.keep (bg.of s3))).keep But.self ⟨_,zt3⟩
 rintro σ Hx ⟨v5,v6,v7,v8,qs,rfl,sx,zt,tlx⟩;rw[pr.1,aoM (aoL _)]at tlx;have Mx:=M.same sx;refine⟨_,rfl,_,rfl,hl,rfl,⟨_,SqL.of (sx _ _ hy)⟩,λL1 hL1=>?_⟩;refine fG (K:=K) (a:=hl) (xs:=ys) (λi us Hd=>aw Hx Hd/\Hd L1=some (.lst us)/\Rel Hd us ((s.aZ).take i)) ⟨aw.upd hL1,ag,rfl,(λj v w h=>by cases h)⟩ (λi us Hd hi ⟨_,z,r⟩=>⟨z,by rw[r.1,aoS];rw[l8]at hi;rw[G.h8];omega⟩) (λi us Hd _ ⟨sc,_⟩=>SqL.of (sc _ _ (sx _ _ hy))) (lE 1e1) (λi v us Hd hi ⟨sc,z,r⟩=>?_) (λus4 H4 ⟨s4,z4,r4⟩=>?_)
 ·have jl:i<8:=by rw[<-l8];exact(aoE.mp hi).1
  have hw:s.aZ[i]?=some (s.aZ[i]'(by rw[G.h8];exact jl)):=aoF _;obtain⟨wi,ew⟩:∃ wi,s.aZ[i]'(by rw[G.h8];exact jl)=wi:=⟨_,rfl⟩;rw[ew]at hw;obtain⟨mwi,mv,lk1⟩:=hH i wi v hw hi;refine⟨_,rfl,_,rfl,m,mx,c,xs,ws,v,mwi,wi,s,g,rfl,Mx.same sc,gm,mv.keep (bg.of (sx.trans sc)),lk1,P,(λu eu=>mem_keys.mpr (G.hh u (by rw[<-eu];exact aoI hw))),λy Hf sf wy=>⟨sf _ _ z,λb u q=>by rw[af (ao q hL1)];exact sf _ _ (sc b u q),ag,?_⟩⟩;rw[take_snoc hw];exact((‹Rel Hd us _›.keep (bg.of sf)).snoc wy).keep (bg.set (sf _ _ z) (by intro z y;cases y))
 rw[l8,aoM (by rw[G.h8];exact aoL _)]at r4;refine⟨_,rfl,nl,rfl,⟨_,SqL.of (s4 _ _ (sx _ _ hz))⟩,λL2 hL2=>?_⟩;refine fG (K:=K) (a:=nl) (xs:=zs) (λi us Hd=>aw H4 Hd/\Hd L2=some (.lst us)/\Rel Hd us ((s.names.map nmW).take i)) ⟨aw.upd hL2,ag,rfl,(λj v w h=>by cases h)⟩ (λi us Hd hi ⟨_,z,r⟩=>⟨z,by rw[r.1,aoS];rw[n8]at hi;rw[aoG,G.n8];omega⟩) (λi us Hd _ ⟨sc,_⟩=>SqL.of (sc _ _ (s4 _ _ (sx _ _ hz)))) (lE 1e1) (λi v us Hd hi ⟨sc,z,r⟩=>?_) (λus5 H5 ⟨s5,z5,r5⟩=>?_)
 ·have jl:i<8:=by rw[<-n8];exact(aoE.mp hi).1
  have hw:s.names[i]?=some (s.names[i]'(by rw[G.n8];exact jl)):=aoF _;obtain⟨ni,ew⟩:∃ ni,s.names[i]'(by rw[G.n8];exact jl)=ni:=⟨_,rfl⟩;rw[ew]at hw;obtain⟨mwi,mv,lk1⟩:=hN i ni v hw hi;have hw2:(s.names.map nmW)[i]?=some (nmW ni):=by rw[aoR,hw];rfl
  refine⟨_,rfl,_,rfl,m,mx,c,xs,ws,v,mwi,nmW ni,s,g,rfl,(Mx.same s4).same sc,gm,mv.keep (bg.of ((sx.trans s4).trans sc)),lk1,P,(λu eu=>?_),λy Hf sf wy=>⟨sf _ _ z,λb u q=>by rw[af (ao q hL2)];exact sf _ _ (sc b u q),ag,?_⟩⟩
  ·cases ni with
   | none=>cases eu
   | some w=>cases eu;exact mem_keys.mpr (G.nn u (aoI hw))
  ·rw[take_snoc hw2]
   exact((‹Rel Hd us _›.keep (bg.of sf)).snoc wy).keep (bg.set (sf _ _ z) (by intro z y;cases y))
 rw[n8,aoM (by rw[aoG,G.n8];exact aoL _)]at r5;refine⟨by show 3<=sizeLine;decide,λe he=>?_⟩;have s6:=aw.upd (o:=.tup [V.ref tl,V.ref L1,V.ref L2]) he;have s56:=s5.trans s6;have s46:=s4.trans s56;refine k _ _ (sx.trans s46) (aj0 (DU _ _ (kP s6)) rfl λj u w g1 g2=>?_)
 match j,g1,g2 with
 | 0,g1,g2=>cases g1;cases g2;exact(tlx.keep (But.same s46) ⟨_,zt⟩).rp htl (s46 _ _ zt)
 | 1,g1,g2=>cases g1;cases g2;exact Xq 2 (Sf (IA (aw.none sx hL1) (s56 _ _ z4)) ((r4.keep (bg.of s56)).keep DU))
 | 2,g1,g2=>cases g1;cases g2;exact Xq 2 (Sf (IA (aw.none (sx.trans s4) hL2) (s6 _ _ z5)) ((r5.keep (bg.of s6)).keep DU))
 | j+3,g1,_=>simp at g1
structure Vw(D:Ad)(H:Hp)(x:Addr)(A:HA)(s:HS)(m mx c:Addr)(xs:List V)(ws:List Mw)(hl nl bl:Addr)(ys zs ps:List V)(g:Int->Int):Prop where
 S:NG D H x A s m mx c xs ws bl ps g
 hy:H hl=some 5e0
 hz:H nl=some (.lst zs)
 l8:ys.length=8
 n8:zs.length=8
 hH:∀(i:Nat) (w:Wd) (y:V),s.aZ[i]?=some w->ys[i]?=some y->∃ mw,MV H y mw/\Lk ws (kvG 4e6 g) w mw
 hN:∀(i:Nat) (n:Option Int) (y:V),s.names[i]?=some n->zs[i]?=some y->∃ mw,MV H y mw/\Lk ws (kvG 4e6 g) (nmW n) mw
 c1:hl≠c
 c2:nl≠c
 c3:bl≠c
 fc:¬cJ x A s c
theorem Vw.same{D:Ad}{H H':Hp}{x:Addr}{A:HA}{s:HS}{m mx c:Addr}{xs:List V}{ws:List Mw}{hl nl bl:Addr}{ys zs ps:List V}{g:Int->Int}(V:Vw D H x A s m mx c xs ws hl nl bl ys zs ps g)(k:aw H H'):Vw D H' x A s m mx c xs ws hl nl bl ys zs ps g :=
 ⟨V.S.same k,k _ _ V.hy,k _ _ V.hz,V.l8,V.n8,λi w y h1 h2=>by obtain⟨mw,a,b⟩:=V.hH i w y h1 h2;exact⟨mw,a.keep (bg.of k),b⟩,λi w y h1 h2=>by obtain⟨mw,a,b⟩:=V.hN i w y h1 h2;exact⟨mw,a.keep (bg.of k),b⟩,V.c1,V.c2,V.c3,V.fc⟩
theorem Vw.hk{D:Ad}{H:Hp}{x:Addr}{A:HA}{s:HS}{m mx c:Addr}{xs:List V}{ws:List Mw}{hl nl bl:Addr}{ys zs ps:List V}{g:Int->Int}(V:Vw D H x A s m mx c xs ws hl nl bl ys zs ps g){i:Nat}{w:Wd}(h:s.aZ[i]?=some w):∀ t,w=.th t->t∈keys s:=λt e=>mem_keys.mpr (V.S.G.hh t (by rw[<-e];exact aoI h))
theorem Vw.nk{D:Ad}{H:Hp}{x:Addr}{A:HA}{s:HS}{m mx c:Addr}{xs:List V}{ws:List Mw}{hl nl bl:Addr}{ys zs ps:List V}{g:Int->Int}(V:Vw D H x A s m mx c xs ws hl nl bl ys zs ps g){i:Nat}{n:Option Int}(h:s.names[i]?=some n):∀ t,nmW n=.th t->t∈keys s:=λt e=>by
 cases n with
 | none=>cases e
 | some u=>cases e;exact mem_keys.mpr (V.S.G.nn t (aoI h))
theorem aak{ws:List Mw}{e:List Mw}{j:Nat}{a z:Int}(h:Rv ws j a (some z)):Rv (ws++e) j a (some z):=by
 generalize q:some z=r at h;induction h with
 | out h=>cases q
 | @stop a w h0 hw hn=>cases q;exact .stop h0 (by rw[aoX (aoE.mp hw).1];exact hw) hn
 | @step k a b n r h0 hw hr ih=>exact .step h0 (by rw[aoX (aoE.mp hw).1];exact hw) (ih q)
theorem Sj{ws e:List Mw}{kv:List (Key×V)}{w:Wd}{mw:Mw}(h:Lk ws kv w mw):Lk (ws++e) kv w mw:=by
 cases w with
 | no=>exact h
 | num n=>exact h
 | th t=>obtain⟨a,j,z,e1,e2,e3,e4⟩:=h;exact⟨a,j,z,e1,e2,aak e3,e4⟩
theorem YB{ws e:List Mw}{s:HS}{g:Int->Int}(P:Pic ws s g):Pic (ws++e) s g:=by
 refine⟨λt wd m=>?_,P.dj⟩;obtain⟨a,b,c,d⟩:=P.hd t wd m;refine⟨a,by rw[aoJ];omega,by rw[aoX (aoE.mp c).1];exact c,λi w hw=>?_⟩;obtain⟨mw,e1,e2⟩:=d i w hw;exact⟨mw,by rw[aoX (aoE.mp e1).1];exact e1,Sj e2⟩
theorem aal{ws:List Mw}{n:Nat}(G:Gm ws):Gm (ws++List.replicate n .no) :=
 ⟨λt k m=>(aoU.mp m).elim (G.hd t k) λz=>absurd (apk z) 1e0,λa k m=>(aoU.mp m).elim (G.mv a k) λz=>absurd (apk z) 1e0⟩
theorem aam{ws:List Mw}{s:HS}{g:Int->Int}{n:Nat}(P:Pic ws s g):Rm (ws++List.replicate n .no) s g ws.length :=
 ⟨λt wd m=>(P.hd t wd m).2.1,Int.natCast_nonneg _,λj h1 h2=>by
  rw[aoJ,apg]at h2;rw[ao1 1e1,apH,if_pos 1e1]⟩
theorem MR.app{H:Hp}{xs ys:List V}{us ws:List Mw}(a:MR H xs us)(b:MR H ys ws):MR H (xs++ys) (us++ws):=by
 refine⟨by rw[aoJ,aoJ,a.1,b.1],λi v w h1 h2=>?_⟩;rcases aps i xs.length with c|c
 ·rw[aoX c]at h1
  rw[aoX (by rw[<-a.1];exact c)]at h2;exact a.2 i v w h1 h2
 ·rw[ao1 c]at h1
  rw[ao1 (by rw[<-a.1];exact c),<-a.1]at h2;exact b.2 _ v w h1 h2
noncomputable def QA(D:Ad):Sp:=λvs H Q _=>∃(ml:Addr) (mys:List V) (ws:List Mw),vs=[.ref ml,.int 90]/\H ml=some (.lst mys)/\MR H mys ws/\ws.length<=9000/\∀ m mx c xs H',aw H H'->H c=none->Mm D H' m mx c xs (ws++List.replicate 90 .no)->Q (.ref m) H'
noncomputable abbrev Mq:List Str:=["model","more"]
theorem JZ:av Mq ["model","more"] (ar ux):=fsc
theorem J9(F:Fun K "_law_roomy" "_law_roomy" ux D.gf D.mO)(T:Txt K mg D)
  (sS:9e7 5 D.ft D.kM ["model"] (Tr D)):9e7 6 D.gf D.mO ["model","more"] (QA D):=by
 refine F.oa JZ F.b2 λcdv A' outer s' H vs Q E hr h=>?_;obtain⟨ml,mys,ws,rfl,hm,rm,wl,k⟩:=h;refine⟨_,(PSs.nox (aj (aF (sS.c hr T.Jt T.sJ aV (aa (aJ SE (pv 0) (aJ GC (lD (aa bR ah)) (pv 1))) ah))))),?_⟩;have lm:=rm.1;refine⟨_,rfl,by show 1<=sizeLine;decide,λp hp=>⟨_,rfl,p,90,_,rfl,rfl,ag,by decide,by decide,by decide,λq hq=>?_⟩⟩;have s1:=aw.upd (o:=.lst [V.non]) hp;have s2:=aw.upd (o:=.lst (List.replicate (Int.toNat 90) [V.non]).flatten) hq;have s12:=s1.trans s2;refine⟨ml,q,_,_,rfl,rfl,SqL.of (s12 _ _ hm),SqL.of (kP s2),lE ?_,λr hr'=>?_⟩
 ·rw[Dq,apg]
  show mys.length+90<=20000;omega
 have s3:=aw.upd (o:=.lst (mys++(List.replicate (Int.toNat 90) [V.non]).flatten)) hr';have ack:=s12.trans s3;refine⟨r,_,ws++List.replicate 90 .no,rfl,kP s3,?_,by rw[aoJ,apg];omega,λm mx c H4 s4 hc M4=>k m mx c _ H4 (ack.trans s4) (aw.none ack hc) M4⟩;rw[Dq];exact(rm.keep (bg.of ack)).app MR.rep
noncomputable def Fof(s:HS)(g g':Int->Int)(a:Int):Option (Int×Int):=((keys s).find? λu=>decide (g u=a)).map λu=>(u,g' u)
theorem aan{s:HS}{g g':Int->Int}(inj:∀ t∈keys s,∀ u∈keys s,g t=g u->t=u){t:Int}(m:t∈keys s):Fof s g g' (g t)=some (t,g' t):=by
 unfold Fof;cases e:(keys s).find? λu=>decide (g u=g t) with
 | none=>exact absurd (List.find?_eq_none.mp e t m) 1e9
 | some u =>
  have h1:=List.find?_some e;have h2:=List.mem_of_find?_eq_some e;rw[inj u h2 t m (by simpa using h1)];rfl
theorem Pic.aov{ws:List Mw}{s:HS}{g:Int->Int}(P:Pic ws s g):∀ t∈keys s,∀ u∈keys s,g t=g u->t=u:=λt ht u hu e=>by
 obtain⟨wt,mt⟩:=mem_keys.mp ht;obtain⟨wu,mu⟩:=mem_keys.mp hu;exact Decidable.byContradiction λn=>by have:=P.dj t wt u wu mt mu n;omega
noncomputable def QB(D:Ad):Sp:=λvs H Q _=>∃ x A s m mx c xs ws,∃(pt hl nl bl:Addr) (ys zs ps:List V) (g:Int->Int) (cell jz:Int),vs=[.ref x,.ref m,.ref pt,.int cell,.int jz]/\H pt=some (.tup [.ref hl,.ref nl,.ref bl])/\Vw D H x A s m mx c xs ws hl nl bl ys zs ps g/\Rm ws s g jz/\(keys s).length<=60/\jz+7<=ws.length/\∀ r bl' ps' xs' ws' g' Ka H',But c H H'->H' r=some (.tup [.ref bl',.int Ka])->Vw D H' x A s m mx c xs' ws' hl nl bl' ys zs ps' g'->Rm ws' s g' Ka->Ka<=jz+7->ws'.length=ws.length->(bl'=bl\/H bl'=none)->Q (.ref r) H'
noncomputable abbrev C5:List Str:=["heap","memory","parts","cell","spare","hands","names","book","t","a","many","made"]
theorem gr:av C5 ["heap","memory","parts","cell","spare"] (ar pO):=fsc
theorem Kb(F:Fun K "_law_moved" "_law_moved" pO D.gg D.mP)(T:Txt K mg D)
  (ay:9e7 4 D.aH D.aW ["self","t"] (tE D))
  (Sk:9e7 8 D.vO D.Jp ["memory","a","b"] (Ts D))
  (E1:9e7 8 D.kD D.tN ["memory","firsts"] (Tv D))
  (sT:9e7 10 D.dr D.hJ ["ideal","memory","hands","names","book"] (Lv D))
  (uP:9e7 1 D.fY D.mG ["book","t"] (Tw))
  (gX:9e7 9 D.bJ D.dY ["ideal","memory","hands","names","book"] (NV D)):9e7 11 D.gg D.mP ["heap","memory","parts","cell","spare"] (QB D):=by
 refine F.oa gr F.b5 λcdv A' outer s' H vs Q E hr h=>?_;obtain⟨x,A,s,m,mx,c,xs,ws,pt,hl,nl,bl,ys,zs,ps,g,cell,jz,rfl,hpt,W,R,lk,room,k⟩:=h;refine⟨_,(PSs.nox (ai (lC (pv 2) (nV rfl (bz (aK (i:=5) gr.nd rfl 1e3) (bz (aK (i:=6) gr.nd rfl 1e3) (bz (aK (i:=7) gr.nd rfl 1e3) jY)))))
  (ai (bS (qJ (Pu (pv 7) (by intro _;rfl)))
   (aj (aF (cW (aa (pv 7) 3e0))))
   aR)
  (ai (lC (bT gI (pv 7) (aJ iK (aJ qU (pv 3) au) (bj aP rfl T.ji PyProof.Rows.Boot.«len» (aa (pv 7) ah))) 1e7) (nV rfl (bz (aK (i:=8) gr.nd rfl 1e3) (bz (aK (i:=9) gr.nd rfl 1e3) jY))))
  (ai (aO (i:=10) gr.nd rfl 1e3 (bj aP rfl T.ji PyProof.Rows.Boot.«len» (aa (ay.m hr (pv 0) T.ae T.bC aV (aa (pv 8) ah)) ah)))
  (ai (aE (Sk.c hr T.aaa T.Sb aV (aa (pv 1) (aa (pv 9) 3e0))))
  (ai (aO (i:=11) gr.nd rfl 1e3 (E1.c hr T.Uk T.EX aV (aa (pv 1) (aa (jD (cl:=[]) (x := "pair") (idx:=[]) (NC:=["pair"]) ?co1 rfl (cI (pv 7)) (λC fp s₀ H₀=>(bT (r:=XW K) cf (pv 0) au 1e7))) ah))))
  (ai (bS (PW.pt (pw_or (aG NH (sT.c hr T.uB T.mQ aV (aa (pv 0) (aa (pv 1) (aa (pv 5) (aa (pv 6) (aa (pv 7) ah)))))) Di (aU _)) (pw_or1 (aG QL (uP.c hr T.LI T.uC aV (aa (pv 11) (aa (pv 8) ah))) (pv 4) (aU _)))))
   (aj (aF (cW (aa bR 3e0))))
   aR)
  (ai (bS (aG (R9 (n:=1) (jw hr)) (gX.c hr T.qA T.jV aV (aa (pv 0) (aa (pv 1) (aa (pv 5) (aa (pv 6) (aa (pv 7) ah)))))) (cW (aa cK (aa (pv 8) ah))) (aU _))
   (aj (aF (cW (aa bR 3e0))))
   aR)
  (aj (aF (cW (aa (pv 11) (aa (aJ cc (aJ cc (pv 4) (pv 10)) au) ah)))))))))))))),?_⟩
 case co1 =>
  exact gk (sc:=ar pO) (N:=C5) (ns:=[]) rfl rfl rfl 2e4 rfl rfl (by
   intro q hq;cases hq)
 have S:=W.S;have P:=S.P;have G:=S.G;have z:=S.M.z;have lp:=S.pr.1;have b0:=R.s0;refine⟨_,rfl,pt,_,rfl,SqT.of hpt,rfl,_,_,rfl,_,_,rfl,_,_,rfl,rfl,?_⟩;by_cases ce:ps=[]
 ·refine⟨_,rfl,false,.inl ⟨_,SqL.of S.hb,by rw[ce];rfl⟩,jP rfl ?_⟩
  refine⟨_,rfl,_,rfl,by show 2<=sizeLine;decide,λr hr'=>?_⟩;have s1:=aw.upd (o:=.tup [V.ref bl,V.int jz]) hr';exact k r bl ps xs ws g jz _ (But.same s1) ag (W.same s1) R 1e1 rfl 2e9
 have np:0<ps.length:=List.length_pos_iff.mpr ce;refine⟨_,rfl,true,.inl ⟨_,SqL.of S.hb,by cases ps with|nil=>exact absurd rfl ce|cons a r=>rfl⟩,fV rfl ?_⟩;have i0:=api (cell/3) (show(ps.length:Int)≠0 by omega);have i1:=ape (cell/3) (show(0:Int)<ps.length by omega);obtain⟨iz,ei⟩:∃ iz:Int,cell/3%(ps.length:Int)=iz:=⟨_,rfl⟩;rw[ei]at i0 i1;have hv:ps[iz.toNat]?=some (ps[iz.toNat]' 1e1):=aoF _;obtain⟨t,q,wd,ev,hq,mk,ki,mw⟩:=S.at hv;rw[ev]at hv;refine⟨_,rfl,_,rfl,cell,3,rfl,rfl,⟨by decide,by decide⟩,_,rfl,bl,_,rfl,.inl (SqL.of S.hb),_,_,rfl,rfl,(by show(0:Int)<ps.length;omega),bl,_,_,.ref q,rfl,rfl,SqL.of S.hb,by show atI ps (cell/3%(ps.length:Int))=_;rw[ei];exact yR i0 hv,q,_,rfl,SqT.of hq,rfl,_,_,rfl,_,_,rfl,rfl,?_⟩;obtain⟨t0,t1⟩:=G.lt t wd mw;have f6:=G.f6 t wd mw;have nx:=S.nx;obtain⟨p0,p1,ph,_⟩:=P.hd t wd mw;refine⟨_,rfl,x,_,_,rfl,S.J.ax,1e4,_,rfl,x,A,s,t,rfl,S.J,G,Sm.of 1e1 1e1,(λ_ p H1 s1 hp zp=>?_),(λn=>absurd mk n)⟩;have W1:=W.same s1;have e1:((A.fx t).length:Int)=wd.length:=by rw[(S.J.afl t wd mw).2.1]
 refine⟨p,_,rfl,.inl (SqL.of zp),?_⟩;have bl1:jz+(wd.length:Int)<ws.length:=by omega
 refine⟨_,rfl,_,rfl,_,rfl,m,mx,c,xs,ws,g t,jz,t,(wd.length:Int),rfl,W1.S.M,S.gm,P.thg mw,b0,bl1,λxs2 H2 b2 M2=>?_⟩;replace M2:Mm D H2 m mx c xs2 (mvW ws (g t) jz t wd.length):=M2;have P2:=aaj G P R mw bl1;have gm2:=adh S.gm P R mw bl1 f6 z;have R2:=adi G P R mw bl1;have tk2:bg H1 H2:=λb us y=>b2 b _ (az y W1.S.M.l 1e0) y;have J2:IH D H2 x A s:=W1.S.J.keep (λb u fo y=>b2 b u (λe=>W.fc (by rw[<-e];exact fo)) y) tk2;have hb2:=b2 _ _ W.c3 W1.S.hb;have pr2:=W1.S.pr.keep tk2;have O2:Off (mvW ws (g t) jz t wd.length) s g t:=⟨⟨wd,mw⟩,⟨jz,(wd.length:Int),by rw[GI p0 1e1 b0 p1 bl1,if_pos 1e1]⟩,λu wu mu n=>by
  obtain⟨q0,_,qh,_⟩:=P.hd u wu mu
  have:=P.gne mw mu n
  exact II P R mw bl1 qh 1e0 1e1⟩
 have SP2:Qs D H2 x A s m mx c xs2 (mvW ws (g t) jz t wd.length) bl ps g:=⟨J2,G,M2,gm2,⟨λu wu mu=>⟨(P.hd u wu mu).1,by rw[DY];exact(P.hd u wu mu).2.1⟩,P.dj⟩,hb2,pr2,nx⟩;refine⟨_,rfl,_,rfl,bl,rfl,⟨_,SqL.of hb2⟩,λL hL=>?_⟩;refine fG (K:=K) (a:=bl) (xs:=ps) (λi us Hc=>us=(((keys s).take i).map g).map V.int/\aw H2 Hc/\Hc L=some (.lst us)) ⟨rfl,aw.upd hL,ag⟩ (λi us Hc hi ⟨e,_,z⟩=>⟨z,by rw[e,aoG,aoG,aoS];omega⟩) (λi us Hc _ ⟨_,sc,_⟩=>SqL.of (sc _ _ hb2)) (lE 1e1) (λi v us Hc hi ⟨e,sc,z⟩=>?_) (λus H3 ⟨e,s3,z3⟩=>?_)
 ·obtain⟨u,q',wu,rfl,hq',_,ku,_⟩:=SP2.at hi
  refine⟨_,rfl,q',_,1,.int (g u),rfl,rfl,SqT.of (sc _ _ hq'),rfl,z,?_,λb u y=>by rw[af (ao y hL)];exact sc b u y,ag⟩;rw[take_snoc ku,aoV,aoV,e];rfl
 rw[lp,aoM (aoL _)]at e;subst e;obtain⟨g',eg⟩:∃ g',gM g t jz=g':=⟨_,rfl⟩;rw[eg]at P2 R2;have lkm:∀(w:Wd) (mw':Mw),Lk ws (kvG 4e6 g) w mw'->(∀ u,w=.th u->u∈keys s)->Lk (mvW ws (g t) jz t wd.length) (kvG 4e6 g') w mw':=λw mw' h hk=>by rw[<-eg];exact Xu P R mw bl1 h hk
 have gu:∀ u∈keys s,∃ j,Rv (mvW ws (g t) jz t wd.length) j (g u) (some (g' u)):=λu mu=>by
  obtain⟨wu,mwu⟩:=mem_keys.mp mu;obtain⟨q0,_,qh,_⟩:=P.hd u wu mwu;obtain⟨j,rv⟩:=Zp P R mw bl1 (Rv.stop q0 qh (by intro x y z;cases z)) (P.hdz mu);refine⟨j,?_⟩;rw[<-eg];unfold gM;by_cases cu:u=t
  ·rw[if_pos cu];rw[if_pos (by rw[cu])]at rv;exact rv
  ·rw[if_neg cu];rw[if_neg (P.gne mw mwu cu)]at rv;exact rv
 have ef:∀ u∈keys s,Fof s g g' (g u)=some (u,g' u):=λu mu=>aan P.aov mu;have M3:=M2.same s3;refine⟨m,mx,c,xs2,_,L,(keys s).map g,Fof s g g',g',rfl,M3,gm2,z3,by rw[aoG];exact lk,λa ma=>?_,λa ma u zz e=>?_,λ_ pb qs ks H4 s4 hpb zb prb asc hks l64=>?_,λh=>?_⟩
 ·obtain⟨u,mu,rfl⟩:=ao5.mp ma
  obtain⟨wu,mwu⟩:=mem_keys.mp mu;obtain⟨q0,q1,_⟩:=P.hd u wu mwu;obtain⟨j,rv⟩:=gu u mu;refine⟨Sm.of 1e1 1e1,j,some (g' u),rv,?_⟩;simp only[P2.thg mwu];exact ef u mu
 ·obtain⟨u',mu,rfl⟩:=ao5.mp ma
  rw[ef u' mu]at e;cases e;rfl
 rotate_left
 ·exact absurd (λa ma=>by obtain⟨u,mu,rfl⟩:=ao5.mp ma;rw[ef u mu];rfl) h
 have eks:ks=keys s:=Tu asc (show(keys s).Pairwise (·< ·) from G.asc) λu=>(hks u).trans ⟨λ⟨a,ma,zz,e⟩=>by
  obtain⟨u',mu,rfl⟩:=ao5.mp ma;rw[ef u' mu]at e;cases e;exact mu,λmu=>⟨g u,List.mem_map_of_mem mu,_,ef u mu⟩⟩
 subst eks;have nbc:pb≠c:=aoT (ao (s3 _ _ M2.l) hpb);have s34:=s3.trans s4;refine⟨_,rfl,_,rfl,_,rfl,_,rfl,_,rfl,x,A,s,m,mx,c,xs2,_,bl,ps,g,hl,nl,t,rfl,SP2.same s34,O2,λp5 H5 s5 hp5=>⟨false,false,rfl,rfl,_,rfl,fV rfl ?_⟩⟩;refine⟨_,rfl,_,rfl,pb,qs,keys s,g',t,rfl,s5 _ _ zb,prb.keep (bg.of s5),?_⟩;rw[if_pos mk,show g' t=jz by rw[<-eg];exact if_pos rfl];refine⟨_,rfl,rfl,_,rfl,fV 1e9 ?_⟩;have aow:=s34.trans s5;refine⟨_,rfl,_,rfl,_,rfl,_,rfl,_,rfl,x,A,s,m,mx,c,xs2,_,bl,ps,g,hl,nl,t,rfl,SP2.same aow,O2,λp6 H6 s6 hp6=>?_⟩;refine⟨_,rfl,by show 2<=sizeLine;decide,λe7 he7=>?_⟩;have s7:=aw.upd (o:=.tup [V.str "head",V.int t]) he7;have r1:=NQ (s7 _ _ hp6);have r2:=NQ (kP s7);refine⟨_,_,r1,r2,_,rfl,fV (by rw[pF r1 r1];rfl) ?_⟩;refine⟨_,rfl,_,rfl,_,rfl,_,_,rfl,rfl,_,1,rfl,rfl,by show 2<=sizeLine;decide,λr8 hr8=>?_⟩;have s8:=aw.upd (o:=.tup [V.ref pb,V.int (jz+((A.fx t).length:Int)+1)]) hr8;have s48:=(s5.trans s6).trans (s7.trans s8);have sF:=s34.trans s48;have tkF:bg H1 _:=tk2.trans (bg.of sF);refine k r8 pb qs xs2 _ g' (jz+wd.length+1) _ (((But.same s1).trans b2).trans (But.same sF)) (by rw[kP s8,e1]) ⟨⟨J2.same sF,G,M2.same sF,gm2,P2,s48 _ _ zb,prb.keep (bg.of s48),nx⟩,sF _ _ (b2 _ _ W.c1 W1.hy),sF _ _ (b2 _ _ W.c2 W1.hz),W.l8,W.n8,(λi w y h1 h2=>?_),(λi n y h1 h2=>?_),W.c1,W.c2,nbc,W.fc⟩ R2 1e1 DY (.inr (aw.none s1 (by cases e:H1 pb with|none=>rfl|some u=>exact absurd (b2 _ _ nbc e) (by rw[aw.none s3 hpb];intro z;cases z))))
 ·obtain⟨mw',a,b⟩:=W1.hH i w y h1 h2
  exact⟨mw',a.keep tkF,lkm _ _ b (W.hk h1)⟩
 ·obtain⟨mw',a,b⟩:=W1.hN i n y h1 h2
  exact⟨mw',a.keep tkF,lkm _ _ b (W.nk h1)⟩
theorem aao{K:W.Frag}{H H':Hp}{a:Addr}{xs:List V}(h:SqL K H a xs)(s:∀ u,H a=some u->H' a=some u):SqL K H' a xs:=Or.imp (λr=>Or.elim r (λe=>.inl (s _ e)) λ⟨o,e⟩=>.inr ⟨o,s _ e⟩) id h
noncomputable def Fq(sh:Addr)(cq:Option Addr)(b:Addr):Prop:=b=sh\/cq=some b
theorem Tx{H H':Hp}{sh:Addr}{cq cq':Option Addr}(k:∀ b u,b≠sh->cq≠some b->H b=some u->H' b=some u)(t:bg H H')(n:∀ c,cq'=some c->cq=some c\/H c=none):aw (res H (Fq sh cq)) (res H' (Fq sh cq')):=λb u q=>by
 obtain⟨h1,h2⟩:=res_some q;rcases h2 with h2|⟨us,e⟩
 ·have n1:b≠sh:=λe=>h2 (.inl e)
  have n2:cq≠some b:=λe=>h2 (.inr e);refine JI (k b u n1 n2 h1) (.inl λz=>z.elim n1 λe=>?_);rcases n b e with y|y
  ·exact n2 y
  ·rw[h1]at y;cases y
 ·subst e
  exact JI (t _ _ h1) (.inr ⟨us,rfl⟩)
theorem Vw.but{D:Ad}{H H':Hp}{x:Addr}{A:HA}{s:HS}{m mx c:Addr}{xs:List V}{ws:List Mw}{hl nl bl:Addr}{ys zs ps:List V}{g:Int->Int}(W:Vw D H x A s m mx c xs ws hl nl bl ys zs ps g){sh:Addr}{vs:List V}(z:H sh=some (.lst vs))(b:But sh H H')(nf:¬cJ x A s sh)(n1:hl≠sh)(n2:nl≠sh)(n3:bl≠sh)(n4:c≠sh):Vw D H' x A s m mx c xs ws hl nl bl ys zs ps g:=by
 have tk:bg H H':=λt us q=>b t _ (az q z 1e0) q;exact⟨⟨W.S.J.keep (λc u f q=>b c u (λz=>nf (by rw[<-z];exact f)) q) tk,W.S.G,⟨b _ _ (az W.S.M.i z 1e0) W.S.M.i,b _ _ n4 W.S.M.l,W.S.M.r.keep tk,W.S.M.z⟩,W.S.gm,W.S.P,b _ _ n3 W.S.hb,W.S.pr.keep tk,W.S.nx⟩,b _ _ n1 W.hy,b _ _ n2 W.hz,W.l8,W.n8,λi w y h1 h2=>by obtain⟨mw,p,q⟩:=W.hH i w y h1 h2;exact⟨mw,p.keep tk,q⟩,λi w y h1 h2=>by obtain⟨mw,p,q⟩:=W.hN i w y h1 h2;exact⟨mw,p.keep tk,q⟩,W.c1,W.c2,W.c3,W.fc⟩
noncomputable def Shs(H:Hp)(s:HS)(sh:Addr)(cq:Option Addr)(vs:List V):Prop:=H sh=some (.lst vs)/\∀ v∈vs,Rp (res H (Fq sh cq)) 5 v (SH s)
theorem Shs.step{H H':Hp}{s:HS}{sh:Addr}{cq cq':Option Addr}{vs:List V}(h:Shs H s sh cq vs)(hz:H' sh=some (.lst vs))(k:∀ b u,b≠sh->cq≠some b->H b=some u->H' b=some u)(t:bg H H')(n:∀ c,cq'=some c->cq=some c\/H c=none):Shs H' s sh cq' vs:=⟨hz,λv m=>(h.2 v m).same (Tx k t n)⟩
theorem Shs.same{H H':Hp}{s:HS}{sh:Addr}{cq:Option Addr}{vs:List V}(h:Shs H s sh cq vs)(k:aw H H'):Shs H' s sh cq vs:=h.step (k _ _ h.1) (λb u _ _ q=>k _ _ q) (bg.of k) λc e=>.inl e
theorem Shs.put{H H':Hp}{s:HS}{sh:Addr}{cq:Option Addr}{vs:List V}{v:V}(h:Shs H s sh cq vs)(k:aw H H')(r:Rp (res H' (Ex H)) 5 v (SH s))(c:∀ c,cq=some c->∃ u,H c=some u):Shs (upd H' sh (.lst (vs++[v]))) s sh cq (vs++[v]):=by
 have h':=h.same k;have tk:bg H' (upd H' sh (.lst (vs++[v]))):=bg.set h'.1 (by intro z y;cases y);have st:aw (res H' (Fq sh cq)) (res (upd H' sh (.lst (vs++[v]))) (Fq sh cq)):=Tx (λb u n _ q=>by rw[af n];exact q) tk λc e=>.inl e;refine⟨ag,λw m=>?_⟩;rcases aoU.mp m with m|m
 ·exact(h'.2 w m).same st
 ·rw[aoH.mp m]
  refine(r.same (VM λb f=>?_)).same st;rcases f with f|f
  ·exact⟨_,by rw[f];exact h.1⟩
  ·exact c b f
noncomputable abbrev Zq:List Str:=["script","heap","seed","shapes","k","model","hands","names","book","memory","spare","cell"]
theorem ot:av Zq ["script"] (ar UP):=fsc
theorem aap(F:Fun K "law" "law" UP D.KR D.Q0)(T:Txt K mg D)
  (xF:9e7 11 D.ia D.oK ["script","most"] (Qw K D))
  (ie:9e7 1 D.fK D.jX ["script","k"] (IE K))
  (uQ:9e7 7 D.f9 D.mM ["heap","seed"] (Qx D))
  (uR:9e7 6 D.gf D.mO ["model","more"] (QA D))
  (qd:9e7 10 D.dr D.hJ ["ideal","memory","hands","names","book"] (Qt D))
  (qe:9e7 10 D.gc D.mN ["memory","hands","names","book"] (Qz D))
  (uS:9e7 11 D.gg D.mP ["heap","memory","parts","cell","spare"] (QB D)):9e7 12 D.KR D.Q0 ["script"] (UU K):=by
 refine F.oa ot F.b1 λcdv A' outer s' H vs Q E hr h=>?_;obtain⟨a,ns,rfl,hS,hlen,k⟩:=h;have hu:=jw hr;have hu5:=apx (Nat.add_le_add_left (by decide:5<=64) _) hr.units;refine⟨_,(PSs.nox (ai (aO (i:=1) ot.nd rfl 1e3 (xF.c hr T.Om T.xw aV (aa (pv 0) (aa au ah))))
  (ai (aO (i:=2) ot.nd rfl 1e3 (aJ iK (ie.c hr T.xu T.oW aV (aa (pv 0) (aa au ah))) (aJ Df au au)))
  (ai (aO (i:=3) ot.nd rfl (Or.inr rfl) (lD ah))
  (ai (eK aoY rfl (qK rfl T.tw (aa au ah)) (aK (i:=4) ot.nd rfl 1e3)
   (ai (lC (uQ.c hr T.LM T.uF aV (aa (pv 1) (aa (aJ cc (pv 2) (aJ kh au (pv 4))) ah))) (nV rfl (bz (aK (i:=5) ot.nd rfl 1e3) (bz (aK (i:=6) ot.nd rfl 1e3) (bz (aK (i:=7) ot.nd rfl 1e3) (bz (aK (i:=8) ot.nd rfl 1e3) jY))))))
   (ai (aO (i:=9) ot.nd rfl 1e3 (uR.c hr T.LN T.uG aV (aa (pv 5) (aa au ah))))
   (ai (bS (aG NH (qd.c hr T.uB T.mQ aV (aa (pv 1) (aa (pv 9) (aa (pv 6) (aa (pv 7) (aa (pv 8) ah)))))) Di (aU _))
    (aj (aF Di))
    aR)
   (aj (aE (Ie PySem.F.plainAttrs_list PySem.F.slot_list_append PySem.F.type_list_append ou (pv 3) (aa (qe.c hr T.C0 T.pU aV (aa (pv 9) (aa (pv 6) (aa (pv 7) (aa (pv 8) ah))))) ah))))))))
  (ai (aO (i:=10) ot.nd rfl 1e3 (bj aP rfl T.ji PyProof.Rows.Boot.«len» (aa (pv 5) ah)))
  (ai (eK aoY rfl (cI (aJ SE (lD (aa au ah)) (Py SA (pv 0) Sv (Sw au)))) (aK (i:=11) ot.nd rfl 1e3)
   (ai (lC (uS.c hr T.LO T.uH aV (aa (pv 1) (aa (pv 9) (aa (cW (aa (pv 6) (aa (pv 7) (aa (pv 8) ah)))) (aa (aJ iK (pv 11) (aJ Df au au)) (aa (pv 10) ah)))))) (nV rfl (bz (aK (i:=8) ot.nd rfl 1e3) (bz (aK (i:=10) ot.nd rfl 1e3) jY))))
   (ai (bS (PW.pt (pw_or (aG jI (pv 8) bR (aU _)) (pw_or1 (aG NH (qd.c hr T.uB T.mQ aV (aa (pv 1) (aa (pv 9) (aa (pv 6) (aa (pv 7) (aa (pv 8) ah)))))) Di (aU _)))))
    (aj (aF Di))
    aR)
   (aj (aE (Ie PySem.F.plainAttrs_list PySem.F.slot_list_append PySem.F.type_list_append ou (pv 3) (aa (qe.c hr T.C0 T.pU aV (aa (pv 9) (aa (pv 6) (aa (pv 7) (aa (pv 8) ah))))) ah)))))))
  (aj (aF (bj (Vs rfl) rfl T.Xn PyProof.Rows.Boot.«all» (aa (jD (cl:=[("shapes",s'.heap.objs.size+1)]) (x := "shape") (idx:=[3]) (NC:=["shape","shapes"]) ?co1 rfl (cI (pv 3)) (λC fp s₀ H₀=>(vJ (V9 (n:=5) hu5) (pv 0) (bT (r:=aaD K) gI (pv 1) au 1e7) (aU _)))) ah))))))))))),?_⟩
 case co1 =>
  exact gk (sc:=ar UP) (N:=Zq) (ns:=["shapes"]) rfl rfl rfl 2e4 rfl rfl (by
   intro q hq;rw[aoH.mp hq];rfl)
 refine⟨_,rfl,a,ns,60,rfl,hS,hlen,by decide,by decide,λx A s H1 J Gs nx s1 F1=>?_⟩;have G:=Gs.g;have lk:(keys s).length<=60:=by
  have:=G.sd
  unfold keys;rw[aoG];omega
 refine⟨_,rfl,a,ns,2,rfl,s1.seq hS,by decide,10,60,rfl,rfl,⟨by decide,by decide⟩,_,_,rfl,rfl,(by show(0:Int)<10 ^ Int.toNat 60;decide +kernel),?_⟩;obtain⟨tY,es⟩:∃ tY:Int,ns.getD (Int.toNat 2) 0%10 ^ Int.toNat 60=tY:=⟨_,rfl⟩;show yw 2 (V.int (ns.getD (Int.toNat 2) 0%10 ^ Int.toNat 60)) _ _ _;rw[es];refine⟨by show 0<=sizeLine;decide,λsh hsh=>?_⟩;have s2:=aw.upd (o:=.lst ([]:List V)) hsh;have zs2:=kP s2;generalize upd H1 sh (.lst ([]:List V))=H2 at s2 zs2 ⊢;have J2:=J.same s2;have nfs:¬cJ x A s sh:=J.fresh hsh;have nas:∀ u,H a=some u->a≠sh:=λu q=>ao (s1 _ _ q) hsh;have a2:∀ u,H a=some u->H2 a=some u:=λu q=>s2 _ _ (s1 _ _ q);refine⟨2,rfl,by decide,by decide,yx (lo:=0) (n:=Int.toNat 2) (λi σ Hx=>∃(v4 v5 v6 v7 v8 v9:Option V) (shl:List V),σ=[some (.ref a),some 5e2,some (.int tY),some (.ref sh),v4,v5,v6,v7,v8,v9,none,none]/\But sh H2 Hx/\shl.length=i/\Hx sh=some (.lst shl)/\(i=0\/∃(ml hl nl bl m mx c:Addr) (mys ys zs ps xs:List V) (ws:List Mw) (g:Int->Int),v5=some (.ref ml)/\v6=some (.ref hl)/\v7=some (.ref nl)/\v8=some (.ref bl)/\v9=some (.ref m)/\Hx ml=some (.lst mys)/\mys.length=ws.length/\Pic ws s g/\Vw D Hx x A s m mx c xs (ws++List.replicate 90 .no) hl nl bl ys zs ps g/\c≠sh/\hl≠sh/\nl≠sh/\bl≠sh/\H2 c=none/\Shs Hx s sh (some c) shl)) ⟨none,none,none,none,none,none,[],rfl,(λ_ _ _ q=>q),rfl,zs2,.inl rfl⟩ ?_ ?_⟩
 ·rintro i σ Hx hi ⟨v4,v5,v6,v7,v8,v9,shl,rfl,bx,lsh,zsh,hx⟩
  have hi:i<2:=hi;have tkx:bg H2 Hx:=λb us q=>bx b _ (az q zs2 1e0) q;have Jx:IH D Hx x A s:=J2.keep (λb u f q=>bx b u (λz=>nfs (by rw[<-z];exact f)) q) tkx;refine⟨_,rfl,_,rfl,_,rfl,17,_,rfl,rfl,.inl ⟨by decide,by decide⟩,_,_,rfl,rfl,x,A,s,_,rfl,Jx,Gs,by omega,λr ml hl nl bl mys ys zs ps ws g H3 s3 hml hhl hnl hbl hr' zm rm wl gm pic zh lh hh zn ln hn zb pb=>?_⟩;refine⟨r,_,rfl,SqT.of hr',rfl,_,_,rfl,_,_,rfl,_,_,rfl,_,_,rfl,rfl,?_⟩;refine⟨_,rfl,ml,mys,ws,rfl,zm,rm,wl,λm mx c xs H4 s4 hc M4=>?_⟩;have s34:=s3.trans s4;have W4:Vw D H4 x A s m mx c xs (ws++List.replicate 90 .no) hl nl bl ys zs ps g:=⟨⟨Jx.same s34,G,M4,aal gm,YB pic,s4 _ _ zb,pb.keep (bg.of s4),by omega⟩,s4 _ _ zh,s4 _ _ zn,lh,ln,(λi w y h1 h2=>by obtain⟨mw,e1,e2⟩:=hh i w y h1 h2;exact⟨mw,e1.keep (bg.of s4),Sj e2⟩),(λi n y h1 h2=>by obtain⟨mw,e1,e2⟩:=hn i n y h1 h2;exact⟨mw,e1.keep (bg.of s4),Sj e2⟩),ao zh hc,ao zn hc,ao zb hc,(Jx.same s3).fresh hc⟩;refine⟨_,rfl,_,rfl,_,rfl,_,rfl,_,rfl,x,A,s,m,mx,c,xs,_,bl,ps,g,hl,nl,ys,zs,rfl,W4.S,W4.hy,W4.hz,W4.l8,W4.n8,W4.hH,W4.hN,λH5 s5=>⟨true,true,rfl,rfl,_,rfl,fV rfl ?_⟩⟩;have W5:=W4.same s5;have s35:=s34.trans s5;have YC:=s35 _ _ zsh;have ncs:c≠sh:=aoT (ao (s3 _ _ zsh) hc);have H2c:H2 c=none:=by
   cases e:H2 c with
   | none=>rfl
   | some u=>rw[s3 _ _ (bx c u ncs e)]at hc;cases hc
  have S5:Shs H5 s sh (some c) shl:=by
   rcases hx with rfl|⟨ml',hl',nl',bl',m',mx',c',aoD,ys',zs',ps',xs',ws',g',_,_,_,_,_,_,_,_,W',_,_,_,_,_,Sx⟩
   ·cases shl with
    | nil=>exact⟨YC,λv m=>nomatch m⟩
    | cons v r=>cases lsh
   ·exact Sx.step YC (λb u _ _ q=>s35 _ _ q) (bg.of s35) λc2 e=>.inr (by cases e;exact aw.none s3 hc)
  refine⟨_,rfl,.inl ⟨rfl,_,SqL.of YC⟩,_,rfl,_,rfl,_,rfl,_,rfl,m,mx,c,xs,_,hl,nl,bl,ys,zs,ps,s,g,rfl,W5.S.M,W5.S.gm,W5.S.P,W5.S.G,by omega,W5.hy,W5.hz,W5.S.hb,W5.S.pr,W5.l8,W5.n8,W5.hH,W5.hN,λv H6 s6 rp=>?_⟩;refine⟨sh,_,_,rfl,rfl,s6 _ _ YC,om 1e1,?_⟩;have S7:=S5.put s6 rp λc2 e=>by cases e;exact⟨_,W5.S.M.l⟩
  have W6:=W5.same s6;have z6:=s6 _ _ YC;have nm:ml≠sh:=aoT (ao zsh hml);have nh:hl≠sh:=aoT (ao zsh hhl);have nn:nl≠sh:=aoT (ao zsh hnl);have nb:bl≠sh:=aoT (ao zsh hbl);have W7:=W6.but z6 (But.self (o:=.lst (shl++[v]))) nfs nh nn nb ncs;refine⟨_,_,_,_,_,_,shl++[v],rfl,λb u n q=>by rw[af n];exact s6 _ _ (s35 _ _ (bx b u n q)),by rw[aoJ,lsh];rfl,ag,.inr ⟨ml,hl,nl,bl,m,mx,c,mys,ys,zs,ps,xs,ws,g,rfl,rfl,rfl,rfl,rfl,by rw[af nm];exact s6 _ _ (s5 _ _ (s4 _ _ zm)),rm.1,pic,W7,ncs,nh,nn,nb,H2c,S7⟩⟩
 rintro σ Hx ⟨v4,v5,v6,v7,v8,v9,shl,rfl,bx,lsh,zsh,hx⟩;rcases hx with e|⟨ml,hl,nl,bl,m,mx,c,mys,ys,zs,ps,xs,ws,g,rfl,rfl,rfl,rfl,rfl,zml,lml,pic,W,ncs,nh,nn,nb,h2c,Sx⟩
 ·exact absurd e 2e0
 have Rm0:Rm (ws++List.replicate 90 .no) s g (mys.length:Int):=by rw[lml];exact aam pic
 have lw0:(mys.length:Int)+90<=((ws++List.replicate 90 Mw.no).length:Int):=by rw[aoJ,apg,lml];omega
 have ax:∀ u,H a=some u->Hx a=some u:=λu q=>bx a u (nas u q) (a2 u q);refine⟨_,rfl,ml,mys,rfl,.inl (SqL.of zml),?_⟩;refine⟨by show 1<=sizeLine;decide,λp1 hp1=>?_⟩;have t1:=aw.upd (o:=.lst [V.int 1]) hp1;refine⟨_,rfl,_,rfl,a,_,rfl,aao hS λu q=>t1 _ _ (ax u q),λq1 hq1=>?_⟩;obtain⟨cs,ec,cl,cm,cb⟩:=Qv ns none (some 11);have c11:=cb 11 rfl 2e0;rw[ec];have t2:=aw.upd (o:=.lst (cs.map V.int)) hq1;have t12:=t1.trans t2;refine⟨p1,q1,_,_,rfl,rfl,SqL.of (t2 _ _ (kP t1)),SqL.of (kP t2),lE (by rw[aoG];show 1+cs.length<=20000;omega),λld hld=>?_⟩;have t3:=aw.upd (o:=.lst ([V.int 1]++cs.map V.int)) hld;have t13:=t12.trans t3;have zld:=kP t3;have ldc:ld≠c:=aoT (ao (t12 _ _ W.S.M.l) hld);have lds:ld≠sh:=aoT (ao (t12 _ _ zsh) hld);have W0:=W.same t13;have S0:=Sx.same t13;refine⟨ld,rfl,⟨_,SqL.of zld⟩,gN (K:=K) (a:=ld) (xs:=[V.int 1]++cs.map V.int) (λi σ Hy=>∃(bl:Addr) (ps xs:List V) (ws:List Mw) (g:Int->Int) (jz:Int) (v11:Option V) (shl:List V),σ=[some (.ref a),some 5e2,some (.int tY),some (.ref sh),v4,some (.ref ml),some (.ref hl),some (.ref nl),some (.ref bl),some (.ref m),some (.int jz),v11]/\Vw D Hy x A s m mx c xs ws hl nl bl ys zs ps g/\Rm ws s g jz/\jz+7*((12:Int)-i)<=ws.length/\bl≠sh/\Shs Hy s sh (some c) shl/\0<shl.length/\shl.length<=2+i/\Hy ld=some (.lst ([V.int 1]++cs.map V.int))) ⟨bl,ps,xs,_,g,_,none,shl,rfl,W0,Rm0,by omega,nb,S0,by rw[lsh];decide,by rw[lsh];decide,zld⟩ (λi σ Hy _ ⟨_,_,_,_,_,_,_,_,_,_,_,_,_,_,_,_,y⟩=>SqL.of y) ?_ ?_⟩
 ·rintro i v σ Hy hi ⟨bl,ps,xs,ws,g,jz,v11,shl,rfl,W,R,room,nb,Sh,l0,l1,zl⟩
  have il:i<12:=by have:=(aoE.mp hi).1;rw[aoJ,aoG]at this;have e1:([V.int 1]:List V).length=1:=rfl;omega
  obtain⟨cell,rfl⟩:∃ cell:Int,v=.int cell:=by
   rcases aoU.mp (aoI hi) with mm|mm
   ·exact⟨1,aoH.mp mm⟩
   ·obtain⟨y,_,e⟩:=ao5.mp mm;exact⟨y,e.symm⟩
  refine⟨_,rfl,_,rfl,_,rfl,_,rfl,_,rfl,by show 3<=sizeLine;decide,λpt hpt=>?_⟩;have u1:=aw.upd (o:=.tup [V.ref hl,V.ref nl,V.ref bl]) hpt;refine⟨_,rfl,10,60,rfl,rfl,⟨by decide,by decide⟩,cell,_,rfl,rfl,(by show(0:Int)<10 ^ Int.toNat 60;decide +kernel),_,rfl,x,A,s,m,mx,c,xs,ws,pt,hl,nl,bl,ys,zs,ps,g,_,jz,rfl,kP u1,W.same u1,R,lk,by omega,λr bl' ps' xs' ws' g' Ka H8 b8 zr W8 R8 sp8 lw8 hb8=>?_⟩;refine⟨r,_,rfl,SqT.of zr,rfl,_,_,rfl,_,_,rfl,rfl,?_⟩;refine⟨_,rfl,rfl,_,rfl,fV (decide_eq_false 1e0) ?_⟩;refine⟨_,rfl,_,rfl,_,rfl,_,rfl,_,rfl,x,A,s,m,mx,c,xs',_,bl',ps',g',hl,nl,ys,zs,rfl,W8.S,W8.hy,W8.hz,W8.l8,W8.n8,W8.hH,W8.hN,λH9 s9=>⟨true,true,rfl,rfl,_,rfl,fV rfl ?_⟩⟩;have W9:=W8.same s9;have b9:But c Hy H9:=((But.same u1).trans b8).trans (But.same s9);have nsc:sh≠c:=aoT ncs;have Zr:=b9 _ _ nsc Sh.1;have tk9:bg Hy H9:=λb us q=>b9 b _ (az q W.S.M.l 1e0) q;have S9:Shs H9 s sh (some c) shl:=Sh.step Zr (λb u _ n q=>b9 b u (λe=>n (by rw[e])) q) tk9 λc2 e=>.inl e;refine⟨_,rfl,.inl ⟨rfl,_,SqL.of Zr⟩,_,rfl,_,rfl,_,rfl,_,rfl,m,mx,c,xs',_,hl,nl,bl',ys,zs,ps',s,g',rfl,W9.S.M,W9.S.gm,W9.S.P,W9.S.G,by omega,W9.hy,W9.hz,W9.S.hb,W9.S.pr,W9.l8,W9.n8,W9.hH,W9.hN,λv H10 s10 rp=>?_⟩;refine⟨sh,_,_,rfl,rfl,s10 _ _ Zr,om 1e1,?_⟩;have S11:=S9.put s10 rp λc2 e=>by cases e;exact⟨_,W9.S.M.l⟩
  have nb':bl'≠sh:=hb8.elim (λe=>by rw[e];exact nb) λe=>aoT (ao (u1 _ _ Sh.1) e);have W11:=(W9.same s10).but (s10 _ _ Zr) (But.self (o:=.lst (shl++[v]))) nfs nh nn nb' ncs;exact⟨bl',ps',xs',ws',g',Ka,_,shl++[v],rfl,W11,R8,by omega,nb',S11,by rw[aoJ];omega,by rw[aoJ,apc];omega,by rw[af lds];exact s10 _ _ (b9 _ _ ldc zl)⟩
 rintro σ Hy ⟨bl,ps,xs,ws,g,jz,v11,shl,rfl,W,R,room,nb,Sh,l0,l1,zl⟩;have lsm:shl.length<=14:=by rw[aoJ,aoG]at l1;have e1:([V.int 1]:List V).length=1:=rfl;omega
 refine⟨_,rfl,sh,rfl,⟨_,SqL.of Sh.1⟩,λL hL=>?_⟩;refine fG (K:=K) (a:=sh) (xs:=shl) (λi us Hc=>us=(List.replicate i true).map V.bl/\aw Hy Hc/\Hc L=some (.lst us)) ⟨rfl,aw.upd hL,ag⟩ (λi us Hc _ ⟨e,_,z⟩=>⟨z,by rw[e,aoG,apg]⟩) (λi us Hc _ ⟨_,sc,_⟩=>SqL.of (sc _ _ Sh.1)) (lE 1e1) (λi v us Hc hi ⟨e,sc,z⟩=>?_) (λus Hc ⟨e,sc,z⟩=>?_)
 ·have h0:shl[0]?=some (shl[0]'l0):=aoF _
  have Sc:=Sh.same sc;have r1:=(Sc.2 v (aoI hi)).same Ql;have r2:=(Sc.2 _ (aoI h0)).same Ql;refine⟨_,rfl,_,rfl,sh,_,0,shl[0]'l0,rfl,rfl,SqL.of Sc.1,yK (j:=0) h0,_,_,r1,r2,z,?_,λb u y=>by rw[af (ao y hL)];exact sc b u y,ag⟩;rw[pF r1 r1,e,List.replicate_succ',aoV];rfl
 exact⟨L,List.replicate shl.length true,rfl,SqL.of (by rw[z,e]),by rw[show(List.replicate shl.length true).all id=true by rw[List.all_replicate];simp];exact k _⟩
end
open PySem.W
section
variable{K:Frag}
noncomputable def LK(K:Frag)(n q:Str)(s:Stmt)(f:Addr):Prop:=(∃ d,Fun K n q s f d)/\keepIn K (.ref f)=true/\isFn K (.ref f)=true
theorem LK.mk{n q:Str}{s:Stmt}{f:Addr}{od an:Option Addr}{sl:Array (Option Value)}{oc kV dc pm cd ct:Value}(h1:K.lookup f=some ⟨oc,od,.func (fnOf n q (lG s) (jZ s) (ar s) .none kV dc pm an cd ct),sl⟩)(h2:codeIn K cd q=true)(h3:keepIn K (.ref f)=true)(h4:isFn K (.ref f)=true):LK K n q s f:=⟨⟨_,ZQ (st:=s) h1 h2 h3⟩,h3,h4⟩
noncomputable def FI(K:Frag)(c:Addr)(n:Str)(f:Addr):Prop:=findIn K (.ref c) n=some (some (.ref f))
noncomputable def NF(K:Frag)(c:Addr)(n:Str):Prop:=findIn K (.ref c) n=some none
structure PK(K:Frag)(c:Addr):Prop where
 g:plainGet K c Str.empty=true
 d:hasDictIn K c=true
 o:plainOver K c=true
 s:findIn K (.ref c) "__setattr__" = some (some (.builtin "object.__setattr__"))
 k:keepIn K (.ref c)=true
structure EK(K:Frag)(b e i:Addr):Prop where
 x:NK K e=true
 a:findIn K (.ref e) "__getattribute__" = some (some (.builtin "BaseException.__getattribute__"))
 t:findIn K (.ref e) "__getattr__" = some none
 c:findIn K (.ref e) "__class__" = some (some (.builtin "object.__class__"))
 i:findIn K (.ref e) "__init__" = some (some (.ref i))
 k:keepIn K (.ref e)=true
 v:kitOne K (.ref e) 2e8=some true
 s:mroIn K e (.ref b)=some true
end
theorem all_mk{l:OpenLaw}{w:World}{K:Frag}{h:Heap}{mg:Str->Option Value}{fa aL dF bZ fS gJ a9 cP iT lj jF jG ba aM aD a5 ab bK aq dX cx eI gK cp bq c7 cR cU FF fT gL vO hW eV c8 dr bJ bL dZ bA a7 br jH hX kD fY dz cS bM fJ hR fI fB gp bc bU dA cL fZ bV dB cY bH cM cT cv gx fD gy gz dR gA bN hZ bF da bt bo bB eY bW dC dD eP dM dq dE bO cZ eB bX bP bQ bp aH eQ c5 c6 fg dH fE aX fK ed d7 h9 f7 ia fi fq f9 ft ib gc gf gg KR:Addr}{Im pP nW pQ pR pS mz:Tok}(X:K.In h)(G:h.Ns mainGlobals mg)(hfa:mg "law" = some (.ref fa))
  (nH:nsIn K mainGlobals "HeapError" = some (some (.ref aL)))
  (xH:NK K aL=true)
  (Hr:nsIn K mainGlobals "number_value" = some (some (.ref dX)))
  (Kc:nsIn K mainGlobals "thing_value" = some (some (.ref cx)))
  (Uu:nsIn K mainGlobals "kind_of" = some (some (.ref eI)))
  (RA:nsIn K mainGlobals "words_of" = some (some (.ref gK)))
  (D1:nsIn K mainGlobals "look_at_number" = some (some (.ref cp)))
  (Hs:nsIn K mainGlobals "look_at_hand" = some (some (.ref bq)))
  (Ht:nsIn K mainGlobals "look_at_name" = some (some (.ref c7)))
  (Gf:nsIn K mainGlobals "look_at_field" = some (some (.ref cR)))
  (D2:nsIn K mainGlobals "look_at_limits" = some (some (.ref cU)))
  (adk:nsIn K mainGlobals "lay" = some (some (.ref FF)))
  (RB:nsIn K mainGlobals "thing_at" = some (some (.ref fT)))
  (RC:nsIn K mainGlobals "resolved" = some (some (.ref gL)))
  (aaq:nsIn K mainGlobals "move" = some (some (.ref vO)))
  (OJ:nsIn K mainGlobals "fields_at" = some (some (.ref hW)))
  (Kd:nsIn K mainGlobals "fields_told" = some (some (.ref eV)))
  (Hu:nsIn K mainGlobals "look_at_room" = some (some (.ref c8)))
  (Mr:nsIn K mainGlobals "is_picture" = some (some (.ref dr)))
  (Hv:nsIn K mainGlobals "first_unlike" = some (some (.ref bJ)))
  (BM:nsIn K mainGlobals "first_misplaced" = some (some (.ref bL)))
  (Hw:nsIn K mainGlobals "addresses_of" = some (some (.ref dZ)))
  (D3:nsIn K mainGlobals "first_headless" = some (some (.ref bA)))
  (vY:nsIn K mainGlobals "first_unlike_field" = some (some (.ref a7)))
  (x9:nsIn K mainGlobals "first_unlike_word" = some (some (.ref br)))
  (Uv:nsIn K mainGlobals "is_like" = some (some (.ref jH)))
  (OK:nsIn K mainGlobals "place_met" = some (some (.ref hX)))
  (Uw:nsIn K mainGlobals "book_of" = some (some (.ref kD)))
  (Ms:nsIn K mainGlobals "address_in" = some (some (.ref fY)))
  (Mt:nsIn K mainGlobals "last_steps" = some (some (.ref fZ)))
  (Ke:nsIn K mainGlobals "thing_among" = some (some (.ref eY)))
  (OL:nsIn K mainGlobals "_law_cell" = some (some (.ref fK)))
  (Mu:nsIn K mainGlobals "_law_mixed" = some (some (.ref ed)))
  (HB:nsIn K mainGlobals "_law_numbers" = some (some (.ref d7)))
  (OM:nsIn K mainGlobals "_law_deed" = some (some (.ref h9)))
  (Mv:nsIn K mainGlobals "_law_round" = some (some (.ref f7)))
  (ON:nsIn K mainGlobals "_law_heap" = some (some (.ref ia)))
  (Kf:nsIn K mainGlobals "_law_places" = some (some (.ref fi)))
  (Kg:nsIn K mainGlobals "_law_spoken" = some (some (.ref fq)))
  (My:nsIn K mainGlobals "_law_model" = some (some (.ref f9)))
  (Kh:nsIn K mainGlobals "_law_memory" = some (some (.ref ft)))
  (OP:nsIn K mainGlobals "_law_said" = some (some (.ref ib)))
  (Mz:nsIn K mainGlobals "_law_shape" = some (some (.ref gc)))
  (MA:nsIn K mainGlobals "_law_roomy" = some (some (.ref gf)))
  (MB:nsIn K mainGlobals "_law_moved" = some (some (.ref gg)))
  (Zs:nsIn K mainGlobals "law" = some (some (.ref KR)))
  (VR:nsIn K mainGlobals "Hands" = some (some (.ref ba)))
  (ya:PK K ba)
  (VS:FI K ba "__init__" dz)
  (IZ:makesIn K ba=true)
  (yc:NF K ba "words_held")
  (D4:FI K ba "word_in" cS)
  (zX:FI K ba "all_words" bM)
  (MC:FI K ba "put" fJ)
  (Ki:FI K ba "copy" hR)
  (Gg:FI K ba "number" fI)
  (Kj:FI K ba "kind" fB)
  (HC:FI K ba "value" gp)
  (zY:FI K ba "thing_due" bc)
  (MD:nsIn K mainGlobals "WordTable" = some (some (.ref aM)))
  (mT:PK K aM)
  (ME:FI K aM "__init__" bU)
  (uy:makesIn K aM=true)
  (rL:NF K aM "words_borne")
  (sV:NF K aM "words_said")
  (BN:FI K aM "bear" dA)
  (yd:FI K aM "settle" cL)
  (MF:nsIn K mainGlobals "NameTable" = some (some (.ref aD)))
  (mU:PK K aD)
  (MG:FI K aD "__init__" bV)
  (uz:makesIn K aD=true)
  (rb:NF K aD "things_named")
  (BO:FI K aD "name" dB)
  (zZ:FI K aD "named" cY)
  (tZ:FI K aD "all_named" bH)
  (ye:FI K aD "settle" cM)
  (YD:nsIn K mainGlobals "Heap" = some (some (.ref a5)))
  (D5:PK K a5)
  (YE:FI K a5 "__init__" cT)
  (SN:makesIn K a5=true)
  (yh:NF K a5 "makes_young")
  (D6:NF K a5 "in_hands")
  (Aa:NF K a5 "weak_names")
  (Ab:NF K a5 "last_words")
  (yi:NF K a5 "fields_held")
  (vZ:NF K a5 "young_things")
  (Ac:NF K a5 "next_thing")
  (BP:FI K a5 "add_thing" cv)
  (MH:FI K a5 "load" gx)
  (Kk:FI K a5 "store" fD)
  (MI:FI K a5 "copy" gy)
  (MJ:FI K a5 "drop" gz)
  (HD:FI K a5 "number" dR)
  (MK:FI K a5 "name" gA)
  (Ae:FI K a5 "read_thing" bN)
  (ML:FI K a5 "word" hZ)
  (yj:FI K a5 "small_round" bF)
  (HE:FI K a5 "let_go" da)
  (wa:FI K a5 "look_at_held" bt)
  (yl:FI K a5 "words_among" bo)
  (BQ:FI K a5 "led_among" bB)
  (YF:readsIn K a5 (.type "type")=true)
  (YG:findCls K (.ref a5) (.type "type") "__init__" = some (.val (.ref cT)))
  (YH:specialIn K (.ref a5) "__getattribute__" = some (some (.builtin "type.__getattribute__")))
  (MM:nsIn K mainGlobals "IdealHeap" = some (some (.ref ab)))
  (mV:PK K ab)
  (MN:FI K ab "__init__" bW)
  (uA:makesIn K ab=true)
  (rM:NF K ab "makes_young")
  (vw:NF K ab "in_hands")
  (sW:NF K ab "weak_names")
  (sX:NF K ab "last_words")
  (rN:NF K ab "fields_held")
  (rf:NF K ab "young_things")
  (sY:NF K ab "next_thing")
  (sZ:NF K ab "young_room")
  (Af:NF K ab "limit")
  (qg:NF K ab "doomed_things")
  (vx:NF K ab "in_round")
  (t5:FI K ab "add_thing" cv)
  (BR:FI K ab "load" gx)
  (Ag:FI K ab "store" fD)
  (BS:FI K ab "copy" gy)
  (BU:FI K ab "drop" gz)
  (ym:FI K ab "number" dR)
  (BV:FI K ab "name" gA)
  (tf:FI K ab "read_thing" bN)
  (BW:FI K ab "word" hZ)
  (rO:FI K ab "small_round" bF)
  (yo:FI K ab "let_go" da)
  (rg:FI K ab "look_at_held" bt)
  (rP:FI K ab "words_among" bo)
  (t6:FI K ab "led_among" bB)
  (BX:FI K ab "make" dC)
  (BY:FI K ab "read" dD)
  (BZ:FI K ab "kind" eP)
  (Ah:FI K ab "value" dM)
  (yp:FI K ab "fields" dq)
  (B7:FI K ab "held" dE)
  (Ai:FI K ab "small" bO)
  (Aj:FI K ab "begin" cZ)
  (D7:FI K ab "end" eB)
  (vz:FI K ab "round_on" bX)
  (Ak:FI K ab "hands" bP)
  (Al:FI K ab "names" bQ)
  (yq:FI K ab "things" bp)
  (t7:FI K ab "fields_of" aH)
  (B8:FI K ab "made" eQ)
  (Am:FI K ab "spare" c5)
  (Ux:nsIn K mainGlobals "Memory" = some (some (.ref bK)))
  (t8:PK K bK)
  (Uy:FI K bK "__init__" c6)
  (EW:makesIn K bK=true)
  (Gh:NF K bK "cells")
  (HF:FI K bK "size" fg)
  (MO:FI K bK "at" dH)
  (Kl:FI K bK "put" fE)
  (rh:FI K bK "look_at_address" aX)
  (RD:nsIn K mainGlobals "BadCount" = some (some (.ref dF)))
  (fi0:FI K dF "__init__" aq)
  (i7:EK K aL dF aq)
  (Uz:nsIn K mainGlobals "BadHand" = some (some (.ref bZ)))
  (ka:EK K aL bZ aq)
  (UA:nsIn K mainGlobals "BadName" = some (some (.ref fS)))
  (kc:EK K aL fS aq)
  (RE:nsIn K mainGlobals "BadField" = some (some (.ref gJ)))
  (i8:EK K aL gJ aq)
  (MP:nsIn K mainGlobals "BadAddress" = some (some (.ref a9)))
  (gv:EK K aL a9 aq)
  (HG:nsIn K mainGlobals "TooManyWords" = some (some (.ref cP)))
  (eE:EK K aL cP aq)
  (UB:nsIn K mainGlobals "BadView" = some (some (.ref iT)))
  (ke:EK K aL iT aq)
  (VT:nsIn K mainGlobals "NoRoom" = some (some (.ref lj)))
  (lL:EK K aL lj aq)
  (UC:nsIn K mainGlobals "RoundOn" = some (some (.ref jF)))
  (kf:EK K aL jF aq)
  (UD:nsIn K mainGlobals "NoRound" = some (some (.ref jG)))
  (kg:EK K aL jG aq)
  (wc:LK K "__init__" "HeapError.__init__" jJ aq)
  (HH:LK K "number_value" "number_value" qt dX)
  (Km:LK K "thing_value" "thing_value" sg cx)
  (UE:LK K "kind_of" "kind_of" yC eI)
  (RF:LK K "words_of" "words_of" AO gK)
  (D8:LK K "look_at_number" "look_at_number" ng cp)
  (HI:LK K "look_at_hand" "look_at_hand" qu bq)
  (HJ:LK K "look_at_name" "look_at_name" qv c7)
  (Gi:LK K "look_at_field" "look_at_field" pj cR)
  (D9:LK K "look_at_limits" "look_at_limits" nr cU)
  (adl:LK K "lay" "lay" Xj FF)
  (RG:LK K "thing_at" "thing_at" uX fT)
  (RH:LK K "resolved" "resolved" AQ gL)
  (aar:LK K "move" "move" Sa vO)
  (OQ:LK K "fields_at" "fields_at" wX hW)
  (Kn:LK K "fields_told" "fields_told" si eV)
  (HK:LK K "look_at_room" "look_at_room" qw c8)
  (MQ:LK K "is_picture" "is_picture" pN dr)
  (HL:LK K "first_unlike" "first_unlike" fH bJ)
  (B9:LK K "first_misplaced" "first_misplaced" lM bL)
  (HM:LK K "addresses_of" "addresses_of" mj dZ)
  (Ea:LK K "first_headless" "first_headless" j2 bA)
  (we:LK K "first_unlike_field" "first_unlike_field" jK a7)
  (yr:LK K "first_unlike_word" "first_unlike_word" kA br)
  (UG:LK K "is_like" "is_like" EV jH)
  (OR:LK K "place_met" "place_met" wY hX)
  (UH:LK K "book_of" "book_of" yD kD)
  (MS:LK K "address_in" "address_in" uj fY)
  (Eb:LK K "__init__" "Hands.__init__" nv dz)
  (Gj:LK K "word_in" "Hands.word_in" pk cS)
  (Ca:LK K "all_words" "Hands.all_words" lN bM)
  (OS:LK K "put" "Hands.put" wZ fJ)
  (MT:LK K "copy" "Hands.copy" uk hR)
  (HN:LK K "number" "Hands.number" qx fI)
  (MU:LK K "kind" "Hands.kind" uo fB)
  (Ko:LK K "value" "Hands.value" sj gp)
  (Cb:LK K "thing_due" "Hands.thing_due" lO bc)
  (wg:LK K "__init__" "WordTable.__init__" jL bU)
  (Ec:LK K "bear" "WordTable.bear" ny dA)
  (An:LK K "settle" "WordTable.settle" kS cL)
  (MW:LK K "last_steps" "last_steps" uq fZ)
  (wj:LK K "__init__" "NameTable.__init__" jM bV)
  (Ed:LK K "name" "NameTable.name" nz dB)
  (Cc:LK K "named" "NameTable.named" lP cY)
  (vA:LK K "all_named" "NameTable.all_named" jm bH)
  (Ao:LK K "settle" "NameTable.settle" iW cM)
  (Gk:LK K "__init__" "Heap.__init__" pq cT)
  (Ee:LK K "add_thing" "Heap.add_thing" nA cv)
  (OT:LK K "load" "Heap.load" w8 gx)
  (MX:LK K "store" "Heap.store" ur fD)
  (OU:LK K "copy" "Heap.copy" xa gy)
  (OV:LK K "drop" "Heap.drop" xb gz)
  (Kp:LK K "number" "Heap.number" sk dR)
  (OW:LK K "name" "Heap.name" xg gA)
  (Cd:LK K "read_thing" "Heap.read_thing" lQ bN)
  (OX:LK K "word" "Heap.word" xh hZ)
  (Ap:LK K "small_round" "Heap.small_round" iX bF)
  (Kq:LK K "let_go" "Heap.let_go" so da)
  (yt:LK K "look_at_held" "Heap.look_at_held" kB bt)
  (Aq:LK K "words_among" "Heap.words_among" iY bo)
  (Ef:LK K "led_among" "Heap.led_among" iB bB)
  (Kr:LK K "thing_among" "thing_among" sq eY)
  (wk:LK K "__init__" "IdealHeap.__init__" jN bW)
  (Eg:LK K "make" "IdealHeap.make" nB dC)
  (Eh:LK K "read" "IdealHeap.read" nC dD)
  (Ei:LK K "kind" "IdealHeap.kind" nD eP)
  (Ce:LK K "value" "IdealHeap.value" lR dM)
  (Ar:LK K "fields" "IdealHeap.fields" kT dq)
  (Ej:LK K "held" "IdealHeap.held" nE dE)
  (Cf:LK K "small" "IdealHeap.small" lS bO)
  (Cg:LK K "begin" "IdealHeap.begin" lT cZ)
  (Gn:LK K "end" "IdealHeap.end" pw eB)
  (wm:LK K "round_on" "IdealHeap.round_on" jO bX)
  (Ci:LK K "hands" "IdealHeap.hands" lU bP)
  (Cj:LK K "names" "IdealHeap.names" lV bQ)
  (As:LK K "things" "IdealHeap.things" kU bp)
  (vB:LK K "fields_of" "IdealHeap.fields_of" jn aH)
  (Ek:LK K "made" "IdealHeap.made" nF eQ)
  (Ck:LK K "spare" "IdealHeap.spare" lW c5)
  (Cm:LK K "__init__" "Memory.__init__" lX c6)
  (Ks:LK K "size" "Memory.size" sr fg)
  (OY:LK K "at" "Memory.at" xi dH)
  (MY:LK K "put" "Memory.put" uu fE)
  (rQ:LK K "look_at_address" "Memory.look_at_address" g9 aX)
  (OZ:LK K "_law_cell" "_law_cell" xj fK)
  (MZ:LK K "_law_mixed" "_law_mixed" uv ed)
  (HP:LK K "_law_numbers" "_law_numbers" qy d7)
  (O0:LK K "_law_deed" "_law_deed" xk h9)
  (M0:LK K "_law_round" "_law_round" uw f7)
  (O1:LK K "_law_heap" "_law_heap" xm ia)
  (Kt:LK K "_law_places" "_law_places" sv fi)
  (Ku:LK K "_law_spoken" "_law_spoken" sA fq)
  (M5:LK K "_law_model" "_law_model" kn f9)
  (Kv:LK K "_law_memory" "_law_memory" sC ft)
  (O3:LK K "_law_said" "_law_said" xn ib)
  (M6:LK K "_law_shape" "_law_shape" ko gc)
  (M7:LK K "_law_roomy" "_law_roomy" ux gf)
  (M8:LK K "_law_moved" "_law_moved" pO gg)
  (adn:LK K "law" "law" UP KR)
  (ji:nsIn K mainGlobals "len" = some none)
  (tw:nsIn K mainGlobals "range" = some none)
  (yQ:nsIn K mainGlobals "list" = some none)
  (xN:nsIn K mainGlobals "sorted" = some none)
  (Xl:nsIn K mainGlobals "sum" = some none)
  (Xm:nsIn K mainGlobals "abs" = some none)
  (ic:nsIn K mainGlobals "enumerate" = some none)
  (Xn:nsIn K mainGlobals "all" = some none)
  (uI:nsIn K mainGlobals "ValueError" = some none)
  (NP:nsIn K mainGlobals "dict" = some none)
  (Ip:nsIn K mainGlobals "HANDS" = some (some (.int 8 Im)))
  (pV:nsIn K mainGlobals "WEAK_NAMES" = some (some (.int 8 pP)))
  (sL:nsIn K mainGlobals "MOST_FIELDS" = some (some (.int 6 nW)))
  (pW:nsIn K mainGlobals "LEAST_ROOM" = some (some (.int 7 pQ)))
  (uJ:nsIn K mainGlobals "MOST_YOUNG" = some (some (.int 64 pR)))
  (uK:nsIn K mainGlobals "MOST_LIMIT" = some (some (.int 400 pS)))
  (mE:nsIn K mainGlobals "MOST_BEARERS" = some (some (.int 12 mz))) :
  ∃ fd:FuncData,(∀(s:Shared) (v:Value),BindsTo s fd ⟨[v],[]⟩ [("script",v)])/\∀ base:Heap,K.In base->base.Ns mainGlobals mg->Dv l.prog w K mg base (CXE l.prog w) 12 fa fd ["script"] (UU K):=by
 have e:=(mg_of X G Zs).symm.trans hfa;cases e;obtain⟨cdH,_,yH⟩:=mZ xH;obtain⟨Fn,O4,AX⟩:=mZ i7.x;obtain⟨IJ,RI,E3⟩:=mZ ka.x;obtain⟨IK,RJ,E4⟩:=mZ kc.x;obtain⟨Fo,O5,AY⟩:=mZ i8.x;obtain⟨yZ,Kw,uT⟩:=mZ gv.x;obtain⟨u9,Gp,qI⟩:=mZ eE.x;obtain⟨IL,RK,E8⟩:=mZ ke.x;obtain⟨Lw,UI,Jg⟩:=mZ lL.x;obtain⟨IM,RL,Fb⟩:=mZ kf.x;obtain⟨IP,RM,Fc⟩:=mZ kg.x;have su:∀ {D:Addr} {cd:ClassData},clsIn K D=some cd->jC K D cd->mroIn K D (.ref aL)=some true->∃ cd,jC K D cd/\cd.mro.contains (.ref aL)=true:=λ{D cd} hc y sb=>⟨cd,y,by
  unfold mroIn at sb;rw[hc,Option.bind_some,if_neg (by rw[y.IV];decide)]at sb;exact ao4 sb⟩
 have m:=λ{n:Str} {v:Value} (q:nsIn K mainGlobals n=some (some v))=>mg_of X G q;obtain⟨⟨aA,wo⟩,NW,a8⟩:=wc;obtain⟨⟨jR,HQ⟩,qz,U6⟩:=HH;obtain⟨⟨eU,Kx⟩,ip,Wx⟩:=Km;obtain⟨⟨ig,Lx⟩,lJ,aau⟩:=UE;obtain⟨⟨lA,RN⟩,qW,Zt⟩:=RF;obtain⟨⟨gn,El⟩,j7,Tz⟩:=D8;obtain⟨⟨cQ,HR⟩,d8,U7⟩:=HI;obtain⟨⟨iM,HU⟩,mB,U8⟩:=HJ;obtain⟨⟨gP,Gq⟩,kQ,UW⟩:=Gi;obtain⟨⟨iC,Em⟩,nI,TB⟩:=D9;obtain⟨⟨QZ,ado⟩,Xk,aoz⟩:=adl;obtain⟨⟨j3,RO⟩,oe,Zu⟩:=RG;obtain⟨⟨lB,RP⟩,qX,Zv⟩:=RH;obtain⟨⟨Jp,aas⟩,Sb,aj5⟩:=aar;obtain⟨⟨oy,O6⟩,xq,YL⟩:=OQ;obtain⟨⟨kG,Ky⟩,sG,Wy⟩:=Kn;obtain⟨⟨iN,HV⟩,mC,U9⟩:=HK;obtain⟨⟨hJ,C6⟩,mQ,XA⟩:=MQ;obtain⟨⟨dY,wW⟩,jV,Va⟩:=HL;obtain⟨⟨fM,Cn⟩,jy,RY⟩:=B9;obtain⟨⟨jS,HW⟩,mD,Vb⟩:=HM;obtain⟨⟨dw,tF⟩,j8,TC⟩:=Ea;obtain⟨⟨dt,wq⟩,gQ,NX⟩:=we;obtain⟨⟨dQ,yu⟩,dW,QC⟩:=yr;obtain⟨⟨qN,UJ⟩,yE,aav⟩:=UG;obtain⟨⟨oz,O7⟩,xt,YM⟩:=OR;obtain⟨⟨tN,UK⟩,EX,aaw⟩:=UH;obtain⟨⟨mG,M9⟩,uC,XB⟩:=MS;obtain⟨⟨iD,En⟩,TH,Eo⟩:=Eb;obtain⟨⟨fO,Gr⟩,Gu,Gv⟩:=Gj;obtain⟨⟨dJ,Co⟩,Cp,Cq⟩:=Ca;obtain⟨⟨i6,O8⟩,O9,Pa⟩:=OS;obtain⟨⟨mI,Na⟩,Nb,Nc⟩:=MT;obtain⟨⟨jT,HX⟩,HY,HZ⟩:=HN;obtain⟨⟨i9,Nd⟩,Nf,Ng⟩:=MU;obtain⟨⟨kH,Kz⟩,KA,KC⟩:=Ko;obtain⟨⟨cA,Cr⟩,Cs,Ct⟩:=Cb;obtain⟨⟨eW,wx⟩,NY,wz⟩:=wg;obtain⟨⟨iE,Ep⟩,Es,Et⟩:=Ec;obtain⟨⟨gC,Au⟩,Av,Aw⟩:=An;obtain⟨⟨mJ,Nh⟩,uD,XC⟩:=MW;obtain⟨⟨eX,wA⟩,NZ,wB⟩:=wj;obtain⟨⟨iF,Eu⟩,Ew,Ey⟩:=Ed;obtain⟨⟨gY,Cu⟩,Cw,Cy⟩:=Cc;obtain⟨⟨eF,vC⟩,vD,vE⟩:=vA;obtain⟨⟨gE,Ax⟩,Ay,Az⟩:=Ao;obtain⟨⟨jg,Gw⟩,Gx,Gy⟩:=Gk;obtain⟨⟨iG,Ez⟩,tG,tH⟩:=Ee;obtain⟨⟨oA,Pb⟩,Fp,Fs⟩:=OT;obtain⟨⟨mK,Ni⟩,C7,C8⟩:=MX;obtain⟨⟨oB,Pc⟩,Ft,Fu⟩:=OU;obtain⟨⟨oE,Pd⟩,Fv,Fx⟩:=OV;obtain⟨⟨kI,KD⟩,y8,y9⟩:=Kp;obtain⟨⟨oH,Pe⟩,Fy,Fz⟩:=OW;obtain⟨⟨gZ,Cz⟩,rG,rH⟩:=Cd;obtain⟨⟨rV,Pf⟩,FA,FC⟩:=OX;obtain⟨⟨gF,AA⟩,qm,qo⟩:=Ap;obtain⟨⟨jq,KG⟩,za,ze⟩:=Kq;obtain⟨⟨fQ,yv⟩,pI,pJ⟩:=yt;obtain⟨⟨eL,AB⟩,qq,qr⟩:=Aq;obtain⟨⟨eO,EA⟩,tI,tJ⟩:=Ef;obtain⟨⟨kJ,KH⟩,oh,Wz⟩:=Kr;obtain⟨⟨eZ,wC⟩,N0,wD⟩:=wk;obtain⟨⟨iH,EB⟩,EC,ED⟩:=Eg;obtain⟨⟨iI,EE⟩,EF,EG⟩:=Eh;obtain⟨⟨j4,EH⟩,EI,EJ⟩:=Ei;obtain⟨⟨jx,CA⟩,CB,CC⟩:=Ce;obtain⟨⟨iZ,AD⟩,AE,AF⟩:=Ar;obtain⟨⟨iJ,EL⟩,EM,EN⟩:=Ej;obtain⟨⟨dN,CD⟩,CF,CG⟩:=Cf;obtain⟨⟨g4,CI⟩,CJ,CK⟩:=Cg;obtain⟨⟨jh,Gz⟩,GA,GB⟩:=Gn;obtain⟨⟨fe,wF⟩,wG,wH⟩:=wm;obtain⟨⟨dO,CL⟩,CM,CN⟩:=Ci;obtain⟨⟨dP,CO⟩,CP,CQ⟩:=Cj;obtain⟨⟨cN,AG⟩,AH,AI⟩:=As;obtain⟨⟨aW,vF⟩,vG,vH⟩:=vB;obtain⟨⟨j5,EO⟩,ER,ES⟩:=Ek;obtain⟨⟨g7,CS⟩,CT,CU⟩:=Ck;obtain⟨⟨g8,CV⟩,RZ,CW⟩:=Cm;obtain⟨⟨jr,KI⟩,KJ,KL⟩:=Ks;obtain⟨⟨gB,Pg⟩,Ph,Pj⟩:=OY;obtain⟨⟨ja,Nj⟩,Nk,Nl⟩:=MY;obtain⟨⟨cg,rR⟩,rS,rT⟩:=rQ;obtain⟨⟨jX,Pk⟩,oW,YN⟩:=OZ;obtain⟨⟨jc,Nm⟩,hV,XD⟩:=MZ;obtain⟨⟨jU,Ia⟩,qB,Vc⟩:=HP;obtain⟨⟨oJ,Pm⟩,xv,YO⟩:=O0;obtain⟨⟨mL,Nn⟩,uE,XE⟩:=M0;obtain⟨⟨oK,Pn⟩,xw,YQ⟩:=O1;obtain⟨⟨kK,KN⟩,sI,WA⟩:=Kt;obtain⟨⟨kL,KO⟩,oi,WB⟩:=Ku;obtain⟨⟨mM,Np⟩,uF,XF⟩:=M5;obtain⟨⟨kM,KP⟩,sJ,WC⟩:=Kv;obtain⟨⟨oO,Po⟩,oZ,YR⟩:=O3;obtain⟨⟨mN,Nq⟩,pU,XG⟩:=M6;obtain⟨⟨mO,Nr⟩,uG,XH⟩:=M7;obtain⟨⟨mP,Nu⟩,uH,XI⟩:=M8;obtain⟨⟨Q0,Zw⟩,Zi,aoA⟩:=adn
 let D:Ad:=⟨aL,dF,bZ,fS,gJ,a9,cP,iT,lj,jF,jG,ba,aM,aD,a5,ab,bK,aq,aA,dX,jR,cx,eU,eI,ig,gK,lA,cp,gn,bq,cQ,c7,iM,cR,gP,cU,iC,FF,QZ,fT,j3,gL,lB,vO,Jp,hW,oy,eV,kG,c8,iN,dr,hJ,bJ,dY,bL,fM,dZ,jS,bA,dw,a7,dt,br,dQ,jH,qN,hX,oz,kD,tN,fY,mG,dz,iD,cS,fO,bM,dJ,fJ,i6,hR,mI,fI,jT,fB,i9,gp,kH,bc,cA,bU,eW,dA,iE,cL,gC,fZ,mJ,bV,eX,dB,iF,cY,gY,bH,eF,cM,gE,cT,jg,cv,iG,gx,oA,fD,mK,gy,oB,gz,oE,dR,kI,gA,oH,bN,gZ,hZ,rV,bF,gF,da,jq,bt,fQ,bo,eL,bB,eO,eY,kJ,bW,eZ,dC,iH,dD,iI,eP,j4,dM,jx,dq,iZ,dE,iJ,bO,dN,cZ,g4,eB,jh,bX,fe,bP,dO,bQ,dP,bp,cN,aH,aW,eQ,j5,c5,g7,c6,g8,fg,jr,dH,gB,fE,ja,aX,cg,fK,jX,ed,jc,d7,jU,h9,oJ,f7,mL,ia,oK,fi,kK,fq,kL,f9,mM,ft,kM,ib,oO,gc,mN,gf,mO,gg,mP,fa,Q0,Im,pP,nW,pQ,pR,pS,mz⟩
 have T:Txt K mg D:=⟨⟨cdH,yH⟩,m nH,m RD,⟨⟨Fn,AX⟩,⟨i7.a,i7.t⟩,i7.c⟩,⟨⟨Fn,AX⟩,i7.i,a8,i7.k⟩,i7.v,su O4 AX i7.s,m Uz,⟨⟨IJ,E3⟩,⟨ka.a,ka.t⟩,ka.c⟩,⟨⟨IJ,E3⟩,ka.i,a8,ka.k⟩,ka.v,su RI E3 ka.s,m UA,⟨⟨IK,E4⟩,⟨kc.a,kc.t⟩,kc.c⟩,⟨⟨IK,E4⟩,kc.i,a8,kc.k⟩,kc.v,su RJ E4 kc.s,m RE,⟨⟨Fo,AY⟩,⟨i8.a,i8.t⟩,i8.c⟩,⟨⟨Fo,AY⟩,i8.i,a8,i8.k⟩,i8.v,su O5 AY i8.s,m MP,⟨⟨yZ,uT⟩,⟨gv.a,gv.t⟩,gv.c⟩,⟨⟨yZ,uT⟩,gv.i,a8,gv.k⟩,gv.v,su Kw uT gv.s,m HG,⟨⟨u9,qI⟩,⟨eE.a,eE.t⟩,eE.c⟩,⟨⟨u9,qI⟩,eE.i,a8,eE.k⟩,eE.v,su Gp qI eE.s,m UB,⟨⟨IL,E8⟩,⟨ke.a,ke.t⟩,ke.c⟩,⟨⟨IL,E8⟩,ke.i,a8,ke.k⟩,ke.v,su RK E8 ke.s,m VT,⟨⟨Lw,Jg⟩,⟨lL.a,lL.t⟩,lL.c⟩,⟨⟨Lw,Jg⟩,lL.i,a8,lL.k⟩,lL.v,su UI Jg lL.s,m UC,⟨⟨IM,Fb⟩,⟨kf.a,kf.t⟩,kf.c⟩,⟨⟨IM,Fb⟩,kf.i,a8,kf.k⟩,kf.v,su RL Fb kf.s,m UD,⟨⟨IP,Fc⟩,⟨kg.a,kg.t⟩,kg.c⟩,⟨⟨IP,Fc⟩,kg.i,a8,kg.k⟩,kg.v,su RM Fc kg.s,m VR,⟨ya.g,ya.d,ya.o,ya.s⟩,⟨IZ,VS,Eo,ya.k⟩,yc,⟨D4,Gv,Gu⟩,⟨zX,Cq,Cp⟩,⟨MC,Pa,O9⟩,⟨Ki,Nc,Nb⟩,⟨Gg,HZ,HY⟩,⟨Kj,Ng,Nf⟩,⟨HC,KC,KA⟩,⟨zY,Ct,Cs⟩,m MD,⟨mT.g,mT.d,mT.o,mT.s⟩,⟨uy,ME,wz,mT.k⟩,rL,sV,⟨BN,Et,Es⟩,⟨yd,Aw,Av⟩,m MF,⟨mU.g,mU.d,mU.o,mU.s⟩,⟨uz,MG,wB,mU.k⟩,rb,⟨BO,Ey,Ew⟩,⟨zZ,Cy,Cw⟩,⟨tZ,vE,vD⟩,⟨ye,Az,Ay⟩,m YD,⟨D5.g,D5.d,D5.o,D5.s⟩,⟨SN,YE,Gy,D5.k⟩,yh,D6,Aa,Ab,yi,vZ,Ac,⟨BP,tH,tG⟩,⟨MH,Fs,Fp⟩,⟨Kk,C8,C7⟩,⟨MI,Fu,Ft⟩,⟨MJ,Fx,Fv⟩,⟨HD,y9,y8⟩,⟨MK,Fz,Fy⟩,⟨Ae,rH,rG⟩,⟨ML,FC,FA⟩,⟨yj,qo,qm⟩,⟨HE,ze,za⟩,⟨wa,pJ,pI⟩,⟨yl,qr,qq⟩,⟨BQ,tJ,tI⟩,⟨YF,YG,YH,Gx⟩,m MM,⟨mV.g,mV.d,mV.o,mV.s⟩,⟨uA,MN,wD,mV.k⟩,rM,vw,sW,sX,rN,rf,sY,sZ,Af,qg,vx,⟨t5,tH,tG⟩,⟨BR,Fs,Fp⟩,⟨Ag,C8,C7⟩,⟨BS,Fu,Ft⟩,⟨BU,Fx,Fv⟩,⟨ym,y9,y8⟩,⟨BV,Fz,Fy⟩,⟨tf,rH,rG⟩,⟨BW,FC,FA⟩,⟨rO,qo,qm⟩,⟨yo,ze,za⟩,⟨rg,pJ,pI⟩,⟨rP,qr,qq⟩,⟨t6,tJ,tI⟩,⟨BX,ED,EC⟩,⟨BY,EG,EF⟩,⟨BZ,EJ,EI⟩,⟨Ah,CC,CB⟩,⟨yp,AF,AE⟩,⟨B7,EN,EM⟩,⟨Ai,CG,CF⟩,⟨Aj,CK,CJ⟩,⟨D7,GB,GA⟩,⟨vz,wH,wG⟩,⟨Ak,CN,CM⟩,⟨Al,CQ,CP⟩,⟨yq,AI,AH⟩,⟨t7,vH,vG⟩,⟨B8,ES,ER⟩,⟨Am,CU,CT⟩,m Ux,⟨t8.g,t8.d,t8.o,t8.s⟩,⟨EW,Uy,CW,t8.k⟩,Gh,⟨HF,KL,KJ⟩,⟨MO,Pj,Ph⟩,⟨Kl,Nl,Nk⟩,⟨rh,rT,rS⟩,m Hr,qz,m Kc,ip,m Uu,lJ,m RA,qW,m D1,j7,m Hs,d8,m Ht,mB,m Gf,kQ,m D2,nI,m adk,Xk,m RB,oe,m RC,qX,m aaq,Sb,m OJ,xq,m Kd,sG,m Hu,mC,m Mr,mQ,m Hv,jV,m BM,jy,m Hw,mD,m D3,j8,m vY,gQ,m x9,dW,m Uv,yE,m OK,xt,m Uw,EX,m Ms,uC,m Mt,uD,m Ke,oh,m OL,oW,m Mu,hV,m HB,qB,m OM,xv,m Mv,uE,m ON,xw,m Kf,sI,m Kg,oi,m My,uF,m Kh,sJ,m OP,oZ,m Mz,pU,m MA,uG,m MB,uH,m Zs,Zi,mg_none_of X G ji,mg_none_of X G tw,mg_none_of X G yQ,mg_none_of X G xN,mg_none_of X G Xl,mg_none_of X G Xm,mg_none_of X G ic,mg_none_of X G Xn,mg_none_of X G uI,mg_none_of X G NP,m Ip,m pV,m sL,m pW,m uJ,m uK,m mE⟩;refine⟨Q0,λs v=>?_,λbase _ _=>?_⟩
 ·obtain⟨_,_,_,_,_,_,_,_,_,e,_⟩:=Zw.ex
  rw[e];exact .of_eq rfl
 have ak:=@ve l.prog w K mg base D wo T;have kE:=@Ri l.prog w K mg base D Lx T;have aN:=@FO l.prog w K mg base D HR T ak;have iQ:=@FQ l.prog w K mg base D HU T ak;have jj:=@Oq l.prog w K mg base D RN T ak;have gR:=@DD l.prog w K mg base D Gq T ak;have gq:=@Bf l.prog w K mg base D El T ak;have qC:=@FU l.prog w K mg base D HQ T gq;have bG:=@GY l.prog w K mg base D Kx T ak;have nN:=@Bh l.prog w K mg base D Em T ak;have j9:=@Bj l.prog w K mg base D En T;have gS:=@vh l.prog w K mg base D wA T;have di:=@DI l.prog w K mg base D Gr T aN;have eJ:=@LQ l.prog w K mg base D O8 T aN;have uL:=@Jw l.prog w K mg base D Na T aN di;have qD:=@FY l.prog w K mg base D HX T aN qC;have gi:=@JA l.prog w K mg base D Nd T kE di;have sN:=@G4 l.prog w K mg base D Kz T ak gi;have aT:=@zq l.prog w K mg base D Cr T ak gi;have cC:=@zw l.prog w K mg base D Co T;have nK:=@Bo l.prog w K mg base D Eu T iQ;have lZ:=@zC l.prog w K mg base D Cu T iQ;have gT:=@vj l.prog w K mg base D wx T;have nM:=@Br l.prog w K mg base D Ep T ak;have xC:=@LV l.prog w K mg base D Pc T uL;have xD:=@LY l.prog w K mg base D Pd T eJ;have sQ:=@G6 l.prog w K mg base D KD T qD;have xE:=@LZ l.prog w K mg base D Pe T aT nK;have YS:=@L0 l.prog w K mg base D Pf T aT gq nM;have xB:=@L4 l.prog w K mg base D Pb T aN aT gR eJ;have uN:=@JD l.prog w K mg base D Ni T aT di gR;have kR:=@DM l.prog w K mg base D Gw T j9 gS gT;have gW:=@vm l.prog w K mg base D wC T nN kR;have nQ:=@Bs l.prog w K mg base D Ez T bG eJ;have l9:=@zD l.prog w K mg base D Cz T aN lZ eJ bG;have eM:=@xP l.prog w K mg base D AB T jj;have nP:=@Bv l.prog w K mg base D EL T eM;have TJ:=@Bx l.prog w K mg base D EH T gi;have R0:=@zF l.prog w K mg base D CA T sN;have QH:=@xR l.prog w K mg base D AD T aT;have uM:=@JF l.prog w K mg base D Nh T;have oo:=@G8 l.prog w K mg base D KH T kE;have cV:=@Bz l.prog w K mg base D EA T oo uM;have k6:=@xU l.prog w K mg base D Ax T;have k7:=@xV l.prog w K mg base D Au T;have jt:=@G9 l.prog w K mg base D KG T k6 k7;have k8:=@xW l.prog w K mg base D AA T cC cV jt;have cD:=@zJ l.prog w K mg base D CD T k8;have me:=@zK l.prog w K mg base D CI T ak cD cC cV;have pA:=@DR l.prog w K mg base D Gz T ak jt;have jQ:=@vp l.prog w K mg base D wF T;have md:=@zM l.prog w K mg base D CS T bG cV;have nS:=@BD l.prog w K mg base D EB T ak aN jj eM cD nP nQ;have nU:=@BE l.prog w K mg base D EE T l9 md;have cE:=@zO l.prog w K mg base D CL T cC;have jo:=@tV l.prog w K mg base D vC T;have cF:=@zQ l.prog w K mg base D CO T jo;have aS:=@xY l.prog w K mg base D AG T;have TK:=@BI l.prog w K mg base D EO T;have kC:=@vV l.prog w K mg base D yv T ak;have ay:=@tX l.prog w K mg base D vF T kC;have jB:=@zU l.prog w K mg base D CV T;have ju:=@Hg l.prog w K mg base D KI T;have cn:=@ra l.prog w K mg base D rR T ak;have bw:=@L8 l.prog w K mg base D Pg T cn;have fF:=@JL l.prog w K mg base D Nj T cn;have fW:=@OA l.prog w K mg base D Lx T;have iR:=@F7 l.prog w K mg base D HV T ju ak;have sO:=@Hi l.prog w K mg base D Ky T bw fW iR ak;have xy:=@Mb l.prog w K mg base D O6 T sO;have fX:=@OC l.prog w K mg base D RO T xy bw;have iw:=@OD l.prog w K mg base D RP T bw fW;have xA:=@Md l.prog w K mg base D O7 T iw;have qT:=@Rx l.prog w K mg base D UJ T kE fW xA;have cw:=@vW l.prog w K mg base D yu T qT;have dv:=@vv l.prog w K mg base D wq T qT ay bw;have nR:=@BK l.prog w K mg base D tF T ay bw;have mF:=@Ga l.prog w K mg base D HW T ay jj;have fN:=@zV l.prog w K mg base D Cn T mF ju;have qF:=@Gb l.prog w K mg base D wW T aS fN nR dv cw cE cF bG;have qd:=@JO l.prog w K mg base D C6 T qF;have ie:=@Mg l.prog w K mg base D Pk T;have cX:=@JP l.prog w K mg base D Nm T;have uO:=@JR l.prog w K mg base D Nn T cD pA;have rZ:=@Mj l.prog w K mg base D Pm T nS uN xB xC xD sQ xE nU jQ uO me;have qG:=@Ge l.prog w K mg base D Ia T ie cX;have xF:=@Ml l.prog w K mg base D Pn T ie qG rZ gW;have sR:=@Hk l.prog w K mg base D KN T aS cX ay;have oq:=@Hm l.prog w K mg base D KO T;have sS:=@Ho l.prog w K mg base D KP T jB fF;have uQ:=@JW l.prog w K mg base D Np T sR aS ay oq cX cE cF;have Xs:=@aah l.prog w K mg base D ado T iR fF;have Sk:=@Yz l.prog w K mg base D aas T fX Xs fF;have E1:=@Rz l.prog w K mg base D UK T iw fX;have uP:=@JX l.prog w K mg base D M9 T;have mh:=@zW l.prog w K mg base D tF T ay bw;have gX:=@DZ l.prog w K mg base D wW T aS fN mh dv cw cE cF bG;have sT:=@Hq l.prog w K mg base D C6 T gX;have pe:=@Mp l.prog w K mg base D Po T iw fX;have qe:=@JY l.prog w K mg base D Nq T fX pe;have uR:=@J9 l.prog w K mg base D Nr T sS;have uS:=@Kb l.prog w K mg base D Nu T ay Sk E1 sT uP gX;exact(aap (P:=l.prog) (w:=w) (mg:=mg) (base:=base) Zw T xF ie uQ uR qd qe uS).g
theorem walk{l:OpenLaw}{q:Program}{loose:List Str}{XP:(Str->Option Value)->Heap->Prop}{YP:World->Heap->Prop}{d:DefRec}{K:Params->Frag}(hn:l.most=some 63)(hdf:d.params.defaults=[])
  (hY:∀(w:World) (h:Heap),YP w h->(K w.params).In h)
  (F:∀(w:World) (mg:Str->Option Value) (fa:Addr) (h:Heap),(K w.params).In h->h.Ns mainGlobals mg->mg d.name=some (.ref fa) ->
   ∃ fd:FuncData,(∀(s:Shared) (u:Value),BindsTo s fd ⟨[u],[]⟩ [("script",u)])/\∀ base:Heap,(K w.params).In base->base.Ns mainGlobals mg->Dv l.prog w (K w.params) mg base (CXE l.prog w) 12 fa fd ["script"] (UU (K w.params))) :
  WalkO q loose XP YP l.row.toRowW d [] (λf vs=>PySem.call f vs) :=
 L2.X3 (n:=63) (k:=12) (x := "script") (CX:=λw=>CXE l.prog w) (sp:=λw=>UU (K w.params)) hn 2e0 hdf ⟨rfl,by decide,by decide⟩ hY F (λ_ _ a ns hl _ hS=>⟨a,ns,rfl,hS,hl,λ_=>rfl⟩) λ_ _ _ _ _ z=>acP z
end K39
end
section
open PySem PySem.W PyProof.Rows
set_option maxRecDepth 100000 in
set_option maxHeartbeats 0 in
theorem PySem.Challenge.cw_stillheap_k39_whole_pictures_by_addresse_holds : PySem.Challenge.rw_stillheap_k39_whole_pictures_by_addresse.Holds := by
 w_on;refine holds_law K39.wsd λwO=>?_
 refine holds_open (q:=K39.hQ) (loose:=K39.hLo) (Xt:=λs=>xlAt K39.hQ [] s&&recOk (RowW.records (OpenRow.toRowW (OpenLaw.row PySem.Challenge.rw_stillheap_k39_whole_pictures_by_addresse))) s)
  (XP:=XL K39.hQ []) (Yf:=Hook.obs (kHook K39.hK K39.hAs K39.se)) (Ya:=Hook.val (kHook K39.hK K39.hAs K39.se)) (YP:=Hook.says (kHook K39.hK K39.hAs K39.se)) (N:=15276)
  ?hl (Hook.of (kHook K39.hK K39.hAs K39.se)) (Hook.keeps (kHook K39.hK K39.hAs K39.se))
  (λs e=>xl_of s (Bool.and_eq_true_iff.mp e).1) XL.keeps (by rfl) (by rfl) (by rfl)
  (λs e=>recFacts_of (Bool.and_eq_true_iff.mp e).2) (by rfl) (by first|assumption|decide +kernel)
  2e4 ⟨rfl,rfl,rfl,rfl,rfl,by decide +kernel⟩ ?hw ?hc
 (case hl=>exact K39.acF)
 (case hw=>w_witness2)
 k_fill
 refine K39.walk (l:=PySem.Challenge.rw_stillheap_k39_whole_pictures_by_addresse) rfl rfl (λw h Y=>PySem.W.kIn_of Y) ?F
 case F =>
  intro w mg fa h KX G hmg;refine' K39.all_mk KX G hmg ..
  all_goals first
   | k_is
   | (unfold K39.FI;k_is)
   | (unfold K39.NF;k_is)
   | (refine' K39.LK.mk ?la ?lb ?lc ?ld;(case la=>k_is);(case lb=>k_is);(case lc=>k_is);(case ld=>k_is))
   | kernel_rfl
   | (refine' K39.PK.mk ?_ ?_ ?_ ?_ ?_<;>k_is)
   | (refine' K39.EK.mk ?_ ?_ ?_ ?_ ?_ ?_ ?_ ?_<;>first|k_is|kernel_rfl)
   | skip
end
