import PyProof.Rows.All
import Wide.All
import OpenK.AllK
import Wide.FinOn
import PyProof.EqAt
import PyProof.EqKinds
import PyProof.TupleCall
import OpenK.KCls
import PyProof.ExcClass2
import PyProof.ExcBaseAll.ValueError
import PyProof.ExcArgs
import PyProof.Rows.Exc
import KE.KIsAll
import PyProof.StationsW
import PyProof.EnumFor
import PyProof.EnumStmt
import PyProof.EnumMake
import PyProof.NeKinds
import PyProof.Rows.SumAny
import KE.KDictSum
import PyProof.Rows.SortWalk
import PyProof.Rows.Range3
import PyProof.Rows.SetFrom
import KE.KEqDict
import PyProof.Rows.DictUnroll
import KE.KRevSl
import PyProof.AutoListH
import PyProof.AttrMiss
import KE.KRevIter
import PyProof.SeqI3
import Wide.Seal
import PySem.Challenge.RW_stillheap_k44_whole_copied_heaps
set_option Elab.async false
set_option linter.all false
set_option maxRecDepth 100000
set_option maxHeartbeats 4000000
set_option exponentiation.threshold 4000
set_option compiler.extract_closed false
set_option hygiene false
local macro_rules|`(9e9)=>`(PySem.Challenge.pw_stillheap_k44_whole_copied_heaps)
local macro_rules|`(9e8)=>`(⟨[],[],[],0,[],[],false,(List.toArray []),[],0,false,false,false,0,[2000,10,10],false,0,true,[],[],0,false⟩)
local macro_rules|`(1e0)=>`(by intro z;cases z)
local macro_rules|`(1e1)=>`(by omega)
local macro_rules|`(1e2)=>`(λz=>absurd z (by decide +kernel))
local macro_rules|`(1e3)=>`((cxC X scope cl NC h3.objs.size fp {s2 with heap:=h3,toks:=s2.toks} (upd H2 D (.lst []))))
local macro_rules|`(1e4)=>`(by kernel_rfl)
local macro_rules|`(1e5)=>`((.Pass ⟨0,0,0,0⟩))
local macro_rules|`(1e6)=>`(λ_ _=>rfl)
local macro_rules|`(1e7)=>`(model X.prog X.w)
local macro_rules|`(1e8)=>`(aL (pv 0) rfl)
local macro_rules|`(1e9)=>`(Or.inl rfl)
local macro_rules|`(2e0)=>`((λcdv A outer s H vs Q E h=>by obtain⟨x,rfl,k⟩:=h;exact⟨_,ai (aI aP),k⟩))
local macro_rules|`(2e1)=>`(model prog w)
local macro_rules|`(2e2)=>`(by decide +kernel)
local macro_rules|`(2e3)=>`(a8 aV (pv 1) av 1e6)
local macro_rules|`(2e4)=>`(aa (pv 1) ak)
local macro_rules|`(2e5)=>`(by simp)
local macro_rules|`(2e6)=>`(by decide)
local macro_rules|`(2e7)=>`(λ_=>?_)
local macro_rules|`(2e8)=>`(λ_ z=>nomatch z)
local macro_rules|`(2e9)=>`(s.heap.objs.size+1)
local macro_rules|`(3e0)=>`(.dK kvs)
local macro_rules|`(3e1)=>`(by with_unfolding_all rfl)
local macro_rules|`(3e2)=>`(notedBy 2e1 A env λe s'=>R (.error e) s')
local macro_rules|`(3e3)=>`((some .hand,s))
local macro_rules|`(3e4)=>`((λvs H Q E h=>by obtain⟨x,rfl,_⟩:=h;rfl))
local macro_rules|`(3e5)=>`(.type "ValueError")
local macro_rules|`(3e6)=>`(.inl rfl)
local macro_rules|`(3e7)=>`((keys s).take i)
local macro_rules|`(3e8)=>`(("makes_young",.bl my))
local macro_rules|`(3e9)=>`(aa (pv 2) ak)
local macro_rules|`(4e0)=>`(show false=true from fx)
local macro_rules|`(4e1)=>`(cL x A s)
local macro_rules|`(4e2)=>`(.ref C)
local macro_rules|`(4e3)=>`(Addr×Obj)
local macro_rules|`(4e4)=>`(Sum.inl t)
local macro_rules|`(4e5)=>`(show false=true from hs)
local macro_rules|`(4e6)=>`(ns.map V.int)
local macro_rules|`(4e7)=>`(.ref p)
local macro_rules|`(4e8)=>`(EP X pins σ Q)
local macro_rules|`(4e9)=>`(top 56)
local macro_rules|`(5e0)=>`(.lst ys)
local macro_rules|`(5e1)=>`(he pins s σ H _ I h)
local macro_rules|`(5e2)=>`(de I q 2e5)
local macro_rules|`(5e3)=>`(("in_hands",.ref hd))
local macro_rules|`(5e4)=>`(aa (pv 4) ak)
local macro_rules|`(5e5)=>`(oJ (show(1:Nat)≠11 by decide))
local macro_rules|`(5e6)=>`(.lst xs)
local macro_rules|`(5e7)=>`(by intro q hq;rw[apU.mp hq];rfl)
local macro_rules|`(5e8)=>`(.inr (.inr (.inr 3e6)))
local macro_rules|`(5e9)=>`(top 53)
local macro_rules|`(6e0)=>`(.frz o 3e0)
local macro_rules|`(6e1)=>`(.dK [])
local macro_rules|`(6e2)=>`((∀ b∈fp,H' b=none))
local macro_rules|`(6e3)=>`(.ref 45)
local macro_rules|`(6e4)=>`(("weak_names",.ref nt))
local macro_rules|`(6e5)=>`(aa (pv 3) ak)
local macro_rules|`(6e6)=>`((Obj.mapFields (·.setIfInBounds 3 Value.none)))
local macro_rules|`(6e7)=>`(λ_ q=>q)
local macro_rules|`(6e8)=>`(atts A s)
local macro_rules|`(6e9)=>`(a8 aV (pv 0) av 1e6)
local macro_rules|`(7e0)=>`(aK rB 2e3 aP (aW _))
local macro_rules|`(7e1)=>`(cxE P w K mg base N qual scope f cdv A outer s₀ H₀ E₀)
local macro_rules|`(7e2)=>`((s.nxt,List.replicate n.toNat .no))
local macro_rules|`(7e3)=>`(aa (pv 0) ak)
local macro_rules|`(7e4)=>`(.ref f)
local macro_rules|`(7e5)=>`(.ref x)
local macro_rules|`(7e6)=>`(gs.take i)
local macro_rules|`(7e7)=>`(hr.mono 2e6)
local macro_rules|`(7e8)=>`(fOf (tsP s))
local macro_rules|`(7e9)=>`(λz=>absurd 2e2 z)
local macro_rules|`(8e0)=>`(keywordEach [] X.env)
local macro_rules|`(8e1)=>`(by intro _ z;cases z)
local macro_rules|`(8e2)=>`(model P w)
local macro_rules|`(8e3)=>`(.lst (ns.map nmV))
local macro_rules|`(8e4)=>`((∀ σ' H',N σ' H'->∃ m',m'<m/\W (i+1) m' σ' H'))
local macro_rules|`(8e5)=>`(.ref a)
local macro_rules|`(8e6)=>`(aG (aO.c hr T.hJ T.eK px 2e4))
local macro_rules|`(8e7)=>`(ap1 _ (ap1 _ (iR hb e)))
local macro_rules|`(8e8)=>`(aa (jA (aY (kO (pv 0)) (aY gE jz))) ak)
local macro_rules|`(8e9)=>`(wpAny_pure ?_)
local macro_rules|`(9e0)=>`((.ListComp elt [⟨.Name x px,iter,[],0⟩] scope pos))
local macro_rules|`(9e1)=>`(keys s)
local macro_rules|`(9e2)=>`(s.aJ.map (fkv A))
local macro_rules|`(9e3)=>`(("__loader__",168,.builtin "__main__.__loader__#opaque"))
local macro_rules|`(9e4)=>`(upd H2 D (.lst []))
local macro_rules|`(9e5)=>`((λt ws m=>⟨by rw[ah (ay (J.afl _ _ m).1 J.ax 1e0)];exact(J.afl _ _ m).1,(J.afl _ _ m).2.keep tk⟩))
local macro_rules|`(9e6)=>`((λ_=>⟨_,rfl,h,rfl,hb,λy hy ea hea=>b9 T.lL (λ_ q=>az.none s1 q) (Bad.same k s1) ea hea⟩))
local macro_rules|`(1e10)=>`(s.names.getD w.toNat none)
local macro_rules|`(1e11)=>`(ha pos pins s σ H _ I h)
local macro_rules|`(1e12)=>`(wpAny_field he rfl h1 ?_)
local macro_rules|`(1e13)=>`(.lst (zs.map V.int))
local macro_rules|`(1e14)=>`(envOfC qual scope s₀.heap.objs.size f cdv)
local macro_rules|`(9e7 $a $b $c $d $e)=>`(Ok P w K mg base $a $b $c $d $e)
set_option hygiene true
section
open PySem PySem.W PySem.Spec PyProof.Rows
def apR:=@List.length_map
def apS:=@List.getElem?_eq_some_iff
def apT:=@List.getElem?_eq_getElem
def apU:=@List.mem_singleton
def apV:=@Nat.le_refl
def apW:=@List.mem_of_getElem?
def apX:=@List.take_of_length_le
def apY:=@Heap.get?_push_of_some
def apZ:=@List.getElem?_map
def ap0:=@Bool.false_ne_true
def ap1:=@List.mem_append_right
def ap2:=@Heap.lt_size
def ap3:=@List.map_append
def ap4:=@List.length_append
def ap5:=@List.size_toArray
def ap6:=@List.length_take
def ap7:=@List.mem_cons_self
def ap8:=@List.mem_cons_of_mem
def ap9:=@Nat.lt_of_lt_of_le
def aqa:=@Option.map_eq_some_iff
def aqb:=@Nat.ne_of_lt
def aqc:=@List.mem_append
def aqd:=@List.map_cons
def aqe:=@Ne.symm
def aqf:=@List.mem_map
def aqg:=@PassesOwn.never
def aqh:=@Option.some.inj
def aqi:=@List.mem_cons
def aqj:=@Array.getElem?_eq_some_iff
def aqk:=@Nat.le_trans
def aql:=@List.take_succ_eq_append_getElem
def aqm:=@List.mem_append_left
def aqn:=@List.length_replicate
def aqo:=@List.length_cons
def aqp:=@List.length_set
def aqq:=@List.eq_of_mem_replicate
def aqr:=@Heap.get?_push_size
def aqs:=@List.getElem?_append_right
def aqt:=@Bool.eq_false_iff
def aqu:=@Nat.zero_le
def aqv:=@List.map_map
def aqw:=@List.getElem?_append_left
def aqx:=@Heap.get?_update_other
def aqy:=@List.getElem?_of_mem
def aqz:=@List.nodup_append
def aqA:=@Bool.false_eq_true
def aqB:=@List.replicate_succ
def aqC:=@List.length_singleton
def aqD:=@List.map_congr_left
def aqE:=@List.filter_sublist
def aqF:=@List.mem_filter
def aqG:=@PySem.mem_of_lookup
def aqH:=@Int.le_refl
def aqI:=@List.getElem_mem
def aqJ:=@List.take_append_drop
def aqK:=@List.mem_filterMap
def aqL:=@Nat.lt_of_le_of_lt
def aqM:=@List.take_append_of_le_length
def aqN:=@List.getElem?_set_ne
def aqO:=@List.filter_congr
def aqP:=@List.nodup_cons
def aqQ:=@Option.map_some
def aqR:=@List.not_mem_nil
def aqS:=@List.lookup_cons
def aqT:=@List.length_filter_le
def aqU:=@Int.emod_lt_of_pos
noncomputable def aqV:=@List.drop_eq_getElem_cons
noncomputable def aqW:=@List.take_zero
noncomputable def aqX:=@Classical.byContradiction
noncomputable def aqY:=@List.mem_of_mem_take
noncomputable def aqZ:=@List.flatten_cons
noncomputable def aq0:=@Option.isSome_map
noncomputable def aq1:=@Int.emod_nonneg
noncomputable def aq2:=@List.length_range
noncomputable def aq3:=@Nat.ne_of_gt
noncomputable def aq4:=@Nat.lt_irrefl
noncomputable def aq5:=@List.all_eq_true
noncomputable def aq6:=@List.mem_range
noncomputable def aq7:=@List.getElem?_set_self
noncomputable def aq8:=@List.append_nil
noncomputable def aq9:=@List.map_nil
noncomputable def ara:=@List.find?_cons
noncomputable def arb:=@Nat.lt_or_ge
noncomputable def arc:=@List.Pairwise.sublist
noncomputable def ard:=@List.sum_cons
noncomputable def arf:=@List.getD_eq_getElem?_getD
noncomputable def arh:=@Heap.size_push
noncomputable def ari:=@List.length_drop
noncomputable def arj:=@List.mem_flatMap
noncomputable def ark:=@Option.isSome_iff_exists
noncomputable def arl:=@Bool.eq_iff_iff
noncomputable def arn:=@Calls.spliced_cons
noncomputable def aro:=@List.any_cons
noncomputable def arp:=@List.filter_append
noncomputable def arq:=@List.pairwise_singleton
noncomputable def ars:=@List.getElem?_drop
noncomputable def art:=@List.getElem?_take
noncomputable def aru:=@Calls.callWith_builtin
noncomputable def arv:=@List.append_assoc
noncomputable def arw:=@Nat.lt_succ_of_lt
noncomputable def arx:=@List.nodup_nil
noncomputable def ary:=@Nat.lt_succ_self
noncomputable def arz:=@Bool.and_eq_true
noncomputable def arA:=@Calls.evalArgs_plain
noncomputable def arB:=@List.pairwise_append
noncomputable def arC:=@Array.length_toList
noncomputable def arD:=@Nat.le_succ
noncomputable def arE:=@List.of_mem_zip
noncomputable def arF:=@Nat.not_lt_zero
noncomputable def arG:=@List.flatMap_append
noncomputable def arH:=@Calls.Name_function_global
noncomputable def arI:=@Nat.le_of_lt
noncomputable def arJ:=@Nat.sub_self
noncomputable def arK:=@Bool.and_false
noncomputable def arL:=@Calls.spliced_nil
noncomputable def arM:=@List.getElem?_set
noncomputable def arN:=@List.prefix_refl
noncomputable def arO:=@List.filter_map
noncomputable def arP:=@Int.zero_add
end
section
namespace L2
open PySem PySem.Spec PyProof.Rows
noncomputable abbrev Key:=Sum Int Str
noncomputable def vq:Key->Value->Bool
  | .inl k,v=>Value.isInt k v
  | .inr x,v=>Value.isStrOf x v
noncomputable def aeZ(w:World):Key->Int
  | .inl k=>hashInt k
  | .inr x=>hashStr w x
theorem cF:∀ {k:Key} {v:Value},vq k v=true->(∃ i t,k=Sum.inl i/\v=Value.int i t)\/(∃ x t,k=Sum.inr x/\v=Value.str x t)
  | .inl i,v,h=>by
    obtain⟨t,e⟩:=Value.isInt_shape (k:=i) (v:=v) h;exact .inl ⟨i,t,rfl,e⟩
  | .inr x,v,h=>by
    obtain⟨t,e⟩:=Value.isStrOf_shape (x:=x) (v:=v) h;exact .inr ⟨x,t,rfl,e⟩
theorem Vm(i:Int)(t:Tok):vq (.inl i) (.int i t)=true:=by simp[vq,Value.isInt]
theorem Vn(x:Str)(t:Tok):vq (.inr x) (.str x t)=true:=by simp[vq,Value.isStrOf]
theorem abf(a b:Int):decide ((Sum.inl a:Key)=Sum.inl b)=(a == b):=by
  by_cases e:a=b
  · subst e;simp
  · have h:¬(Sum.inl a:Key)=Sum.inl b:=λq=>e (Sum.inl.inj q)
    rw[decide_eq_false h];exact(beq_eq_false_iff_ne.mpr e).symm
theorem abg(a b:Str):decide ((Sum.inr a:Key)=Sum.inr b)=decide (a=b):=by
  by_cases e:a=b
  · subst e;simp
  · have h:¬(Sum.inr a:Key)=Sum.inr b:=λq=>e (Sum.inr.inj q)
    rw[decide_eq_false h,decide_eq_false e]
theorem abh(a:Int)(b:Str):decide ((Sum.inl a:Key)=Sum.inr b)=false:=decide_eq_false (λq=>nomatch q)
theorem abi(a:Str)(b:Int):decide ((Sum.inr a:Key)=Sum.inl b)=false:=decide_eq_false (λq=>nomatch q)
noncomputable def cT(prog:Program)(w:World):PySem.KeyKind prog w Key where
  is:=vq
  hash:=aeZ w
  inj:=λv a b ha hb=>by
    rcases cF ha with⟨i,t,rfl,rfl⟩|⟨x,t,rfl,rfl⟩
    · rcases cF hb with⟨j,u,rfl,e⟩|⟨y,u,rfl,e⟩
      · injection e with e1 _;rw[e1]
      · exact nomatch e
    · rcases cF hb with⟨j,u,rfl,e⟩|⟨y,u,rfl,e⟩
      · exact nomatch e
      · injection e with e1 _;rw[e1]
  byValue:=λk v h=>by
    rcases cF h with⟨i,t,rfl,rfl⟩|⟨x,t,rfl,rfl⟩<;>rfl
  pyHash:=λhv h=>by
    rcases cF hv with⟨i,t,rfl,rfl⟩|⟨x,t,rfl,rfl⟩
    · exact wpAny_pyHash_int h
    · exact wpAny_pyHash_str h
  eqBool:=λhu hv h=>by
    rcases cF hu with⟨i,t,rfl,rfl⟩|⟨x,t,rfl,rfl⟩
    · rcases cF hv with⟨j,u,rfl,rfl⟩|⟨y,u,rfl,rfl⟩
      · rw[abf]at h;exact wpAny_eqBool_int h
      · rw[abh]at h;exact SeqAt.EqAt.int_str i t y u _ _ _ _ h
    · rcases cF hv with⟨j,u,rfl,rfl⟩|⟨y,u,rfl,rfl⟩
      · rw[abi]at h;exact SeqAt.EqAt.str_int x t j u _ _ _ _ h
      · rw[abg]at h;exact wpAny_eqBool_str h
  «strs» := λk x t v h=>by
    rcases cF h with⟨i,u,rfl,e⟩|⟨y,u,rfl,e⟩
    · exact nomatch e
    · injection e with e1 _
      subst e1;cases v<;>rfl
theorem Pt(prog:Program)(w:World)(i:Int)(t:Tok):(cT prog w).is (.inl i) (.int i t)=true:=Vm i t
theorem Pu(prog:Program)(w:World)(x:Str)(t:Tok):(cT prog w).is (.inr x) (.str x t)=true:=Vn x t
end L2
namespace L2
open PySem PySem.Spec PyProof.Rows
inductive V where
  | non|bl (b:Bool)|int (i:Int)|str (x:Str)|byt (b:Array UInt8)|flt (b:UInt64)|ref (a:Addr)|ty (n:String)
  deriving DecidableEq
noncomputable def RelV:V->Value->Prop
  | .non,u=>u=Value.none
  | .bl b,u=>u=Value.bool b
  | .int i,u=>∃ t,u=Value.int i t
  | .str x,u=>∃ t,u=Value.str x t
  | .byt b,u=>∃ t,u=Value.bytes b t
  | .flt b,u=>∃ t,u=Value.float b t
  | .ref a,u=>u=Value.ref a
  | .ty n,u=>u=Value.type n
noncomputable abbrev Vals:List V->List Value->Prop:=Paired RelV
theorem Vals.length{xs:List V}{us:List Value}(r:Vals xs us):xs.length=us.length:=Paired.length r
theorem Vals.get:∀ {xs:List V} {us:List Value} {i:Nat} {x:V},Vals xs us->xs[i]?=some x->∃ u,us[i]?=some u/\RelV x u
  | _,_,_,_,.nil,e=>by simp at e
  | _,_,0,_,.cons r _,e=>by simp at e;subst e;exact⟨_,rfl,r⟩
  | _,_,i+1,x,.cons _ t,e=>by
    obtain⟨u,h1,h2⟩:=Vals.get (i:=i) (x:=x) t (by simpa using e);exact⟨u,by simpa using h1,h2⟩
theorem Vals.set{x:V}{u:Value}(r:RelV x u):∀ {xs:List V} {us:List Value} (i:Nat),Vals xs us->Vals (xs.set i x) (us.set i u)
  | _,_,_,.nil=>.nil
  | _,_,0,.cons _ t=>.cons r t
  | _,_,i+1,.cons q t=>.cons q (Vals.set r i t)
theorem Vals.append:∀ {xs ys:List V} {us ws:List Value},Vals xs us->Vals ys ws->Vals (xs++ys) (us++ws)
  | _,_,_,_,.nil,s=>s
  | _,_,_,_,.cons r t,s=>.cons r (Vals.append t s)
theorem Vals.take:∀ {xs:List V} {us:List Value} (n:Nat),Vals xs us->Vals (xs.take n) (us.take n)
  | _,_,0,_=>.nil
  | _,_,_+1,.nil=>.nil
  | _,_,n+1,.cons r t=>.cons r (Vals.take n t)
theorem Vals.drop:∀ {xs:List V} {us:List Value} (n:Nat),Vals xs us->Vals (xs.drop n) (us.drop n)
  | _,_,0,r=>r
  | _,_,_+1,.nil=>.nil
  | _,_,n+1,.cons _ t=>Vals.drop n t
noncomputable def Bj:Option V->Option Value->Prop
  | some v,some u=>RelV v u
  | none,none=>True
  | _,_=>False
noncomputable def KV{κ:Type}:List (κ×V)->List (κ×Value)->Prop:=Paired λ(p:κ×V) (q:κ×Value)=>p.1=q.1/\RelV p.2 q.2
noncomputable def kV:Key->V
  | .inl i=>.int i
  | .inr x=>.str x
inductive HO where
  | lst (xs:List V)
  | tup (xs:List V)
  | dK (kvs:List (Key×V))|dT (kvs:List (List Key×V))
  | set (S:Int->Bool) (n:Nat)
  | ins (C dx:Addr) (fs:List (Str×V))
  | own (x:Addr)
  | xd (fs:List (Str×V))
  | met (f x:Addr)
  | rng (lo hi:Int)
  | frz (o:Obj) (u:HO)
  | tbl (ps:Array Value)
  | ext (φ:Heap->Prop)
noncomputable abbrev Hp:=Addr->Option HO
noncomputable def upd(H:Hp)(a:Addr)(o:HO):Hp:=λb=>if b=a then some o else H b
theorem ag{H:Hp}{a:Addr}{o:HO}:upd H a o a=some o:=by unfold upd;rw[if_pos rfl]
theorem ah{H:Hp}{a b:Addr}{o:HO}(h:b≠a):upd H a o b=H b:=by unfold upd;rw[if_neg h]
theorem ay{H:Hp}{a b:Addr}{o u:HO}(h:H a=some o)(h':H b=some u)(d:o≠u):a≠b:=by
  intro e;subst e;rw[h]at h';exact d (aqh h')
theorem ar{H:Hp}{a b:Addr}{o:HO}(h:H a=some o)(h':H b=none):a≠b:=by
  intro e;subst e;rw[h]at h';cases h'
section
variable(P:Program)(w:World)
noncomputable def jk(H:Hp)(h:Heap)(a:Addr):HO->Prop
  | .lst xs=>xs.length<=sizeLine/\∃(its:List Value) (n:Nat),Vals xs its/\h.get? a=some {cls:=.type "list",data:=.seq its.toArray n}
  | .tup xs=>xs.length<=sizeLine/\∃ its:List Value,Vals xs its/\IsTup h a its.toArray
  | .dK kvs=>kvs.length<=sizeLine/\(a == sysModules)=false/\∃ vs,KV kvs vs/\h.DictOf (cT P w) a vs
  | .dT kvs=>kvs.length<=sizeLine/\(a == sysModules)=false/\∃ xs:List (List Key×Addr×Value),
      Paired (λ(p:List Key×V) (q:List Key×Addr×Value)=>p.1=q.1/\H q.2.1=some (.tup (p.1.map kV))/\RelV p.2 q.2.2) kvs xs /\
      ∃ o es ep,h.get? a=some o/\o.ExactDict/\o.data=.dict es ep/\es.toList=xs.map (entryOfKey (tupleKind (cT P w)))/\(xs.map (·.1)).Nodup
  | .set S n=>h.SetOf (intKind P w) a S n
  | .ins C dx fs=>H dx=some (.own a)/\fs.length<=1000/\dx≠a/\h.get? a=some (PySem.W.instObj C dx) /\
      ∃ mA,h.Ns1 dx mA/\(∀ f,Bj (fs.lookup f) (mA f))/\PySem.Within mA (fs.map (·.1))
  | .own _=>∃ o,h.get? a=some o
  | .xd fs=>∃ mA,h.Ns1 a mA/\∀ f,Bj (fs.lookup f) (mA f)
  | .rng lo hi=>∃ t u v,h.get? a=some {cls:=.type "range",data:=.fields #[.int lo t,.int hi u,.int 1 v]}
  | .frz o u=>h.get? a=some o/\jk H h a u
  | .tbl ps=>h.get? a=some {cls:=.none,data:=.fields ps}
  | .met f x=>h.get? a=some (PySem.W.methodObj 7e4 7e5)
  | .ext φ=>φ h/\(∃ o,h.get? a=some o)/\∀ h1 h2:Heap,φ h1->(∀ o,h1.get? a=some o->h2.get? a=some o)->φ h2
noncomputable def HOk(H:Hp)(h:Heap):Prop:=∀ a o,H a=some o->jk P w H h a o
end
section
variable{P:Program}{w:World}{H H':Hp}{h h':Heap}{a:Addr}{o:HO}
theorem jk.lt(x:jk P w H h a o):a<h.objs.size:=by
  cases o with
  | lst xs=>obtain⟨_,_,_,_,e⟩:=x;exact ap2 e
  | tup xs=>obtain⟨_,_,_,p⟩:=x;exact p.lt
  | dK kvs=>obtain⟨_,_,_,_,o,_,_,e,_⟩:=x;exact ap2 e
  | dT kvs=>obtain⟨_,_,_,_,o,_,_,e,_⟩:=x;exact ap2 e
  | set S n=>obtain⟨o,_,_,_,e,_⟩:=x;exact ap2 e
  | ins C dx fs=>obtain⟨_,_,_,e,_⟩:=x;exact ap2 e
  | own y=>obtain⟨_,e⟩:=x;exact ap2 e
  | xd fs=>obtain⟨_,⟨_,_,_,e,_⟩,_⟩:=x;exact ap2 e
  | rng lo hi=>obtain⟨_,_,_,e⟩:=x;exact ap2 e
  | frz ob u=>obtain⟨e,_⟩:=x;exact ap2 e
  | tbl ps=>exact ap2 (show h.get? a=some _ from x)
  | met f y=>exact ap2 (show h.get? a=some _ from x)
  | ext φ=>obtain⟨_,⟨_,e⟩,_⟩:=x;exact ap2 e
theorem Paired.ab9{α β:Type}{F G:α->β->Prop}:∀ {l₁:List α} {l₂:List β},Paired F l₁ l₂->(∀ a b,F a b->G a b)->Paired G l₁ l₂
  | _,_,.nil,_=>.nil
  | _,_,.cons r t,f=>.cons (f _ _ r) (Paired.ab9 t f)
theorem jk.OT(x:jk P w H h a o)(k:∀ b u,(b=a\/H b=some (.own a))->h.get? b=some u->h'.get? b=some u)
    (ho:∀ b,H b=some (.own a)->H' b=some (.own a)) (ht:∀ b xs,H b=some (.tup xs)->H' b=some (.tup xs)):jk P w H' h' a o:=by
  induction o with
  | lst xs=>obtain⟨z,its,n,r,e⟩:=x;exact⟨z,its,n,r,k _ _ 3e6 e⟩
  | tup xs=>obtain⟨z,its,r,ob,e,c⟩:=x;exact⟨z,its,r,ob,k _ _ 3e6 e,c⟩
  | dK kvs=>obtain⟨z,y,vs,r,ob,es,ep,e,c⟩:=x;exact⟨z,y,vs,r,ob,es,ep,k _ _ 3e6 e,c⟩
  | dT kvs =>
    obtain⟨z,y,xs,r,ob,es,ep,e,c⟩:=x;exact⟨z,y,xs,Paired.ab9 r λp q z=>⟨z.1,ht _ _ z.2.1,z.2.2⟩,ob,es,ep,k _ _ 3e6 e,c⟩
  | set S n=>obtain⟨ob,es,ep,t,e,c⟩:=x;exact⟨ob,es,ep,t,k _ _ 3e6 e,c⟩
  | ins C dx fs =>
    obtain⟨d,z,ne,e,mA,⟨od,es,ep,e2,c⟩,r⟩:=x;exact⟨ho _ d,z,ne,k _ _ 3e6 e,mA,⟨od,es,ep,k _ _ (.inr d) e2,c⟩,r⟩
  | own y=>obtain⟨ob,e⟩:=x;exact⟨ob,k _ _ 3e6 e⟩
  | xd fs=>obtain⟨mA,⟨od,es,ep,e,c⟩,r⟩:=x;exact⟨mA,⟨od,es,ep,k _ _ 3e6 e,c⟩,r⟩
  | rng lo hi=>obtain⟨t,u,v,e⟩:=x;exact⟨t,u,v,k _ _ 3e6 e⟩
  | frz ob u ih=>obtain⟨e,q⟩:=x;exact⟨k _ _ 3e6 e,ih q⟩
  | tbl ps =>
    have e:h.get? a=some {cls:=.none,data:=.fields ps}:=x;show h'.get? a=some {cls:=.none,data:=.fields ps};exact k a _ 3e6 e
  | met f y =>
    have e:h.get? a=some (PySem.W.methodObj 7e4 (.ref y)):=x;show h'.get? a=some (PySem.W.methodObj 7e4 (.ref y));exact k a _ 3e6 e
  | ext φ=>obtain⟨p,⟨o,e⟩,st⟩:=x;exact⟨st _ _ p λo q=>k _ _ 3e6 q,⟨o,k _ _ 3e6 e⟩,st⟩
theorem HOk.lt(x:HOk P w H h)(e:H a=some o):a<h.objs.size:=(x a o e).lt
theorem HOk.fresh(x:HOk P w H h)(e:h.objs.size<=a):H a=none:=by
  cases q:H a with
  | none=>rfl
  | some u=>exact absurd (ap9 (x.lt q) e) (aq4 _)
theorem HOk.kept(x:HOk P w H h)(k:∀ b u,h.get? b=some u->h'.get? b=some u):HOk P w H h':=λa o e =>
  (x a o e).OT (λb u _ q=>k b u q) 6e7 λ_ _ q=>q
theorem HOk.laid(x:HOk P w H h)(k:∀ b u,h.get? b=some u->h'.get? b=some u)(hp:h.objs.size<=a)(new:jk P w (upd H a o) h' a o):HOk P w (upd H a o) h':=λb u e=>by
  have hn:=x.fresh hp;by_cases hb:b=a
  · subst hb;rw[ag]at e;cases e;exact new
  · rw[ah hb]at e
    exact(x b u e).OT (λc v _ q=>k c v q) (λc q=>by rw[ah (ar q hn)];exact q) λc xs q=>by rw[ah (ar q hn)];exact q
end
noncomputable def Rd(H:Hp)(a:Addr)(u:HO):Prop:=H a=some u\/∃ o,H a=some (.frz o u)
theorem Rd.ok{P:Program}{w:World}{H:Hp}{h:Heap}{a:Addr}{u:HO}(r:Rd H a u)(x:HOk P w H h):jk P w H h a u:=by
  rcases r with r|⟨o,r⟩
  · exact x a u r
  · obtain⟨_,q⟩:=x a _ r
    exact q
noncomputable def Mut:Option HO->Prop
  | some (.lst _)=>True
  | some (.dK _)=>True
  | some (.dT _)=>True
  | some (.set _ _)=>True
  | some (.ins _ _ _)=>True
  | some (.ext _)=>True
  | _=>False
section
variable{P:Program}{w:World}{H:Hp}{h h':Heap}{x e:Addr}{o':HO}
theorem HOk.write(ok:HOk P w H h)(mu:Mut (H x))(he:e=x\/H e=some (.own x))(k:∀ b u,b≠e->h.get? b=some u->h'.get? b=some u)(heo:∃ u,h'.get? e=some u)
    (new:jk P w (upd H x o') h' x o'):HOk P w (upd H x o') h':=λb u q=>by
  have ae0:∀ c y,H c=some (.own y)->c≠x:=λc y r z=>by subst z;rw[r]at mu;exact mu
  have als:∀ c xs,H c=some (.tup xs)->c≠x:=λc xs r z=>by subst z;rw[r]at mu;exact mu
  by_cases hb:b=x
  · subst hb;rw[ag]at q;cases q;exact new
  · rw[ah hb]at q
    by_cases hbe:b=e
    · have q':H b=some (.own x):=by
        rcases he with z|z
        · exact absurd (hbe.trans z) hb
        · rw[hbe];exact z
      rw[q]at q';cases q';obtain⟨v,hv⟩:=heo;exact⟨v,by rw[hbe];exact hv⟩
    · refine(ok b u q).OT (λc v hc r=>k c v ?_ r) (λc r=>by rw[ah (ae0 c b r)];exact r) λc xs r=>by rw[ah (als c xs r)];exact r
      rcases hc with rfl|hc
      · exact hbe
      · rintro rfl
        rcases he with z|z
        · exact ae0 c b hc z
        · rw[hc]at z;cases z;exact hb rfl
end
structure Un(fs ex:List Addr)(H H':Hp)(h h':Heap):Prop where
  keep:∀ b o,h.get? b=some o->H b=none->b∉fs->b∉ex->h'.get? b=some o
  slot:∀ b o,h.get? b=some o->H b=none->b∈fs->b∉ex->∃ sl,h'.get? b=some {o with slots:=sl}
  free:∀ b o,h.get? b=some o->H b=none->b∉ex->H' b=none
  there:∀ b o,h.get? b=some o->b∉ex->∃ o',h'.get? b=some o'
  GA:∀ b xs,H b=some (.tup xs)->H' b=some (.tup xs)
  Ip:∀ b o u,H b=some (.frz o u)->H' b=some (.frz o u)
  JS:∀ b ps,H b=some (.tbl ps)->∃ more,H' b=some (.tbl (ps++more))
section
variable{fs fs' ex ex':List Addr}{H H1 H2:Hp}{h h1 h2 h':Heap}{a x e:Addr}{o:HO}
theorem Un.any(u:Un fs ex H H1 h h1){b:Addr}{ob:Obj}(q:h.get? b=some ob)(n:H b=none)(hx:b∉ex):∃ sl,h1.get? b=some {ob with slots:=sl}:=by
  by_cases hb:b∈fs
  · exact u.slot b ob q n hb hx
  · exact⟨ob.slots,u.keep b ob q n hb hx⟩
theorem Un.kept(k:∀ b u,h.get? b=some u->h'.get? b=some u):Un fs ex H H h h' :=
  ⟨λb ob q _ _ _=>k b ob q,λb ob q _ _ _=>⟨ob.slots,k b ob q⟩,λ_ _ _ n _=>n,λb ob q _=>⟨ob,k b ob q⟩,λ_ _ q=>q,λ_ _ _ q=>q,λ_ ps q=>⟨#[],by rw[q];simp⟩⟩
theorem Un.refl:Un fs ex H H h h:=Un.kept λ_ _ q=>q
theorem Un.laid(k:∀ b u,h.get? b=some u->h'.get? b=some u)(hp:h.objs.size<=a)(hn:H a=none):Un fs ex H (upd H a o) h h' where
  keep:=λb u q _ _ _=>k b u q
  slot:=λb u q _ _ _=>⟨u.slots,k b u q⟩
  free:=λb u q n _=>by rw[ah (aqb (ap9 (ap2 q) hp))];exact n
  there:=λb u q _=>⟨u,k b u q⟩
  GA:=λb xs q=>by rw[ah (ar q hn)];exact q
  Ip:=λb u xs q=>by rw[ah (ar q hn)];exact q
  JS:=λb ps q=>⟨#[],by rw[ah (ar q hn),q];simp⟩
theorem Un.write(mu:Mut (H x))(he:e=x\/H e=some (.own x))(k:∀ b u,b≠e->h.get? b=some u->h'.get? b=some u)(heo:∃ u,h'.get? e=some u):Un fs ex H (upd H x o) h h':=by
  have hx:∀ b,H b=none->b≠x:=λb n z=>by subst z;rw[n]at mu;exact mu
  have hb:∀ b,H b=none->b≠e:=λb n z=>by
    subst z;rcases he with r|r
    · exact hx b n r
    · rw[n]at r;cases r
  have hm:∀ b u,H b=some u->¬Mut (some u)->b≠x:=λb u q nm z=>by subst z;rw[q]at mu;exact nm mu
  refine⟨λb u q n _ _=>k b u (hb b n) q,λb u q n _ _=>⟨u.slots,k b u (hb b n) q⟩,λb u q n _=>by rw[ah (hx b n)];exact n,λb u q _=>?_,
    λb xs q=>by rw[ah (hm b _ q λz=>z)];exact q,λb u xs q=>by rw[ah (hm b _ q λz=>z)];exact q,λb ps q=>⟨#[],by rw[ah (hm b _ q λz=>z),q];simp⟩⟩
  by_cases hbe:b=e
  · subst hbe;exact heo
  · exact⟨u,k b u hbe q⟩
end
noncomputable def trk(h:Heap)(H:Hp):List Addr:=(List.range h.objs.size).filter λa=>(H a).isSome
noncomputable def Sd(h:Heap)(H:Hp):Heap:=PySem.W.hideAll h (trk h H)
theorem Vo(h:Heap)(H:Hp):(Sd h H).objs.size=h.objs.size:=PySem.W.hideAll_size _ _
theorem WL{h:Heap}{H:Hp}{b:Addr}{o:Obj}(e:h.get? b=some o)(n:H b=none):(Sd h H).get? b=some o :=
  PySem.W.hideAll_get _ e λhm=>by
    have q:(H b).isSome=true:=(aqF.mp hm).2;rw[n]at q;simp at q
theorem Zn{h:Heap}{H:Hp}{b:Addr}{o:Obj}(e:(Sd h H).get? b=some o):h.get? b=some o/\H b=none:=by
  have e':h.get? b=some o:=PySem.W.of_hideAll (trk h H) e;refine⟨e',?_⟩;cases q:H b with
  | none=>rfl
  | some x =>
    have hm:b∈trk h H:=aqF.mpr ⟨aq6.mpr (ap2 e'),by simp[q]⟩;have z:(Sd h H).get? b=none:=PySem.W.hideAll_none (trk h H) hm;rw[z]at e;cases e
end L2
namespace L2
open PySem PySem.Spec PyProof.Rows
structure Mod(K:W.Frag)(mg:Str->Option Value)(base:Heap):Prop where
  kin:K.In base
  glob:base.Ns mainGlobals mg
  blt:∃ mb,base.Ns builtinsNs mb/\∀ x:Str,x ≠ "__name__" -> mb x=bootBuiltins x
  nolimit:base.NoLimit
structure Cx where
  prog:Program
  w:World
  K:W.Frag
  mg:Str->Option Value
  base:Heap
  A:Around
  N:List Str
  s₀:Shared
  H₀:Hp
  env:Env
  outer:List Env
  stack:List Env
  ex:List Addr
  fn:Str->Bool
  calm:Bool
  pn:List 4e3
  xe:Value->Shared->Prop
noncomputable def frs(l:List Env):List Addr:=l.filterMap (·.frame)
noncomputable abbrev Cx.fs(X:Cx):List Addr:=frs X.outer
noncomputable def Vis(sc:Scope)(x:Str):Prop:=sc.names.lookup x=some .local\/sc.names.lookup x=some .cell\/sc.names.lookup x=some .free
noncomputable def Loc(sc:Scope)(x:Str):Prop:=sc.names.lookup x=some .local\/sc.names.lookup x=some .cell
noncomputable def Look(env:Env)(h:Heap)(m:Str->Option Value)(x:Str)(u:Value):Prop :=
  (env.kindOf x=some .local/\m x=some u)\/((env.kindOf x=some .cell\/env.kindOf x=some .free)/\∃ c,env.cells.lookup x=some c/\h.IsCell c (some u))
structure Cx.Ok(X:Cx):Prop where
  mod:Mod X.K X.mg X.base
  kind:X.env.scope.kind=.function
  glob:X.env.globals=mainGlobals
  blt:X.env.builtins=builtinsNs
  above:X.s₀.heap.objs.size<=X.env.locals
  inj:∀ x y c,X.env.cells.lookup x=some c->X.env.cells.lookup y=some c->x=y
  has:∀ x,(X.env.kindOf x=some .cell\/X.env.kindOf x=some .free)->∃ c,X.env.cells.lookup x=some c
  cab:∀ x c,X.fn x=true->X.env.cells.lookup x=some c->X.s₀.heap.objs.size<=c
  hd:X.calm=true->X.A.handled=none
  frames:X.A.frames=some X.stack
  stk:X.stack=X.outer\/(X.stack=X.env::X.outer/\X.env.frame=some X.env.locals)
  exf:∀ b∈X.ex,b≠X.env.locals/\∀ x c,X.env.cells.lookup x=some c->c≠b
  bs:∀ b o,X.base.get? b=some o->X.s₀.heap.get? b=some o/\X.H₀ b=none
  bsz:X.base.objs.size<=X.s₀.heap.objs.size
  Se:∀ b o,X.base.get? b=some o->b∉X.ex
  Uv:∀ b∈X.ex,b∉X.fs
  Eg:X.s₀.heap.FunFrames X.base X.outer
  frf:∀ b∈X.fs,X.H₀ b=none
structure Inv(X:Cx)(pins:List (Addr×Obj))(σ:List (Option V))(H:Hp)(s:Shared):Prop where
  ok:X.Ok
  os:s.os=X.s₀.os
  bare:AllBare s.gens
  base:Un X.fs X.ex X.H₀ H X.s₀.heap s.heap
  loc:∃ m,s.heap.Ns X.env.locals m/\∀(i:Nat) (x:Str) (v:V),X.N[i]?=some x->σ[i]?=some (some v)->Vis X.env.scope x->∃ u,RelV v u/\Look X.env s.heap m x u
  cell:∀ x c,X.env.cells.lookup x=some c->∃ v,s.heap.IsCell c v
  free:H X.env.locals=none
  pL:∀ x c,X.env.cells.lookup x=some c->H c=none
  pin:∀ p∈X.pn++pins,s.heap.get? p.1=some p.2/\H p.1=none/\p.1≠X.env.locals/\p.1∉X.fs/\∀ v,p.2.data≠.cell v
  hok:HOk X.prog X.w H s.heap
  len:σ.length=X.N.length
section
variable{X:Cx}{pins:List (Addr×Obj)}{σ:List (Option V)}{H H':Hp}{s:Shared}{h':Heap}
theorem Cx.Ok.alu(ok:X.Ok){b:Addr}{o:Obj}(e:X.base.get? b=some o):b∉X.fs:=λhb=>by
  have:=(ok.Eg.mem hb).1
  rw[e]at this;cases this
theorem Inv.bs(I:Inv X pins σ H s):∀ b o,X.base.get? b=some o->s.heap.get? b=some o/\H b=none:=λb o e =>
  ⟨I.base.keep b o (I.ok.bs b o e).1 (I.ok.bs b o e).2 (I.ok.alu e) (I.ok.Se b o e),I.base.free b o (I.ok.bs b o e).1 (I.ok.bs b o e).2 (I.ok.Se b o e)⟩
theorem Inv.bk(I:Inv X pins σ H s):∀ b o,X.base.get? b=some o->s.heap.get? b=some o:=λb o e=>(I.bs b o e).1
theorem Inv.mod(I:Inv X pins σ H s):Mod X.K X.mg X.base:=I.ok.mod
theorem Inv.kIn(I:Inv X pins σ H s):X.K.In s.heap:=I.ok.mod.kin.keeps I.bk
theorem Inv.lt(I:Inv X pins σ H s):X.env.locals<s.heap.objs.size:=let ⟨_,hn,_⟩:=I.loc;hn.lt
theorem Inv.sz(I:Inv X pins σ H s):X.s₀.heap.objs.size<=s.heap.objs.size:=aqk I.ok.above (arI I.lt)
theorem Inv.alv(I:Inv X pins σ H s){a:Addr}(h:s.heap.objs.size<=a):a∉X.fs:=λhb=>by
  obtain⟨_,o,ho,_⟩:=I.ok.Eg.mem hb;exact absurd (ap9 (ap2 ho) (aqk I.sz h)) (aq4 _)
theorem Inv.cne(I:Inv X pins σ H s):∀ x c,X.env.cells.lookup x=some c->c≠X.env.locals:=λx c e z=>by
  obtain⟨v,o,ho,hd⟩:=I.cell x c e;obtain⟨m,⟨o',es,ep,ho',hd',_⟩,_⟩:=I.loc;rw[z,ho']at ho;cases ho;rw[hd']at hd;cases hd
theorem Inv.Eg(I:Inv X pins σ H s):s.heap.FunFrames X.base X.outer:=by
  have all:∀(l:List Env),(∀ b∈frs l,b∈X.fs)->X.s₀.heap.FunFrames X.base l->s.heap.FunFrames X.base l:=by
    intro l;induction l with
    | nil=>intro _ _;trivial
    | cons env r ih =>
      intro hs hl;obtain⟨hk,⟨L,o,hf,hn,ho,hd⟩,hr⟩:=hl;have hL:L∈X.fs:=hs L (by unfold frs;rw[List.filterMap_cons,hf];exact ap7);obtain⟨sl,e⟩:=I.base.slot L o ho (I.ok.frf L hL) hL λz=>I.ok.Uv L z hL;exact⟨hk,⟨L,_,hf,hn,e,hd⟩,ih (λb hb=>hs b (by unfold frs;rw[List.filterMap_cons,hf];exact ap8 _ hb)) hr⟩
  exact all X.outer (λ_ hb=>hb) I.ok.Eg
theorem Inv.stack(I:Inv X pins σ H s):s.heap.FunFrames X.base X.stack:=by
  rcases I.ok.stk with e|⟨e,hf⟩
  · rw[e];exact I.Eg
  · rw[e]
    obtain⟨m,hn,_⟩:=I.loc;refine .cons (by rw[I.ok.kind];decide) hf hn ?_ I.Eg;exact Heap.get?_none_of_le (aqk I.ok.bsz I.ok.above)
theorem Inv.DY(I:Inv X pins σ H s):∀ b∈frs X.stack,b∈X.env.locals::X.fs:=λb hb=>by
  rcases I.ok.stk with e|⟨e,hf⟩
  · rw[e]at hb;exact ap8 _ hb
  · rw[e]at hb
    unfold frs at hb;rw[List.filterMap_cons,hf]at hb;exact hb
theorem Inv.Eh(I:Inv X pins σ H s):∀ b∈frs X.stack,H b=none:=λb hb=>by
  rcases aqi.mp (I.DY b hb) with e|hb
  · rw[e];exact I.free
  · obtain⟨_,o,ho,_⟩:=I.ok.Eg.mem hb
    exact I.base.free b o ho (I.ok.frf b hb) λz=>I.ok.Uv b z hb
theorem Inv.step{g':Array GenState}{t':Nat}{d':Drawn}{ch:List Addr}(I:Inv X pins σ H s)
    (hch:∀ b∈ch,(b∈X.ex\/X.s₀.heap.objs.size<=b)/\b≠X.env.locals/\(∀ x c,X.env.cells.lookup x=some c->c≠b)/\∀ p∈X.pn++pins,p.1≠b)
    (keep:∀ b o,b≠X.env.locals->b∉X.fs->b∉ch->s.heap.get? b=some o->H b=none->h'.get? b=some o)
    (slot:∀ b o,b≠X.env.locals->b∈X.fs->b∉ch->s.heap.get? b=some o->H b=none->∃ sl,h'.get? b=some {o with slots:=sl}) (free:∀ b o,b∉ch->s.heap.get? b=some o->H b=none->H' b=none)
    (there:∀ b o,b∉ch->s.heap.get? b=some o->∃ o',h'.get? b=some o')
    (GA:∀ b xs,H b=some (.tup xs)->H' b=some (.tup xs)) (Ip:∀ b o u,H b=some (.frz o u)->H' b=some (.frz o u)) (JS:∀ b ps,H b=some (.tbl ps)->∃ more,H' b=some (.tbl (ps++more)))
    (ns:∀ m,s.heap.Ns X.env.locals m->h'.Ns X.env.locals m) (hok:HOk X.prog X.w H' h') (hg:AllBare g') :
    Inv X pins σ H' {s with heap:=h',gens:=g',drawn:=d',toks:=t'}:=by
  have neL:∀ b o,X.s₀.heap.get? b=some o->b≠X.env.locals:=λb o e=>aqb (ap9 (ap2 e) I.ok.above);have neC:∀ b o,X.s₀.heap.get? b=some o->b∉X.ex->b∉ch:=λb o e hx hb=>by
    rcases(hch b hb).1 with z|z
    · exact hx z
    · exact absurd (ap9 (ap2 e) z) (aq4 _)
  have cellK:∀ x c,X.env.cells.lookup x=some c->∀ v,s.heap.IsCell c v->h'.IsCell c v:=λx c e v ⟨o,ho,hd⟩=>by
    have nch:c∉ch:=λz=>(hch c z).2.2.1 x c e rfl;by_cases hc:c∈X.fs
    · obtain⟨sl,q⟩:=slot c o (I.cne x c e) hc nch ho (I.pL x c e)
      exact⟨_,q,hd⟩
    · exact⟨o,keep c o (I.cne x c e) hc nch ho (I.pL x c e),hd⟩
  refine⟨I.ok,I.os,hg,⟨λb o e n hb hx=>?_,λb o e n hb hx=>?_,λb o e n hx=>?_,λb o e hx=>?_,λb xs e=>GA b xs (I.base.GA b xs e),λb o xs e=>Ip b o xs (I.base.Ip b o xs e),λb ps e=>?_⟩,?_,λx c e=>?_,?_,λx c e=>?_,λp hp=>?_,hok,I.len⟩
  · exact keep b o (neL b o e) hb (neC b o e hx) (I.base.keep b o e n hb hx) (I.base.free b o e n hx)
  · obtain⟨sl,e1⟩:=I.base.slot b o e n hb hx
    obtain⟨sl',e2⟩:=slot b _ (neL b o e) hb (neC b o e hx) e1 (I.base.free b o e n hx);exact⟨sl',e2⟩
  · obtain⟨o',e1⟩:=I.base.there b o e hx
    exact free b o' (neC b o e hx) e1 (I.base.free b o e n hx)
  · obtain⟨o',e1⟩:=I.base.there b o e hx
    exact there b o' (neC b o e hx) e1
  · obtain⟨m1,e1⟩:=I.base.JS b ps e
    obtain⟨m2,e2⟩:=JS b _ e1;exact⟨m1++m2,by rw[e2,Array.append_assoc]⟩
  · obtain⟨m,hn,hl⟩:=I.loc
    refine⟨m,ns m hn,λi x v e1 e2 e3=>?_⟩;obtain⟨u,r,l⟩:=hl i x v e1 e2 e3;refine⟨u,r,?_⟩;rcases l with l|⟨k,c,e,z⟩
    · exact .inl l
    · exact .inr ⟨k,c,e,cellK x c e _ z⟩
  · obtain⟨v,z⟩:=I.cell x c e
    exact⟨v,cellK x c e v z⟩
  · obtain⟨m,⟨o,_,_,ho,_⟩,_⟩:=I.loc
    exact free _ o (λz=>(hch _ z).2.1 rfl) ho I.free
  · obtain⟨v,o,ho,hd⟩:=I.cell x c e
    exact free c o (λz=>(hch c z).2.2.1 x c e rfl) ho (I.pL x c e)
  · obtain⟨e,n,ne,nf,d⟩:=I.pin p hp
    have nch:p.1∉ch:=λz=>(hch p.1 z).2.2.2 p hp rfl;exact⟨keep p.1 p.2 ne nf nch e n,free p.1 p.2 nch e n,ne,nf,d⟩
theorem Inv.un{t':Nat}(I:Inv X pins σ H s)(u:Un X.fs [] H H' s.heap h')(hok:HOk X.prog X.w H' h'):Inv X pins σ H' {s with heap:=h',toks:=t'}:=by
  obtain⟨m,⟨o,es,ep,ho,r⟩,_⟩:=id I.loc;obtain⟨sl,hL⟩:=u.any ho I.free 2e5;exact I.step (g':=s.gens) (d':=s.drawn) (ch:=[]) 2e8 (λb o _ hb _ e n=>u.keep b o e n hb 2e5) (λb o _ hb _ e n=>u.slot b o e n hb 2e5) (λb o _ e n=>u.free b o e n 2e5) (λb o _ e=>u.there b o e 2e5) u.GA u.Ip u.JS (λm' hm=>by
    obtain⟨o',es',ep',ho',r'⟩:=hm;rw[ho]at ho';cases ho';exact⟨_,es',ep',hL,r'⟩) hok I.bare
theorem Inv.call{g':Array GenState}{t':Nat}{d':Drawn}{ch:List Addr}(I:Inv X pins σ H s)(u:Un (frs X.stack) ch H H' s.heap h')(hok:HOk X.prog X.w H' h')(hg:AllBare g')
    (hch:∀ b∈ch,(b∈X.ex\/X.s₀.heap.objs.size<=b)/\b≠X.env.locals/\(∀ x c,X.env.cells.lookup x=some c->c≠b)/\∀ p∈X.pn++pins,p.1≠b) :
    Inv X pins σ H' {s with heap:=h',gens:=g',drawn:=d',toks:=t'}:=by
  obtain⟨m,⟨o,es,ep,ho,r⟩,_⟩:=id I.loc;obtain⟨sl,hL⟩:=u.any ho I.free λz=>(hch _ z).2.1 rfl;exact I.step (ch:=ch) hch (λb o hL hb hc e n=>u.keep b o e n (λz=>(aqi.mp (I.DY b z)).elim hL hb) hc) (λb o _ _ hc e n=>u.any e n hc) (λb o hc e n=>u.free b o e n hc) (λb o hc e=>u.there b o e hc) u.GA u.Ip u.JS (λm' hm=>by
    obtain⟨o',es',ep',ho',r'⟩:=hm;rw[ho]at ho';cases ho';exact⟨_,es',ep',hL,r'⟩) hok hg
theorem Inv.turned{t':Nat}{it:Addr}(I:Inv X pins σ H s)(k:∀ b o,b≠it->s.heap.get? b=some o->h'.get? b=some o)(hn:H it=none)(hL:it≠X.env.locals)
    (h1:it∈X.ex\/X.s₀.heap.objs.size<=it) (h2:∀ x c,X.env.cells.lookup x=some c->c≠it) (h3:∀ p∈X.pn++pins,p.1≠it):Inv X pins σ H {s with heap:=h',toks:=t'}:=by
  have nit:∀ b u,H b=some u->b≠it:=λb u e z=>by rw[z,hn]at e;cases e
  refine I.step (g':=s.gens) (d':=s.drawn) (ch:=[it]) (λb hb=>?_) (λb o _ _ hc e _=>k b o (λz=>hc (by simp[z])) e) (λb o _ _ hc e _=>⟨o.slots,k b o (λz=>hc (by simp[z])) e⟩) (λ_ _ _ _ n=>n)
    (λb o hc e=>⟨o,k b o (λz=>hc (by simp[z])) e⟩) (λ_ _ e=>e) (λ_ _ _ e=>e) (λb ps e=>⟨#[],by rw[e];simp⟩) (λm hm=>?_) (λb u e=>?_) I.bare
  · have e:b=it:=by simpa using hb
    subst e;exact⟨h1,hL,h2,h3⟩
  · obtain⟨o,es,ep,ho,r⟩:=hm
    exact⟨o,es,ep,k _ o (aqe hL) ho,r⟩
  · refine(I.hok b u e).OT (λc v hc q=>k c v ?_ q) 6e7 λ_ _ q=>q
    rcases hc with z|z
    · rw[z];exact nit b u e
    · exact nit c _ z
theorem Inv.tok(I:Inv X pins σ H s)(t:Nat):Inv X pins σ H {s with toks:=t}:=I.un (h':=s.heap) (t':=t) Un.refl I.hok
theorem Inv.kept{t':Nat}(I:Inv X pins σ H s)(k:∀ b u,s.heap.get? b=some u->h'.get? b=some u):Inv X pins σ H {s with heap:=h',toks:=t'}:=I.un (Un.kept k) (I.hok.kept k)
theorem Inv.laid{a:Addr}{o:HO}{t':Nat}(I:Inv X pins σ H s)(k:∀ b u,s.heap.get? b=some u->h'.get? b=some u)(hp:s.heap.objs.size<=a)(new:jk X.prog X.w (upd H a o) h' a o) :
    Inv X pins σ (upd H a o) {s with heap:=h',toks:=t'}:=I.un (Un.laid k hp (I.hok.fresh hp)) (I.hok.laid k hp new)
theorem Inv.write{x e:Addr}{o:HO}{t':Nat}(I:Inv X pins σ H s)(mu:Mut (H x))(he:e=x\/H e=some (.own x))(k:∀ b u,b≠e->s.heap.get? b=some u->h'.get? b=some u)(heo:∃ u,h'.get? e=some u)
    (new:jk X.prog X.w (upd H x o) h' x o):Inv X pins σ (upd H x o) {s with heap:=h',toks:=t'}:=I.un (Un.write mu he k heo) (I.hok.write mu he k heo new)
theorem Inv.Uw{O5:List (Addr×Obj)}(I:Inv X pins σ H s)(h:∀ p∈O5,s.heap.get? p.1=some p.2/\H p.1=none/\p.1≠X.env.locals/\p.1∉X.fs/\∀ v,p.2.data≠.cell v):Inv X O5 σ H s :=
  ⟨I.ok,I.os,I.bare,I.base,I.loc,I.cell,I.free,I.pL,λp hp=>(aqc.mp hp).elim (λz=>I.pin p (aqm _ z)) (h p),I.hok,I.len⟩
theorem KA{N:List Str}(hN:N.Nodup){i j:Nat}{x:Str}(a:N[i]?=some x)(b:N[j]?=some x):i=j:=by
  obtain⟨h1,e1⟩:=apS.mp a;obtain⟨h2,e2⟩:=apS.mp b;exact(List.getElem_inj hN).mp (e1.trans e2.symm)
theorem Vp{M:Model}{A:Around}{E:Value->Shared->Prop}{i:Nat}{x:Str}{v:V}{u:Value}{Q:Unit->Shared->Prop}(I:Inv X pins σ H s)(hN:X.N.Nodup)(hi:X.N[i]?=some x)(hx:Loc X.env.scope x)(r:RelV v u)
    (h:∀ s',Inv X pins (σ.set i (some v)) H s'->(∃ a,Heap.SameBut a s.heap s'.heap/\(a=X.env.locals\/X.env.cells.lookup x=some a))->Q () s') (hf:X.fn x=true\/X.env.scope.names.lookup x=some .local:=by first|exact .inl rfl|exact .inr rfl|assumption):wpAny M A (storeName X.env x u) Q E s:=by
  obtain⟨m,hn,hl⟩:=id I.loc;have aca:(X.env.scope.kind == .class||(X.env.scope.kind == .module&&X.env.locals != X.env.globals))=false:=by rw[I.ok.kind];rfl
  have hiσ:i<σ.length:=by rw[I.len];exact(apS.mp hi).1
  have cne:=I.cne;have tracked:∀ {a:Addr} {h':Heap},(∃ o,s.heap.get? a=some o/\H a=none)->Heap.SameBut a s.heap h'->HOk X.prog X.w H h':=λ{a h'} ha hs b ob e=>by
    obtain⟨_,_,aax⟩:=ha;refine(I.hok b ob e).OT (λc w' hc q=>(hs.2 c ?_).trans q) 6e7 λ_ _ q=>q;rintro rfl;rcases hc with rfl|hc
    · rw[aax]at e;cases e
    · rw[aax]at hc;cases hc
  rcases hx with hk|hk
  · refine wpAny_storeName_local hk hn (λh' hn' hs=>?_) aca
    obtain⟨oL,_,_,hoL,_⟩:=id hn;refine h _ ⟨I.ok,I.os,I.bare,⟨λb o e n hb hx=>?_,λb o e n hb hx=>?_,I.base.free,λb o e hx=>?_,I.base.GA,I.base.Ip,I.base.JS⟩,⟨_,hn',λj y v' e1 e2 e3=>?_⟩,λy c e=>?_,I.free,I.pL,λp hp=>?_,tracked ⟨oL,hoL,I.free⟩ hs,by simpa using I.len⟩ ⟨_,hs,.inl rfl⟩
    · exact(hs.2 b (aqb (ap9 (ap2 e) I.ok.above))).trans (I.base.keep b o e n hb hx)
    · obtain⟨sl,e1⟩:=I.base.slot b o e n hb hx
      exact⟨sl,(hs.2 b (aqb (ap9 (ap2 e) I.ok.above))).trans e1⟩
    · obtain⟨o',e1⟩:=I.base.there b o e hx
      exact⟨o',(hs.2 b (aqb (ap9 (ap2 e) I.ok.above))).trans e1⟩
    · by_cases hj:j=i
      · subst hj
        rw[hi]at e1;cases e1;rw[aq7 hiσ]at e2;cases e2;exact⟨u,r,.inl ⟨hk,by simp⟩⟩
      · rw[aqN (aqe hj)]at e2
        obtain⟨u',r',q⟩:=hl j y v' e1 e2 e3;refine⟨u',r',?_⟩;rcases q with⟨k,e⟩|⟨k,c,e,z⟩
        · refine .inl ⟨k,?_⟩
          have:y≠x:=λe=>hj (KA hN e1 (e ▸ hi))
          simp[this,e]
        · exact .inr ⟨k,c,e,z.sameBut hs (cne y c e)⟩
    · obtain⟨w',z⟩:=I.cell y c e
      exact⟨w',z.sameBut hs (cne y c e)⟩
    · obtain⟨e,n,ne,nf,d⟩:=I.pin p hp
      exact⟨(hs.2 p.1 ne).trans e,n,ne,nf,d⟩
  · have hfn:X.fn x=true:=by
      rcases hf with z|z
      · exact z
      · rw[z]at hk;cases hk
    obtain⟨c,hc⟩:=I.ok.has x (.inl hk);obtain⟨w',z⟩:=I.cell x c hc;refine wpAny_storeName_cell I.ok.kind hk hc z (λh' hc' hs=>?_);obtain⟨oc,hoc,alw⟩:=id z;refine h {s with heap:=h'} ⟨I.ok,I.os,I.bare,⟨λb o e n hb hx=>?_,λb o e n hb hx=>?_,I.base.free,λb o e hx=>?_,I.base.GA,I.base.Ip,I.base.JS⟩,⟨m,hn.sameBut hs (aqe (cne x c hc)),λj y v' e1 e2 e3=>?_⟩,λy c' e=>?_,I.free,I.pL,λp hp=>?_,tracked ⟨oc,hoc,I.pL x c hc⟩ hs,by simpa using I.len⟩ ⟨c,hs,.inr hc⟩
    · exact(hs.2 b (aqb (ap9 (ap2 e) (I.ok.cab x c hfn hc)))).trans (I.base.keep b o e n hb hx)
    · obtain⟨sl,e1⟩:=I.base.slot b o e n hb hx
      exact⟨sl,(hs.2 b (aqb (ap9 (ap2 e) (I.ok.cab x c hfn hc)))).trans e1⟩
    · obtain⟨o',e1⟩:=I.base.there b o e hx
      exact⟨o',(hs.2 b (aqb (ap9 (ap2 e) (I.ok.cab x c hfn hc)))).trans e1⟩
    · by_cases hj:j=i
      · subst hj
        rw[hi]at e1;cases e1;rw[aq7 hiσ]at e2;cases e2;exact⟨u,r,.inr ⟨.inl hk,c,hc,hc'⟩⟩
      · rw[aqN (aqe hj)]at e2
        obtain⟨u',r',q⟩:=hl j y v' e1 e2 e3;refine⟨u',r',?_⟩;rcases q with q|⟨k,c',e,z'⟩
        · exact .inl q
        · refine .inr ⟨k,c',e,z'.sameBut hs ?_⟩
          rintro rfl;exact hj (KA hN e1 (I.ok.inj _ _ _ e hc ▸ hi))
    · by_cases hcc:c'=c
      · subst hcc;exact⟨_,hc'⟩
      · obtain⟨w2,z2⟩:=I.cell y c' e
        exact⟨w2,z2.sameBut hs hcc⟩
    · obtain⟨e,n,ne,nf,d⟩:=I.pin p hp
      refine⟨(hs.2 p.1 ?_).trans e,n,ne,nf,d⟩;intro q;rw[q,hoc]at e;have q':oc=p.2:=aqh e;exact d w' (by rw[<-q'];exact alw)
theorem D3{M:Model}{A:Around}{E:Value->Shared->Prop}{i:Nat}{x:Str}{v:V}{u:Value}{Q:Unit->Shared->Prop}(I:Inv X pins σ H s)(hN:X.N.Nodup)(hi:X.N[i]?=some x)(hx:Loc X.env.scope x)(r:RelV v u)
    (h:∀ s',Inv X pins (σ.set i (some v)) H s'->Q () s') (hf:X.fn x=true\/X.env.scope.names.lookup x=some .local:=by first|exact .inl rfl|exact .inr rfl|assumption):wpAny M A (storeName X.env x u) Q E s :=
  Vp I hN hi hx r (λs' I' _=>h s' I') hf
theorem Inv.Mi{s':Shared}{ch:List Addr}(I:Inv X pins σ H s)(ho:s'.os=s.os)(u:Un (frs X.stack) ch H H' s.heap s'.heap)(hok:HOk X.prog X.w H' s'.heap)(hg:AllBare s'.gens)
    (hch:∀ b∈ch,(b∈X.ex\/X.s₀.heap.objs.size<=b)/\b≠X.env.locals/\(∀ x c,X.env.cells.lookup x=some c->c≠b)/\∀ p∈X.pn++pins,p.1≠b):Inv X pins σ H' s':=by
  obtain⟨h',g',d',t',o'⟩:=s';have e:o'=s.os:=ho;subst e;exact I.call (g':=g') (t':=t') (d':=d') u hok hg hch
end
noncomputable abbrev XK:=Value->Option Addr->Hp->Prop
noncomputable abbrev St:=List (Option V)
noncomputable abbrev VK:=V->Hp->Prop
noncomputable abbrev TE:=St->Hp->VK->Prop
noncomputable abbrev TT:=St->Hp->(Bool->Hp->Prop)->Prop
noncomputable abbrev TA:=St->Hp->(List V->Hp->Prop)->Prop
structure Ends where
  nx:St->Hp->Prop
  rt:VK
  bk:St->Hp->Prop:=λ_ _=>False
  ct:St->Hp->Prop:=λ_ _=>False
noncomputable abbrev TS:=Ends->St->Hp->Prop
noncomputable def EP(X:Cx)(pins:List (Addr×Obj))(σ:St)(Q:VK)(u:Value)(s':Shared):Prop:=∃ v H',Inv X pins σ H' s'/\RelV v u/\Q v H'
noncomputable def TP(X:Cx)(pins:List (Addr×Obj))(σ:St)(Q:Bool->Hp->Prop)(b:Bool)(s':Shared):Prop:=∃ H',Inv X pins σ H' s'/\Q b H'
noncomputable def AP(X:Cx)(pins:List (Addr×Obj))(σ:St)(Q:List V->Hp->Prop)(us:List Value)(s':Shared):Prop:=∃ vs H',Inv X pins σ H' s'/\Vals vs us/\Q vs H'
noncomputable def SP(X:Cx)(pins:List (Addr×Obj))(D:Ends)(f:Flow)(s':Shared):Prop :=
  match f with
  | .next=>∃ σ' H',Inv X pins σ' H' s'/\D.nx σ' H'
  | .brk=>∃ σ' H',Inv X pins σ' H' s'/\D.bk σ' H'
  | .cont=>∃ σ' H',Inv X pins σ' H' s'/\D.ct σ' H'
  | .ret u=>∃ v σ' H',Inv X pins σ' H' s'/\RelV v u/\D.rt v H'
noncomputable def PE(X:Cx)(e:Expr)(t:TE):Prop :=
  ∀(pins:List 4e3) (s:Shared) (σ:St) (H:Hp) (Q:VK),Inv X pins σ H s->t σ H Q->wpAny 1e7 X.A (eval e X.env) 4e8 X.xe s
noncomputable def PT(X:Cx)(e:Expr)(t:TT):Prop :=
  ∀(pins:List 4e3) (s:Shared) (σ:St) (H:Hp) (Q:Bool->Hp->Prop),Inv X pins σ H s->t σ H Q->wpAny 1e7 X.A (isTrue e X.env (eval e X.env)) (TP X pins σ Q) X.xe s
noncomputable def PW(X:Cx)(e:Expr)(t:TT):Prop :=
  ∀(whole:Sem Value) (pins:List 4e3) (s:Shared) (σ:St) (H:Hp) (Q:Bool->Hp->Prop),Inv X pins σ H s->t σ H Q->wpAny 1e7 X.A (isTrue e X.env whole) (TP X pins σ Q) X.xe s
theorem PW.pt{X:Cx}{e:Expr}{t:TT}(h:PW X e t):PT X e t:=h _
noncomputable def PA(X:Cx)(es:List Expr)(t:TA):Prop :=
  ∀(pos:Pos) (pins:List 4e3) (s:Shared) (σ:St) (H:Hp) (Q:List V->Hp->Prop),Inv X pins σ H s->t σ H Q->wpAny 1e7 X.A (spliced (backTo pos (starEach es X.env))) (AP X pins σ Q) X.xe s
noncomputable def PS(X:Cx)(st:Stmt)(t:TS):Prop :=
  ∀(pins:List 4e3) (s:Shared) (σ:St) (H:Hp) (D:Ends),Inv X pins σ H s->t D σ H->wpAny 1e7 X.A (exec st X.env) (SP X pins D) X.xe s
noncomputable def PSs(X:Cx)(st:List Stmt)(t:TS):Prop :=
  ∀(pins:List 4e3) (s:Shared) (σ:St) (H:Hp) (D:Ends),Inv X pins σ H s->t D σ H->wpAny 1e7 X.A (execs st X.env) (SP X pins D) X.xe s
theorem thn{α:Type}{t:Sem α}{Q Q':α->Shared->Prop}{M:Model}{A:Around}{E:Value->Shared->Prop}{s:Shared}(h:wpAny M A t Q E s)(hQ:∀ a s,Q a s->Q' a s):wpAny M A t Q' E s:=wpAny_mono h hQ λ_ _ x=>x
end L2
namespace L2
open PySem PySem.Spec PyProof.Rows
section
variable{X:Cx}
noncomputable def acb(i:Nat):TE:=λσ H Q=>∃ v,σ[i]?=some (some v)/\Q v H
noncomputable def tC(v:V):TE:=λ_ H Q=>Q v H
theorem abj{i:Nat}{x:Str}{pos:Pos}(hN:X.N[i]?=some x)(hv:Vis X.env.scope x)(hd:(x == ("__debug__" : Str))=false:=by decide)(hcd:(x == ("__classdict__" : Str))=false:=by decide):PE X (.Name x pos) (acb i):=by
  intro pins s σ H Q I h;obtain⟨v,e,h⟩:=h;obtain⟨m,hn,hl⟩:=I.loc;obtain⟨u,r,l⟩:=hl i x v hN e hv;have fin:EP X pins σ Q u s:=⟨v,H,I,r,h⟩;rcases l with⟨hk,hm⟩|⟨hk,c,hc,V9⟩
  · exact wpAny_Name (wpAny_loadName_local I.ok.kind hk hn hm fin) hd
  · rcases hk with hk|hk
    · exact wpAny_Name (wpAny_loadName_cell I.ok.kind hk hc V9 fin) hd
    · exact wpAny_Name (wpAny_loadName_free I.ok.kind hk hc V9 fin hcd) hd
theorem av{i j pos}:PE X (.Constant (.int i) j pos) (tC (.int i)):=λ_ _ _ H _ I h=>wpAny_Constant_int ⟨.int i,H,I.tok _,⟨_,rfl⟩,h⟩
theorem D4{b j pos}:PE X (.Constant (.bool b) j pos) (tC (.bl b)):=λ_ _ _ H _ I h=>Constant_bool ⟨.bl b,H,I,rfl,h⟩
theorem d7{j pos}:PE X (.Constant .none j pos) (tC .non):=λ_ _ _ H _ I h=>Constant_none ⟨.non,H,I,rfl,h⟩
theorem aP{x j pos}:PE X (.Constant (.str x) j pos) (tC (.str x)):=λ_ _ _ H _ I h=>Calls.Constant_str ⟨.str x,H,I.tok _,⟨_,rfl⟩,h⟩
noncomputable def Gl(X:Cx)(x:Str):Prop:=X.env.kindOf x=some .globalImplicit
theorem tV{E:Value->Shared->Prop}{pins:List (Addr×Obj)}{s:Shared}{σ:St}{H:Hp}{x:Str}{u:Value}{pos:Pos}{Q:Value->Shared->Prop}(I:Inv X pins σ H s)(hg:Gl X x)(hm:X.mg x=some u)(h:Q u s)
    (hd:(x == ("__debug__" : Str))=false:=by decide):wpAny 1e7 X.A (eval (.Name x pos) X.env) Q E s :=
  arH I.ok.kind hg (Calls.loadGlobal_global (by rw[I.ok.glob];exact I.mod.glob.keeps I.bk) hm h) hd
theorem K3{E:Value->Shared->Prop}{pins:List (Addr×Obj)}{s:Shared}{σ:St}{H:Hp}{x:Str}{u:Value}{pos:Pos}{Q:Value->Shared->Prop}(I:Inv X pins σ H s)(hg:Gl X x)(hm:X.mg x=none)(hv:bootBuiltins x=some u)(h:Q u s)
    (hn:x ≠ "__name__" := by decide) (hd:(x == ("__debug__" : Str))=false:=by decide):wpAny 1e7 X.A (eval (.Name x pos) X.env) Q E s:=by
  obtain⟨mb,h1,h2⟩:=I.mod.blt;exact arH I.ok.kind hg (Calls.loadGlobal_builtin (by rw[I.ok.glob];exact I.mod.glob.keeps I.bk) hm (by rw[I.ok.blt];exact h1.keeps I.bk) ((h2 x hn).trans hv) h) hd
theorem nK{x:Str}{v:V}{u:Value}{pos:Pos}(hg:Gl X x)(hm:X.mg x=some u)(r:RelV v u)(hd:(x == ("__debug__" : Str))=false:=by decide):PE X (.Name x pos) (tC v) :=
  λ_ _ _ H _ I h=>tV I hg hm ⟨v,H,I,r,h⟩ hd
variable{a b:Expr}{ta tb:TE}{pos:Pos}
noncomputable def PC(X:Cx)(op:CmpOp)(a b:Expr)(t:TE):Prop :=
  ∀(pins:List 4e3) (s:Shared) (σ:St) (H:Hp) (Q:VK),Inv X pins σ H s->t σ H Q ->
    wpAny 1e7 X.A (eval a X.env) (λv s₁=>wpAny 1e7 X.A (eval b X.env) (λu s₂=>wpAny 1e7 X.A (compareOp op v u) 4e8 X.xe s₂) X.xe s₁) X.xe s
noncomputable def tB(t:TE):TT:=λσ H Q=>t σ H λx H1=>∃ c,x=.bl c/\Q c H1
theorem rf{op:CmpOp}{t:TE}(h:PC X op a b t)(h1:behindInMarks op b=false:=by first|exact nobehind _ (by decide) (by decide)|rfl):PT X (.Compare a [op] [b] pos) (tB t):=by
  intro pins s σ H Q I hw;refine wpAny_isTrue_Compare1 (thn (h pins s σ H _ I hw) λv s1 h1=>thn h1 λu s2 h2=>thn h2 λc s3 ⟨x,H1,I1,r1,q1⟩=>?_) h1;obtain⟨d,rfl,q⟩:=q1;cases r1;exact wpAny_truthy_bool ⟨H1,I1,q⟩
theorem zA{e:Expr}{t:TE}(h:PE X e t)(he:∀ whole,isTrue e X.env whole=(do let v <-whole;standAt e.pos;holding [v] (truthy v)):=by intro _;rfl):PT X e (tB t):=by
  intro pins s σ H Q I hw;refine isTrue_plain (thn (h pins s σ H _ I hw) λv s1 ⟨x,H1,I1,r1,q1⟩=>?_) (he _);obtain⟨d,rfl,q⟩:=q1;cases r1;exact wpAny_truthy_bool ⟨H1,I1,q⟩
variable{tA tB':TT}{rest:List Expr}
noncomputable def alx(t u:TT):TT:=λσ H Q=>t σ H λc H1=>if c=true then u σ H1 Q else Q false H1
noncomputable def tOr(t u:TT):TT:=λσ H Q=>t σ H λc H1=>if c=true then Q true H1 else u σ H1 Q
noncomputable def aly(t:TT):TT:=λσ H Q=>t σ H λc H1=>Q (!c) H1
theorem pw_and1(ha:PT X a tA):PW X (.BoolOp .And [a] pos) tA:=by
  intro wh pins s σ H Q I h;refine isTrue_and (thn (ha pins s σ H Q I h) λc s1 e=>?_);cases c with
  | true=>exact isTrue_and_nil e
  | false=>exact e
theorem pw_or1(ha:PT X a tA):PW X (.BoolOp .Or [a] pos) tA:=by
  intro wh pins s σ H Q I h;refine isTrue_or (thn (ha pins s σ H Q I h) λc s1 e=>?_);cases c with
  | false=>exact isTrue_or_nil e
  | true=>exact e
theorem pw_and(ha:PT X a tA)(hb:PW X (.BoolOp .And (b::rest) pos) tB'):PW X (.BoolOp .And (a::b::rest) pos) (alx tA tB'):=by
  intro wh pins s σ H Q I h;refine isTrue_and (thn (ha pins s σ H _ I h) λc s1 ⟨H1,I1,q1⟩=>?_);cases c with
  | true=>exact hb wh pins s1 σ H1 Q I1 q1
  | false=>exact⟨H1,I1,q1⟩
theorem pw_or(ha:PT X a tA)(hb:PW X (.BoolOp .Or (b::rest) pos) tB'):PW X (.BoolOp .Or (a::b::rest) pos) (tOr tA tB'):=by
  intro wh pins s σ H Q I h;refine isTrue_or (thn (ha pins s σ H _ I h) λc s1 ⟨H1,I1,q1⟩=>?_);cases c with
  | true=>exact⟨H1,I1,q1⟩
  | false=>exact hb wh pins s1 σ H1 Q I1 q1
theorem sR(ha:PT X a tA):PT X (.UnaryOp .Not a pos) (aly tA):=by
  intro pins s σ H Q I h;exact isTrue_not (ha pins s σ H (λc H1=>Q (!c) H1) I h)
noncomputable def ad0(ta tb:TE):TE:=λσ H Q=>ta σ H λx H1=>∃ c,x=.bl c/\if c=true then tb σ H1 Q else Q (.bl false) H1
theorem abk{op}{t:TE}(h:PE X a t):PE X (.BoolOp op [a] pos) t:=λpins s σ H Q I hw=>BoolOp_one (h pins s σ H Q I hw)
theorem abl(ha:PE X a ta)(hb:PE X (.BoolOp .And (b::rest) pos) tb):PE X (.BoolOp .And (a::b::rest) pos) (ad0 ta tb):=by
  intro pins s σ H Q I h;refine BoolOp_and (thn (ha pins s σ H _ I h) λv s1 ⟨x,H1,I1,r1,q1⟩=>?_);obtain⟨c,rfl,q1⟩:=q1;cases r1;refine wpAny_truthy_bool ?_;cases c with
  | true=>exact hb pins s1 σ H1 Q I1 q1
  | false=>exact⟨.bl false,H1,I1,rfl,q1⟩
noncomputable def tIf(t:TT)(ta tb:TE):TE:=λσ H Q=>t σ H λc H1=>if c=true then ta σ H1 Q else tb σ H1 Q
theorem rN{c:Expr}(hc:PT X c tA)(ha:PE X a ta)(hb:PE X b tb):PE X (.IfExp c a b pos) (tIf tA ta tb):=by
  intro pins s σ H Q I h;refine wpAny_IfExp (thn (hc pins s σ H _ I h) λd s1 ⟨H1,I1,q1⟩=>?_);cases d with
  | true=>exact ha pins s1 σ H1 Q I1 q1
  | false=>exact hb pins s1 σ H1 Q I1 q1
end
end L2
namespace L2
open PySem PySem.Spec PyProof.Rows
noncomputable def SqL(K:W.Frag)(H:Hp)(a:Addr)(xs:List V):Prop :=
  Rd H a 5e6 \/
    ∃(o:Obj) (its:Array Value) (n:Nat),K.lookup a=some o/\o.cls=.type "list" /\ o.dict=none/\o.data=.seq its n/\its.size<=sizeLine/\Vals xs its.toList
noncomputable def SqT(K:W.Frag)(H:Hp)(a:Addr)(xs:List V):Prop :=
  Rd H a (.tup xs) \/
    ∃(o:Obj) (its:Array Value) (n:Nat),K.lookup a=some o/\o.cls=.type "tuple" /\ o.data=.seq its n/\its.size<=sizeLine/\Vals xs its.toList
noncomputable def alz:Value->Option V
  | .none=>some .non
  | .bool b=>some (.bl b)
  | .int i _=>some (.int i)
  | .str x _=>some (.str x)
  | .bytes b _=>some (.byt b)
  | .float b _=>some (.flt b)
  | .ref a=>some 8e5
  | .type n=>some (.ty n)
  | _=>none
theorem RelV.abs{x:V}{u:Value}(r:RelV x u):alz u=some x:=by
  cases x with
  | non=>cases r;rfl
  | bl _=>cases r;rfl
  | int _=>obtain⟨t,rfl⟩:=r;rfl
  | str _=>obtain⟨t,rfl⟩:=r;rfl
  | byt _=>obtain⟨t,rfl⟩:=r;rfl
  | flt _=>obtain⟨t,rfl⟩:=r;rfl
  | ref _=>cases r;rfl
  | ty _=>cases r;rfl
theorem RelV.inj{x y:V}{u:Value}(r:RelV x u)(q:RelV y u):x=y:=aqh (r.abs.symm.trans q.abs)
theorem Vals.inj:∀ {xs ys:List V} {us:List Value},Vals xs us->Vals ys us->xs=ys
  | _,_,_,.nil,.nil=>rfl
  | _,_,_,.cons r t,.cons r' t'=>by rw[r.inj r',Vals.inj t t']
section
variable{X:Cx}{pins:List (Addr×Obj)}{σ:St}{H:Hp}{s:Shared}{a:Addr}{xs ys:List V}
theorem SqL.of{K:W.Frag}(h:H a=some (.lst xs)):SqL K H a xs:=.inl (.inl h)
theorem SqT.of{K:W.Frag}(h:H a=some (.tup xs)):SqT K H a xs:=.inl (.inl h)
theorem Inv.list(I:Inv X pins σ H s)(h:SqL X.K H a xs):∃ its:List Value,Vals xs its/\PlainL s.heap a its.toArray/\xs.length<=sizeLine:=by
  rcases h with h|⟨o,its,n,hk,hc,hd,hs,hz,r⟩
  · obtain⟨z,its,n,r,e⟩:=h.ok I.hok
    exact⟨its,r,⟨_,n,e,rfl,rfl,rfl⟩,z⟩
  · refine⟨its.toList,r,⟨o,n,I.kIn a o hk,hc,hd,by simpa using hs⟩,?_⟩
    have e:=r.length;simp only[arC]at e;omega
theorem Inv.tuple(I:Inv X pins σ H s)(h:SqT X.K H a xs):∃ its:List Value,Vals xs its/\IsTup s.heap a its.toArray/\xs.length<=sizeLine:=by
  rcases h with h|⟨o,its,n,hk,hc,hs,hz,r⟩
  · obtain⟨z,its,r,p⟩:=h.ok I.hok
    exact⟨its,r,p,z⟩
  · refine⟨its.toList,r,⟨o,I.kIn a o hk,hc,n,by simpa using hs⟩,?_⟩
    have e:=r.length;simp only[arC]at e;omega
theorem Inv.Ra(I:Inv X pins σ H s)(h:SqL X.K H a xs)(h':SqL X.K H a ys):xs=ys:=by
  obtain⟨its,r,⟨o,n,e,_,_,d⟩,_⟩:=I.list h;obtain⟨Mp,r',⟨o',n',e',_,_,d'⟩,_⟩:=I.list h';rw[e]at e';cases e';rw[d]at d';injection d' with d1 _
  have:its=Mp:=by simpa using congrArg Array.toList d1
  subst this;exact r.inj r'
end
noncomputable abbrev Cx.K4(X:Cx)(E:Value->Shared->Prop):Cx:={X with xe:=E}
noncomputable abbrev Cx.nox(X:Cx):Cx:=X.K4 λ_ _=>False
theorem Cx.Ok.K4{X:Cx}(ok:X.Ok)(E:Value->Shared->Prop):(X.K4 E).Ok :=
  ⟨ok.mod,ok.kind,ok.glob,ok.blt,ok.above,ok.inj,ok.has,ok.cab,ok.hd,ok.frames,ok.stk,ok.exf,ok.bs,ok.bsz,ok.Se,ok.Uv,ok.Eg,ok.frf⟩
theorem Cx.Ok.sS{X:Cx}{E:Value->Shared->Prop}(ok:(X.K4 E).Ok):X.Ok :=
  ⟨ok.mod,ok.kind,ok.glob,ok.blt,ok.above,ok.inj,ok.has,ok.cab,ok.hd,ok.frames,ok.stk,ok.exf,ok.bs,ok.bsz,ok.Se,ok.Uv,ok.Eg,ok.frf⟩
section
variable{X:Cx}{pins:List (Addr×Obj)}{σ:St}{H:Hp}{s:Shared}{E:Value->Shared->Prop}
theorem Inv.K4(I:Inv X pins σ H s)(E:Value->Shared->Prop):Inv (X.K4 E) pins σ H s:=⟨I.ok.K4 E,I.os,I.bare,I.base,I.loc,I.cell,I.free,I.pL,I.pin,I.hok,I.len⟩
theorem Inv.sS(I:Inv (X.K4 E) pins σ H s):Inv X pins σ H s:=⟨I.ok.sS,I.os,I.bare,I.base,I.loc,I.cell,I.free,I.pL,I.pin,I.hok,I.len⟩
theorem SP.sS{D:Ends}{f:Flow}{s':Shared}(h:SP (X.K4 E) pins D f s'):SP X pins D f s':=by
  cases f with
  | next=>obtain⟨σ',H',I,q⟩:=h;exact⟨σ',H',I.sS,q⟩
  | brk=>obtain⟨σ',H',I,q⟩:=h;exact⟨σ',H',I.sS,q⟩
  | cont=>obtain⟨σ',H',I,q⟩:=h;exact⟨σ',H',I.sS,q⟩
  | ret u=>obtain⟨v,σ',H',I,r,q⟩:=h;exact⟨v,σ',H',I.sS,r,q⟩
theorem PSs.nox{st:List Stmt}{t:TS}(h:PSs X.nox st t):PSs X st t:=λpins s σ H D I hw =>
  wpAny_mono (h pins s σ H D (I.K4 _) hw) (λ_ _ q=>q.sS) λ_ _ z=>False.elim z
end
section
variable{X:Cx}{st:Stmt}{rest:List Stmt}{t u:TS}{e:Expr}{te:TE}{pos:Pos}
noncomputable def ad1:TS:=λD σ H=>D.nx σ H
noncomputable def rA(t u:TS):TS:=λD σ H=>t {D with nx:=u D} σ H
theorem aR:PSs X [] ad1:=λ_ _ σ H _ I h=>wpAny_execs_nil ⟨σ,H,I,h⟩
theorem aj(h1:PS X st t)(h2:PSs X rest u):PSs X (st::rest) (rA t u):=by
  intro pins s σ H D I h;refine wpAny_execs_cons (thn (h1 pins s σ H {D with nx:=u D} I h) λf s1 q=>?_);cases f with
  | next =>
    obtain⟨σ',H',I',q⟩:=q;exact h2 pins s1 σ' H' D I' q
  | ret v=>exact q
  | brk=>exact q
  | cont=>exact q
theorem ai(h1:PS X st t):PSs X [st] t:=by
  intro pins s σ H D I h;refine wpAny_execs_cons (thn (h1 pins s σ H D I h) λf s1 q=>?_);cases f with
  | next=>exact wpAny_execs_nil q
  | ret v=>exact q
  | brk=>exact q
  | cont=>exact q
theorem Inv.quiet{pins:List (Addr×Obj)}{σ:St}{H:Hp}{s:Shared}(I:Inv X pins σ H s):interactive X.env=false:=by simp[interactive,I.ok.kind]
noncomputable def ad2(te:TE):TS:=λD σ H=>te σ H λ_ H1=>D.nx σ H1
theorem aG(he:PE X e te)(hs:swapsWith e none pos.line X.env=pure false:=by rfl):PS X (.Expr e pos) (ad2 te):=by
  intro pins s σ H D I h;exact wpAny_Expr_any (thn 5e1 λv s1 ⟨x,H1,I1,r1,q1⟩=>⟨σ,H1,I1,q1⟩) I.quiet hs
noncomputable def alA(te:TE):TS:=λD σ H=>te σ H D.rt
theorem aI(he:PE X e te):PS X (.Return (some e) pos) (alA te):=by
  intro pins s σ H D I h;exact wpAny_Return_some (thn 5e1 λv s1 ⟨x,H1,I1,r1,q1⟩=>⟨x,σ,H1,I1,r1,q1⟩)
noncomputable def ae1(c:TT)(t u:TS):TS:=λD σ H=>c σ H λb H1=>if b=true then t D σ H1 else u D σ H1
theorem bQ{c:Expr}{a b:List Stmt}{tc:TT}(hc:PT X c tc)(ha:PSs X a t)(hb:PSs X b u):PS X (.If c a b pos) (ae1 tc t u):=by
  intro pins s σ H D I h;refine wpAny_If (thn (hc pins s σ H _ I h) λd s1 ⟨H1,I1,q1⟩=>?_);cases d with
  | true=>exact ha pins s1 σ H1 D I1 q1
  | false=>exact hb pins s1 σ H1 D I1 q1
end
noncomputable abbrev TG:=V->St->Hp->(St->Hp->Prop)->Prop
noncomputable abbrev TGs:=List V->St->Hp->(St->Hp->Prop)->Prop
noncomputable def PG(X:Cx)(target:Expr)(t:TG):Prop :=
  ∀(pins:List 4e3) (s:Shared) (σ:St) (H:Hp) (v:V) (u:Value) (Q:St->Hp->Prop),Inv X pins σ H s->RelV v u->t v σ H Q ->
    wpAny 1e7 X.A (assign target X.env u) (λ_ s'=>∃ σ' H',Inv X pins σ' H' s'/\Q σ' H') X.xe s
noncomputable def PGs(X:Cx)(ts:List Expr)(t:TGs):Prop :=
  ∀(pins:List 4e3) (s:Shared) (σ:St) (H:Hp) (vs:List V) (us:List Value) (Q:St->Hp->Prop),Inv X pins σ H s->Vals vs us->t vs σ H Q ->
    wpAny 1e7 X.A (assignInOrder ((assignEach ts X.env).map (·.2)) us) (λ_ s'=>∃ σ' H',Inv X pins σ' H' s'/\Q σ' H') X.xe s
noncomputable abbrev acd:=V->V->V->Hp->(Hp->Prop)->Prop
noncomputable def ae2(X:Cx)(t:acd):Prop :=
  ∀(pins:List 4e3) (s:Shared) (σ:St) (H:Hp) (o i v:V) (ov iv u:Value) (Q:Hp->Prop),Inv X pins σ H s->RelV o ov->RelV i iv->RelV v u->t o i v H Q ->
    wpAny 1e7 X.A (setItem ov iv u) (λ_ s'=>∃ H',Inv X pins σ H' s'/\Q H') X.xe s
noncomputable abbrev TIp:=V->V->Hp->VK->Prop
noncomputable def PIp(X:Cx)(op:Operator)(t:TIp):Prop :=
  ∀(pins:List 4e3) (s:Shared) (σ:St) (H:Hp) (x y:V) (v u:Value) (Q:VK),Inv X pins σ H s->RelV x v->RelV y u->t x y H Q ->
    wpAny 1e7 X.A (inplaceOp op v u) 4e8 X.xe s
section
variable{X:Cx}{pos:Pos}
noncomputable def sL(i:Nat):TG:=λv σ H Q=>Q (σ.set i (some v)) H
theorem bA{i:Nat}{x:Str}(hN:X.N.Nodup)(hi:X.N[i]?=some x)(hx:Loc X.env.scope x)(hf:X.fn x=true\/X.env.scope.names.lookup x=some .local:=by first|exact .inl rfl|exact .inr rfl|assumption):PG X (.Name x pos) (sL i):=by
  intro pins s σ H v u Q I r h;exact wpAny_assign_Name (D3 I hN hi hx r (λs' I'=>⟨_,H,I',h⟩) hf)
noncomputable def alB:TGs:=λvs σ H Q=>vs=[]/\Q σ H
noncomputable def ad3(t:TG)(u:TGs):TGs:=λvs σ H Q=>∃ v r,vs=v::r/\t v σ H λσ' H'=>u r σ' H' Q
theorem wx:PGs X [] alB:=by
  intro pins s σ H vs us Q I r h;obtain⟨e,h⟩:=h;subst e;cases r;exact assignInOrder_nil ⟨σ,H,I,h⟩
theorem iQ{e:Expr}{es:List Expr}{t:TG}{u:TGs}(h1:PG X e t)(h2:PGs X es u)
    (hs:(assignEach (e::es) X.env).map (·.2)=assign e X.env::(assignEach es X.env).map (·.2):=by rfl):PGs X (e::es) (ad3 t u):=by
  intro pins s σ H vs us Q I r h;obtain⟨v,vr,e1,h⟩:=h;subst e1;cases r with
  | cons r rr =>
    rw[hs];refine assignInOrder_cons (thn (h1 pins s σ H _ _ _ I r h) λ_ s1 ⟨σ1,H1,I1,q1⟩=>?_);exact h2 pins s1 σ1 H1 _ _ Q I1 rr q1
noncomputable def alC(K:W.Frag)(n:Nat)(t:TGs):TG:=λv σ H Q=>∃ a xs,v=.ref a/\SqT K H a xs/\xs.length=n/\t xs σ H Q
theorem DZ{es:List Expr}{k:Nat}{t:TGs}{n:Nat}(hc:X.calm=true)(h:PGs X es t)
    (hn:(assignEach es X.env).length=n:=by rfl) (hst:(assignEach es X.env).findIdx? (·.1)=none:=by rfl):PG X (.Tuple es k pos) (alC X.K n t):=by
  intro pins s σ H v u Q I r hw;obtain⟨a,xs,e1,hq,hl,hw⟩:=hw;subst e1;cases r;obtain⟨its,rv,ht,hz⟩:=I.tuple hq;refine assign_Tuple_tuple (I.ok.hd hc) ht (by simp[hn,<-hl,rv.length]) hst λh' hx=>?_;have I1:Inv X pins σ H {s with heap:=h'}:=I.kept (t':=s.toks) λb o e=>hx b o (aqb (ap2 e)) e;exact h pins _ σ H xs _ Q I1 (by simpa using rv) hw
noncomputable def alD(to ti:TE)(t:acd):TG:=λv σ H Q=>to σ H λo H1=>ti σ H1 λi H2=>t o i v H2 λH3=>Q σ H3
theorem Ik{o i:Expr}{to ti:TE}{t:acd}(ho:PE X o to)(hi:PE X i ti)(hs:ae2 X t)
    (ha:∀ v,assign (.Subscript o i pos) X.env v=(do
      let ov <-holding [v] (eval o X.env)
      let iv <-holding [v,ov] (eval i X.env)
      standAt pos
      holding [v,ov,iv] (setItem ov iv v)
      release [v,ov,iv] []):=by intro _;rfl):PG X (.Subscript o i pos) (alD to ti t):=by
  intro pins s σ H v u Q I r h;rw[ha];refine wpAny_bind (wpAny_holding (thn (ho pins s σ H _ I h) λov s1 ⟨x,H1,I1,r1,q1⟩=>?_));refine wpAny_bind (wpAny_holding (thn (hi pins s1 σ H1 _ I1 q1) λiv s2 ⟨y,H2,I2,r2,q2⟩=>?_));refine wpAny_bind (wpAny_standAt (wpAny_bind (wpAny_holding (thn (hs pins s2 σ H2 x y v ov iv u _ I2 r1 r2 r q2) λ_ s3 ⟨H3,I3,q3⟩=>?_))));exact wpAny_release ⟨σ,H3,I3,q3⟩
noncomputable def Wn(te:TE)(g:TG):TS:=λD σ H=>te σ H λx H1=>g x σ H1 D.nx
theorem D1{tg e:Expr}{te:TE}{g:TG}(he:PE X e te)(hg:PG X tg g)(hs:swapsWithSole [tg] e pos.line X.env=pure false:=by rfl)(hw:swappedStores [tg] e X.env=pure none:=by rfl)
    (h1:(assignEach [tg] X.env).map (·.2)=[assign tg X.env]:=by rfl):PS X (.Assign [tg] e pos) (Wn te g):=by
  intro pins s σ H D I h;refine wpAny_Assign_stores (thn 5e1 λv s1 ⟨x,H1,I1,r1,q1⟩=>?_) hs hw;rw[h1];exact thn (hg pins s1 σ H1 x v _ I1 r1 q1) λ_ s2 q=>q
theorem aS{i:Nat}{x:Str}{e:Expr}{te:TE}{pos':Pos}(hN:X.N.Nodup)(hi:X.N[i]?=some x)(hx:Loc X.env.scope x)(he:PE X e te)(hs:swapsWith e (some (.Name x pos')) pos.line X.env=pure false:=by rfl)(hf:X.fn x=true\/X.env.scope.names.lookup x=some .local:=by first|exact .inl rfl|exact .inr rfl|assumption) :
    PS X (.Assign [.Name x pos'] e pos) (Wn te (sL i)):=by
  intro pins s σ H D I h;refine wpAny_Assign_Name (thn 5e1 λv s1 ⟨y,H1,I1,r1,q1⟩=>?_) hs;exact D3 I1 hN hi hx r1 (λs2 I2=>⟨_,H1,I2,q1⟩) hf
noncomputable def alE(i:Nat)(te:TE)(ti:TIp):TS:=λD σ H=>∃ x,σ[i]?=some (some x)/\te σ H λy H1=>ti x y H1 λz H2=>D.nx (σ.set i (some z)) H2
theorem T9{i:Nat}{x:Str}{e:Expr}{te:TE}{op:Operator}{ti:TIp}{pos':Pos}(hN:X.N.Nodup)(hi:X.N[i]?=some x)(hx:Loc X.env.scope x)(he:PE X e te)(ho:PIp X op ti)(hf:X.fn x=true\/X.env.scope.names.lookup x=some .local:=by first|exact .inl rfl|exact .inr rfl|assumption) :
    PS X (.AugAssign (.Name x pos') op e pos) (alE i te ti):=by
  intro pins s σ H D I h;obtain⟨v,e1,h⟩:=h;obtain⟨m,hn,hl⟩:=I.loc;have vis:Vis X.env.scope x:=by rcases hx with k|k;exact .inl k;exact .inr (.inl k)
  obtain⟨u,r,l⟩:=hl i x v hi e1 vis;refine wpAny_AugAssign_Name ?_;have go:wpAny 1e7 X.A (eval e X.env) (λw s₂=>wpAny 1e7 X.A (inplaceOp op u w) (λr s₃=>wpAny 1e7 X.A (storeName X.env x r) (λ_=>SP X pins D .next) X.xe s₃) X.xe s₂) X.xe s:=by
    refine thn 5e1 λw s1 ⟨y,H1,I1,r1,q1⟩=>?_;refine thn (ho pins s1 σ H1 v y u w _ I1 r r1 q1) λz s2 ⟨zv,H2,I2,r2,q2⟩=>?_;exact D3 I2 hN hi hx r2 (λs3 I3=>⟨_,H2,I3,q2⟩) hf
  rcases l with⟨hk,hm⟩|⟨hk,c,hc,V9⟩
  · exact wpAny_loadName_local I.ok.kind hk hn hm go
  · rcases hk with hk|hk
    · exact wpAny_loadName_cell I.ok.kind hk hc V9 go
    · rcases hx with k|k
      · have:X.env.scope.names.lookup x=some .free:=hk
        rw[k]at this;cases this
      · have:X.env.scope.names.lookup x=some .free:=hk
        rw[k]at this;cases this
noncomputable def ipI(f:Int->Int->Int):TIp:=λx y H Q=>∃ i j,x=.int i/\y=.int j/\Q (.int (f i j)) H
theorem Ua:PIp X .Add (ipI λi j=>i+j):=by
  intro pins s σ H x y v u Q I r1 r2 h;obtain⟨i,j,e1,e2,q⟩:=h;subst e1;subst e2;obtain⟨t,rfl⟩:=r1;obtain⟨t',rfl⟩:=r2;exact iadd_int ⟨.int _,H,I.tok _,⟨_,rfl⟩,q⟩
end
section
variable{X:Cx}{pos:Pos}
noncomputable def abm(c:TT)(tb:TS):TS:=λD σ H=>∃ W:Nat->St->Hp->Prop,(∃ m,W m σ H)/\∀ m σ H,W m σ H ->
  c σ H λb H1=>if b=true then ∃ N:St->Hp->Prop,(∀ σ' H',N σ' H'->∃ m',m'<m/\W m' σ' H')/\tb {D with nx:=N,ct:=N,bk:=D.nx} σ H1 else D.nx σ H1
theorem KC{c:Expr}{body:List Stmt}{tc:TT}{tb:TS}(hp:PassesOwn (model X.prog X.w) X.A X.env X.xe)(hc:PT X c tc)(hb:PSs X body tb):PS X (.While c body [] pos) (abm tc tb):=by
  intro pins s σ H D I h;obtain⟨W,⟨m0,w0⟩,turn⟩:=h;refine wpAny_While (codeAny_whileLoop (λn s'=>∃ σ' H',Inv X pins σ' H' s'/\W n σ' H') ?_ m0 ⟨σ,H,I,w0⟩);rintro n s1 ⟨σ1,H1,I1,w1⟩;refine wpAny_passesOwn hp (thn (hc pins s1 σ1 H1 _ I1 (turn n σ1 H1 w1)) λb s2 ⟨H2,I2,q2⟩=>?_);cases b with
  | true =>
    obtain⟨N,hN,q2⟩:=q2;rw[if_pos rfl];refine wpAny_passesOwn hp (thn (hb pins s2 σ1 H2 _ I2 q2) λf s3 q3=>?_);cases f with
    | next =>
      obtain⟨σ3,H3,I3,n3⟩:=q3;obtain⟨m',hm,w3⟩:=hN σ3 H3 n3;exact⟨m',hm,σ3,H3,I3,w3⟩
    | cont =>
      obtain⟨σ3,H3,I3,n3⟩:=q3;obtain⟨m',hm,w3⟩:=hN σ3 H3 n3;exact⟨m',hm,σ3,H3,I3,w3⟩
    | brk=>exact q3
    | ret v=>exact q3
  | false =>
    rw[if_neg ap0];exact wpAny_execs_nil ⟨σ1,H2,I2,q2⟩
end
structure It where
  go:Nat->Hp->Prop
  yld:Nat->Hp->V->Hp->Prop
  stop:Nat->Hp->Prop
noncomputable def Iq(X:Cx)(pins:List (Addr×Obj))(H:Hp)(b:Addr):Prop :=
  H b=none/\b≠X.env.locals/\b∉X.fs/\(b∈X.ex\/X.s₀.heap.objs.size<=b)/\(∀ x c,X.env.cells.lookup x=some c->c≠b)/\∀ p∈X.pn++pins,p.1≠b
theorem Inv.XM{X:Cx}{pins:List (Addr×Obj)}{σ:St}{H H':Hp}{s:Shared}{b:Addr}(I:Inv X pins σ H s)(hb:s.heap.objs.size<=b)(hn:H' b=none):Iq X pins H' b:=by
  refine⟨hn,aq3 (ap9 I.lt hb),I.alv hb,.inr (aqk I.sz hb),λx c e z=>?_,λp hp z=>?_⟩
  · obtain⟨v,q⟩:=I.cell x c e
    exact absurd (ap9 q.lt (by rw[z];exact hb)) (aq4 _)
  · exact absurd (ap9 (ap2 (I.pin p hp).1) (by rw[z];exact hb)) (aq4 _)
structure Turn(P:Program)(w:World)(K:W.Frag)(tg:Expr)(J:It)(fp:List Addr)(it:Addr)(tn:Nat->Heap->Prop):Prop where
  mem:it∈fp
  obj:∀ i h,tn i h->∀ b∈fp,∃ o,h.get? b=some o/\∀ v,o.data≠.cell v
  keep:∀ i h h',tn i h->(∀ b∈fp,∀ o,h.get? b=some o->h'.get? b=some o)->tn i h'
  item:∀(X:Cx),X.prog=P->X.w=w->X.K=K->X.calm=true->∀(i:Nat) (pins:List 4e3) (s:Shared) (σ:St) (H:Hp) (E:Value->Shared->Prop),Inv X pins σ H s->(∀ b∈fp,Iq X pins H b)->tn i s.heap->J.go i H ->
    wpAny 8e2 X.A (pyNext (.ref it)) (λr s1=>∃ u,r=some u /\
      wpAny 8e2 X.A (letOwnedTupleGo tg (.ref it) u) (λ_ s2=>∃ x H',Inv X pins σ H' s2/\RelV x u/\J.yld i H x H'/\tn (i+1) s2.heap/\∀ b∈fp,H' b=none) E s1) E s
  done:∀(X:Cx),X.prog=P->X.w=w->X.K=K->X.calm=true->∀(i:Nat) (pins:List 4e3) (s:Shared) (σ:St) (H:Hp) (E:Value->Shared->Prop),Inv X pins σ H s->(∀ b∈fp,Iq X pins H b)->tn i s.heap->J.stop i H ->
    wpAny 8e2 X.A (pyNext (.ref it)) (λr s1=>r=none/\Inv X pins σ H s1) E s
  self:∀(A:Around) (i:Nat) (s:Shared) (Q:Value->Shared->Prop) (E:Value->Shared->Prop),tn i s.heap->Q (.ref it) s->wpAny 8e2 A (pyIter (.ref it)) Q E s
noncomputable abbrev TI:=St->Hp->(It->Hp->Prop)->Prop
noncomputable def PIE(X:Cx)(pins:List (Addr×Obj))(σ:St)(tg:Expr)(R:It->Hp->Prop)(itv:Value)(s2:Shared):Prop :=
  ∃(it:Addr) (fp:List Addr) (tn:Nat->Heap->Prop) (J:It) (H':Hp),itv=.ref it/\Inv X pins σ H' s2/\Turn X.prog X.w X.K tg J fp it tn/\tn 0 s2.heap/\(∀ b∈fp,Iq X pins H' b)/\R J H'
noncomputable def PI(X:Cx)(tg iter:Expr)(wi:TI):Prop :=
  ∀(pins:List 4e3) (s:Shared) (σ:St) (H:Hp) (R:It->Hp->Prop),Inv X pins σ H s->wi σ H R ->
    wpAny 1e7 X.A (eval iter X.env) (λv s1=>wpAny 1e7 X.A (pyIter v) (PIE X pins σ tg R) X.xe s1) X.xe s
theorem aay{M:Model}{A:Around}{E:Value->Shared->Prop}{s:Shared}{tg:Expr}{it:Addr}{u:Value}{o:Obj}{n:String}{vs:Array Value}{Q:Unit->Shared->Prop}(ho:s.heap.get? it=some o)(hc:o.cls=.type n)(hd:o.data=.fields vs)
    (hn:["enumerate","zip","dict_itemiterator","dict_reverseitemiterator","odict_iterator","itertools.zip_longest","itertools.pairwise"].contains n=false) (hQ:Q () s):wpAny M A (letOwnedTupleGo tg (.ref it) u) Q E s:=by
  unfold letOwnedTupleGo;cases tg<;>first
    | exact wpAny_pure hQ
    | (cases u<;>first
        | exact wpAny_pure hQ
        | (refine wpAny_bind (wpAny_load ho ?_)
           rw[hc,hd];show wpAny M A (if(["enumerate","zip","dict_itemiterator","dict_reverseitemiterator","odict_iterator","itertools.zip_longest","itertools.pairwise"].contains n&&vs[0]? == some (rawInt _))=true then _ else _) Q E s;rw[if_neg (by intro h;rw[hn,Bool.false_and]at h;cases h)];exact wpAny_pure hQ))
noncomputable def Itl(K:W.Frag)(a:Addr):It :=
  ⟨λi H=>∃ xs x,SqL K H a xs/\xs[i]?=some x,λi H x H'=>H'=H/\∀ xs,SqL K H a xs->xs[i]?=some x,λi H=>∃ xs,SqL K H a xs/\xs.length<=i⟩
noncomputable def Itr(lo:Int)(n:Nat):It:=⟨λi _=>i<n,λi H x H'=>H'=H/\x=.int (lo+i),λi _=>n<=i⟩
theorem Vq{P:Program}{w:World}{K:W.Frag}{tg:Expr}(a it:Addr):Turn P w K tg (Itl K a) [it] it (λi h=>h.IsListIter it a i) where
  mem:=by simp
  obj:=λi h st b hb=>by
    have e:b=it:=(by simpa using hb);subst e;obtain⟨o,e,c,d⟩:=st;exact⟨o,e,λv z=>by rw[d]at z;cases z⟩
  keep:=λi h h' st k=>st.at λo e=>k it 2e5 o e
  item:=by
    intro X hP hw hK hc i pins s σ H E I hf st hg;subst hP hw hK;obtain⟨xs,x,hq,hx⟩:=hg;obtain⟨its,rv,p,hz⟩:=I.list hq;obtain⟨u,hu,ru⟩:=rv.get hx;obtain⟨f0,f1,f2,f3,f4,f5⟩:=hf it 2e5;refine wpAny_pyNext_list_item st p.isList (x:=u) (by simpa using hu) λh' st' sb=>?_;have I1:Inv X pins σ H {s with heap:=h'}:=I.turned (t':=s.toks) (λb o hb e=>(sb.2 b hb).trans e) f0 f1 f3 f4 f5;obtain⟨o,e,c,d⟩:=id st';exact⟨u,rfl,aay (s:={s with heap:=h'}) e c d 2e6 ⟨x,H,I1,ru,⟨rfl,λys hy=>by rw[I.Ra hy hq];exact hx⟩,st',λb hb=>(hf b hb).1⟩⟩
  done:=by
    intro X hP hw hK hc i pins s σ H E I hf st hg;subst hP hw hK;obtain⟨xs,hq,hx⟩:=hg;obtain⟨its,rv,p,hz⟩:=I.list hq;obtain⟨f0,f1,f2,f3,f4,f5⟩:=hf it 2e5;have hl:=rv.length;exact wpAny_pyNext_list_end (I.ok.hd hc) st p.isList (by simp;omega) λh' eb=>⟨rfl,I.turned (t':=s.toks) (λb o hb e=>eb b o hb e) f0 f1 f3 f4 f5⟩
  self:=λ_ _ _ _ _ st h=>wpAny_pyIter_listiter st h
theorem Sf{P:Program}{w:World}{K:W.Frag}{tg:Expr}(it:Addr)(lo:Int)(n:Nat):Turn P w K tg (Itr lo n) [it] it (λi h=>IsRangeIter h it (lo+(i:Nat)*1) ((n:Int)-(i:Nat)) 1) where
  mem:=by simp
  obj:=λi h st b hb=>by
    have e:b=it:=(by simpa using hb);subst e;exact⟨_,st,λv z=>by
      have z':Data.fields _=Data.cell v:=z;cases z'⟩
  keep:=λi h h' st k=>k it 2e5 _ st
  item:=by
    intro X hP hw hK hc i pins s σ H E I hf st hg;subst hP hw hK;obtain⟨f0,f1,f2,f3,f4,f5⟩:=hf it 2e5;have W:=Walks.range (prog:=X.prog) (w:=X.w) (I.ok.hd hc) it lo 1 n;refine W.item i s _ _ hg st λv h' tk hv st' kk=>?_;obtain⟨t,rfl⟩:=hv;have I1:Inv X pins σ H {s with heap:=h',toks:=tk}:=I.turned (λb o hb e=>kk b o (by simpa using hb) e) f0 f1 f3 f4 f5;refine⟨_,rfl,aay (s:={s with heap:=h',toks:=tk}) (n := "range_iterator") st' rfl rfl 2e6 ⟨.int (lo+i),H,I1,⟨t,?_⟩,⟨rfl,rfl⟩,st',λb hb=>(hf b hb).1⟩⟩;rw[Int.mul_one]
  done:=by
    intro X hP hw hK hc i pins s σ H E I hf st hg;subst hP hw hK;obtain⟨f0,f1,f2,f3,f4,f5⟩:=hf it 2e5;exact wpAny_pyNext_range_end (I.ok.hd hc) st (by have:n<=i:=hg;omega) λh' eb=>⟨rfl,I.turned (t':=s.toks) (λb o hb e=>eb b o hb e) f0 f1 f3 f4 f5⟩
  self:=λ_ _ _ _ _ st h=>wpAny_pyIter_rangeiter st h
end L2
namespace L2
open PySem PySem.Spec PyProof.Rows
section
variable{X:Cx}{tg:Expr}
noncomputable def ad4(K:W.Frag)(tl:TE):TI:=λσ H R=>tl σ H λx H1=>∃ a,x=.ref a/\(∃ xs,SqL K H1 a xs)/\R (Itl K a) H1
theorem fe{l:Expr}{tl:TE}(hl:PE X l tl):PI X tg l (ad4 X.K tl):=by
  intro pins s σ H R I h;refine thn (hl pins s σ H _ I h) λv s1 ⟨x,H1,I1,r1,q1⟩=>?_;obtain⟨a,e,⟨xs,hq⟩,q⟩:=q1;subst e;cases r1;obtain⟨its,rv,p,hz⟩:=I1.list hq;refine wpAny_pyIter_list p.isList ?_;refine⟨s1.heap.objs.size,[s1.heap.objs.size],_,_,H1,rfl,I1.kept (t':=s1.toks) λb o e=>apY _ e,Vq a _,⟨_,aqr _ rfl,rfl,rfl⟩,λb hb=>?_,q⟩;have e:b=s1.heap.objs.size:=by simpa using hb
  subst e;exact I1.XM (apV _) (I1.hok.fresh (apV _))
theorem WM{pins:List (Addr×Obj)}{σ:St}{H:Hp}{s:Shared}{R:It->Hp->Prop}{E:Value->Shared->Prop}{lo hi:Int}{t u v:Tok}{tk:Nat}(I:Inv X pins σ H s)(h1:-(2 ^ 62)<=lo)(h2:lo<2 ^ 62)(h3:-(2 ^ 62)<=hi)(h4:hi<2 ^ 62)
    (q:R (Itr lo (hi-lo).toNat) H):wpAny 1e7 X.A (pyIter (.ref s.heap.objs.size)) (PIE X pins σ tg R) E {s with heap:=s.heap.push {cls:=.type "range",data:=.fields #[.int lo t,.int hi u,.int 1 v]},toks:=tk}:=by
  refine wpAny_pyIter_range (IsRange.new ..) (small_one h1 h2 h3 h4) ?_;have I1:Inv X pins σ H {s with heap:=s.heap.push {cls:=.type "range",data:=.fields #[.int lo t,.int hi u,.int 1 v]},toks:=tk}:=I.kept λb o e=>apY _ e;refine⟨(s.heap.push {cls:=.type "range",data:=.fields #[.int lo t,.int hi u,.int 1 v]}).objs.size,[(s.heap.push {cls:=.type "range",data:=.fields #[.int lo t,.int hi u,.int 1 v]}).objs.size],_,_,H,rfl,
    I1.kept (t':=tk) λb o e=>apY _ e,Sf _ lo (hi-lo).toNat,?_,λb hb=>?_,q⟩
  · have e1:lo+((0:Nat):Int)*1=lo:=by simp
    have e2:(((hi-lo).toNat:Nat):Int)-((0:Nat):Int)=Builtin.Range.rangeSize lo hi 1:=(by rw[rangeSize_one];split<;>omega);show IsRangeIter _ _ (lo+((0:Nat):Int)*1) ((((hi-lo).toNat:Nat):Int)-((0:Nat):Int)) 1;rw[e1,e2];exact aqr _ rfl
  · have e:b=(s.heap.push {cls:=.type "range",data:=.fields #[.int lo t,.int hi u,.int 1 v]}).objs.size:=by simpa using hb
    subst e;exact I1.XM (apV _) (I1.hok.fresh (apV _))
noncomputable def ad5(ta:TA):TI:=λσ H R=>ta σ H λvs H1=>∃ j:Int,vs=[.int j]/\-(2 ^ 62)<=j/\j<2 ^ 62/\R (Itr 0 j.toNat) H1
theorem zj{a:Expr}{ta:TA}{p pos:Pos}(hg:Gl X "range")(hm:X.mg "range" = none)(ha:PA X [a] ta)(hs:starEach [a] X.env=[(false,eval a X.env)]:=by rfl):PI X tg (.Call (.Name "range" p) [a] [] pos) (ad5 ta):=by
  intro pins s σ H R I h;refine Call_ (K3 I hg hm boot_range (PyProof.Rows.callWith_type1 (thn 1e11 λus s1 ⟨vs,H1,I1,r1,q1⟩=>?_) hs rfl));obtain⟨j,e,q1,q2,q⟩:=q1;subst e;cases r1 with
  | cons r rr =>
    cases rr;obtain⟨t,rfl⟩:=r;exact call_range_1 (WM I1 1e1 1e1 q1 q2 (by simpa using q))
noncomputable def alF(wi:TI)(g:TG)(tb:TS):TS:=λD σ H=>wi σ H λJ H1=>∃ W:Nat->Nat->St->Hp->Prop,(∃ m,W 0 m σ H1)/\∀ i m σ H,W i m σ H ->
  (J.stop i H/\D.nx σ H)\/(J.go i H/\∃ N:St->Hp->Prop,8e4/\∀ x H',J.yld i H x H'->g x σ H' λσ2 H2=>tb {D with nx:=N,ct:=N,bk:=D.nx} σ2 H2)
noncomputable def K5(fp:List Addr)(h:Heap):List 4e3:=fp.filterMap λb=>(h.get? b).map λo=>(b,o)
theorem iR{fp:List Addr}{h:Heap}{b:Addr}{o:Obj}(hb:b∈fp)(e:h.get? b=some o):(b,o)∈K5 fp h:=aqK.mpr ⟨b,hb,by rw[e];rfl⟩
theorem Vr{fp:List Addr}{h:Heap}{p:Addr×Obj}(hp:p∈K5 fp h):p.1∈fp/\h.get? p.1=some p.2:=by
  obtain⟨b,hb,e⟩:=aqK.mp hp;cases q:h.get? b with
  | none=>rw[q]at e;cases e
  | some o =>
    rw[q]at e;have e':(b,o)=p:=aqh e;subst e';exact⟨hb,q⟩
theorem Inv.pinned{pins:List (Addr×Obj)}{σ:St}{H:Hp}{s:Shared}{fp:List Addr}(I:Inv X pins σ H s)(hf:∀ b∈fp,Iq X pins H b)(ho:∀ b∈fp,∃ o,s.heap.get? b=some o/\∀ v,o.data≠.cell v):Inv X (pins++K5 fp s.heap) σ H s :=
  I.Uw λp hp=>(aqc.mp hp).elim (λz=>I.pin p (ap1 _ z)) λz=>by
    obtain⟨hb,e⟩:=Vr z;obtain⟨f0,f1,f2,_⟩:=hf p.1 hb;obtain⟨o,e',d⟩:=ho p.1 hb;rw[e]at e';cases e';exact⟨e,f0,f1,f2,d⟩
theorem Inv.pR{pins pl:List (Addr×Obj)}{σ:St}{H:Hp}{s:Shared}(I:Inv X (pins++pl) σ H s):Inv X pins σ H s:=I.Uw λp hp=>I.pin p (ap1 _ (aqm _ hp))
theorem gq{iter:Expr}{body:List Stmt}{wi:TI}{g:TG}{tb:TS}{pos:Pos}(hp:PassesOwn (model X.prog X.w) X.A X.env X.xe)(hc:X.calm=true)(hi:PI X tg iter wi)(hg:PG X tg g)(hb:PSs X body tb)
    (hs:∀ x,foldedSetIterable iter X.env x=pure x:=by intro _;rfl):PS X (.For tg iter body [] pos) (alF wi g tb):=by
  intro pins s σ H D I h;refine wpAny_For (thn (hi pins s σ H _ I h) λv s1 h1=>thn h1 λitv s2 h2=>?_) hs;obtain⟨it,fp,tn,J,H2,e,I2,T,st2,f2,W,⟨m0,w0⟩,turn⟩:=h2;subst e;have Ir:∀ {H':Hp},6e2->∀ b∈fp,Iq X pins H' b:=λhn b hb=>⟨hn b hb,(f2 b hb).2⟩;refine codeAny_forLoop_any (λn s'=>∃ i σ' H',Inv X pins σ' H' s'/\tn i s'.heap/\6e2/\W i n σ' H') ?_ m0 ⟨0,σ,H2,I2,st2,λb hb=>(f2 b hb).1,w0⟩;rintro n s3 ⟨i,σ3,H3,I3,st3,fr3,w3⟩;rcases turn i n σ3 H3 w3 with⟨stop,qn⟩|⟨go,N,hN,step⟩
  · refine wpAny_passesOwn hp (thn (T.done X rfl rfl rfl hc i pins s3 σ3 H3 X.xe I3 (Ir fr3) st3 stop) λr s4 ⟨hr,I4⟩=>?_)
    subst hr;exact wpAny_execs_nil ⟨σ3,H3,I4,qn⟩
  · refine wpAny_passesOwn hp (thn (T.item X rfl rfl rfl hc i pins s3 σ3 H3 X.xe I3 (Ir fr3) st3 go) λr s4 ⟨u,hr,h4⟩=>?_)
    subst hr;refine wpAny_passesOwn hp (thn h4 λ_ s5 ⟨x,H5,I5,r5,y5,st5,fr5⟩=>?_);have I5':=I5.pinned (Ir fr5) (T.obj _ _ st5);refine wpAny_passesOwn hp (thn (hg _ s5 σ3 H5 x u _ I5' r5 (step x H5 y5)) λ_ s6 ⟨σ6,H6,I6,q6⟩=>?_);refine wpAny_passesOwn hp (thn (hb _ s6 σ6 H6 _ I6 q6) λf s7 q7=>?_);have again:∀ {σ7:St} {H7:Hp},Inv X (pins++K5 fp s5.heap) σ7 H7 s7->N σ7 H7->∃ m,m<n/\∃ i σ' H',Inv X pins σ' H' s7/\tn i s7.heap/\6e2/\W i m σ' H':=λ{σ7 H7} I7 n7=>by
      obtain⟨m',hm,w7⟩:=hN σ7 H7 n7;refine⟨m',hm,i+1,σ7,H7,I7.pR,T.keep _ _ _ st5 λb hb o e=>(I7.pin (b,o) 8e7).1,λb hb=>?_,w7⟩;obtain⟨o,e,d⟩:=T.obj _ _ st5 b hb;exact(I7.pin (b,o) 8e7).2.1
    cases f with
    | next=>obtain⟨σ7,H7,I7,n7⟩:=q7;exact again I7 n7
    | cont=>obtain⟨σ7,H7,I7,n7⟩:=q7;exact again I7 n7
    | brk=>obtain⟨σ7,H7,I7,q7⟩:=q7;exact⟨σ7,H7,I7.pR,q7⟩
    | ret v=>obtain⟨x7,σ7,H7,I7,r7,q7⟩:=q7;exact⟨x7,σ7,H7,I7.pR,r7,q7⟩
end
theorem j5{K:W.Frag}{a:Addr}{xs:List V}{g:TG}{tb:TS}{D:Ends}{σ:St}{H:Hp}(Pv:Nat->St->Hp->Prop)(h0:Pv 0 σ H)(hl:∀ i σ H,i<=xs.length->Pv i σ H->SqL K H a xs)
    (hs:∀ i x σ H,xs[i]?=some x->Pv i σ H->g x σ H λσ2 H2=>tb {D with nx:=Pv (i+1),ct:=Pv (i+1),bk:=D.nx} σ2 H2) (hd:∀ σ H,Pv xs.length σ H->D.nx σ H) :
    ∃ W:Nat->Nat->St->Hp->Prop,(∃ m,W 0 m σ H)/\∀ i m σ H,W i m σ H ->
      ((Itl K a).stop i H/\D.nx σ H)\/((Itl K a).go i H/\∃ N:St->Hp->Prop,8e4/\∀ x H',(Itl K a).yld i H x H'->g x σ H' λσ2 H2=>tb {D with nx:=N,ct:=N,bk:=D.nx} σ2 H2):=by
  refine⟨λi m σ H=>m=xs.length-i/\i<=xs.length/\Pv i σ H,⟨xs.length,by simp,aqu _,h0⟩,?_⟩;rintro i m σ H ⟨rfl,hi,p⟩;have q:=hl i σ H hi p;by_cases hlt:i<xs.length
  · refine .inr ⟨⟨xs,xs[i],q,by simp[hlt]⟩,Pv (i+1),λσ' H' p'=>⟨xs.length-(i+1),by omega,rfl,hlt,p'⟩,λx H' y=>?_⟩
    obtain⟨e,y⟩:=y;subst e;exact hs i x σ _ (y xs q) p
  · have e:i=xs.length:=by omega
    subst e;exact .inl ⟨⟨xs,q,apV _⟩,hd σ H p⟩
theorem Mq{lo:Int}{n:Nat}{g:TG}{tb:TS}{D:Ends}{σ:St}{H:Hp}(Pv:Nat->St->Hp->Prop)(h0:Pv 0 σ H)
    (hs:∀ i σ H,i<n->Pv i σ H->g (.int (lo+i)) σ H λσ2 H2=>tb {D with nx:=Pv (i+1),ct:=Pv (i+1),bk:=D.nx} σ2 H2) (hd:∀ σ H,Pv n σ H->D.nx σ H) :
    ∃ W:Nat->Nat->St->Hp->Prop,(∃ m,W 0 m σ H)/\∀ i m σ H,W i m σ H ->
      ((Itr lo n).stop i H/\D.nx σ H)\/((Itr lo n).go i H/\∃ N:St->Hp->Prop,8e4/\∀ x H',(Itr lo n).yld i H x H'->g x σ H' λσ2 H2=>tb {D with nx:=N,ct:=N,bk:=D.nx} σ2 H2):=by
  refine⟨λi m σ H=>m=n-i/\i<=n/\Pv i σ H,⟨n,by simp,aqu _,h0⟩,?_⟩;rintro i m σ H ⟨rfl,hi,p⟩;by_cases hlt:i<n
  · refine .inr ⟨hlt,Pv (i+1),λσ' H' p'=>⟨n-(i+1),by omega,rfl,hlt,p'⟩,λx H' y=>?_⟩
    obtain⟨e,y⟩:=y;subst e y;exact hs i σ _ hlt p
  · have e:i=n:=by omega
    subst e;exact .inl ⟨apV _,hd σ H p⟩
end L2
namespace L2
open PySem PySem.Spec PyProof.Rows
noncomputable abbrev R2:=V->V->Hp->VK->Prop
noncomputable def OpR(X:Cx)(f:Value->Value->Sem Value)(r:R2):Prop :=
  ∀(pins:List 4e3) (s:Shared) (σ:St) (H:Hp) (x y:V) (v u:Value) (Q:VK),Inv X pins σ H s->RelV x v->RelV y u->r x y H Q ->
    wpAny 1e7 X.A (f v u) 4e8 X.xe s
noncomputable def zk(X:Cx)(f:Value)(r:List V->Hp->VK->Prop):Prop :=
  ∀(pins:List 4e3) (s:Shared) (σ:St) (H:Hp) (xs:List V) (us:List Value) (Q:VK),Inv X pins σ H s->Vals xs us->r xs H Q ->
    wpAny 1e7 X.A (call f us) 4e8 X.xe s
noncomputable def tOp(r:R2)(ta tb:TE):TE:=λσ H Q=>ta σ H λx H1=>tb σ H1 λy H2=>r x y H2 Q
noncomputable def rI(C:Int->Int->Prop)(g:Int->Int->V):R2:=λx y H Q=>∃ i j,x=.int i/\y=.int j/\C i j/\Q (g i j) H
noncomputable def rI0(g:Int->Int->V):R2:=λx y H Q=>∃ i j,x=.int i/\y=.int j/\Q (g i j) H
section
variable{X:Cx}{a b c:Expr}{ta tb tc:TE}{pos:Pos}
theorem ace(ha:PE X a ta)(hb:PE X b tb){pins:List (Addr×Obj)}{s:Shared}{σ:St}{H:Hp}{R:V->V->Hp->Prop}(I:Inv X pins σ H s)
    (h:ta σ H λx H1=>tb σ H1 λy H2=>R x y H2) {Q:Value->Shared->Prop} {f:Value->Value->Sem Value}
    (hf:∀ v u s2 x y H2,Inv X pins σ H2 s2->RelV x v->RelV y u->R x y H2->wpAny 1e7 X.A (f v u) Q X.xe s2) :
    wpAny 1e7 X.A (eval a X.env) (λv s₁=>wpAny 1e7 X.A (eval b X.env) (λu s₂=>wpAny 1e7 X.A (f v u) Q X.xe s₂) X.xe s₁) X.xe s:=by
  refine thn (ha pins s σ H _ I h) λv s1 ⟨x,H1,I1,r1,q1⟩=>?_;refine thn (hb pins s1 σ H1 _ I1 q1) λu s2 ⟨y,H2,I2,r2,q2⟩=>?_;exact hf v u s2 x y H2 I2 r1 r2 q2
theorem cM{op:Operator}{r:R2}(ho:OpR X (binaryOp op) r)(ha:PE X a ta)(hb:PE X b tb):PE X (.BinOp a op b pos) (tOp r ta tb):=by
  intro pins s σ H Q I h;exact wpAny_BinOp (ace ha hb I h λv u s2 x y H2 I2 rx ry q=>ho pins s2 σ H2 x y v u Q I2 rx ry q)
theorem opI{f:Value->Value->Sem Value}{C:Int->Int->Prop}{g:Int->Int->Int}
    (rule:∀(i j:Int) (t u:Tok) (s:Shared) (Q:Value->Shared->Prop) (E:Value->Shared->Prop),C i j->Q (.int (g i j) s.toks) {s with toks:=s.toks+1}->wpAny 1e7 X.A (f (.int i t) (.int j u)) Q E s) :
    OpR X f (rI C λi j=>.int (g i j)):=by
  intro pins s σ H x y v u Q I rx ry h;obtain⟨i,j,rfl,rfl,hc,q⟩:=h;obtain⟨t,rfl⟩:=rx;obtain⟨t',rfl⟩:=ry;exact rule i j t t' s _ _ hc ⟨.int (g i j),H,I.tok _,⟨_,rfl⟩,q⟩
theorem ae3{f:Value->Value->Sem Value}{g:Int->Int->Int}
    (rule:∀(i j:Int) (t u:Tok) (s:Shared) (Q:Value->Shared->Prop) (E:Value->Shared->Prop),Q (.int (g i j) s.toks) {s with toks:=s.toks+1}->wpAny 1e7 X.A (f (.int i t) (.int j u)) Q E s) :
    OpR X f (rI0 λi j=>.int (g i j)):=by
  intro pins s σ H x y v u Q I rx ry h;obtain⟨i,j,rfl,rfl,q⟩:=h;obtain⟨t,rfl⟩:=rx;obtain⟨t',rfl⟩:=ry;exact rule i j t t' s _ _ ⟨.int (g i j),H,I.tok _,⟨_,rfl⟩,q⟩
theorem aaz{f:Value->Value->Sem Value}{g:Int->Int->Bool}
    (rule:∀(i j:Int) (t u:Tok) (s:Shared) (Q:Value->Shared->Prop) (E:Value->Shared->Prop),Q (.bool (g i j)) s->wpAny 1e7 X.A (f (.int i t) (.int j u)) Q E s) :
    OpR X f (rI0 λi j=>.bl (g i j)):=by
  intro pins s σ H x y v u Q I rx ry h;obtain⟨i,j,rfl,rfl,q⟩:=h;obtain⟨t,rfl⟩:=rx;obtain⟨t',rfl⟩:=ry;exact rule i j t t' s _ _ ⟨.bl (g i j),H,I,rfl,q⟩
noncomputable def alG(i j:Int):Prop:=0<j/\j<1073741824
noncomputable def alH(i j:Int):Prop:=0<=j/\j<=1000000/\i.natAbs<2 ^ 64
noncomputable def acf(i j:Int):Prop:=(-(2 ^ 64)<i/\i<2 ^ 64)\/(-(2 ^ 64)<j/\j<2 ^ 64)
theorem acf.ok{i j:Int}(h:acf i j):IntMulOk i j:=by
  rcases h with⟨h1,h2⟩|⟨h1,h2⟩
  · exact .of_left (intBits_le_64 h1 h2)
  · exact .of_right (intBits_le_64 h1 h2)
theorem iO:OpR X (binaryOp .Add) (rI0 λi j=>.int (i+j)):=ae3 λ_ _ _ _ _ _ _ q=>add_int q
theorem Ub:OpR X (binaryOp .Sub) (rI0 λi j=>.int (i-j)):=ae3 λ_ _ _ _ _ _ _ q=>sub_int q
theorem O6:OpR X (binaryOp .Mult) (rI acf λi j=>.int (i*j)):=opI λ_ _ _ _ _ _ _ hc q=>mul_int q hc.ok
theorem Ei:OpR X (binaryOp .FloorDiv) (rI alG λi j=>.int (i/j)):=opI λi j _ _ _ _ _ hc q=>by
  have h1:(0:Int)<j:=hc.1;have h2:j<1073741824:=hc.2;exact floordiv_int 1e1 (by rw[Int.fdiv_eq_ediv_of_nonneg i 1e1];exact q) (.inl (PyProof.noPylong_small 1e1))
theorem rg:OpR X (binaryOp .Mod) (rI (λ_ j=>0<j) λi j=>.int (i%j)):=opI λi j _ _ _ _ _ hc q=>by
  have h1:(0:Int)<j:=hc;exact mod_int' 1e1 (by rw[Int.fmod_eq_emod_of_nonneg i 1e1];exact q)
theorem abn:OpR X (binaryOp .Pow) (rI alH λi j=>.int (i ^ j.toNat)):=opI λ_ _ _ _ _ _ _ hc q=>pow_int_small hc.1 hc.2.1 hc.2.2 q
end
noncomputable def ae4:V->V->Bool
  | .non,.non=>true|.non,.int _=>true|.int _,.non=>true|.non,.bl _=>true|.bl _,.non=>true|.non,.str _=>true|.str _,.non=>true
  | .int _,.int _=>true|.bl _,.bl _=>true|.str _,.str _=>true|.byt _,.byt _=>true
  | .int _,.str _=>true|.str _,.int _=>true|.bl _,.str _=>true|.str _,.bl _=>true
  | _,_=>false
noncomputable def rEq:R2:=λx y H Q=>ae4 x y=true/\Q (.bl (decide (x=y))) H
noncomputable def rNe:R2:=λx y H Q=>ae4 x y=true/\Q (.bl (!decide (x=y))) H
theorem Ux{i j:Int}:decide (V.int i=V.int j)=(i == j):=by
  rw[arl];simp
theorem XQ{i j:Bool}:decide (V.bl i=V.bl j)=(i == j):=by
  rw[arl];simp
theorem Uy{i j:Str}:decide (V.str i=V.str j)=(i == j):=by
  rw[arl];simp
theorem Uz{i j:Array UInt8}:decide (V.byt i=V.byt j)=(i.toList == j.toList):=by
  rw[arl];cases i;cases j;simp
section
variable{X:Cx}{a b c:Expr}{ta tb tc:TE}{pos:Pos}
theorem de{pins:List (Addr×Obj)}{σ:St}{H:Hp}{s:Shared}{Q:VK}{k k':Bool}(I:Inv X pins σ H s)(q:Q (.bl k) H)(e:k=k'):EP X pins σ Q (.bool k') s:=by
  subst e;exact⟨.bl k,H,I,rfl,q⟩
theorem rB:OpR X (compareOp .Eq) rEq:=by
  intro pins s σ H x y v u Q I rx ry h;obtain⟨hs,q⟩:=h;cases x with
  | non =>
    cases rx;cases y with
    | non=>cases ry;exact PySem.EqNone.eq_none_none 5e2
    | bl j=>cases ry;exact PySem.EqNone.eq_none_bool 5e2
    | int j=>obtain⟨t',rfl⟩:=ry;exact PySem.EqNone.eq_none_int 5e2
    | str j=>obtain⟨t',rfl⟩:=ry;exact PySem.EqNone.eq_none_str 5e2
    | _=>exact absurd 4e5 ap0
  | bl i =>
    cases rx;cases y with
    | non=>cases ry;exact PySem.EqNone.eq_bool_none 5e2
    | bl j=>cases ry;exact eq_bool (de I q XQ)
    | str j=>obtain⟨t',rfl⟩:=ry;exact PySem.EqMixed.eq_bool_str 5e2
    | _=>exact absurd 4e5 ap0
  | int i =>
    obtain⟨t,rfl⟩:=rx;cases y with
    | non=>cases ry;exact PySem.EqNone.eq_int_none 5e2
    | int j=>obtain⟨t',rfl⟩:=ry;exact eq_int (de I q Ux)
    | str j=>obtain⟨t',rfl⟩:=ry;exact PySem.EqMixed.eq_int_str 5e2
    | _=>exact absurd 4e5 ap0
  | str i =>
    obtain⟨t,rfl⟩:=rx;cases y with
    | non=>cases ry;exact PySem.EqNone.eq_str_none 5e2
    | bl j=>cases ry;exact PySem.EqMixed.eq_str_bool 5e2
    | int j=>obtain⟨t',rfl⟩:=ry;exact PySem.EqMixed.eq_str_int 5e2
    | str j=>obtain⟨t',rfl⟩:=ry;exact eq_str (de I q Uy)
    | _=>exact absurd 4e5 ap0
  | byt i =>
    obtain⟨t,rfl⟩:=rx;cases y with
    | byt j=>obtain⟨t',rfl⟩:=ry;exact PySem.W.eq_bytes (de I q Uz)
    | _=>exact absurd 4e5 ap0
  | _=>cases y<;>exact absurd 4e5 ap0
theorem O7:OpR X (compareOp .NotEq) rNe:=by
  intro pins s σ H x y v u Q I rx ry h;obtain⟨hs,q⟩:=h;cases x with
  | non =>
    cases rx;cases y with
    | non=>cases ry;exact PySem.EqNone.ne_none_none 5e2
    | bl j=>cases ry;exact PySem.EqNone.ne_none_bool 5e2
    | int j=>obtain⟨t',rfl⟩:=ry;exact PySem.EqNone.ne_none_int 5e2
    | str j=>obtain⟨t',rfl⟩:=ry;exact PySem.EqNone.ne_none_str 5e2
    | _=>exact absurd 4e5 ap0
  | bl i =>
    cases rx;cases y with
    | non=>cases ry;exact PySem.EqNone.ne_bool_none 5e2
    | bl j=>cases ry;exact ne_bool (de I q (congrArg not XQ))
    | str j=>obtain⟨t',rfl⟩:=ry;exact PySem.EqMixed.ne_bool_str 5e2
    | _=>exact absurd 4e5 ap0
  | int i =>
    obtain⟨t,rfl⟩:=rx;cases y with
    | non=>cases ry;exact PySem.EqNone.ne_int_none 5e2
    | int j=>obtain⟨t',rfl⟩:=ry;exact ne_int (de I q (congrArg not Ux))
    | str j=>obtain⟨t',rfl⟩:=ry;exact PySem.EqMixed.ne_int_str 5e2
    | _=>exact absurd 4e5 ap0
  | str i =>
    obtain⟨t,rfl⟩:=rx;cases y with
    | non=>cases ry;exact PySem.EqNone.ne_str_none 5e2
    | bl j=>cases ry;exact PySem.EqMixed.ne_str_bool 5e2
    | int j=>obtain⟨t',rfl⟩:=ry;exact PySem.EqMixed.ne_str_int 5e2
    | str j=>obtain⟨t',rfl⟩:=ry;exact ne_str (de I q (congrArg not Uy))
    | _=>exact absurd 4e5 ap0
  | byt i =>
    obtain⟨t,rfl⟩:=rx;cases y with
    | byt j=>obtain⟨t',rfl⟩:=ry;exact PySem.W.ne_bytes (de I q (congrArg not Uz))
    | _=>exact absurd 4e5 ap0
  | _=>cases y<;>exact absurd 4e5 ap0
theorem vt:OpR X (compareOp .Lt) (rI0 λi j=>.bl (decide (i<j))):=aaz λ_ _ _ _ _ _ _ q=>lt_int q
theorem Bk:OpR X (compareOp .LtE) (rI0 λi j=>.bl (decide (i<=j))):=aaz λ_ _ _ _ _ _ _ q=>le_int q
theorem JT:OpR X (compareOp .Gt) (rI0 λi j=>.bl (decide (j<i))):=aaz λ_ _ _ _ _ _ _ q=>gt_int q
theorem aaA:OpR X (compareOp .GtE) (rI0 λi j=>.bl (decide (j<=i))):=aaz λ_ _ _ _ _ _ _ q=>ge_int q
theorem sT:OpR X (compareOp .Is) (λx y H Q=>y=.non/\Q (.bl (decide (x=.non))) H):=by
  intro pins s σ H x y v u Q I rx ry h;obtain⟨rfl,q⟩:=h;cases ry;refine is_none_gen (de I q ?_);cases x<;>first
    | (cases rx;rfl)
    | (obtain⟨t,rfl⟩:=rx;rfl)
theorem JU:OpR X (compareOp .IsNot) (λx y H Q=>y=.non/\Q (.bl (!decide (x=.non))) H):=by
  intro pins s σ H x y v u Q I rx ry h;obtain⟨rfl,q⟩:=h;cases ry;refine isnot_none_gen (de I q ?_);cases x<;>first
    | (cases rx;rfl)
    | (obtain⟨t,rfl⟩:=rx;rfl)
theorem aW(b:Expr){op:CmpOp}(h:op≠.In:=by decide)(h2:op≠.NotIn:=by decide):behindInMarks op b=false:=by
  have e1:(op == CmpOp.In)=false:=by cases op<;>first|rfl|exact absurd rfl h
  have e2:(op == CmpOp.NotIn)=false:=by cases op<;>first|rfl|exact absurd rfl h2
  cases b<;>simp[behindInMarks,e1,e2]
theorem zC{op:CmpOp}{r:R2}(ho:OpR X (compareOp op) r)(ha:PE X a ta)(hb:PE X b tb)(hm:behindInMarks op b=false):PE X (.Compare a [op] [b] pos) (tOp r ta tb):=by
  intro pins s σ H Q I h;exact wpAny_Compare1 (ace ha hb I h λv u s2 x y H2 I2 rx ry q=>ho pins s2 σ H2 x y v u Q I2 rx ry q) hm
noncomputable def aaB(t:TE):TT:=λσ H Q=>t σ H λx H'=>∃ k,x=.bl k/\Q k H'
theorem aK{op:CmpOp}{r:R2}(ho:OpR X (compareOp op) r)(ha:PE X a ta)(hb:PE X b tb)(hm:behindInMarks op b=false):PT X (.Compare a [op] [b] pos) (aaB (tOp r ta tb)):=by
  intro pins s σ H Q I h;refine wpAny_isTrue_Compare1 (thn (ha pins s σ H _ I h) λv s1 ⟨x,H1,I1,r1,q1⟩=>thn (hb pins s1 σ H1 _ I1 q1) λu s2 ⟨y,H2,I2,r2,q2⟩ =>
    thn (ho pins s2 σ H2 x y v u _ I2 r1 r2 q2) λc s3 ⟨z,H3,I3,r3,k,e,q3⟩=>?_) hm
  subst e;cases r3;exact wpAny_truthy_bool ⟨H3,I3,q3⟩
noncomputable def abo(r r':R2)(ta tb tc:TE):TE:=λσ H Q=>ta σ H λx H1=>tb σ H1 λy H2=>r x y H2 λz H3=>∃ k,z=.bl k /\
  (if k=true then tc σ H3 λw' H4=>r' y w' H4 Q else Q (.bl false) H3)
theorem pS{op op':CmpOp}{r r':R2}(ho:OpR X (compareOp op) r)(ho':OpR X (compareOp op') r')(ha:PE X a ta)(hb:PE X b tb)(hc:PE X c tc)
    (hm:lastMarks [op,op'] [b,c]=false:=by with_unfolding_all rfl):PT X (.Compare a [op,op'] [b,c] pos) (aaB (abo r r' ta tb tc)):=by
  intro pins s σ H Q I h;refine isTrue_chain (thn (ha pins s σ H _ I h) λv s1 ⟨x,H1,I1,r1,q1⟩=>test_link (thn (hb pins s1 σ H1 _ I1 q1) λu s2 ⟨y,H2,I2,r2,q2⟩ =>
    thn (ho pins s2 σ H2 x y v u _ I2 r1 r2 q2) λd s3 ⟨z,H3,I3,r3,k,e,q3⟩=>?_)) hm
  subst e;cases r3;refine wpAny_truthy_bool ?_;cases k with
  | false =>
    obtain⟨k',e',q'⟩:=q3;cases e';exact ite_ff ⟨H3,I3,q'⟩
  | true =>
    refine ite_tt (test_last (thn (hc pins s3 σ H3 _ I3 q3) λw' s4 ⟨z',H4,I4,r4,q4⟩=>thn (ho' pins s4 σ H4 y z' u w' _ I4 r2 r4 q4) λd' s5 ⟨z2,H5,I5,r5,k2,e2,q5⟩=>?_));subst e2;cases r5;exact wpAny_truthy_bool ⟨H5,I5,q5⟩
theorem O8:(sizeLine:Nat)<2 ^ 63:=by rw[sizeLine_eq];decide
theorem vals1{x:V}{us:List Value}(r:Vals [x] us):∃ u,us=[u]/\RelV x u:=by
  cases r with
  | cons r1 r2=>cases r2;exact⟨_,rfl,r1⟩
theorem WN:zk X (.builtin "abs") (λxs H Q=>∃ i,xs=[.int i]/\Q (.int (if i<0 then -i else i)) H):=by
  intro pins s σ H xs us Q I r h;obtain⟨i,rfl,q⟩:=h;obtain⟨u,rfl,t,rfl⟩:=vals1 r;exact call_abs_int λu tk=>⟨.int (if i<0 then -i else i),H,I.tok _,⟨_,rfl⟩,q⟩
end
end L2
namespace L2
open PySem PySem.Spec PyProof.Rows
structure Wo(h:Heap)(x dx C:Addr)(mA:Str->Option Value):Prop where
  obj:h.get? x=some (PySem.W.instObj C dx)
  ns:h.Ns1 dx mA
  ne:dx≠x
theorem Vs{h:Heap}{dx:Addr}{mA:Str->Option Value}(n:h.Ns1 dx mA):∃ od,h.get? dx=some od/\∀ name,PySem.W.lookIn name od=some (mA name):=by
  obtain⟨o,es,ep,ho,hd,hk,_,hm⟩:=n;refine⟨o,ho,λname=>?_⟩;have e:=hm name;unfold nsFind findBy at e;rw[<-Array.find?_toList]at e;unfold PySem.W.lookIn;rw[hd];dsimp only;split
  · rename_i y q
    rw[q]at e;exact congrArg some e
  · rename_i q
    rw[q]at e;have a:es.toList.any (·.refKey)=false:=by
      rw[List.any_eq_false];intro y hy;obtain⟨z,t,alI⟩:=hk y (Array.mem_toList_iff.mp hy);simp[DictEntry.refKey,alI]
    have a':¬es.toList.any (·.refKey)=true:=(by rw[a];exact ap0);rw[if_neg a'];exact congrArg some e
theorem Wo.look{h:Heap}{x dx C:Addr}{mA:Str->Option Value}(I:Wo h x dx C mA):∃ od,PySem.W.InstAt h x (PySem.W.instObj C dx) C (some od)/\∀ name,PySem.W.lookIn name od=some (mA name) :=
  let ⟨od,ho,hl⟩:=Vs I.ns
  ⟨od,⟨I.obj,rfl,rfl,ho⟩,hl⟩
section
variable{prog:Program}{w:World}{A:Around}{E:Value->Shared->Prop}{s:Shared}{K:W.Frag}{x dx C f:Addr}{mA:Str->Option Value}{name:Str}{v:Value}
theorem get_map{expr:Bool}{Q:Value->Shared->Prop}(X:K.In s.heap)(I:Wo s.heap x dx C mA)(hg:PySem.W.plainGet K C name=true)(hh:PySem.W.hasDictIn K C=true)
    (ha:PySem.W.findIn K 4e2 name=some none) (hv:mA name=some v) (hv':PySem.W.handedIn v=true) (h:Q v {s with toks:=s.toks+1}) :
    wpAny 2e1 A (getAttr 7e5 name expr) Q E s:=by
  obtain⟨od,J,hl⟩:=I.look;exact PySem.W.get_value X J (PySem.W.plainGet_of hg).1 (PySem.W.findObj_own hh ha rfl (by rw[hl,hv])) hv' h
theorem WO{pl:Sem Bool}{Q:Value×List Value->Shared->Prop}(X:K.In s.heap)(I:Wo s.heap x dx C mA)(hg:PySem.W.plainGet K C name=true)
    (hf:PySem.W.findIn K 4e2 name=some (some 7e4)) (ht:PySem.W.isFn K 7e4=true) (hv:mA name=none) (h:Q (.ref f,[.ref x]) s) :
    wpAny 2e1 A (getMethod 7e5 name pl) Q E s:=by
  obtain⟨od,J,hl⟩:=I.look;exact PySem.W.method_fn X J (PySem.W.plainGet_of hg).1 (PySem.W.plainGet_of hg).2 hf (beq_iff_eq.mp ht) (by show(PySem.W.lookIn name od).map (·.isSome)=some false;rw[hl,hv];rfl) h
theorem Zo{ns:List Str}{Q:Unit->Shared->Prop}(X:K.In s.heap)(I:Wo s.heap x dx C mA)
    (hs:PySem.W.findIn K 4e2 "__setattr__" = some (some (.builtin "object.__setattr__"))) (hp:PySem.W.plainOver K C=true) (ht:PySem.W.takerIn K C name=some none) (hh:PySem.W.hasDictIn K C=true)
    (hw:PySem.Within mA ns) (hsz:ns.length<=sizeLine)
    (h:∀ h',Wo h' x dx C (λy=>if y=name then some v else mA y)->Heap.SameBut dx s.heap h'->Q () {s with heap:=h',toks:=s.toks+2}) :
    wpAny 2e1 A (setAttr 7e5 name v) Q E s:=by
  obtain⟨od,J,hl⟩:=I.look;refine PySem.W.set_plain X J hs (PySem.W.osa_open (s:={s with toks:=s.toks+1}) (r:=none) X J hp ht λb=>?_);obtain⟨cd,hc,hd'⟩:=PySem.W.any_some hh;have hx:s.heap.get? x=some ⟨.ref C,some dx,.plain,#[]⟩:=I.obj;refine wpAny_bind (wpAny_pure (wpAny_bind (wpAny_bind (wpAny_loadPart hx (wpAny_bind (PySem.W.Looks.here (s:={s with toks:=s.toks+1}) (PySem.W.looks_clsIn X hc) ?_))))));rw[hd'];refine wpAny_pure (a:=some dx) (wpAny_bind (wpAny_pure (wpAny_bind ?_)));refine wpAny_nsSet1 (s:={s with toks:=s.toks+1}) I.ns λh' hn2 hs2=>?_;obtain⟨oD,esD,epD,hoD,hdD,hcD⟩:=hn2.count (PySem.Within.cons name v hw);refine wpAny_bind (wpAny_lookBehind hoD (by rw[hdD];exact pastItsLine_dict (aqk hcD (by rw[aqo];omega))) ?_);exact wpAny_pure (h _ ⟨(hs2.2 _ (aqe I.ne)).trans I.obj,hn2,I.ne⟩ hs2)
theorem WQ{R:Result->Shared->Prop}{vs:List Value}{kw:List (Str×Value)}(X:K.In s.heap)(hm:PySem.W.makesIn K C=true)
    (hi:PySem.W.findIn K 4e2 "__init__" = some (some 7e4)) (hf:PySem.W.typeIn K 7e4=some (.type "function"))
    (h:codeAny 2e1 (A.under (.builtin "type.__call__" ⟨.ref C::vs,kw⟩)) (.call 7e4 ⟨.ref 2e9::vs,kw⟩) (PySem.W.InitBack 2e9 R)
      {s with heap:=(s.heap.push PySem.W.emptyDict).push (PySem.W.instObj C s.heap.objs.size)}) :
    codeAny 2e1 A (.call 4e2 ⟨vs,kw⟩) R s:=by
  obtain⟨hh,g,d,t,os⟩:=s;exact PySem.W.make_core (PySem.W.makes_of X hm) (PySem.W.looks_findIn X hi) (λself=>PySem.W.bind_fn X self hf) 3e6 h
end
noncomputable def jJ(f:Str)(v:V):List (Str×V)->List (Str×V)
  | []=>[(f,v)]
  | (g,x)::r=>if g=f then(g,v)::r else(g,x)::jJ f v r
theorem GB(f g:Str)(v:V):∀ fs:List (Str×V),(jJ f v fs).lookup g=if g=f then some v else fs.lookup g
  | []=>by
    show List.lookup g [(f,v)]=_;by_cases h:g=f
    · have hb:(g == f)=true:=beq_iff_eq.mpr h
      simp only[List.lookup,hb,if_pos h]
    · have hb:(g == f)=false:=beq_eq_false_iff_ne.mpr h
      simp only[List.lookup,hb,if_neg h]
  | (k,x)::r=>by
    have ih:=GB f g v r;rw[show jJ f v ((k,x)::r)=(if k=f then(k,v)::r else(k,x)::jJ f v r) from rfl];by_cases hk:k=f
    · rw[if_pos hk]
      by_cases h:g=k
      · have hb:(g == k)=true:=beq_iff_eq.mpr h
        simp only[List.lookup,hb,if_pos (h.trans hk)]
      · have hb:(g == k)=false:=beq_eq_false_iff_ne.mpr h
        simp only[List.lookup,hb,if_neg (λe:g=f=>h (e.trans hk.symm))]
    · rw[if_neg hk]
      by_cases h:g=k
      · have hb:(g == k)=true:=beq_iff_eq.mpr h
        simp only[List.lookup,hb,if_neg (λe:g=f=>hk (h.symm.trans e))]
      · have hb:(g == k)=false:=beq_eq_false_iff_ne.mpr h
        simp only[List.lookup,hb];exact ih
theorem Gg(f:Str)(v:V):∀ fs:List (Str×V),f∈(jJ f v fs).map (·.1)/\∀ g,g∈fs.map (·.1)->g∈(jJ f v fs).map (·.1)
  | []=>⟨by simp[jJ],λg h=>by simp at h⟩
  | (k,x)::r=>by
    obtain⟨i1,i2⟩:=Gg f v r;rw[show jJ f v ((k,x)::r)=(if k=f then(k,v)::r else(k,x)::jJ f v r) from rfl];by_cases hk:k=f
    · rw[if_pos hk]
      subst hk;exact⟨by simp,λg h=>by simpa using h⟩
    · rw[if_neg hk]
      refine⟨?_,λg h=>?_⟩
      · rw[aqd]
        exact ap8 _ i1
      · rw[aqd]at h ⊢
        rcases aqi.mp h with e|e
        · exact aqi.mpr (.inl e)
        · exact ap8 _ (i2 g e)
theorem GC(f:Str)(v:V):∀ fs:List (Str×V),(jJ f v fs).length<=fs.length+1
  | []=>by simp[jJ]
  | (k,x)::r=>by
    have ih:=GC f v r;rw[show jJ f v ((k,x)::r)=(if k=f then(k,v)::r else(k,x)::jJ f v r) from rfl];by_cases hk:k=f
    · rw[if_pos hk,aqo,aqo];omega
    · rw[if_neg hk,aqo,aqo];omega
theorem Bj.some_of{v:V}{o:Option Value}(r:Bj (some v) o):∃ u,o=some u/\RelV v u:=by
  cases o with
  | none=>exact(show False from r).elim
  | some u=>exact⟨u,rfl,r⟩
theorem Bj.none_of{o:Option Value}(r:Bj none o):o=none:=by
  cases o with
  | none=>rfl
  | some u=>exact(show False from r).elim
theorem Vt{v:V}{u:Value}(r:RelV v u):PySem.W.handedIn u=true:=by
  cases v with
  | non=>cases (show u=Value.none from r);rfl
  | bl b=>cases (show u=Value.bool b from r);rfl
  | int i=>obtain⟨t,e⟩:=(show ∃ t,u=Value.int i t from r);cases e;rfl
  | str x=>obtain⟨t,e⟩:=(show ∃ t,u=Value.str x t from r);cases e;rfl
  | byt b=>obtain⟨t,e⟩:=(show ∃ t,u=Value.bytes b t from r);cases e;rfl
  | flt b=>obtain⟨t,e⟩:=(show ∃ t,u=Value.float b t from r);cases e;rfl
  | ref a=>cases (show u=Value.ref a from r);rfl
  | ty n=>cases (show u=Value.type n from r);rfl
section
variable{P:Program}{w:World}{H H':Hp}{h h':Heap}{a C dx:Addr}{fs fs':List (Str×V)}
theorem OU(hok:HOk P w H h)(e:H a=some (.ins C dx fs)):∃ mA,Wo h a dx C mA/\(∀ f,Bj (fs.lookup f) (mA f))/\PySem.Within mA (fs.map (·.1))/\fs.length<=1000/\H dx=some (.own a):=by
  obtain⟨d,z,ne,ob,mA,n,r,q⟩:=(show jk P w H h a (.ins C dx fs) from hok a _ e);exact⟨mA,⟨ob,n,ne⟩,r,q,z,d⟩
end
structure Cls(K:W.Frag)(C:Addr):Prop where
  pg:PySem.W.plainGet K C Str.empty=true
  hd:PySem.W.hasDictIn K C=true
  po:PySem.W.plainOver K C=true
  sa:PySem.W.findIn K 4e2 "__setattr__" = some (some (.builtin "object.__setattr__"))
theorem Cls.get{K:W.Frag}{C:Addr}(c:Cls K C)(f:Str):PySem.W.plainGet K C f=true:=c.pg
noncomputable def ft(K:W.Frag)(C:Addr)(f:Str):Prop:=PySem.W.findIn K 4e2 f=some none
theorem ft.ad6{K:W.Frag}{C:Addr}{f:Str}(n:ft K C f):PySem.W.takerIn K C f=some none:=by
  unfold PySem.W.takerIn;rw[show PySem.W.findIn K 4e2 f=some none from n];rfl
structure Meth(K:W.Frag)(C:Addr)(m:Str)(f:Addr):Prop where
  at_:PySem.W.findIn K 4e2 m=some (some 7e4)
  fn:PySem.W.isFn K 7e4=true
  kp:PySem.W.keepIn K 7e4=true
section
variable{X:Cx}{pins:List (Addr×Obj)}{σ:St}{H:Hp}{s:Shared}{a C dx:Addr}{fs:List (Str×V)}{f:Str}{v:V}{A:Around}{E:Value->Shared->Prop}
theorem Sg{b:Bool}{Q:Value->Shared->Prop}(I:Inv X pins σ H s)(e:H a=some (.ins C dx fs))(c:Cls X.K C)(n:ft X.K C f)(l:fs.lookup f=some v)
    (h:∀ u s',Inv X pins σ H s'->RelV v u->Q u s'):wpAny 1e7 A (getAttr 8e5 f b) Q E s:=by
  obtain⟨mA,O,r,_,_,_⟩:=OU I.hok e;obtain⟨u,hu,ru⟩:=Bj.some_of (v:=v) (o:=mA f) (by rw[<-l];exact r f);exact get_map I.kIn O (c.get f) c.hd n hu (Vt ru) (h u _ (I.tok _) ru)
theorem JV{m:Str}{g:Addr}{pl:Sem Bool}{Q:Value×List Value->Shared->Prop}(I:Inv X pins σ H s)(e:H a=some (.ins C dx fs))(c:Cls X.K C)(k:Meth X.K C m g)(l:fs.lookup m=none)
    (h:Q (.ref g,[.ref a]) s):wpAny 1e7 A (getMethod 8e5 m pl) Q E s:=by
  obtain⟨mA,O,r,_,_,_⟩:=OU I.hok e;have hn:mA m=none:=Bj.none_of (by rw[<-l];exact r m);exact WO I.kIn O (c.get m) k.at_ k.fn hn h
theorem Sh{y:V}{u:Value}{Q:Unit->Shared->Prop}(I:Inv X pins σ H s)(e:H a=some (.ins C dx fs))(c:Cls X.K C)(n:ft X.K C f)(hl:fs.length<1000)(ry:RelV y u)
    (h:∀ s',Inv X pins σ (upd H a (.ins C dx (jJ f y fs))) s'->Q () s'):wpAny 1e7 A (setAttr 8e5 f u) Q E s:=by
  obtain⟨mA,O,r,wi,_,ho⟩:=OU I.hok e;have hz:(fs.map (·.1)).length<=sizeLine:=by rw[apR,sizeLine_eq];omega
  refine Zo I.kIn O c.sa c.po n.ad6 c.hd wi hz λh' O' sb=>h _ ?_;have hd:∃ o,h'.get? dx=some o:=let ⟨o,_,_,e',_⟩:=O'.ns;⟨o,e'⟩;refine I.write (x:=a) (e:=dx) (by rw[e];exact True.intro) (.inr ho) (λb q hb z=>(sb.2 b hb).trans z) hd ?_;refine⟨by rw[ah O.ne];exact ho,?_,O.ne,O'.obj,_,O'.ns,λg=>?_,λg hg=>?_⟩
  · have:=GC f y fs;omega
  · show Bj ((jJ f y fs).lookup g) (if g=f then some u else mA g)
    rw[GB];by_cases q:g=f
    · rw[if_pos q,if_pos q];exact ry
    · rw[if_neg q,if_neg q];exact r g
  · by_cases q:g=f
    · rw[q];exact(Gg f y fs).1
    · refine(Gg f y fs).2 g (wi g λz=>hg ?_)
      show(if g=f then some u else mA g)=none;rw[if_neg q];exact z
theorem Inv.made(I:Inv X pins σ H s):Inv X pins σ (upd (upd H s.heap.objs.size (.own 2e9)) 2e9 (.ins C s.heap.objs.size []))
    {s with heap:=(s.heap.push PySem.W.emptyDict).push (PySem.W.instObj C s.heap.objs.size)}:=by
  have e1:(s.heap.push PySem.W.emptyDict).get? s.heap.objs.size=some PySem.W.emptyDict:=aqr s.heap rfl;have e2:((s.heap.push PySem.W.emptyDict).push (PySem.W.instObj C s.heap.objs.size)).get? 2e9=some (PySem.W.instObj C s.heap.objs.size):=by
    have:=aqr (s.heap.push PySem.W.emptyDict) (o:=PySem.W.instObj C s.heap.objs.size) rfl
    rwa[arh]at this
  have e3:(s.heap.push PySem.W.emptyDict).Ns s.heap.objs.size (λ_=>none):=⟨PySem.W.emptyDict,#[],_,e1,rfl,(λe he=>absurd he 2e5),λ_=>rfl⟩;have I1:=I.laid (a:=s.heap.objs.size) (o:=.own 2e9) (h':=s.heap.push PySem.W.emptyDict) (t':=s.toks) (λb u q=>apY _ q) (apV _) ⟨_,e1⟩;refine I1.laid (a:=s.heap.objs.size+1) (o:=.ins C s.heap.objs.size []) (t':=s.toks) (λb u q=>apY _ q) (Nat.le_of_eq (arh _ _)) ?_;have ne:s.heap.objs.size≠s.heap.objs.size+1:=aqb (ary _);refine⟨by rw[ah ne,ag],aqu _,ne,e2,λ_=>none,(Heap.Ns1.of_empty e3).at λo q=>apY _ q,λ_=>True.intro,λy hy=>absurd rfl hy⟩
theorem Zp{prog:Program}{w:World}{env:Env}{e:Expr}{f:Str}{pos:Pos}{s:Shared}{Q:Value->Shared->Prop}(hb:attributeBase e f env (eval e env)=eval e env)
    (h:wpAny 2e1 A (eval e env) (λo s₁=>wpAny 2e1 A (getAttr o f true) Q E s₁) E s):wpAny 2e1 A (eval (.Attribute e f pos) env) Q E s :=
  Attribute_any_ h (by rw[arm_eval_Attribute,hb])
end
noncomputable def ae5(K:W.Frag)(ta:TE)(f:Str):TE:=λσ H Q=>ta σ H λx H1=>∃ a C dx fs v,x=.ref a/\H1 a=some (.ins C dx fs)/\Cls K C/\ft K C f/\fs.lookup f=some v/\Q v H1
noncomputable def alJ(K:W.Frag)(ta tv:TE)(f:Str):TS:=λD σ H=>tv σ H λy H1=>ta σ H1 λx H2=>∃ a C dx fs,x=.ref a/\H2 a=some (.ins C dx fs)/\Cls K C/\ft K C f/\fs.length<1000 /\
  D.nx σ (upd H2 a (.ins C dx (jJ f y fs)))
section
variable{X:Cx}{o e value:Expr}{f:Str}{pos pos' alK:Pos}{ta tv:TE}
theorem aL(he:PE X e ta)(hb:attributeBase e f X.env (eval e X.env)=eval e X.env):PE X (.Attribute e f pos) (ae5 X.K ta f):=by
  intro pins s σ H Q I h;refine Zp hb (thn 5e1 λu s1 ⟨x,H1,I1,rx,a,C,dx,fs,v,ex,ea,c,n,l,q⟩=>?_);subst ex;obtain rfl:u=Value.ref a:=rx;exact Sg I1 ea c n l λu' s2 I2 ru=>⟨v,H1,I2,ru,q⟩
theorem ja(ha:PE X o ta)(hv:PE X value tv)(hs:swapsWith value (some (.Attribute o f pos')) pos.line X.env=pure false):PS X (.Assign [.Attribute o f pos'] value pos) (alJ X.K ta tv f):=by
  intro pins s σ H D I h;refine plainObj_wpAny_Assign_Attribute (thn (hv pins s σ H _ I h) λu s1 ⟨y,H1,I1,ry,q⟩=>thn (ha pins s1 σ H1 _ I1 q) λov s2 ⟨x,H2,I2,rx,a,C,dx,fs,ex,ea,c,n,l,q2⟩=>?_) hs;subst ex;obtain rfl:ov=Value.ref a:=rx;exact Sh I2 ea c n l ry λs3 I3=>⟨σ,_,I3,q2⟩
end
section
variable{X:Cx}{pins:List (Addr×Obj)}{σ:St}{H:Hp}{s:Shared}{A:Around}{E:Value->Shared->Prop}{Q:Value->Shared->Prop}{c:Value}{b:Bool}
end
end L2
namespace L2
open PySem PySem.Spec PyProof.Rows
structure lO(k:Nat)(A:Around):Prop where
  hd:A.handled=none
  dp:A.depth+3*k+5<recursionLimit
  un:A.units+16*k+200<cLine
theorem lO.mono{j k:Nat}{A:Around}(r:lO k A)(h:j<=k):lO j A:=⟨r.hd,by have:=r.dp;omega,by have:=r.un;omega⟩
theorem lO.deeper{k:Nat}{A:Around}(r:lO (k+1) A)(env:Env):lO k (A.deeper env) :=
  ⟨r.hd,by have:=r.dp;show A.depth+1+3*k+5<_;omega,by have:=r.un;show A.units+3+16*k+200<_;omega⟩
theorem Si{A:Around}{C:Addr}{us:List Value}{kw:List (Str×Value)}:(A.under (.builtin "type.__call__" ⟨.ref C::us,kw⟩)).depth=A.depth+1:=by
  first|rfl|simp[Around.under,Code.weight,Code.isCreation,Code.isGuard,Code.isCaller,Code.frames,Code.isFrame,guardIds]
theorem Sj{A:Around}{C:Addr}{us:List Value}{kw:List (Str×Value)}:(A.under (.builtin "type.__call__" ⟨.ref C::us,kw⟩)).units=A.units+1:=by
  first|rfl|simp[Around.under,Code.cUnits,Code.frames,Code.isFrame]
theorem lO.make{k:Nat}{A:Around}(r:lO (k+1) A)(C:Addr)(us:List Value)(kw:List (Str×Value)):lO k (A.under (.builtin "type.__call__" ⟨.ref C::us,kw⟩)) :=
  ⟨r.hd,by have:=r.dp;rw[Si];omega,by have:=r.un;rw[Sj];omega⟩
theorem lO.depth{k:Nat}{A:Around}(r:lO k A):A.depth<recursionLimit:=by have:=r.dp;omega
theorem lO.units{k:Nat}{A:Around}(r:lO k A):A.units+64<cLine:=by have:=r.un;omega
theorem lO.abp{k:Nat}{A:Around}(r:lO k A):A.units<cLine:=by have:=r.un;omega
noncomputable def OV:TA:=λ_ H Q=>Q [] H
noncomputable def j3(ta:TE)(tr:TA):TA:=λσ H Q=>ta σ H λx H1=>tr σ H1 λxs H2=>Q (x::xs) H2
section
variable{X:Cx}{e:Expr}{es:List Expr}{te:TE}{t:TA}{pos:Pos}
theorem ak:PA X [] OV:=λ_ _ _ _ H Q I h=>arL ⟨[],H,I,.nil,h⟩
theorem aa(ha:PE X e te)(hr:PA X es t)(hs:starEach (e::es) X.env=(false,eval e X.env)::starEach es X.env:=by rfl):PA X (e::es) (j3 te t):=by
  intro pos pins s σ H Q I h;rw[hs];show wpAny _ _ (spliced ((false,eval e X.env)::backTo pos (starEach es X.env))) _ _ s;refine arn (thn (ha pins s σ H _ I h) λu s1 ⟨x,H1,I1,r1,q1⟩=>?_);exact thn (hr pos pins s1 σ H1 _ I1 q1) λus s2 ⟨xs,H2,I2,r2,q2⟩=>⟨x::xs,H2,I2,.cons r1 r2,q2⟩
noncomputable def Wq(t:TA):TE:=λσ H Q=>t σ H λxs H1=>xs.length<=sizeLine/\∀ p,H1 p=none->Q 4e7 (upd H1 p (.tup xs))
noncomputable def ae6(t:TA):TE:=λσ H Q=>t σ H λxs H1=>xs.length<=sizeLine/\∀ p,H1 p=none->Q 4e7 (upd H1 p 5e6)
theorem cg{x1}(h:PA X es t):PE X (.Tuple es x1 pos) (Wq t):=by
  intro pins s σ H Q I hq;refine wpAny_Tuple_spliced (thn (h pos pins s σ H _ I hq) λus s1 ⟨xs,H1,I1,r,z,q⟩=>⟨by rw[<-r.length];exact z,?_⟩);have hf:H1 s1.heap.objs.size=none:=I1.hok.fresh (apV _);refine⟨.ref s1.heap.objs.size,upd H1 s1.heap.objs.size (.tup xs),I1.laid (t':=s1.toks) (λb u e=>apY _ e) (apV _) ?_,rfl,q _ hf⟩;exact⟨z,us,r,⟨_,aqr _ rfl,rfl,_,rfl⟩⟩
theorem qa(h:PA X es t):PE X (.List es pos) (ae6 t):=by
  intro pins s σ H Q I hq;refine wpAny_List_spliced (thn (h pos pins s σ H _ I hq) λus s1 ⟨xs,H1,I1,r,z,q⟩=>⟨by rw[<-r.length];exact z,?_⟩);have hf:H1 s1.heap.objs.size=none:=I1.hok.fresh (apV _);refine⟨.ref s1.heap.objs.size,upd H1 s1.heap.objs.size 5e6,I1.laid (t':=s1.toks) (λb u e=>apY _ e) (apV _) ?_,rfl,q _ hf⟩;exact⟨z,us,0,r,aqr _ rfl⟩
end
noncomputable abbrev Sp:=List V->Hp->VK->XK->Prop
noncomputable abbrev CXT:=List Env->Hp->Shared->XK->Value->Shared->Prop
structure Sk(P:Program)(w:World)(K:W.Frag)(mg:Str->Option Value)(base:Heap)(A:Around)(outer:List Env)(s:Shared)(H:Hp):Prop where
  frames:A.frames=some outer
  mod:Mod K mg base
  bs:∀ b o,base.get? b=some o->s.heap.get? b=some o/\H b=none
  bsz:base.objs.size<=s.heap.objs.size
  Eg:s.heap.FunFrames base outer
  frf:∀ b∈frs outer,H b=none
  hok:HOk P w H s.heap
  bare:AllBare s.gens
noncomputable def CE(outer:List Env)(P:Program)(w:World)(H:Hp)(s:Shared)(Q:VK)(u:Value)(s':Shared):Prop :=
  ∃ v H',s'.os=s.os/\AllBare s'.gens/\Un (frs outer) [] H H' s.heap s'.heap/\HOk P w H' s'.heap/\RelV v u/\Q v H'
noncomputable def CR(CX:CXT)(outer:List Env)(P:Program)(w:World)(H:Hp)(s:Shared)(Q:VK)(E:XK)(r:Result)(s':Shared):Prop :=
  match r with
  | .ok (.ret u)=>CE outer P w H s Q u s'
  | .ok _=>False
  | .error e=>CX outer H s E e s'
structure Ej(P:Program)(w:World)(K:W.Frag)(mg:Str->Option Value)(base:Heap)(CX:CXT)(k:Nat)(f:Addr)(fd:FuncData)(ps:List Str)(sp:Sp):Prop where
  len:∀ vs H Q E,sp vs H Q E->vs.length=ps.length
  run:∀(A:Around) (outer:List Env) (s:Shared) (H:Hp) (args:Args) (us:List Value) (vs:List V) (Q:VK) (E:XK),lO k A->Sk P w K mg base A outer s H->BindsTo s fd args (ps.zip us)->Vals vs us->sp vs H Q E ->
    codeAny 8e2 A (.call 7e4 args) (CR CX outer P w H s Q E) s
theorem Sk.make{P:Program}{w:World}{K:W.Frag}{mg:Str->Option Value}{base:Heap}{A:Around}{outer:List Env}{s:Shared}{H:Hp}(e:Sk P w K mg base A outer s H)(C:Addr)(us:List Value)(kw:List (Str×Value)) :
    Sk P w K mg base (A.under (.builtin "type.__call__" ⟨.ref C::us,kw⟩)) outer s H:=⟨by first|exact e.frames|(simpa[Around.under,Code.envs,Code.isFrame,pushEnvs] using e.frames),e.mod,e.bs,e.bsz,e.Eg,e.frf,e.hok,e.bare⟩
section
variable{X:Cx}{pins:List (Addr×Obj)}{σ:St}{H:Hp}{s s':Shared}
theorem Inv.aaC(I:Inv X pins σ H s):Sk X.prog X.w X.K X.mg X.base X.A X.stack s H :=
  ⟨I.ok.frames,I.ok.mod,I.bs,aqk I.ok.bsz I.sz,I.stack,I.Eh,I.hok,I.bare⟩
theorem Inv.after{Q:VK}{u:Value}(I:Inv X pins σ H s)(h:CE X.stack X.prog X.w H s Q u s'):EP X pins σ Q u s':=by
  obtain⟨v,H',os,bare,un,hok,r,q⟩:=h;obtain⟨hh,g,d,t,os'⟩:=s';obtain rfl:os'=s.os:=os;exact⟨v,H',I.call (h':=hh) (g':=g) (d':=d) (t':=t) (ch:=[]) un hok bare (λb z=>absurd z 2e5),r,q⟩
end
noncomputable def aaD(C:Addr)(sp:Sp)(dvs:List V)(E:XK)(t:TA):TE:=λσ H Q=>t σ H λvs H1=>∀ x dx,H1 x=none->H1 dx=none->dx≠x ->
  sp (.ref x::(vs++dvs)) (upd (upd H1 dx (.own x)) x (.ins C dx [])) (λv H2=>v=.non/\Q 7e5 H2) E
noncomputable def Binds(K:W.Frag)(fd:FuncData)(ps:List Str)(ds:List Value):Prop :=
  ∀(s:Shared) (us:List Value),K.In s.heap->(us++ds).length=ps.length->BindsTo s fd ⟨us,[]⟩ (ps.zip (us++ds))
theorem Binds.all{K:W.Frag}{fd:FuncData}{ps:List Str}(h:∀ us:List Value,us.length=ps.length->bindArgs fd ⟨us,[]⟩=pure (ps.zip us)):Binds K fd ps []:=λs us _ hl=>by
  rw[aq8]at hl ⊢;exact .of_eq (h us hl)
noncomputable def Passes(CX:CXT)(X:Cx)(E:XK):Prop:=∀(pins:List 4e3) (σ:St) (H:Hp) (s:Shared) (e:Value) (s':Shared),Inv X pins σ H s->CX X.stack H s E e s'->X.xe e s'
section
variable{X:Cx}{CX:CXT}{k:Nat}{f C:Addr}{fd:FuncData}{ps:List Str}{sp:Sp}{dvs:List V}{ds:List Value}{E:XK}{x m:Str}{p pos apos:Pos}{e o:Expr}{es:List Expr}{ta:TE}{t:TA}
structure Mk(K:W.Frag)(C f:Addr):Prop where
  makes:PySem.W.makesIn K C=true
  init:PySem.W.findIn K 4e2 "__init__" = some (some 7e4)
  fn:PySem.W.isFn K 7e4=true
  kp:PySem.W.keepIn K 4e2=true
theorem Rb{pins:List (Addr×Obj)}{σ:St}{H:Hp}{s:Shared}{Q:VK}{us:List Value}{vs:List V}(M:Mk X.K C f)(F:Ej X.prog X.w X.K X.mg X.base CX k f fd ps sp)(hr:lO (k+1) X.A)(hb:Binds X.K fd ps ds)(hd:Vals dvs ds)
    (hx:Passes CX X E) (I:Inv X pins σ H s) (r:Vals vs us)
    (h:∀ x dx,H x=none->H dx=none->dx≠x->sp (.ref x::(vs++dvs)) (upd (upd H dx (.own x)) x (.ins C dx [])) (λv H2=>v=.non/\Q 7e5 H2) E) :
    wpAny 1e7 X.A (call 4e2 us) 4e8 X.xe s:=by
  have hq:=h 2e9 s.heap.objs.size (I.hok.fresh (arD _)) (I.hok.fresh (apV _)) (aqb (ary _));have I2:=Inv.made (C:=C) I;have r2:Vals (V.ref 2e9::(vs++dvs)) (Value.ref 2e9::(us++ds)):=.cons rfl (r.append hd);have hl:(Value.ref 2e9::us++ds).length=ps.length:=by
    have e:=r2.length;rw[F.len _ _ _ _ hq]at e;exact e.symm
  refine wpAny_call (WQ (f:=f) I.kIn M.makes M.init (beq_iff_eq.mp M.fn) (codeAny_mono (F.run _ X.stack _ _ ⟨Value.ref 2e9::us,[]⟩ (Value.ref 2e9::(us++ds)) _ _ E (hr.make C us [])
    (I2.aaC.make C us []) (hb _ (Value.ref 2e9::us) I2.kIn hl) r2 hq) λr s' hq'=>?_))
  cases r with
  | error e=>exact hx pins σ _ _ e s' I2 hq'
  | ok fl =>
    cases fl with
    | ret u =>
      obtain⟨v,H',I3,rv,ev,q3⟩:=I2.after hq';subst ev;exact⟨rv,⟨V.ref 2e9,H',I3,rfl,q3⟩⟩
    | next=>exact False.elim hq'
    | brk=>exact False.elim hq'
    | cont=>exact False.elim hq'
theorem OW(M:Mk X.K C f)(F:Ej X.prog X.w X.K X.mg X.base CX k f fd ps sp)(hr:lO (k+1) X.A)(hg:Gl X x)(hm:X.mg x=some (.ref C))(hb:Binds X.K fd ps ds)(hd:Vals dvs ds)(hx:Passes CX X E)
    (ha:PA X (e::es) t) (hdb:(x == ("__debug__" : Str))=false:=by decide) (he:starEach (e::es) X.env=(false,eval e X.env)::starEach es X.env:=by rfl) (hpl:(backTo pos (starEach es X.env)).any (·.1)=false:=by rfl) :
    PE X (.Call (.Name x p) (e::es) [] pos) (aaD C sp dvs E t):=by
  intro pins s σ H Q I h;refine wpAny_Call_Name_kw (tV I hg hm ?_ hdb);refine PySem.W.callWith_K (h₀:=X.base) I.ok.mod.kin M.kp (thn 1e11 λus s1 ⟨vs,H1,I1,r,q⟩=>⟨I1.kIn,?_⟩) he hpl;exact Rb M F hr hb hd hx I1 r q
theorem KD(M:Mk X.K C f)(F:Ej X.prog X.w X.K X.mg X.base CX k f fd ps sp)(hr:lO (k+1) X.A)(hg:Gl X x)(hm:X.mg x=some (.ref C))(hb:Binds X.K fd ps ds)(hd:Vals dvs ds)(hx:Passes CX X E)
    (hdb:(x == ("__debug__" : Str))=false:=by decide):PE X (.Call (.Name x p) [] [] pos) (aaD C sp dvs E OV):=by
  intro pins s σ H Q I h;refine wpAny_Call_Name_kw (tV I hg hm ?_ hdb);exact PySem.W.callWith_K0 I.kIn M.kp (Rb (us:=[]) M F hr hb hd hx I .nil h)
end
section
variable{X:Cx}{CX:CXT}{k:Nat}{f C:Addr}{fd:FuncData}{ps ks:List Str}{sp:Sp}{E:XK}{x m:Str}{p pos apos apP:Pos}{e o:Expr}{es:List Expr}{kws:List Keyword}{te ta:TE}{t tk:TA}{nm:Option Str}
variable{g:List Value->List Value->List Value}{gV:List V->List V->List V}
end
structure aw(N P:List Str)(sc:Scope):Prop where
  kind:sc.kind=.function
  co:sc.isCoroutine=false
  gen:sc.isGenerator=false
  nd:N.Nodup
  pre:N.take P.length=P
  par:∀ x∈P,sc.names.lookup x=some .local\/sc.names.lookup x=some .cell
  abq:∀ y∈sc.names,y.2≠.free
theorem Mr{kindOf:Str->Option NameKind}{x:Str}:∀ {binds:List (Str×Value)} {m:Str->Option Value},(∀ v,(x,v)∉binds)->bindL kindOf binds m x=m x
  | [],_,_=>rfl
  | (n,v)::r,m,h=>by
    unfold bindL;rw[Mr λw hw=>h w (ap8 _ hw)];split
    · have:x≠n:=by rintro rfl;exact h v ap7
      simp[this]
    · rfl
theorem Mu{kindOf:Str->Option NameKind}{x:Str}:∀ {binds:List (Str×Value)} {m:Str->Option Value},(∀ v,(x,v)∉binds)->bindC kindOf binds m x=m x
  | [],_,_=>rfl
  | (n,v)::r,m,h=>by
    unfold bindC;rw[Mu λw hw=>h w (ap8 _ hw)];split
    · rfl
    · have:x≠n:=by rintro rfl;exact h v ap7
      simp[this]
theorem Mv{kindOf:Str->Option NameKind}{x:Str}{v:Value}:∀ {P:List Str} {vs:List Value} {i:Nat} {m:Str->Option Value},P.Nodup->P[i]?=some x->vs[i]?=some v->kindOf x=some .local ->
    bindL kindOf (P.zip vs) m x=some v
  | [],_,_,_,_,h,_,_=>by simp at h
  | _::_,[],_,_,_,_,h,_=>by simp at h
  | p::P,w::vs,0,m,nd,h1,h2,hk=>by
    simp at h1 h2;subst h1;subst h2;show bindL kindOf ((p,w)::P.zip vs) m p=_;unfold bindL;rw[Mr λv hv=>(aqP.mp nd).1 (arE hv).1,if_pos hk];simp
  | p::P,w::vs,i+1,m,nd,h1,h2,hk=>by
    show bindL kindOf ((p,w)::P.zip vs) m x=_;unfold bindL;exact Mv (i:=i) (aqP.mp nd).2 (by simpa using h1) (by simpa using h2) hk
theorem My{kindOf:Str->Option NameKind}{x:Str}{v:Value}:∀ {P:List Str} {vs:List Value} {i:Nat} {m:Str->Option Value},P.Nodup->P[i]?=some x->vs[i]?=some v->kindOf x≠some .local ->
    bindC kindOf (P.zip vs) m x=some v
  | [],_,_,_,_,h,_,_=>by simp at h
  | _::_,[],_,_,_,_,h,_=>by simp at h
  | p::P,w::vs,0,m,nd,h1,h2,hk=>by
    simp at h1 h2;subst h1;subst h2;show bindC kindOf ((p,w)::P.zip vs) m p=_;unfold bindC;rw[Mu λv hv=>(aqP.mp nd).1 (arE hv).1,if_neg hk];simp
  | p::P,w::vs,i+1,m,nd,h1,h2,hk=>by
    show bindC kindOf ((p,w)::P.zip vs) m x=_;unfold bindC;exact My (i:=i) (aqP.mp nd).2 (by simpa using h1) (by simpa using h2) hk
noncomputable def start(N:List Str)(vs:List V):St:=vs.map some++List.replicate (N.length-vs.length) none
noncomputable def Wr(CX:CXT)(P:Program)(w:World)(K:W.Frag)(mg:Str->Option Value)(base:Heap)(N:List Str)(qual:Str)(scope:Scope)(f:Addr)(cd:Value)(A:Around)(outer:List Env)(s:Shared)(H:Hp)(E:XK):Cx where
  prog:=P
  w:=w
  K:=K
  mg:=mg
  base:=base
  A:=A.deeper (envOfC qual scope s.heap.objs.size f cd)
  N:=N
  s₀:=s
  H₀:=H
  env:=envOfC qual scope s.heap.objs.size f cd
  outer:=outer
  stack:=envOfC qual scope s.heap.objs.size f cd::outer
  ex:=[]
  calm:=true
  fn:=λ_=>true
  pn:=[]
  xe:=λe s'=>wpAny 8e2 (A.deeper (envOfC qual scope s.heap.objs.size f cd)) (leaving (envOfC qual scope s.heap.objs.size f cd) e) (λ_ s''=>CX outer H s E e s'') (λe' s''=>CX outer H s E e' s'') s'
theorem Rf{sc:Scope}{n:Nat}{x:Str}(h:sc.names.lookup x=some .cell):∃ c,(cellsFrom n sc.names []).lookup x=some c:=by
  have q:=PySem.W.cellsFrom_some sc.names n [] (.inl h);exact ark.mp q
theorem MA{CX:CXT}{P:Program}{w:World}{K:W.Frag}{mg:Str->Option Value}{base:Heap}{N ps:List Str}{qual:Str}{scope:Scope}{f:Addr}{cd:Value}{A:Around}{outer:List Env}{s s1:Shared}{H:Hp}{E:XK}{us:List Value}{vs:List V}
    (S:aw N ps scope) (hd:A.handled=none) (e0:Sk P w K mg base A outer s H) (hl:vs.length=ps.length) (r:Vals vs us)
    (x:InCallC s s.heap.objs.size (bindL (envOfC qual scope s.heap.objs.size f cd).kindOf (ps.zip us) λ_=>none) (cellsFrom 2e9 scope.names []) (bindC (envOfC qual scope s.heap.objs.size f cd).kindOf (ps.zip us) λ_=>none) s1) :
    Inv (Wr CX P w K mg base N qual scope f cd A outer s H E) [] (start N vs) H s1:=by
  have hpl:ps.length<=N.length:=by have:=congrArg List.length S.pre;rw[ap6]at this;omega
  obtain⟨h1,tk,rfl,hk⟩:=x.done;have noA:∀ b:Addr,b∉(Wr CX P w K mg base N qual scope f cd A outer s H E).ex:=λb z=>absurd (show b∈([]:List Addr) from z) 2e5;refine⟨⟨e0.mod,S.kind,rfl,rfl,apV _,λy z c h1 h2=>?_,λy hy=>?_,λy c _ h=>?_,λ_=>hd,Around.frames_deeper e0.frames,.inr ⟨rfl,rfl⟩,λb z=>absurd z (noA b),e0.bs,e0.bsz,λb _ _=>noA b,λb z=>absurd z (noA b),e0.Eg,e0.frf⟩,
    rfl,e0.bare,Un.kept hk,⟨_,x.toInCall.ns,λi y v h1 h2 h3=>?_⟩,λy c h=>⟨_,x.cell y c h⟩,e0.hok.fresh (apV _),λy c h=>?_,λp hp=>absurd (show p∈([]:List 4e3) from hp) 2e5,e0.hok.kept hk,?_⟩
  · exact name_of_addr x.apart (aqG h1) (aqG h2)
  · have hy:scope.names.lookup y=some .cell\/scope.names.lookup y=some .free:=hy
    rcases hy with hy|hy
    · exact Rf hy
    · exact absurd rfl (S.abq _ (aqG hy))
  · exact arI (x.above y c (aqG h))
  · have hi:i<vs.length:=by
      unfold start at h2;by_cases hi:i<vs.length
      · exact hi
      · rw[aqs (by simpa using hi)]at h2
        rw[List.getElem?_replicate]at h2;split at h2<;>cases h2
    have ha:vs[i]?=some v:=by
      unfold start at h2;rw[aqw (by simpa using hi),apZ]at h2;cases e:vs[i]? with
      | none=>rw[e]at h2;cases h2
      | some a=>rw[e]at h2;cases h2;rfl
    obtain⟨u,hu,rv⟩:=r.get ha;have hp:ps[i]?=some y:=by
      rw[<-S.pre,List.getElem?_take_of_lt 1e1];exact h1
    have ndP:ps.Nodup:=(by rw[<-S.pre];exact S.nd.sublist (List.take_sublist _ _));refine⟨u,rv,?_⟩;rcases S.par y (apW hp) with k|k
    · exact .inl ⟨k,Mv ndP hp hu k⟩
    · obtain⟨c,e⟩:=Rf (n:=s.heap.objs.size+1) k
      refine .inr ⟨.inl k,c,e,?_⟩;have q:=x.cell y c e;rw[My ndP hp hu (by show scope.names.lookup y≠_;rw[k];decide)]at q;exact q
  · exact e0.hok.fresh (arI (x.above y c (aqG h)))
  · unfold start
    show _=N.length;rw[ap4,apR,aqn];omega
theorem ad7{CX:CXT}{P:Program}{w:World}{K:W.Frag}{mg:Str->Option Value}{base:Heap}{k:Nat}{f:Addr}{name qual:Str}{params:Arguments}{body:List Stmt}{scope:Scope}{dV kV doc pm cdv ct oc:Value}{an od:Option Addr}
    {osl:Array (Option Value)} {N ps:List Str} {sp:Sp} (lk:K.lookup f=some ⟨oc,od,.func (PySem.W.fnOf name qual params body scope dV kV doc pm an cdv ct),osl⟩) (hcd:PySem.W.codeIn K cdv qual=true) (S:aw N ps scope)
    (len:∀ vs H Q E,sp vs H Q E->vs.length=ps.length)
    (GZ:∀(A:Around) (outer:List Env) (s:Shared) (H:Hp) (vs:List V) (Q:VK) (E:XK),lO k (A.deeper (envOfC qual scope s.heap.objs.size f cdv))->sp vs H Q E ->
      ∃ t,PSs (Wr CX P w K mg base N qual scope f cdv A outer s H E) body t/\t {nx:=λ_ H'=>Q .non H',rt:=Q} (start N vs) H) :
    Ej P w K mg base CX (k+1) f (PySem.W.fnOf name qual params body scope dV kV doc pm an cdv ct) ps sp:=by
  refine⟨len,λA outer s H args us vs Q E hr e0 hb r hsp=>?_⟩;have hl:=len _ _ _ _ hsp;have KX:K.In s.heap:=e0.mod.kin.keeps λb o e=>(e0.bs b o e).1;have lim:s.heap.NoLimit:=e0.mod.nolimit.keeps λb o e=>(e0.bs b o e).1;have Yx:∀ y∈ps.zip us,scope.names.lookup y.1=some .local\/(scope.names.lookup y.1=some .cell/\((cellsFrom 2e9 scope.names []).lookup y.1).isSome=true):=λ⟨n,v⟩ hy=>by
    rcases S.par n (arE hy).1 with q|q
    · exact .inl q
    · exact .inr ⟨q,PySem.W.cellsFrom_some _ _ _ (.inl q)⟩
  refine codeAny_call_function hr.depth (KX _ _ lk) rfl S.co S.gen rfl (PySem.W.codeRec_of KX hcd) (hb _ _ _ _ ?_);refine wpAny_newFunctionEnv_cells S.kind Yx λenv he s1 x=>?_;subst he;refine⟨lim.keeps x.toInCall.keep,codeAny_func ?_⟩;obtain⟨t,ht,hq⟩:=GZ A outer s H vs Q E (hr.deeper _) hsp;have I:Inv (Wr CX P w K mg base N qual scope f cdv A outer s H E) [] (start N vs) H s1:=MA S hr.hd e0 hl r x;refine wpAny_mono (ht [] s1 (start N vs) H _ I hq) (λfl s' hs=>?_) λe s' hs=>hs;have fin:∀ {σ':St} {H':Hp} {v:V} {u:Value},Inv (Wr CX P w K mg base N qual scope f cdv A outer s H E) [] σ' H' s'->RelV v u->Q v H'->CE outer P w H s Q u s' :=
    λ{σ' H' v u} J rv q=>⟨v,H',J.os,J.bare,J.base,J.hok,rv,q⟩
  cases fl with
  | ret u =>
    obtain⟨v,σ',H',J,rv,q⟩:=hs;exact fin J rv q
  | next =>
    obtain⟨σ',H',J,q⟩:=hs;exact fin (v:=V.non) (u:=Value.none) J rfl q
  | brk =>
    obtain⟨_,_,_,q⟩:=hs;exact False.elim q
  | cont =>
    obtain⟨_,_,_,q⟩:=hs;exact False.elim q
end L2
namespace L2
open PySem PySem.Spec PyProof.Rows
section
variable{X:Cx}{x:Str}{p pos:Pos}{e:Expr}{es:List Expr}{t:TA}{id T:String}{r:List V->Hp->VK->Prop}
noncomputable def tCB(r:List V->Hp->VK->Prop)(t:TA):TE:=λσ H Q=>t σ H λvs H1=>r vs H1 Q
theorem cc(hc:zk X (.builtin id) r)(hg:Gl X x)(hm:X.mg x=none)(hv:bootBuiltins x=some (.builtin id))(ha:PA X (e::es) t)(hn:x ≠ "__name__" := by decide)(hdb:(x == ("__debug__" : Str))=false:=by decide)
    (he:starEach (e::es) X.env=(false,eval e X.env)::starEach es X.env:=by rfl) (hpl:(backTo pos (starEach es X.env)).any (·.1)=false:=by rfl):PE X (.Call (.Name x p) (e::es) [] pos) (tCB r t):=by
  intro pins s σ H Q I h;refine wpAny_Call_Name_kw (K3 I hg hm hv ?_ hn hdb);exact PyProof.Rows.callWith_builtin1 (thn 1e11 λus s1 ⟨vs,H1,I1,r1,q1⟩=>hc pins s1 σ H1 vs us Q I1 r1 q1) he hpl
theorem j6(hc:zk X (.type T) r)(hg:Gl X x)(hm:X.mg x=none)(hv:bootBuiltins x=some (.type T))(ha:PA X (e::es) t)(hn:x ≠ "__name__" := by decide)(hdb:(x == ("__debug__" : Str))=false:=by decide)
    (he:starEach (e::es) X.env=(false,eval e X.env)::starEach es X.env:=by rfl) (hpl:(backTo pos (starEach es X.env)).any (·.1)=false:=by rfl):PE X (.Call (.Name x p) (e::es) [] pos) (tCB r t):=by
  intro pins s σ H Q I h;refine wpAny_Call_Name_kw (K3 I hg hm hv ?_ hn hdb);exact PyProof.Rows.callWith_type1 (thn 1e11 λus s1 ⟨vs,H1,I1,r1,q1⟩=>hc pins s1 σ H1 vs us Q I1 r1 q1) he hpl
end
end L2
namespace HT
open PySem PyProof.Rows
section
open PySem.SeqAt
open PySem.AutoSeq1 (wpAny_loadPart')
open PySem.MeetsSeq PySem.MeetsSeq2 PySem.MeetsSeq3
end
section
variable{prog:Program}{w:World}{A:Around}{E:Value->Shared->Prop}{s:Shared}
noncomputable def sIx(n d:Nat):Option Int->Nat
  | none=>d
  | some v=>if v<0 then(v+(n:Int)).toNat else min v.toNat n
end
end HT
namespace L2
open PySem PySem.Spec PyProof.Rows
noncomputable abbrev TO:=St->Hp->(Option Int->Hp->Prop)->Prop
noncomputable def PO(X:Cx)(e:Option Expr)(t:TO):Prop :=
  ∀(pins:List 4e3) (s:Shared) (σ:St) (H:Hp) (Q:Option Int->Hp->Prop),Inv X pins σ H s->t σ H Q ->
    wpAny 1e7 X.A (evalPart e X.env) (λu s'=>∃ o H',Inv X pins σ H' s'/\IsPart u o/\Q o H') X.xe s
noncomputable def Zq:TO:=λ_ H Q=>Q none H
noncomputable def ad8(t:TE):TO:=λσ H Q=>t σ H λx H1=>∃ i,x=.int i/\Q (some i) H1
theorem intsAre_of{ns:List Int}:∀ {us:List Value},Vals 4e6 us->IntsAre us ns:=by
  induction ns with
  | nil=>intro us r;rw[aq9]at r;cases r;exact .nil
  | cons n ns ih =>
    intro us r;rw[aqd]at r;cases r with
    | cons r1 r2 =>
      obtain⟨t,e⟩:=r1;subst e;exact .cons n t (ih r2)
section
variable{X:Cx}{e:Expr}{te:TE}{lo hi:Option Expr}{tl th:TO}{pos p2:Pos}
theorem Zr:PO X none Zq:=by
  intro pins s σ H Q I h;rw[evalPart_none];exact wpAny_pure ⟨none,H,I,.none,h⟩
theorem Zs(h:PE X e te):PO X (some e) (ad8 te):=by
  intro pins s σ H Q I hw;rw[evalPart_some];refine thn (h pins s σ H _ I hw) λu s1 ⟨x,H1,I1,r1,q1⟩=>?_;obtain⟨i,rfl,q⟩:=q1;obtain⟨t,rfl⟩:=r1;exact⟨some i,H1,I1,.int i t,q⟩
noncomputable def SlR(X:Cx)(r:V->Option Int->Option Int->Hp->VK->Prop):Prop :=
  ∀(pins:List 4e3) (s:Shared) (σ:St) (H:Hp) (x:V) (v vl vu:Value) (lo hi:Option Int) (sl:Addr) (Q:VK),Inv X pins σ H s->RelV x v->s.heap.IsSliceOf sl vl vu .none->IsPart vl lo->IsPart vu hi->r x lo hi H Q ->
    ∃ T id,typeLookup (.type T) "__getitem__" = pure (some (.builtin id))/\s.TypeIs v T/\wpAny 1e7 X.A (getItem v (.ref sl)) 4e8 X.xe s
noncomputable def tSl(r:V->Option Int->Option Int->Hp->VK->Prop)(te:TE)(tl th:TO):TE:=λσ H Q=>te σ H λx H1=>tl σ H1 λl H2=>th σ H2 λu H3=>r x l u H3 Q
theorem WR{r:V->Option Int->Option Int->Hp->VK->Prop}(hr:SlR X r)(he:PE X e te)(hl:PO X lo tl)(hu:PO X hi th):PE X (.Subscript e (.Slice lo hi none p2) pos) (tSl r te tl th):=by
  intro pins s σ H Q I h;refine Subscript_ (thn 5e1 λv s1 ⟨x,H1,I1,r1,q1⟩=>?_);refine wpAny_Slice (thn (hl pins s1 σ H1 _ I1 q1) λvl s2 ⟨l,H2,I2,pl,q2⟩=>thn (hu pins s2 σ H2 _ I2 q2) λvu s3 ⟨u,H3,I3,pu,q3⟩=>?_);rw[evalPart_none];refine wpAny_pure ?_;have I4:Inv X pins σ H3 {s3 with heap:=s3.heap.push {cls:=.type "slice",data:=.fields #[vl,vu,.none]}}:=I3.kept (t':=s3.toks) λb ob q=>apY _ q;obtain⟨T,id,hT,ht,hg⟩:=hr pins {s3 with heap:=s3.heap.push {cls:=.type "slice",data:=.fields #[vl,vu,.none]}} σ H3 x v vl vu l u s3.heap.objs.size Q I4 r1 (Heap.IsSliceOf.new ..) pl pu q3;show wpAny 1e7 X.A (subscriptTail e (.Slice lo hi none p2) v (.ref s3.heap.objs.size)) 4e8 X.xe {s3 with heap:=s3.heap.push {cls:=.type "slice",data:=.fields #[vl,vu,.none]}};exact tail_any (ops:=[.ref s3.heap.objs.size,v]) ht hT hg 3e1
noncomputable def XS(xs:List V)(lo hi:Option Int):List V:=(xs.drop (HT.sIx xs.length 0 lo)).take (HT.sIx xs.length xs.length hi-HT.sIx xs.length 0 lo)
theorem Pw(xs:List V)(lo hi:Option Int):(XS xs lo hi).length<=xs.length:=by
  unfold XS;rw[ap6,ari];omega
end
end L2
namespace L2
open PySem PySem.Spec PyProof.Rows
noncomputable def ixN(n:Nat)(i:Int):Option Nat:=if 0<=i then(if i<n then some i.toNat else none) else if -(n:Int)<=i then some (i+n).toNat else none
noncomputable def atI{α:Type}(xs:List α)(i:Int):Option α:=(ixN xs.length i).bind λj=>xs[j]?
theorem UA{n:Nat}{i:Int}{j:Nat}(h:ixN n i=some j):seqIndex? i n=some j/\j<n/\-(n:Int)<=i/\i<n:=by
  unfold ixN at h;by_cases h0:0<=i
  · rw[if_pos h0]at h
    by_cases h1:i<n
    · rw[if_pos h1]at h
      have e:i.toNat=j:=aqh h;exact⟨by rw[seqIndex_of h0 h1,e],by omega,by omega,h1⟩
    · rw[if_neg h1]at h;cases h
  · rw[if_neg h0]at h
    by_cases h1:-(n:Int)<=i
    · rw[if_pos h1]at h
      have e:(i+n).toNat=j:=aqh h;exact⟨by rw[seqIndex_neg 1e1 h1,e],by omega,h1,by omega⟩
    · rw[if_neg h1]at h;cases h
theorem UB{α:Type}{xs:List α}{i:Int}{v:α}(h:atI xs i=some v):∃ j,seqIndex? i xs.length=some j/\xs[j]?=some v/\j<xs.length/\-(xs.length:Int)<=i/\i<xs.length:=by
  unfold atI at h;cases e:ixN xs.length i with
  | none=>rw[e]at h;cases h
  | some j =>
    rw[e]at h;obtain⟨h1,h2,h3,h4⟩:=UA e;exact⟨j,h1,h,h2,h3,h4⟩
theorem Ek{α:Type}{xs:List α}{j:Nat}{v:α}(h:xs[j]?=some v):atI xs (j:Int)=some v:=by
  have hj:j<xs.length:=(apS.mp h).1;have e:ixN xs.length (j:Int)=some j:=by
    unfold ixN;rw[if_pos 1e1,if_pos 1e1];simp
  unfold atI;rw[e];exact h
noncomputable def Zt(b:Expr):Prop:=∀ o i,subscripted b false o i=operate [o,i] (getItem o i)
noncomputable def IxR(X:Cx)(r:R2):Prop :=
  ∀(value slice:Expr) (pins:List 4e3) (s:Shared) (σ:St) (H:Hp) (x y:V) (v u:Value) (Q:VK),Inv X pins σ H s->RelV x v->RelV y u->r x y H Q ->
    subscripted slice false v u=operate [v,u] (getItem v u)->wpAny 1e7 X.A (subscriptTail value slice v u) 4e8 X.xe s
noncomputable def MtR(X:Cx)(id:String)(r:V->List V->Hp->VK->Prop):Prop :=
  ∀(pins:List 4e3) (s:Shared) (σ:St) (H:Hp) (x:V) (xs:List V) (v:Value) (us:List Value) (Q:VK),Inv X pins σ H s->RelV x v->Vals xs us->r x xs H Q ->
    wpAny 1e7 X.A (call (.builtin id) (v::us)) 4e8 X.xe s
section
variable{X:Cx}{a b:Expr}{ta tb:TE}{pos:Pos}
theorem a8{r:R2}(hr:IxR X r)(ha:PE X a ta)(hb:PE X b tb)(hs:Zt b):PE X (.Subscript a b pos) (tOp r ta tb):=by
  intro pins s σ H Q I h;exact Subscript_ (ace ha hb I h λv u s2 x y H2 I2 rx ry q=>hr a b pins s2 σ H2 x y v u Q I2 rx ry q (hs _ _))
noncomputable def alL(K:W.Frag):R2:=λx y H Q=>∃ p xs i v,x=.ref p/\y=.int i/\SqL K H p xs/\atI xs i=some v/\Q v H
noncomputable def aaE(K:W.Frag):R2:=λx y H Q=>∃ p xs i v,x=.ref p/\y=.int i/\SqT K H p xs/\atI xs i=some v/\Q v H
theorem jy:IxR X (alL X.K):=by
  intro value slice pins s σ H x y v u Q I rx ry h hs;obtain⟨p,xs,i,z,rfl,rfl,hq,he,q⟩:=h;cases rx;obtain⟨t,rfl⟩:=ry;obtain⟨its,r,pl,hz⟩:=I.list hq;obtain⟨j,h1,h2,h3,h4,h5⟩:=UB he;obtain⟨w,ew,rw'⟩:=r.get h2;have hl:=r.length;have hn:=O8;have fin:EP X pins σ Q w s:=⟨z,H,I,rw',q⟩;by_cases h0:0<=i
  · have hj:i.toNat=j:=by
      rw[seqIndex_of h0 h5]at h1;exact aqh h1
    exact item_listR pl.isList h0 1e1 (by rw[hj];simpa using ew) fin hs
  · have hj:(i+(its.toArray.size:Int)).toNat=j:=by
      rw[seqIndex_neg 1e1 h4]at h1;rw[ap5,<-hl];exact aqh h1
    exact subscriptTail_builtinR (x:=w) pl.isList.typeIs slot_list_getitem.lookup
      (wpAny_getItem_list_neg (Q:=λr s'=>r=w/\EP X pins σ Q r s') pl.isList 1e1 (by rw[ap5]<;>omega) 1e1 (by rw[hj];simpa using ew) ⟨rfl,fin⟩) hs
theorem aV:IxR X (aaE X.K):=by
  intro value slice pins s σ H x y v u Q I rx ry h hs;obtain⟨p,xs,i,z,rfl,rfl,hq,he,q⟩:=h;cases rx;obtain⟨t,rfl⟩:=ry;obtain⟨its,r,pl,hz⟩:=I.tuple hq;obtain⟨j,h1,h2,h3,h4,h5⟩:=UB he;obtain⟨w,ew,rw'⟩:=r.get h2;have hl:=r.length;have hn:=O8;have fin:EP X pins σ Q w s:=⟨z,H,I,rw',q⟩;exact subscriptTail_builtinR (x:=w) pl.typeIs slot_tuple_getitem.lookup
    (getItem_tuple (j:=j) (Q:=λr s'=>r=w/\EP X pins σ Q r s') pl 1e1 1e1 (by rw[ap5,<-hl];exact h1) (by simpa using ew) ⟨rfl,fin⟩) hs
theorem Sl(its:List Value)(n j:Nat)(u:Value):Obj.mapSeq (·.setIfInBounds j u) {cls:=.type "list",data:=.seq its.toArray n}={cls:=.type "list",data:=.seq (its.set j u).toArray n}:=by
  simp[Obj.mapSeq]
theorem Inv.lst{pins:List (Addr×Obj)}{σ:St}{H:Hp}{s:Shared}{p:Addr}{xs:List V}(I:Inv X pins σ H s)(h:H p=some (.lst xs)) :
    ∃(its:List Value) (n:Nat),Vals xs its/\s.heap.get? p=some {cls:=.type "list",data:=.seq its.toArray n}/\xs.length<=sizeLine:=by
  obtain⟨z,its,n,r,e⟩:=I.hok p _ h;exact⟨its,n,r,e,z⟩
theorem Inv.abr{pins:List (Addr×Obj)}{σ:St}{H:Hp}{s:Shared}{p:Addr}{xs ys:List V}{its Mp:List Value}{n n':Nat}{f:Obj->Obj}(I:Inv X pins σ H s)(h:H p=some (.lst xs))
    (ho:s.heap.get? p=some {cls:=.type "list",data:=.seq its.toArray n}) (hf:f {cls:=.type "list",data:=.seq its.toArray n}={cls:=.type "list",data:=.seq Mp.toArray n'}) (r:Vals ys Mp) (hz:ys.length<=sizeLine) (t:Nat) :
    Inv X pins σ (upd H p 5e0) {s with heap:=s.heap.update p f,toks:=t}:=by
  have e:(s.heap.update p f).get? p=some {cls:=.type "list",data:=.seq Mp.toArray n'}:=by
    rw[Heap.get?_update_self f ho (by rw[hf]<;>rfl),hf]
  refine I.write (x:=p) (e:=p) (by rw[h];trivial) 3e6 (λb u hb q=>(aqx _ _ (aqe hb)).trans q) ⟨_,e⟩ ?_;exact⟨hz,Mp,n',r,e⟩
noncomputable def ad9:V->V->V->Hp->(Hp->Prop)->Prop:=λo i v H Q=>∃ p xs k j,o=.ref p/\i=.int k/\H p=some 5e6/\ixN xs.length k=some j/\Q (upd H p (.lst (xs.set j v)))
theorem set_list:ae2 X ad9:=by
  intro pins s σ H o i v ov iv u Q I ro ri rv h;obtain⟨p,xs,k,j,rfl,rfl,hp,hj,q⟩:=h;cases ro;obtain⟨t,rfl⟩:=ri;obtain⟨its,n,r,ho,hz⟩:=I.lst hp;obtain⟨h1,h2,h3,h4⟩:=UA hj;have hl:=r.length;have hn:=O8;have I':Inv X pins σ (upd H p (.lst (xs.set j v))) {s with heap:=s.heap.update p (Obj.mapSeq (·.setIfInBounds j u))} :=
    I.abr hp ho (Sl its n j u) (r.set rv j) (by rw[aqp];exact hz) s.toks
  by_cases h0:0<=k
  · have hk:k.toNat=j:=by
      rw[seqIndex_of h0 h4]at h1;exact aqh h1
    exact PySem.W.ki_setAt ho h0 1e1 (by rw[ap5,<-hl];exact h4) (by rw[hk];exact⟨_,I',q⟩)
  · have hk:(k+(its.toArray.size:Int)).toNat=j:=by
      rw[seqIndex_neg 1e1 h3]at h1;rw[ap5,<-hl];exact aqh h1
    exact PySem.W.ki_setBack ho 1e1 (by rw[ap5,<-hl];exact h3) 1e1 (by rw[hk];exact⟨_,I',q⟩)
theorem Nb(lo hi:Option Int)(n:Nat):(sliceBounds lo hi none n).1=((HT.sIx n 0 lo:Nat):Int)/\(sliceBounds lo hi none n).2.1=((HT.sIx n n hi:Nat):Int)/\(sliceBounds lo hi none n).2.2=1:=by
  refine⟨?_,?_,rfl⟩
  · cases lo with
    | none=>simp[sliceBounds,HT.sIx]
    | some i =>
      simp only[sliceBounds,HT.sIx,Option.getD_none,show(1:Int)>0 by decide,if_true];by_cases h:i<0
      · simp only[h,if_true]<;>omega
      · simp only[h,if_false]<;>omega
  · cases hi with
    | none=>simp[sliceBounds,HT.sIx]
    | some i =>
      simp only[sliceBounds,HT.sIx,Option.getD_none,show(1:Int)>0 by decide,if_true];by_cases h:i<0
      · simp only[h,if_true]<;>omega
      · simp only[h,if_false]<;>omega
theorem K6(its:List Value)(lo hi:Option Int):slicePick its.toArray lo hi none=((its.drop (HT.sIx its.length 0 lo)).take (HT.sIx its.length its.length hi-HT.sIx its.length 0 lo)).toArray:=by
  obtain⟨h1,h2,h3⟩:=Nb lo hi its.toArray.size;unfold slicePick;rw[h1,h2,h3];simp only[sliceRange_one,pick_run,ap5]<;>rfl
noncomputable def alM(K:W.Frag):V->Option Int->Option Int->Hp->VK->Prop:=λx lo hi H Q=>∃ a xs,x=.ref a/\SqL K H a xs/\∀ p,H p=none->Q 4e7 (upd H p (.lst (XS xs lo hi)))
theorem Zu:SlR X (alM X.K):=by
  intro pins s σ H x v vl vu lo hi sl Q I rx hs pl pu h;obtain⟨a,xs,rfl,hx,q⟩:=h;cases rx;obtain⟨its,r,ht,hz⟩:=I.list hx;have hlen:=r.length;refine⟨"list",_,slot_list_getitem.lookup,ht.isList.typeIs,?_⟩;refine wpAny_getItem_list_slice ht.isList hs pl pu .none 2e5 ?_ (by rw[ap5]<;>omega);rw[K6,<-hlen];refine⟨.ref s.heap.objs.size,_,I.laid (t':=s.toks) (o:=.lst (XS xs lo hi)) (λb ob q=>apY _ q) (apV _) ?_,rfl,q _ (I.hok.fresh (apV _))⟩;exact⟨aqk (Pw xs lo hi) hz,_,0,(r.drop (HT.sIx xs.length 0 lo)).take (HT.sIx xs.length xs.length hi-HT.sIx xs.length 0 lo),aqr _ rfl⟩
noncomputable def mS:V->Bool
  | .non=>true
  | .bl _=>true
  | .int _=>true
  | .str _=>true
  | _=>false
noncomputable def eqV:V->V->Bool
  | .non,.non=>true
  | .bl a,.bl b=>a == b
  | .bl a,.int b=>(if a then 1 else 0) == b
  | .int a,.bl b=>a == (if b then 1 else 0)
  | .int a,.int b=>a == b
  | .str a,.str b=>a == b
  | _,_=>false
theorem O9{A:Around}{s:Shared}{y x:V}{u v:Value}(ry:RelV y u)(rx:RelV x v)(fy:mS y=true)(fx:mS x=true):SeqAt.EqAt A s u v (eqV y x):=by
  cases y with
  | non =>
    cases ry;cases x with
    | non=>cases rx;exact SeqAt.EqAt.same _
    | bl b=>cases rx;exact SeqAt.EqAt.none_bool b
    | int b=>obtain⟨t,rfl⟩:=rx;exact SeqAt.EqAt.none_int b t
    | str b=>obtain⟨t,rfl⟩:=rx;exact SeqAt.EqAt.none_str b t
    | _=>exact absurd 4e0 ap0
  | bl a =>
    cases ry;cases x with
    | non=>cases rx;exact SeqAt.EqAt.bool_none a
    | bl b=>cases rx;exact SeqAt.EqAt.bool_bool a b
    | int b=>obtain⟨t,rfl⟩:=rx;exact SeqAt.EqAt.bool_int a b t
    | str b=>obtain⟨t,rfl⟩:=rx;exact SeqAt.EqAt.bool_str a b t
    | _=>exact absurd 4e0 ap0
  | int a =>
    obtain⟨t',rfl⟩:=ry;cases x with
    | non=>cases rx;exact SeqAt.EqAt.int_none a t'
    | bl b=>cases rx;exact SeqAt.EqAt.int_bool a t' b
    | int b=>obtain⟨t,rfl⟩:=rx;exact SeqAt.EqAt.int_int a t' b t
    | str b=>obtain⟨t,rfl⟩:=rx;exact SeqAt.EqAt.int_str a t' b t
    | _=>exact absurd 4e0 ap0
  | str a =>
    obtain⟨t',rfl⟩:=ry;cases x with
    | non=>cases rx;exact SeqAt.EqAt.str_none a t'
    | bl b=>cases rx;exact SeqAt.EqAt.str_bool a t' b
    | int b=>obtain⟨t,rfl⟩:=rx;exact SeqAt.EqAt.str_int a t' b t
    | str b=>obtain⟨t,rfl⟩:=rx;exact SeqAt.EqAt.str_str a t' b t
    | _=>exact absurd 4e0 ap0
  | _=>exact absurd (show false=true from fy) ap0
noncomputable def eqU(x:V)(u:Value):Bool:=match u with
  | .none=>eqV .non x
  | .bool b=>eqV (.bl b) x
  | .int i _=>eqV (.int i) x
  | .str z _=>eqV (.str z) x
  | _=>false
theorem XT{x y:V}{u:Value}(r:RelV y u)(f:mS y=true):eqU x u=eqV y x:=by
  cases y with
  | non=>cases r;rfl
  | bl b=>cases r;rfl
  | int i=>obtain⟨t,rfl⟩:=r;rfl
  | str z=>obtain⟨t,rfl⟩:=r;rfl
  | _=>exact absurd (show false=true from f) ap0
theorem El{x:V}:∀ {xs:List V} {us:List Value},Vals xs us->xs.all mS=true->us.any (eqU x)=xs.any λy=>eqV y x
  | _,_,.nil,_=>rfl
  | y::xs,u::us,.cons r t,f=>by
    rw[List.all_cons,arz]at f;rw[aro,aro,XT r f.1,El t f.2]
theorem yr{A:Around}{s:Shared}{x:V}{v:Value}(rx:RelV x v)(fx:mS x=true):∀ {xs:List V} {us:List Value},Vals xs us->xs.all mS=true->∀ u∈us,SeqAt.EqAt A s u v (eqU x u)
  | _,_,.nil,_=>λu hu=>by cases hu
  | y::xs,u::us,.cons r t,f=>λu' hu=>by
    rw[List.all_cons,arz]at f;rcases aqi.mp hu with rfl|hu
    · rw[XT r f.1];exact O9 r rx f.1 fx
    · exact yr rx fx t f.2 u' hu
noncomputable def inV(x:V)(xs:List V):Bool:=xs.any λy=>eqV y x
noncomputable def rIn(K:W.Frag)(neg:Bool):R2:=λx y H Q=>∃ p xs,y=.ref p/\(SqL K H p xs\/SqT K H p xs)/\mS x=true/\xs.all mS=true/\Q (.bl (if neg then !inV x xs else inV x xs)) H
theorem Gh:OpR X (compareOp .In) (rIn X.K false):=by
  intro pins s σ H x y v u Q I rx ry h;obtain⟨p,xs,rfl,hq,fx,fs,q⟩:=h;cases ry;rcases hq with hq|hq
  · obtain⟨its,r,pl,hz⟩:=I.list hq
    refine SeqAt.in_listAt (eqU x) pl.isList (λw hw=>yr rx fx r fs w (by simpa using hw)) ⟨.bl _,H,I,rfl,?_⟩;rw[show its.toArray.any (eqU x)=its.any (eqU x) by simp,El r fs];exact q
  · obtain⟨its,r,pl,hz⟩:=I.tuple hq
    refine SeqAt.in_tupleAt (eqU x) pl (λw hw=>yr rx fx r fs w (by simpa using hw)) ⟨.bl _,H,I,rfl,?_⟩;rw[show its.toArray.any (eqU x)=its.any (eqU x) by simp,El r fs];exact q
theorem Nc:OpR X (compareOp .NotIn) (rIn X.K true):=by
  intro pins s σ H x y v u Q I rx ry h;obtain⟨p,xs,rfl,hq,fx,fs,q⟩:=h;cases ry;rcases hq with hq|hq
  · obtain⟨its,r,pl,hz⟩:=I.list hq
    refine SeqAt.notIn_listAt (eqU x) pl.isList (λw hw=>yr rx fx r fs w (by simpa using hw)) ⟨.bl _,H,I,rfl,?_⟩;rw[show its.toArray.any (eqU x)=its.any (eqU x) by simp,El r fs];exact q
  · obtain⟨its,r,pl,hz⟩:=I.tuple hq
    refine SeqAt.notIn_tupleAt (eqU x) pl (λw hw=>yr rx fx r fs w (by simpa using hw)) ⟨.bl _,H,I,rfl,?_⟩;rw[show its.toArray.any (eqU x)=its.any (eqU x) by simp,El r fs];exact q
theorem bh:zk X (.builtin "len") (λxs H Q=>∃ p ys,xs=[.ref p]/\(SqL X.K H p ys\/SqT X.K H p ys)/\Q (.int ys.length) H):=by
  intro pins s σ H xs us Q I r h;obtain⟨p,ys,rfl,hq,q⟩:=h;obtain⟨u,rfl,rx⟩:=vals1 r;cases rx;have hn:=O8;rcases hq with hq|hq
  · obtain⟨its,r',pl,hz⟩:=I.list hq
    have hlen:=r'.length;exact Calls.call_len_list pl.isList (by simp only[ap5]<;>omega) ⟨.int ys.length,H,I.tok _,⟨s.toks+1,by rw[ap5,hlen]⟩,q⟩
  · obtain⟨its,r',pl,hz⟩:=I.tuple hq
    have hlen:=r'.length;exact len_tuple pl (by simp only[ap5]<;>omega) ⟨.int ys.length,H,I.tok _,⟨s.toks+1,by rw[ap5,hlen]⟩,q⟩
theorem ng:zk X (.type "list") (λxs H Q=>∃ p ys,xs=[.ref p]/\(SqL X.K H p ys\/SqT X.K H p ys)/\∀ l,H l=none->Q (.ref l) (upd H l 5e0)):=by
  intro pins s σ H xs us Q I r h;obtain⟨p,ys,rfl,hq,q⟩:=h;obtain⟨u,rfl,rx⟩:=vals1 r;cases rx;have fin:∀(its:List Value),Vals ys its->ys.length<=sizeLine->∀(h':Heap) (c':Nat),(∀ b o',s.heap.get? b=some o'->h'.get? b=some o') ->
      h'.get? s.heap.objs.size=some {cls:=.type "list",dict:=none,data:=.seq its.toArray c',slots:=#[]}->EP X pins σ Q (.ref s.heap.objs.size) {s with heap:=h'}:=λits r' hz h' c' kp e =>
    ⟨.ref s.heap.objs.size,_,I.laid (t':=s.toks) kp (apV _) (show jk X.prog X.w _ h' _ 5e0 from⟨hz,its,c',r',e⟩),rfl,q _ (I.hok.fresh (apV _))⟩
  rcases hq with hq|hq
  · obtain⟨its,r',pl,hz⟩:=I.list hq
    have hlen:=r'.length;obtain⟨o,ho,hc,n,hd⟩:=pl.isList;exact call_list_seq p 3e6 ho hc hd (λh' c' kp e=>fin its r' hz h' c' kp e) (by simp only[ap5]<;>omega)
  · obtain⟨its,r',pl,hz⟩:=I.tuple hq
    have hlen:=r'.length;obtain⟨o,ho,hc,n,hd⟩:=pl;exact call_list_seq p (.inr rfl) ho hc hd (λh' c' kp e=>fin its r' hz h' c' kp e) (by simp only[ap5]<;>omega)
noncomputable def tyV(K:W.Frag)(T:String)(x:V)(H:Hp):Prop:=match x with
  | .str _=>T = "str"
  | .int _=>T = "int"
  | .ref p=>(T = "list" /\ ∃ xs,SqL K H p xs)\/(T = "tuple" /\ ∃ o,K.lookup p=some o/\o.cls=.type "tuple" /\ o.dict=none) \/
      (T = "dict" /\ ((∃ kvs,H p=some 3e0)\/∃ kvs,H p=some (.dT kvs)))\/(T = "set" /\ ∃ S n,H p=some (.set S n))
  | _=>False
theorem abt{pins:List (Addr×Obj)}{σ:St}{H:Hp}{s:Shared}{T:String}{x:V}{v:Value}(I:Inv X pins σ H s)(r:RelV x v)(ty:tyV X.K T x H) :
    s.TypeIs v T/\∀ a,v=.ref a->∃ ob,s.heap.get? a=some ob/\ob.dict=none:=by
  cases x with
  | str z =>
    obtain⟨t,rfl⟩:=r;cases (show T = "str" from ty);exact⟨typeIs_str s z t,λ_ e=>nomatch e⟩
  | int i =>
    obtain⟨t,rfl⟩:=r;cases (show T = "int" from ty);exact⟨typeIs_int s i t,λ_ e=>nomatch e⟩
  | ref p =>
    cases r;rcases ty with⟨rfl,xs,hq⟩|⟨rfl,o,hk,hc,hd⟩|⟨rfl,hk⟩|⟨rfl,S,n,hk⟩
    · obtain⟨its,_,pl,_⟩:=I.list hq
      refine⟨pl.isList.typeIs,λa e=>?_⟩;cases e;obtain⟨o,n,e,c,hd,_⟩:=pl;exact⟨o,e,hd⟩
    · refine⟨⟨o,I.kIn p o hk,hc⟩,λa e=>?_⟩
      cases e;exact⟨o,I.kIn _ o hk,hd⟩
    · have z:∃ o,s.heap.get? p=some o/\o.ExactDict:=by
        rcases hk with⟨kvs,hk⟩|⟨kvs,hk⟩
        · obtain⟨_,_,_,_,o,_,_,e,ex,_⟩:=I.hok p _ hk
          exact⟨o,e,ex⟩
        · obtain⟨_,_,_,_,o,_,_,e,ex,_⟩:=I.hok p _ hk
          exact⟨o,e,ex⟩
      obtain⟨o,e,ex⟩:=z;refine⟨⟨o,e,ex.1⟩,λa e2=>?_⟩;cases e2;exact⟨o,e,ex.2.1⟩
    · obtain⟨o,_,_,_,e,ex,_⟩:=I.hok p _ hk
      refine⟨⟨o,e,ex.1⟩,λa e2=>?_⟩;cases e2;exact⟨o,e,ex.2.1⟩
  | _=>exact False.elim ty
noncomputable def tBM(K:W.Frag)(T:String)(r:V->List V->Hp->VK->Prop)(to:TE)(t:TA):TE:=λσ H Q=>to σ H λx H1=>tyV K T x H1/\t σ H1 λxs H2=>r x xs H2 Q
variable{o e:Expr}{es:List Expr}{to:TE}{t:TA}{name:Str}{apos xq:Pos}{T id:String}{r:V->List V->Hp->VK->Prop}
theorem Mj(pa:PlainAttrs T)(slot:Slot T name id)(hty:typeOf (.builtin id)=pure (.type "method_descriptor"))(hm:MtR X id r)(ho:PE X o to)(ha:PA X (e::es) t)
    (aea:attributeBase o name X.env (eval o X.env)=eval o X.env:=by rfl)
    (Zv:((backTo xq (starEach (e::es) X.env)).all (λx=>!x.1)&&(backToKw xq 8e0).all (λx=>x.1.isSome)
      && decide ((e::es).length+([]:List Keyword).length+(if([]:List Keyword).isEmpty then 0 else 1)<30))=true:=by rfl)
    (aeb:(apos.endLine == xq.line)=true:=by rfl) (hs:starEach (e::es) X.env=(false,eval e X.env)::starEach es X.env:=by rfl) (abu:(backTo xq (starEach es X.env)).any (·.1)=false:=by rfl) :
    PE X (.Call (.Attribute o name apos) (e::es) [] xq) (tBM X.K T r to t):=by
  intro pins s σ H Q I h;refine wpAny_Call_method_late aea Zv aeb rfl (thn (ho pins s σ H _ I h) λv s1 ⟨x,H1,I1,r1,ty,q1⟩=>?_);obtain⟨h1,h2⟩:=abt I1 r1 ty;refine⟨T,id,pa,slot,hty,h1,h2,?_⟩;have hA:=ha xq pins s1 σ H1 _ I1 q1;rw[hs]at hA ⊢;refine aru (by show(false||(backTo xq (starEach es X.env)).any (·.1))=false;rw[abu]<;>rfl) (arA ?_);exact thn hA λus s2 ⟨vs,H2,I2,r2,q2⟩=>hm pins s2 σ H2 x vs v us Q I2 r1 r2 q2
end
end L2
namespace L2
open PySem PySem.Spec PyProof.Rows
noncomputable def MtM(X:Cx)(id:String)(r:V->List V->Hp->VK->Prop):Prop :=
  ∀(pins:List 4e3) (s:Shared) (σ:St) (H:Hp) (x:V) (xs:List V) (v:Value) (us:List Value) (Q:VK),Inv X pins σ H s->RelV x v->Vals xs us->r x xs H Q ->
    wpAny 1e7 X.A (call (.builtin id) (v::us)) 4e8 X.xe s
theorem Vals.one:∀ {x:V} {us:List Value},Vals [x] us->∃ u,us=[u]/\RelV x u
  | _,_,.cons r .nil=>⟨_,rfl,r⟩
theorem Vals.rep{xs:List V}{us:List Value}(h:Vals xs us):∀ k:Nat,Vals (List.replicate k xs).flatten (List.replicate k us).flatten
  | 0=>.nil
  | k+1=>by
    rw[aqB,aqB,aqZ,aqZ];exact Vals.append h (Vals.rep h k)
theorem foldl_rep(its:List Value):∀(k:Nat) (acc:List Value),
    List.foldl (λx1 x2=>x1++x2) acc.toArray (List.replicate k its.toArray)=(acc++(List.replicate k its).flatten).toArray
  | 0,acc=>by simp
  | k+1,acc=>by
    have e:acc.toArray++its.toArray=(acc++its).toArray:=2e5;have e2:(acc++its)++(List.replicate k its).flatten=acc++(List.replicate (k+1) its).flatten:=by
      rw[aqB,aqZ,arv]
    rw[<-e2,<-foldl_rep its k (acc++its),<-e,aqB,List.foldl_cons]
section
variable{X:Cx}{pins:List (Addr×Obj)}{σ:St}{H:Hp}{s:Shared}{l b:Addr}{xs ys zs:List V}
theorem Inv.ae7{its Mp:List Value}{n:Nat}{f:Array Value->Array Value}{t':Nat}(I:Inv X pins σ H s)(hH:H l=some (.lst xs))
    (e:s.heap.get? l=some {cls:=.type "list",data:=.seq its.toArray n}) (hf:f its.toArray=Mp.toArray) (hv:Vals ys Mp) (hz:ys.length<=sizeLine) :
    Inv X pins σ (upd H l 5e0) {s with heap:=s.heap.update l (Obj.mapSeq f),toks:=t'}:=by
  have q:=PySem.IsL.update e f;rw[hf]at q;refine I.write (x:=l) (e:=l) (by rw[hH];exact trivial) 3e6 (λb' u hb hu=>(aqx s.heap (Obj.mapSeq f) (aqe hb)).trans hu) ⟨_,q⟩ ?_;exact⟨hz,Mp,_,hv,q⟩
theorem Inv.Zw{its:List Value}{t':Nat}(I:Inv X pins σ H s)(hv:Vals ys its)(hz:ys.length<=sizeLine) :
    Inv X pins σ (upd H s.heap.objs.size 5e0) {s with heap:=s.heap.push {cls:=.type "list",data:=.seq its.toArray},toks:=t'} :=
  I.laid (λ_ _ q=>apY _ q) (apV _) ⟨hz,its,0,hv,aqr _ rfl⟩
theorem Inv.fresh(I:Inv X pins σ H s):H s.heap.objs.size=none:=I.hok.fresh (apV _)
theorem Inv.aaF(I:Inv X pins σ H s)(hH:H l=some (.lst xs)):xs.length<=sizeLine/\∃(its:List Value) (n:Nat),Vals xs its/\xs.length=its.length/\s.heap.get? l=some {cls:=.type "list",data:=.seq its.toArray n}:=by
  obtain⟨z,its,n,r,e⟩:=I.hok l _ hH;exact⟨z,its,n,r,r.length,e⟩
theorem Rg{n:Nat}(h:n<=sizeLine):Builtin.List.listTooLong n=false:=by
  unfold Builtin.List.listTooLong;exact decide_eq_false 1e1
end
section
variable{X:Cx}
noncomputable def Zx:V->List V->Hp->VK->Prop:=λx vs H Q=>∃ l xs y,x=.ref l/\vs=[y]/\H l=some 5e6/\xs.length<sizeLine/\Q .non (upd H l (.lst (xs++[y])))
theorem rh:MtM X "list.append" Zx:=by
  intro pins s σ H x vs v us Q I rx rv h;obtain⟨l,xs,y,rfl,rfl,hH,hz,q⟩:=h;cases rx;obtain⟨u,rfl,ru⟩:=rv.one;obtain⟨z,its,n,r,hl,e⟩:=I.aaF hH;refine call_meets F.slot_list_append ⟨_,e,rfl⟩ F.entry_list_append (F.args_list_append_2 _ _) (PySem.list_append l its.toArray n u (by rw[ap5];omega)) ⟨e,?_⟩;refine⟨.non,_,I.ae7 (Mp:=its++[u]) hH e 2e5 (r.append (.cons ru .nil)) ?_,rfl,q⟩;rw[ap4,aqC];omega
noncomputable def Zy:V->List V->Hp->VK->Prop:=λx vs H Q=>∃ l b xs zs,x=.ref l/\vs=[.ref b]/\H l=some 5e6/\H b=some (.lst zs)/\xs.length+zs.length<=sizeLine/\Q .non (upd H l (.lst (xs++zs)))
theorem MB:MtM X "list.extend" Zy:=by
  intro pins s σ H x vs v us Q I rx rv h;obtain⟨l,b,xs,zs,rfl,rfl,hH,hB,hz,q⟩:=h;cases rx;obtain⟨u,rfl,ru⟩:=rv.one;cases ru;obtain⟨z,its,n,r,hl,e⟩:=I.aaF hH;obtain⟨z2,aaG,n2,r2,hl2,e2⟩:=I.aaF hB;have hsz:its.toArray.size+aaG.toArray.size<=sizeLine:=by rw[ap5,ap5];omega
  have Yy:¬(!its.toArray.isEmpty&&Builtin.List.listTooLong (its.toArray.size+aaG.toArray.size))=true:=by
    rw[Rg hsz,arK];exact ap0
  refine call_meets F.slot_list_extend ⟨_,e,rfl⟩ F.entry_list_extend (F.args_list_extend_2 _ _)
    (AutoSeq1.list_extend_list_list_0 l its.toArray n b aaG.toArray n2 Yy (by rw[ap5];omega) 1e1) ⟨e,e2,?_⟩
  refine⟨.non,_,I.ae7 (Mp:=its++aaG) hH e 2e5 (r.append r2) ?_,rfl,q⟩;rw[ap4];omega
noncomputable def alN:R2:=λx y H Q=>∃ l k xs,x=.ref l/\y=.int k/\H l=some 5e6/\-(2 ^ 63)<=k/\k<2 ^ 63/\xs.length*k.toNat<=sizeLine /\
  ∀ p,H p=none->Q 4e7 (upd H p (.lst (List.replicate k.toNat xs).flatten))
theorem len_rep{α:Type}(xs:List α)(k:Nat):(List.replicate k xs).flatten.length=k*xs.length:=by
  induction k with
  | zero=>simp
  | succ k ih=>rw[aqB,aqZ,ap4,ih,Nat.succ_mul,Nat.add_comm]
theorem Pa:OpR X (binaryOp .Mult) alN:=by
  intro pins s σ H x y v u Q I rx ry h;obtain⟨l,k,xs,rfl,rfl,hH,h1,h2,hz,q⟩:=h;cases rx;obtain⟨t,rfl⟩:=ry;obtain⟨z,its,n,r,hl,e⟩:=I.aaF hH;have hlen:its.toArray.size*k.toNat<=sizeLine:=by rw[ap5,<-hl];exact hz
  have alO:¬its.toArray.size*k.toNat>(2 ^ 63-1)/8:=by
    have:(sizeLine:Nat)<=(2 ^ 63-1)/8:=by decide
    omega
  have alP:¬(!Builtin.List.listFitsIndex k)=true:=by
    rw[fitsIndex_both h1 h2];exact ap0
  have Yy:¬Builtin.List.listTooLong (its.toArray.size*k.toNat)=true:=by
    rw[Rg hlen];exact ap0
  have aaH:List.foldl (λx1 x2=>x1++x2) #[] (List.replicate (if its.toArray.isEmpty=true then 0 else k.toNat) its.toArray)=(List.replicate k.toNat its).flatten.toArray:=by
    have f0:∀ m:Nat,List.foldl (λx1 x2=>x1++x2) #[] (List.replicate m its.toArray)=(List.replicate m its).flatten.toArray:=λm=>by
      have:=foldl_rep its m []
      rw[List.nil_append]at this;exact this
    rw[f0];cases its with
    | nil=>simp
    | cons a r'=>rw[if_neg 2e5]
  refine wpAny_binaryOp_repeat_ref (T := "list") (U := "int") 2e6 ⟨_,e,rfl⟩ (λs'=>typeIs_int s' k t) noFill_list_mul F.fills_int_mul F.slot_int_rmul repeat_list F.slot_int_index.lookup
    (call_meets F.slot_int_rmul (typeIs_int s k t) F.entry_int_rmul (F.args_int_rmul_2 _ _) (int___rmul___int_list k t l its.toArray n)
      ⟨e,rfl,⟨_,e,rfl⟩,call_meets F.slot_list_mul ⟨_,e,rfl⟩ F.entry_list_mul (F.args_list_mul_2 _ _) (AutoListH.list___mul___list_int_3 l its.toArray n k t alP alO Yy) ⟨e,?_⟩⟩)
  rw[aaH];exact⟨.ref _,_,I.Zw (t':=s.toks) (r.rep k.toNat) (by rw[len_rep,Nat.mul_comm];exact hz),rfl,q _ I.fresh⟩
end
section
variable{prog:Program}{w:World}{A:Around}{E:Value->Shared->Prop}{s:Shared}
end
section
variable{X:Cx}
end
end L2
namespace Att
open PySem PySem.W PySem.Calls PyProof.Rows
theorem G0{P:Params}{h:Heap}:∀(ns:List Int) (vs:List Value),WellAll P h vs (ns.map WData.int)->IntsAre vs ns:=by
  intro ns;induction ns with
  | nil =>
    intro vs w;rw[aq9]at w;cases w;exact .nil
  | cons n ns ih =>
    intro vs w;rw[aqd]at w;cases w with
    | cons a b =>
      cases a;exact .cons _ _ (ih _ b)
theorem Vu{l:OpenLaw}{n:Nat}(hn:l.most=some n){P:Params}{h:Heap}{args:List WData}{vals:List Value}
    (aaI:l.row.toRowW.claim.pre args=true) (hwl:WellAll P h vals args) :
    ∃ a vs ns,vals=[Value.ref a]/\args=[WData.list (ns.map WData.int)]/\h.get? a=some {cls:=.type "list",data:=.seq vs.toArray}/\IntsAre vs ns/\ns.length<=n:=by
  have hsh:WShape.hasAll [] args [.list .int]=true:=(pre_splitW aaI).1;have hc:l.pre.holds [] {args:=args}=true:=(pre_splitW aaI).2;obtain⟨d,r,rfl,h1,h2⟩:=hasAllW_cons hsh;obtain rfl:=hasAllW_nil h2;obtain⟨xs,rfl,h3⟩:=hasW_list h1;obtain⟨ns,rfl⟩:=items_int h3;have hlen:ns.length<=n:=by
    unfold OpenLaw.pre at hc;have h4:(WTm.not (.lt (.lit (.int (n:Int))) (.len (.arg 0)))).holds [] {args:=[.list (ns.map .int)]}=true:=by
      have h4:=(holds_andW hc).1;rw[hn]at h4;exact h4
    have h5:=condW_of h4 (w_not (w_lt w_lit (w_len_list (w_arg rfl))));rw[apR]at h5;refine Nat.le_of_not_lt λq=>?_;have q':(n:Int)<((ns.length:Nat):Int):=by omega
    first
      | (rw[decide_eq_true q']at h5;exact absurd h5 2e6)
      | (simp at h5;omega)
  cases hwl with
  | cons w1 w2 =>
    cases w2;cases w1 with
    | list ho Iu=>exact⟨_,_,ns,rfl,rfl,ho,G0 ns _ Iu,hlen⟩
theorem Vv(l:OpenLaw)(args:List WData):l.row.toRowW.claim.post args (.bool true) args=true :=
  postW_of (r:=l.row.toRowW) (X:=(true == true))
    (show WShape.has [] (.bool true) .bool=true by first|rfl|decide|simp[WShape.has,WShape.arms,WShape.armsAll])
    (show(WTm.eq .res (.lit (.bool true))).value [] {args:=args,res:=some (.bool true),after:=args}=some (.bool (true == true)) from w_eq_bool (w_res rfl) w_lit) rfl
theorem Px{l:OpenLaw}{n:Nat}{q:Program}{loose:List Str}{XP:(Str->Option Value)->Heap->Prop}{YP:World->Heap->Prop}{d:DefRec}
    (hn:l.most=some n) (hdf:d.params.defaults=[])
    (call:∀(w:World) (s₀ s₁:Shared) (mg mb:Str->Option Value) (fa:Addr) (o:Obj) (pm cd doc:Value) (a:Addr) (vs:List Value) (ns:List Int),
      Ground q loose [] XP w s₀ mg mb s₁.heap->YP w s₁.heap ->
      s₁.heap.get? fa=some o->o.data=.func (docDef d.name d.params d.body d.scope pm cd doc)->s₁.heap.CodeRec cd d.name->mg d.name=some (.ref fa) ->
      s₁.heap.get? a=some {cls:=.type "list",data:=.seq vs.toArray}->IntsAre vs ns->ns.length<=n->s₁.gens=#[] ->
      codeAny (model l.prog w) callerA (.call (.ref fa) ⟨[.ref a],[]⟩) (λr s'=>r=.ok (.ret (.bool true))/\OldK s₁.heap s'.heap/\s'.os=s₁.os/\AllBare s'.gens) s₁) :
    WalkO q loose XP YP l.row.toRowW d [] (λf vs=>PySem.call f vs):=by
  intro w s₀ s₁ mg mb G Y fa o pm cd doc dV kV ho hd hcd hD hmg hg args vals as aaI hlay hrd hwl hlo;obtain rfl:dV=.none:=Dflts.none hD hdf;obtain rfl:kV=.none:=Dflts.noKw hD;obtain⟨a,vs,ns,rfl,rfl,acg,hints,hlen⟩:=Vu hn aaI hwl;refine enter_call (codeAny_mono (call w s₀ s₁ mg mb fa o pm cd doc a vs ns G Y ho (fd_plain hd) hcd hmg acg hints hlen hg) λr s' hq=>?_);obtain⟨rfl,h2,h3,h4⟩:=hq;exact⟨.inl ⟨.bool true,.bool true,[],rfl,λ_=>rfl,.bool true,Vv l _,λ_=>⟨List.Pairwise.nil,λ_ hm=>(nomatch hm)⟩⟩,h2,h3,h4⟩
section
variable{prog:Program}{w:World}{A:Around}{E:Value->Shared->Prop}{s:Shared}{K:Frag}
end
end Att
namespace L2
open PySem PySem.Spec PyProof.Rows
theorem uk:∀ {vs:List Value} {ns:List Int},IntsAre vs ns->Vals 4e6 vs
  | _,_,.nil=>.nil
  | _,_,.cons n t h=>.cons ⟨t,rfl⟩ (uk h)
noncomputable def ach(H:Hp):Prop:=∀ b,H b=none\/∃ o xs,H b=some (.frz o 5e6)
theorem WS{P:Program}{w:World}{K:W.Frag}{mg mb:Str->Option Value}{CX:CXT}{k:Nat}{fa a:Addr}{fd:FuncData}{x:Str}{sp:Sp}{s₁:Shared}{vs:List Value}{ns:List Int}
    (KX:K.In s₁.heap) (hns:s₁.heap.Ns mainGlobals mg) (hb:s₁.heap.Ns builtinsNs mb) (hbb:∀ x:Str,x ≠ "__name__" -> mb x=bootBuiltins x) (alQ:s₁.heap.NoLimit) (hg:s₁.gens=#[])
    (ha:s₁.heap.get? a=some {cls:=.type "list",data:=.seq vs.toArray}) (hi:IntsAre vs ns) (hl:ns.length<=sizeLine) (hr:lO k callerA)
    (F:∀ base:Heap,K.In base->base.Ns mainGlobals mg->Ej P w K mg base CX k fa fd [x] sp) (aec:∀(s:Shared) (u:Value),BindsTo s fd ⟨[u],[]⟩ [(x,u)])
    (hsp:∀ H:Hp,ach H->SqL K H a 4e6->sp [.ref a] H (λv _=>v=.bl true) λ_ _ _=>False)
    (hCX:∀ H e s',CX [] H s₁ (λ_ _ _=>False) e s'->False) :
    codeAny 8e2 callerA (.call (.ref fa) ⟨[.ref a],[]⟩) (λr s'=>r=.ok (.ret (.bool true))/\OldK s₁.heap s'.heap/\s'.os=s₁.os/\AllBare s'.gens) s₁:=by
  have rv:=uk hi;have alR:=hi.length;have core:∀ H:Hp,ach H->SqL K H a 4e6->HOk P w H s₁.heap->(∀ b,H b≠none->b=a)->(H a≠none->K.lookup a=none) ->
      codeAny 8e2 callerA (.call (.ref fa) ⟨[.ref a],[]⟩) (λr s'=>r=.ok (.ret (.bool true))/\OldK s₁.heap s'.heap/\s'.os=s₁.os/\AllBare s'.gens) s₁:=by
    intro H hO hS hok hA hK;have UC:∀ {b:Addr} {o:Obj},s₁.heap.get? b=some o->H b=none->(Sd s₁.heap H).get? b=some o:=λe n=>WL e n;have noA:∀ {b:Addr} {o:Obj} {es:Array DictEntry} {ep:Nat},s₁.heap.get? b=some o->o.data=.dict es ep->H b=none:=λ{b o es ep} e d=>by
      cases q:H b with
      | none=>rfl
      | some u =>
        have e':b=a:=hA b (by rw[q];simp);subst e';rw[ha]at e;cases e;have d':Data.seq vs.toArray _=Data.dict es ep:=d;cases d'
    have nsK:∀ {b:Addr} {m:Str->Option Value},s₁.heap.Ns b m->(Sd s₁.heap H).Ns b m:=λ{b m} ⟨o,es,ep,e,d,r⟩=>⟨o,es,ep,UC e (noA e d),d,r⟩;have hKb:K.In (Sd s₁.heap H):=λb o e=>UC (KX b o e) (by
      cases q:H b with
      | none=>rfl
      | some u =>
        have e':b=a:=hA b (by rw[q];simp);subst e';rw[hK (by rw[q];simp)]at e;cases e)
    have hM:Mod K mg (Sd s₁.heap H):=⟨hKb,nsK hns,⟨mb,nsK hb,hbb⟩,let ⟨mc,h1,h2⟩:=alQ;⟨mc,nsK h1,h2⟩⟩;have e0:Sk P w K mg (Sd s₁.heap H) callerA [] s₁ H:=⟨rfl,hM,λb o e=>Zn e,Nat.le_of_eq (Vo _ _),trivial,λb hb=>absurd (show b∈([]:List Addr) from hb) 2e5,hok,.of_eq hg⟩;refine codeAny_mono ((F _ hKb (nsK hns)).run callerA [] s₁ H ⟨[.ref a],[]⟩ [.ref a] [.ref a] _ _ hr e0 (aec s₁ 8e5) (.cons rfl .nil) (hsp H hO hS)) λr s' h=>?_;cases r with
    | error e=>exact(hCX H e s' h).elim
    | ok fl =>
      cases fl with
      | next=>exact False.elim h
      | brk=>exact False.elim h
      | cont=>exact False.elim h
      | ret u =>
        obtain⟨v,H',os,bare,un,alS,r',q⟩:=h;have q':v=.bl true:=q;subst q';obtain rfl:u=Value.bool true:=r';refine⟨rfl,OldK.of_keep λb o e=>?_,os,bare⟩;cases q:H b with
        | none=>exact un.keep b o e q (by intro z;exact absurd (show b∈([]:List Addr) from z) 2e5) 2e5
        | some u =>
          rcases hO b with z|⟨ob,xs,z⟩
          · rw[q]at z;cases z
          · have z2:=un.Ip b ob _ z
            obtain⟨e1,_⟩:=hok b _ z;obtain⟨e2,_⟩:=alS b _ z2;rw[e]at e1;cases e1;exact e2
  cases hk:K.lookup a with
  | some o =>
    have e:=KX a o hk;rw[ha]at e;cases e;refine core (λ_=>none) (λ_=>.inl rfl) (.inr ⟨_,vs.toArray,_,hk,rfl,rfl,rfl,by rw[ap5,alR];exact hl,by simpa using rv⟩) (λb u z=>by have z':(none:Option HO)=some u:=z;cases z') (λb z=>absurd rfl z) λz=>absurd rfl z
  | none =>
    refine core (λb=>if b=a then some (.frz {cls:=.type "list",data:=.seq vs.toArray} (.lst 4e6)) else none) (λb=>?_) (.inl (.inr ⟨{cls:=.type "list",data:=.seq vs.toArray},if_pos rfl⟩)) (λb u z=>?_) (λb z=>?_) λ_=>hk
    · by_cases hb:b=a
      · exact .inr ⟨_,_,if_pos hb⟩
      · exact .inl (if_neg hb)
    · by_cases hb:b=a
      · have z':=(if_pos hb).symm.trans z
        cases z';subst hb;exact⟨ha,by rw[apR];exact hl,vs,_,rv,ha⟩
      · have z':=(if_neg hb).symm.trans z
        cases z'
    · by_cases hb:b=a
      · exact hb
      · exact absurd (if_neg hb) z
end L2
namespace L2
open PySem PySem.Spec PyProof.Rows
theorem Zz{l:PySem.W.OpenLaw}{n k:Nat}{q:Program}{loose:List Str}{XP:(Str->Option Value)->Heap->Prop}{YP:World->Heap->Prop}{d:DefRec}{K:Params->W.Frag}{CX:World->CXT}{sp:World->Sp}{x:Str}
    (hn:l.most=some n) (hn2:n<=sizeLine) (hdf:d.params.defaults=[]) (hr:lO k callerA)
    (hY:∀(w:World) (h:Heap),YP w h->(K w.params).In h)
    (F:∀(w:World) (mg:Str->Option Value) (fa:Addr) (h:Heap),(K w.params).In h->h.Ns mainGlobals mg->mg d.name=some (.ref fa) ->
      ∃ fd:FuncData,(∀(s:Shared) (u:Value),BindsTo s fd ⟨[u],[]⟩ [(x,u)]) /\
        ∀ base:Heap,(K w.params).In base->base.Ns mainGlobals mg->Ej l.prog w (K w.params) mg base (CX w) k fa fd [x] (sp w))
    (hsp:∀(w:World) (H:Hp) (a:Addr) (ns:List Int),ns.length<=n->ach H->SqL (K w.params) H a 4e6->sp w [.ref a] H (λv _=>v=.bl true) λ_ _ _=>False)
    (hCX:∀(w:World) (H:Hp) (s:Shared) (e:Value) (s':Shared),CX w [] H s (λ_ _ _=>False) e s'->False) :
    PySem.W.WalkO q loose XP YP l.row.toRowW d [] (λf vs=>PySem.call f vs):=by
  refine Att.Px hn hdf λw s₀ s₁ mg mb fa o pm cd doc a vs ns G Y ho hd hcd hmg acg hints hlen hg=>?_;have KX:=hY w _ Y;obtain⟨fd,hb,hF⟩:=F w mg fa _ KX G.T.g hmg;exact WS KX G.T.g G.T.b G.T.builtins G.T.nolimit hg acg hints (aqk hlen hn2) hr hF hb (λH hO hS=>hsp w H a ns hlen hO hS) λH e s'=>hCX w H s₁ e s'
end L2
namespace L2
open PySem PySem.Spec PyProof.Rows
noncomputable def inClass(s:Stmt)(j:Nat):Stmt:=match s with
  | .ClassDef _ _ _ body _ _ _ _ _ _ _=>body.getD j 1e5
  | _=>.Pass ⟨0,0,0,0⟩
noncomputable def lP(s:Stmt):Arguments:=match s with
  | .FunctionDef _ a _ _ _ _ _ _ _ _=>a
  | _=>{posonlyargs:=[],args:=[],vararg:=none,kwonlyargs:=[],kw_defaults:=[],kwarg:=none,defaults:=[]}
noncomputable def aE(s:Stmt):List Stmt:=match s with
  | .FunctionDef _ _ b _ _ _ _ _ _ _=>b
  | _=>[]
noncomputable def aq(s:Stmt):Scope:=match s with
  | .FunctionDef _ _ _ _ _ _ sc _ _ _=>sc
  | _=>{kind:=.function,names:=[],isGenerator:=false,isCoroutine:=false}
structure Fun(K:W.Frag)(x qual:Str)(st:Stmt)(f:Addr)(fd:FuncData):Prop where
  ex:∃(oc:Value) (od:Option Addr) (kV doc pm:Value) (an:Option Addr) (cdv ct:Value) (osl:Array (Option Value)),
    fd=PySem.W.fnOf x qual (lP st) (aE st) (aq st) .none kV doc pm an cdv ct/\K.lookup f=some ⟨oc,od,.func fd,osl⟩/\PySem.W.codeIn K cdv qual=true
  kp:PySem.W.keepIn K 7e4=true
section
variable{P:Program}{w:World}{K:W.Frag}{mg:Str->Option Value}{base:Heap}
theorem Fun.binds{x qual:Str}{st:Stmt}{f:Addr}{fd:FuncData}{ps:List Str}(F:Fun K x qual st f fd)
    (h:∀(kV doc pm:Value) (an:Option Addr) (cdv ct:Value) (us:List Value),us.length=ps.length->bindArgs (PySem.W.fnOf x qual (lP st) (aE st) (aq st) .none kV doc pm an cdv ct) ⟨us,[]⟩=pure (ps.zip us)):Binds K fd ps []:=by
  obtain⟨oc,od,kV,doc,pm,an,cdv,ct,osl,rfl,lk,hcd⟩:=F.ex;exact .all (h kV doc pm an cdv ct)
theorem abv{x qual:Str}{st:Stmt}{f:Addr}{oc:Value}{od an:Option Addr}{osl:Array (Option Value)}{kV doc pm cdv ct:Value}(l:K.lookup f=some ⟨oc,od,.func (PySem.W.fnOf x qual (lP st) (aE st) (aq st) .none kV doc pm an cdv ct),osl⟩)
    (c:PySem.W.codeIn K cdv qual=true) (k:PySem.W.keepIn K 7e4=true):Fun K x qual st f (PySem.W.fnOf x qual (lP st) (aE st) (aq st) .none kV doc pm an cdv ct):=⟨⟨oc,od,kV,doc,pm,an,cdv,ct,osl,rfl,l,c⟩,k⟩
end
theorem jK{A:Around}{k:Nat}(hr:lO k A):A.units+1<cLine:=aqL (Nat.add_le_add_left (by decide:1<=64) _) hr.units
section
variable{X:Cx}
theorem pv(i:Nat){x:Str}{pos:Pos}(hN:X.N[i]?=some x:=by rfl)(hv:Vis X.env.scope x:=by first|exact Or.inl rfl|exact Or.inr (Or.inl rfl)|exact Or.inr (Or.inr rfl))(hd:(x == ("__debug__" : Str))=false:=by decide)
    (hcd:(x == ("__classdict__" : Str))=false:=by decide):PE X (.Name x pos) (acb i):=abj hN hv hd hcd
end
theorem xt{A B:Prop}(h:B):if false=true then A else B:=by
  rw[if_neg ap0];exact h
theorem yt{A B:Prop}(h:A):if true=true then A else B:=by
  rw[if_pos rfl];exact h
theorem a9{c A B:Prop}[Decidable c](h1:c->A)(h2:¬c->B):if c then A else B:=by
  by_cases h:c
  · rw[if_pos h]
    exact h1 h
  · rw[if_neg h]
    exact h2 h
noncomputable def az(H H':Hp):Prop:=∀ b o,H b=some o->H' b=some o
theorem az.refl(H:Hp):az H H:=λ_ _ h=>h
theorem az.trans{H H1 H2:Hp}(a:az H H1)(b:az H1 H2):az H H2:=λc o h=>b c o (a c o h)
theorem az.seq{K:W.Frag}{H H':Hp}{a:Addr}{xs:List V}(e:az H H')(h:SqL K H a xs):SqL K H' a xs:=by
  rcases h with(h|⟨o,h⟩)|h
  · exact .inl (.inl (e _ _ h))
  · exact .inl (.inr ⟨o,e _ _ h⟩)
  · exact .inr h
end L2
end
section
namespace K44
open PySem PySem.W L2 PySem.PyData
theorem wsd:PySem.Challenge.rw_stillheap_k44_whole_copied_heaps.wellSaid=true:=by kernel_rfl
noncomputable def top(i:Nat):Stmt:=9e9.main.body.getD i 1e5
noncomputable section
abbrev OO:=Params->Obj
abbrev FN:=Str×Str×Stmt
noncomputable def oF(f:FN)(m:Value)(r:Addr):OO:=λ_=>⟨.type "function",none,.func (fnOf f.1 f.2.1 (lP f.2.2) (aE f.2.2) (aq f.2.2) .none .none .none m none (.ref r) .none),#[]⟩
noncomputable def oG(f:FN):OO:=λ_=>⟨.none,none,.func ⟨f.1,f.2.1,lP f.2.2,.stmts (aE f.2.2),aq f.2.2,0,[],.none,.none,.none,.none,none,.none,.none,0⟩,#[]⟩
noncomputable def oT(l:List Value):OO:=λ_=>⟨.type "tuple",none,.seq (List.toArray l) 0,#[]⟩
def oS:List Str->Tok->List Value
 | [],_=>[]
 | x::r,k=>.str x k::oS r (k+1)
noncomputable def oD(l:List (Str×Tok×Value))(n:Nat):OO:=λP=>⟨.type "dict",none,.dict (List.toArray (l.map λe=>⟨keyHash P e.1,.str e.1 e.2.1,e.2.2⟩)) n,#[]⟩
def zB:List String->Tok->List (Str×Tok×Value)
 | [],_=>[]
 | x::r,k=>(Str.ofString x,k,.builtin x)::zB r (k+1)
def zT:List String->Tok->List (Str×Tok×Value)
 | [],_=>[]
 | x::r,k=>(Str.ofString x,k,.type x)::zT r (k+1)
def ap(a b:List (Str×Tok×Value)):List (Str×Tok×Value):=a++b
noncomputable def oC(f:FN)(t:Tok)(l a b c d:Int)(r:Addr)(e:Int)(g h i j:Addr)(z:Int)(u:Tok):OO:=λ_=>⟨.type "code",none,.fields (List.toArray [.str f.1 t,.str f.2.1 (t+1),.str "/claim/cut.py" (t+2),.int l 0,.int a 0,.int b 0,.int c 0,.int d 0,.ref r,.bool true,.int e 0,.ref g,.none,.ref h,.ref i,.ref j,.int z 0,.int l 0,.str "/claim/cut.py" u]),#[]⟩
noncomputable def oN(f:FN)(t:Tok)(l a b c d:Int)(r:Addr)(e:Int)(g j:Addr)(z:Int)(u:Tok):OO:=λ_=>⟨.type "code",none,.fields (List.toArray [.str f.1 t,.str f.2.1 (t+1),.str "/claim/cut.py" (t+2),.int l 0,.int a 0,.int b 0,.int c 0,.int d 0,.ref r,.bool true,.int e 0,.ref g,.none,.none,.none,.ref j,.int z 0,.int l 0,.str "/claim/cut.py" u]),#[]⟩
noncomputable def oM(n:Str)(t:Tok)(l:Int)(r:Addr)(e:Int)(f:Addr)(z:Int)(u:Tok):OO:=λ_=>⟨.type "code",none,.fields (List.toArray [.str n t,.str n (t+1),.str "/claim/cut.py" (t+2),.int l 0,.int 0 0,.int 0 0,.int 0 0,.int 0 0,.ref r,.bool false,.int e 0,.ref f,.none,.none,.none,.none,.int z 0,.int l 0,.str "/claim/cut.py" u]),#[]⟩
def oI:List Nat->List Value
 | a::b::c::r=>.int a 0::.int b 0::.ref c::oI r
 | _=>[]
noncomputable def oX(l:List Nat):OO:=λ_=>⟨.none,none,.fields (List.toArray (oI l)),#[]⟩
noncomputable def oR(a b c:Addr)(m:Value):OO:=λ_=>⟨.type "frame",none,.plain,List.toArray [some 8e5,some (.ref b),some (.ref c),none,some m,none,some (.ref 0)]⟩
noncomputable def oP(a b:Value):OO:=λ_=>⟨.type "builtin_function_or_method",none,.fields (List.toArray [a,b]),#[]⟩
noncomputable def oY(n:Str)(b m:List Value)(d:Addr)(u:List Value)(k:Option Value)(t1 t2:Tok)(w:Value):OO:=λ_=>⟨.type "type",none,.cls ⟨n,b,m,d,n,true,[],u,false,none,false⟩,List.toArray [k,none,some (.str n t1),some (.str n t2),some w,some (.bool true)]⟩
noncomputable def oU(a:Addr):OO:=λ_=>⟨.type "super",none,.fields (List.toArray [.ref a,.ref a,.ref a]),#[]⟩
def spl:List OO->List OO×List OO
 | []=>([],[])
 | [a]=>([a],[])
 | a::b::r=>(a::(spl r).1,b::(spl r).2)
noncomputable def mkT(P:Params):Nat->List OO->BT
 | 0,_=>.nil
 | _+1,[]=>.nil
 | n+1,x::r=>.node (x P) (mkT P n (spl r).1) (mkT P n (spl r).2)
def stT(l:List OO)(c:List (Nat×OO)):List OO:=c.foldl (λl p=>l.set p.1 p.2) l
def fn0:FN:=("_wall","_wall",top 0)
def fn1:FN:=("__init__","HeapError.__init__",inClass (top 2) 0)
def fn2:FN:=("called","HeapError.called",inClass (top 2) 1)
def fn3:FN:=("called","BadHand.called",inClass (top 3) 0)
def fn4:FN:=("called","BadName.called",inClass (top 4) 0)
def fn5:FN:=("called","BadField.called",inClass (top 5) 0)
def fn6:FN:=("called","BadCount.called",inClass (top 6) 0)
def fn7:FN:=("called","NoRoom.called",inClass (top 7) 0)
def fn8:FN:=("called","TooManyWords.called",inClass (top 8) 0)
def fn9:FN:=("called","RoundOn.called",inClass (top 9) 0)
def aci:FN:=("called","NoRound.called",inClass (top 10) 0)
def acj:FN:=("called","BadView.called",inClass (top 11) 0)
def ack:FN:=("called","BadAddress.called",inClass (top 12) 0)
def acm:FN:=("number_value","number_value",top 20)
def acn:FN:=("thing_value","thing_value",top 21)
def aco:FN:=("kind_of","kind_of",top 22)
def acp:FN:=("words_of","words_of",top 23)
def acq:FN:=("look_at_number","look_at_number",top 24)
def acr:FN:=("look_at_hand","look_at_hand",top 25)
def acs:FN:=("look_at_name","look_at_name",top 26)
def acu:FN:=("look_at_field","look_at_field",top 27)
def acv:FN:=("look_at_limits","look_at_limits",top 28)
def acw:FN:=("lay","lay",top 30)
def acx:FN:=("thing_at","thing_at",top 31)
def acy:FN:=("resolved","resolved",top 32)
def acz:FN:=("fields_at","fields_at",top 33)
def acA:FN:=("fields_told","fields_told",top 34)
def acB:FN:=("look_at_room","look_at_room",top 35)
def acC:FN:=("copied","copied",top 37)
def acD:FN:=("things_met","things_met",top 38)
def acE:FN:=("address_told","address_told",top 39)
def acF:FN:=("words_among","words_among",top 40)
def acG:FN:=("places_from","places_from",top 41)
def acH:FN:=("told_anew","told_anew",top 42)
def acI:FN:=("__init__","Hands.__init__",inClass (top 44) 0)
def acJ:FN:=("word_in","Hands.word_in",inClass (top 44) 1)
def acK:FN:=("all_words","Hands.all_words",inClass (top 44) 2)
def acL:FN:=("put","Hands.put",inClass (top 44) 3)
def acM:FN:=("copy","Hands.copy",inClass (top 44) 4)
def acN:FN:=("number","Hands.number",inClass (top 44) 5)
def acO:FN:=("kind","Hands.kind",inClass (top 44) 6)
def acP:FN:=("value","Hands.value",inClass (top 44) 7)
def acQ:FN:=("same","Hands.same",inClass (top 44) 8)
def acR:FN:=("thing_due","Hands.thing_due",inClass (top 44) 9)
def acS:FN:=("__init__","WordTable.__init__",inClass (top 47) 0)
def acT:FN:=("bear","WordTable.bear",inClass (top 47) 1)
def acU:FN:=("word_of","WordTable.word_of",inClass (top 47) 2)
def acV:FN:=("bearers","WordTable.bearers",inClass (top 47) 3)
def acW:FN:=("settle","WordTable.settle",inClass (top 47) 4)
def acX:FN:=("take","WordTable.take",inClass (top 47) 5)
def acY:FN:=("said","WordTable.said",inClass (top 47) 6)
def acZ:FN:=("last_steps","last_steps",top 49)
def ac0:FN:=("__init__","NameTable.__init__",inClass (top 51) 0)
def ac1:FN:=("name","NameTable.name",inClass (top 51) 1)
def ac2:FN:=("named","NameTable.named",inClass (top 51) 2)
def ac3:FN:=("all_named","NameTable.all_named",inClass (top 51) 3)
def ac4:FN:=("settle","NameTable.settle",inClass (top 51) 4)
def ac5:FN:=("__init__","Heap.__init__",inClass 5e9 0)
def ac6:FN:=("add_thing","Heap.add_thing",inClass 5e9 1)
def ac7:FN:=("load","Heap.load",inClass 5e9 2)
def ac8:FN:=("store","Heap.store",inClass 5e9 3)
def ac9:FN:=("copy","Heap.copy",inClass 5e9 4)
def ada:FN:=("drop","Heap.drop",inClass 5e9 5)
def adb:FN:=("number","Heap.number",inClass 5e9 6)
def ade:FN:=("name","Heap.name",inClass 5e9 7)
def adf:FN:=("read_thing","Heap.read_thing",inClass 5e9 8)
def adg:FN:=("word","Heap.word",inClass 5e9 9)
def adh:FN:=("small_round","Heap.small_round",inClass 5e9 10)
def adi:FN:=("let_go","Heap.let_go",inClass 5e9 11)
def adj:FN:=("look_at_held","Heap.look_at_held",inClass 5e9 12)
def adk:FN:=("field_value","Heap.field_value",inClass 5e9 13)
def adl:FN:=("counts_held","Heap.counts_held",inClass 5e9 14)
def adn:FN:=("words_among","Heap.words_among",inClass 5e9 15)
def ado:FN:=("led_among","Heap.led_among",inClass 5e9 16)
def adp:FN:=("thing_among","thing_among",top 54)
def adq:FN:=("__init__","IdealHeap.__init__",inClass 4e9 0)
def ads:FN:=("make","IdealHeap.make",inClass 4e9 1)
def adt:FN:=("read","IdealHeap.read",inClass 4e9 2)
def adu:FN:=("take","IdealHeap.take",inClass 4e9 3)
def adv:FN:=("kind","IdealHeap.kind",inClass 4e9 4)
def adw:FN:=("value","IdealHeap.value",inClass 4e9 5)
def adx:FN:=("fields","IdealHeap.fields",inClass 4e9 6)
def ady:FN:=("same","IdealHeap.same",inClass 4e9 7)
def adz:FN:=("held","IdealHeap.held",inClass 4e9 8)
def adA:FN:=("small","IdealHeap.small",inClass 4e9 9)
def adB:FN:=("begin","IdealHeap.begin",inClass 4e9 10)
def adC:FN:=("end","IdealHeap.end",inClass 4e9 11)
def adD:FN:=("round_on","IdealHeap.round_on",inClass 4e9 12)
def adE:FN:=("hands","IdealHeap.hands",inClass 4e9 13)
def adF:FN:=("names","IdealHeap.names",inClass 4e9 14)
def adG:FN:=("things","IdealHeap.things",inClass 4e9 15)
def adH:FN:=("fields_of","IdealHeap.fields_of",inClass 4e9 16)
def adI:FN:=("is_old","IdealHeap.is_old",inClass 4e9 17)
def adJ:FN:=("word_of","IdealHeap.word_of",inClass 4e9 18)
def adK:FN:=("doomed","IdealHeap.doomed",inClass 4e9 19)
def adL:FN:=("said","IdealHeap.said",inClass 4e9 20)
def adM:FN:=("made","IdealHeap.made",inClass 4e9 21)
def adN:FN:=("spare","IdealHeap.spare",inClass 4e9 22)
def adO:FN:=("__init__","Memory.__init__",inClass (top 58) 0)
def adP:FN:=("size","Memory.size",inClass (top 58) 1)
def Yz:FN:=("at","Memory.at",inClass (top 58) 2)
def YA:FN:=("put","Memory.put",inClass (top 58) 3)
def YB:FN:=("copy_of","Memory.copy_of",inClass (top 58) 4)
def YC:FN:=("look_at_address","Memory.look_at_address",inClass (top 58) 5)
def YD:FN:=("is_picture","is_picture",top 60)
def YE:FN:=("first_unlike","first_unlike",top 61)
def YF:FN:=("first_misplaced","first_misplaced",top 62)
def YG:FN:=("addresses_of","addresses_of",top 63)
def YH:FN:=("first_headless","first_headless",top 64)
def YI:FN:=("first_unlike_field","first_unlike_field",top 65)
def YJ:FN:=("first_unlike_word","first_unlike_word",top 66)
def YK:FN:=("is_like","is_like",top 67)
def YL:FN:=("place_met","place_met",top 68)
def YM:FN:=("_law_cell","_law_cell",top 70)
def YN:FN:=("_law_numbers","_law_numbers",top 71)
def YO:FN:=("_law_deed","_law_deed",top 72)
def YQ:FN:=("_law_plain","_law_plain",top 73)
def YR:FN:=("_law_done","_law_done",top 74)
def YS:FN:=("_law_word_of","_law_word_of",top 75)
def YT:FN:=("_law_laid","_law_laid",top 76)
def YU:FN:=("_law_names","_law_names",top 77)
def YV:FN:=("law","law",top 78)
def xs0:List Nat:=[1,0,20,5,0,27,12,0,54,16,0,73,20,0,92,24,0,111,28,0,130,32,0,149,36,0,168,40,0,187,44,0,206,48,0,225,59,0,244,62,0,251,66,0,258,68,0,265,72,0,272,75,0,279,78,0,286,81,0,293,84,0,300,90,0,307,95,0,312,98,0,319,104,0,326,106,0,333,112,0,340,116,0,345,127,0,352,138,0,359,144,0,364,146,0,371,153,0,378,157,0,385,199,0,469,227,0,532,242,0,539,261,0,586,351,0,713,356,0,720,455,0,893,478,0,949,480,0,954,494,0,961,504,0,966,506,0,973,511,0,980,518,0,987,524,0,994,528,0,1001,534,0,1008,538,0,1015,550,0,1022,563,0,1029,588,0,1036,595,0,1043,599,0,1050,611,0,1057,619,0,1062]
def v0:Value:=.type "object"
def v1:Value:=.str "stillheap.ideal" 1092
def v2:Value:=.str "stillheap.errors" 194
def v3:Value:=.str "stillheap.heaps" 907
def v4:Value:=.builtin "object.__init_subclass__"
def v5:Value:=.type "ValueError"
def v6:Value:=.type "Exception"
def v7:Value:=.type "BaseException"
def v8:Value:=.builtin "ValueError.__new__"
def v9:Value:=.type "getset_descriptor"
def v10:Value:=.str "stillheap.hands" 647
def v11:Value:=.str "stillheap.values" 459
def v12:Value:=.str "stillheap.pictures" 1367
def v13:Value:=.str "law_stillheap_k44_whole_copied_heaps" 1459
def v14:Value:=.str "stillheap.lastwords" 753
def v15:Value:=.builtin "object.__new__"
def v16:Value:=.str "stillheap.memory" 1297
def v17:Value:=.builtin "ExceptionGroup.__weakref__"
def v18:Value:=.str "stillheap.layout" 538
def v19:Value:=.str "stillheap.copying" 594
def v20:Value:=.str "stillheap.weaknames" 847
def v21:Value:=.builtin "function.__dict__"
def v22:Value:=.builtin "function.__dict__#set"
def v23:Value:=.str "__main__" 164
def o0:OO:=oD (ap [("__name__",1,.str "builtins" 160),("__doc__",2,.builtin "builtins.__doc__:str#opaque"),("__package__",3,.builtin "builtins.__package__:str#opaque"),("__loader__",4,.builtin "builtins.__loader__:shared#opaque"),("__spec__",5,.builtin "builtins.__spec__#opaque")] (ap (zB ["__build_class__","__import__","abs","all","any","ascii","bin","breakpoint","callable","chr","compile","delattr","dir","divmod","eval","exec","format","getattr","globals","hasattr","hash","hex","id","input","isinstance","issubclass","iter","aiter","len","locals","max","min","next","anext","oct","ord","pow","print","repr","round","setattr","sorted","sum","vars"] 6) (ap [("None",50,.none),("Ellipsis",51,.ellipsis),("NotImplemented",52,.notImplemented),("False",53,.bool false),("True",54,.bool true)] (ap (zT ["bool","memoryview","bytearray","bytes","classmethod","complex","dict","enumerate","filter","float","frozenset","property","int","list","map","object","range","reversed","set","slice","staticmethod","str","super","tuple","type","zip"] 55) (ap [("__debug__",81,.bool true)] (ap (zT ["BaseException","BaseExceptionGroup","Exception","GeneratorExit","KeyboardInterrupt","SystemExit","ArithmeticError","AssertionError","AttributeError","BufferError","EOFError","ImportError","LookupError","MemoryError","NameError","OSError","ReferenceError","RuntimeError","StopAsyncIteration","StopIteration","SyntaxError","SystemError","TypeError","ValueError","Warning","FloatingPointError","OverflowError","ZeroDivisionError","BytesWarning","DeprecationWarning","EncodingWarning","FutureWarning","ImportWarning","PendingDeprecationWarning","ResourceWarning","RuntimeWarning","SyntaxWarning","UnicodeWarning","UserWarning","BlockingIOError","ChildProcessError","ConnectionError","FileExistsError","FileNotFoundError","InterruptedError","IsADirectoryError","NotADirectoryError","PermissionError","ProcessLookupError","TimeoutError","IndentationError","_IncompleteInputError","IndexError","KeyError","ModuleNotFoundError","NotImplementedError","PythonFinalizationError","RecursionError","UnboundLocalError","UnicodeError"] 82) (ap (zT ["BrokenPipeError","ConnectionAbortedError","ConnectionRefusedError","ConnectionResetError","TabError","UnicodeDecodeError","UnicodeEncodeError","UnicodeTranslateError","ExceptionGroup"] 142) [("EnvironmentError",151,.type "OSError"),("IOError",152,.type "OSError"),("open",153,.builtin "open"),("quit",154,.builtin "builtins.quit#opaque"),("exit",155,.builtin "builtins.exit#opaque"),("copyright",156,.builtin "builtins.copyright#opaque"),("credits",157,.builtin "builtins.credits#opaque"),("license",158,.builtin "builtins.license#opaque"),("help",159,.builtin "builtins.help#opaque")]))))))) 159
def o1:OO:=oD [("builtins",162,.ref 4),("__main__",163,.ref 5)] 2
def o2:OO:=λ_=>⟨.none,none,(.dict #[] 0),#[]⟩
def o3:OO:=oD [("__name__",165,.str "__main__" 164),("__doc__",166,.none),("__package__",167,.none),9e3,("__spec__",169,.none),("__annotations__",170,.ref 6),("__builtins__",171,.ref 4),("__file__",173,.str "/claim/cut.py" 172),("__cached__",174,.none)] 9
def o4:OO:=λ_=>⟨(.type "module"),(.some 0),.plain,#[]⟩
def o5:OO:=λ_=>⟨(.type "module"),(.some 3),.plain,#[]⟩
def o6:OO:=λ_=>⟨(.type "dict"),none,(.dict #[] 0),#[]⟩
def o7:OO:=λ_=>⟨(.type "tuple"),none,(.seq #[] 0),#[]⟩
def o8:OO:=λ_=>⟨.none,none,(.fields #[]),#[]⟩
def o9:OO:=oM "<module>" 176 1 7 175 8 179 180
def o10:OO:=oR 9 3 3 v23
def o11:OO:=oM "<module>" 182 1 11 181 12 185 186
def o12:OO:=oR 13 3 3 v23
def o13:OO:=oD [("__name__",165,.str "stillheap.errors" 194),("__doc__",166,.none),("__package__",167,.none),9e3,("__spec__",169,.none),("__annotations__",170,.ref 6),("__builtins__",171,.ref 4),("__file__",173,.str "/claim/cut.py" 172),("__cached__",174,.none),("_wall",193,.ref 21),("HeapError",228,.ref 45),("BadHand",251,.ref 65),("BadName",274,.ref 84),("BadField",297,.ref 103),("BadCount",320,.ref 122),("NoRoom",343,.ref 141),("TooManyWords",366,.ref 160),("RoundOn",389,.ref 179)] 18
def o14:OO:=oX (xs0.take 27)
def o15:OO:=oT (oS ["k"] 190)
def o16:OO:=oG fn0
def o17:OO:=oC fn0 187 1 1 0 0 3 15 181 16 17 18 19 191 192
def o18:OO:=oF fn0 v23 20
def o19:OO:=oT [v5]
def o20:OO:=oP (.builtin "type.__prepare__") (.type "type")
def o21:OO:=oD [("__module__",203,.str "stillheap.errors" 194),("__qualname__",205,.str "HeapError" 204),("__firstlineno__",207,.int 5 206),("__init__",215,.ref 35),("called",222,.ref 42),("__static_attributes__",223,.ref 43)] 6
def o22:OO:=oX [7,4,34,10,4,41]
def o23:OO:=oM "HeapError" 198 5 25 181 26 201 202
def o24:OO:=oR 27 3 24 v2
def o25:OO:=oT (oS ["self","text"] 211)
def o26:OO:=oG fn1
def o27:OO:=oC fn1 208 7 2 0 0 3 29 181 30 31 32 33 213 214
def o28:OO:=oF fn1 v2 34
def o29:OO:=oT (oS ["self"] 219)
def o30:OO:=oG fn2
def o31:OO:=oC fn2 216 10 1 0 0 3 36 181 37 38 39 40 220 221
def o32:OO:=oF fn2 v2 41
def o33:OO:=oD [("__module__",203,.str "stillheap.errors" 194),("__firstlineno__",207,.int 5 206),("__init__",215,.ref 35),("called",222,.ref 42),("__static_attributes__",223,.ref 43),("__weakref__",225,.ref 46),("__doc__",226,.none)] 3
def o34:OO:=oY "HeapError" [v5] [6e3,v5,v6,v7,v0] 44 [(.ref 65),(.ref 84),(.ref 103),(.ref 122),(.ref 141),(.ref 160),(.ref 179)] (.some (.ref 22)) 196 204 v8
def o35:OO:=λ_=>⟨v9,none,(.fields (List.toArray [(.str "__weakref__" 224),6e3,v17,.none])),#[]⟩
def o36:OO:=oU 45
def o37:OO:=oP v4 6e3
def o38:OO:=oT [6e3]
def o39:OO:=oD [("__module__",236,.str "stillheap.errors" 194),("__qualname__",238,.str "BadHand" 237),("__firstlineno__",240,.int 12 239),("called",247,.ref 62),("__static_attributes__",248,.ref 63)] 5
def o40:OO:=oX [14,4,61]
def o41:OO:=oM "BadHand" 231 12 52 181 53 234 235
def o42:OO:=oR 54 3 51 v2
def o43:OO:=oT (oS ["self"] 244)
def o44:OO:=oG fn3
def o45:OO:=oC fn3 241 14 1 0 0 3 56 181 57 58 59 60 245 246
def o46:OO:=oF fn3 v2 61
def o47:OO:=oD [("__module__",236,.str "stillheap.errors" 194),("__firstlineno__",240,.int 12 239),("called",247,.ref 62),("__static_attributes__",248,.ref 63),("__doc__",249,.none)] 2
def o48:OO:=oY "BadHand" [6e3] [(.ref 65),6e3,v5,v6,v7,v0] 64 [] (.some (.ref 49)) 229 237 v8
def o49:OO:=oU 65
def o50:OO:=oP v4 (.ref 65)
def o51:OO:=oD [("__module__",259,.str "stillheap.errors" 194),("__qualname__",261,.str "BadName" 260),("__firstlineno__",263,.int 16 262),("called",270,.ref 81),("__static_attributes__",271,.ref 82)] 5
def o52:OO:=oX [18,4,80]
def o53:OO:=oM "BadName" 254 16 71 181 72 257 258
def o54:OO:=oR 73 3 70 v2
def o55:OO:=oT (oS ["self"] 267)
def o56:OO:=oG fn4
def o57:OO:=oC fn4 264 18 1 0 0 3 75 181 76 77 78 79 268 269
def o58:OO:=oF fn4 v2 80
def o59:OO:=oD [("__module__",259,.str "stillheap.errors" 194),("__firstlineno__",263,.int 16 262),("called",270,.ref 81),("__static_attributes__",271,.ref 82),("__doc__",272,.none)] 2
def o60:OO:=oY "BadName" [6e3] [(.ref 84),6e3,v5,v6,v7,v0] 83 [] (.some (.ref 68)) 252 260 v8
def o61:OO:=oU 84
def o62:OO:=oP v4 (.ref 84)
def o63:OO:=oD [("__module__",282,.str "stillheap.errors" 194),("__qualname__",284,.str "BadField" 283),("__firstlineno__",286,.int 20 285),("called",293,.ref 100),("__static_attributes__",294,.ref 101)] 5
def o64:OO:=oX [22,4,99]
def o65:OO:=oM "BadField" 277 20 90 181 91 280 281
def o66:OO:=oR 92 3 89 v2
def o67:OO:=oT (oS ["self"] 290)
def o68:OO:=oG fn5
def o69:OO:=oC fn5 287 22 1 0 0 3 94 181 95 96 97 98 291 292
def o70:OO:=oF fn5 v2 99
def o71:OO:=oD [("__module__",282,.str "stillheap.errors" 194),("__firstlineno__",286,.int 20 285),("called",293,.ref 100),("__static_attributes__",294,.ref 101),("__doc__",295,.none)] 2
def o72:OO:=oY "BadField" [6e3] [(.ref 103),6e3,v5,v6,v7,v0] 102 [] (.some (.ref 87)) 275 283 v8
def o73:OO:=oU 103
def o74:OO:=oP v4 (.ref 103)
def o75:OO:=oD [("__module__",305,.str "stillheap.errors" 194),("__qualname__",307,.str "BadCount" 306),("__firstlineno__",309,.int 24 308),("called",316,.ref 119),("__static_attributes__",317,.ref 120)] 5
def o76:OO:=oX [26,4,118]
def o77:OO:=oM "BadCount" 300 24 109 181 110 303 304
def o78:OO:=oR 111 3 108 v2
def o79:OO:=oT (oS ["self"] 313)
def o80:OO:=oG fn6
def o81:OO:=oC fn6 310 26 1 0 0 3 113 181 114 115 116 117 314 315
def o82:OO:=oF fn6 v2 118
def o83:OO:=oD [("__module__",305,.str "stillheap.errors" 194),("__firstlineno__",309,.int 24 308),("called",316,.ref 119),("__static_attributes__",317,.ref 120),("__doc__",318,.none)] 2
def o84:OO:=oY "BadCount" [6e3] [(.ref 122),6e3,v5,v6,v7,v0] 121 [] (.some (.ref 106)) 298 306 v8
def o85:OO:=oU 122
def o86:OO:=oP v4 (.ref 122)
def o87:OO:=oD [("__module__",328,.str "stillheap.errors" 194),("__qualname__",330,.str "NoRoom" 329),("__firstlineno__",332,.int 28 331),("called",339,.ref 138),("__static_attributes__",340,.ref 139)] 5
def o88:OO:=oX [30,4,137]
def o89:OO:=oM "NoRoom" 323 28 128 181 129 326 327
def o90:OO:=oR 130 3 127 v2
def o91:OO:=oT (oS ["self"] 336)
def o92:OO:=oG fn7
def o93:OO:=oC fn7 333 30 1 0 0 3 132 181 133 134 135 136 337 338
def o94:OO:=oF fn7 v2 137
def o95:OO:=oD [("__module__",328,.str "stillheap.errors" 194),("__firstlineno__",332,.int 28 331),("called",339,.ref 138),("__static_attributes__",340,.ref 139),("__doc__",341,.none)] 2
def o96:OO:=oY "NoRoom" [6e3] [(.ref 141),6e3,v5,v6,v7,v0] 140 [] (.some (.ref 125)) 321 329 v8
def o97:OO:=oU 141
def o98:OO:=oP v4 (.ref 141)
def o99:OO:=oD [("__module__",351,.str "stillheap.errors" 194),("__qualname__",353,.str "TooManyWords" 352),("__firstlineno__",355,.int 32 354),("called",362,.ref 157),("__static_attributes__",363,.ref 158)] 5
def alT:OO:=oX [34,4,156]
def alU:OO:=oM "TooManyWords" 346 32 147 181 148 349 350
def alV:OO:=oR 149 3 146 v2
def ae8:OO:=oT (oS ["self"] 359)
def alW:OO:=oG fn8
def ae9:OO:=oC fn8 356 34 1 0 0 3 151 181 152 153 154 155 360 361
def afa:OO:=oF fn8 v2 156
def afb:OO:=oD [("__module__",351,.str "stillheap.errors" 194),("__firstlineno__",355,.int 32 354),("called",362,.ref 157),("__static_attributes__",363,.ref 158),("__doc__",364,.none)] 2
def afc:OO:=oY "TooManyWords" [6e3] [(.ref 160),6e3,v5,v6,v7,v0] 159 [] (.some (.ref 144)) 344 352 v8
def alX:OO:=oU 160
def alY:OO:=oP v4 (.ref 160)
def alZ:OO:=oD [("__module__",374,.str "stillheap.errors" 194),("__qualname__",376,.str "RoundOn" 375),("__firstlineno__",378,.int 36 377),("called",385,.ref 176),("__static_attributes__",386,.ref 177)] 5
def al0:OO:=oX [38,4,175]
def al1:OO:=oM "RoundOn" 369 36 166 181 167 372 373
def al2:OO:=oR 168 3 165 v2
def afd:OO:=oT (oS ["self"] 382)
def al3:OO:=oG fn9
def afe:OO:=oC fn9 379 38 1 0 0 3 170 181 171 172 173 174 383 384
def aff:OO:=oF fn9 v2 175
def afg:OO:=oD [("__module__",374,.str "stillheap.errors" 194),("__firstlineno__",378,.int 36 377),("called",385,.ref 176),("__static_attributes__",386,.ref 177),("__doc__",387,.none)] 2
def afi:OO:=oY "RoundOn" [6e3] [(.ref 179),6e3,v5,v6,v7,v0] 178 [] (.some (.ref 163)) 367 375 v8
def al4:OO:=oU 179
def al5:OO:=oP v4 (.ref 179)
def al6:OO:=oD (ap [("__name__",165,.str "stillheap.lastwords" 753),("__doc__",166,.none),("__package__",167,.none),9e3,("__spec__",169,.none),("__annotations__",170,.ref 6),("__builtins__",171,.ref 4),("__file__",173,.str "/claim/cut.py" 172),("__cached__",174,.none),("_wall",193,.ref 21),("HeapError",228,.ref 45),("BadHand",251,.ref 65),("BadName",274,.ref 84),("BadField",297,.ref 103),("BadCount",320,.ref 122),("NoRoom",343,.ref 141),("TooManyWords",366,.ref 160),("RoundOn",389,.ref 179),("NoRound",412,.ref 198),("BadView",435,.ref 217),("BadAddress",458,.ref 236),("HANDS",462,.int 8 461),("WEAK_NAMES",464,.int 8 463),("MOST_FIELDS",466,.int 6 465),("LEAST_ROOM",468,.int 7 467),("MOST_YOUNG",470,.int 64 469),("MOST_LIMIT",472,.int 400 471),("number_value",479,.ref 245)] [("thing_value",486,.ref 252),("kind_of",493,.ref 259),("words_of",500,.ref 266),("look_at_number",507,.ref 273),("look_at_hand",514,.ref 280),("look_at_name",521,.ref 287),("look_at_field",529,.ref 294),("look_at_limits",537,.ref 301),("lay",551,.ref 308),("thing_at",557,.ref 313),("resolved",566,.ref 320),("fields_at",574,.ref 327),("fields_told",584,.ref 334),("look_at_room",593,.ref 341),("copied",601,.ref 346),("things_met",613,.ref 353),("address_told",620,.ref 360),("words_among",626,.ref 365),("places_from",637,.ref 372),("told_anew",646,.ref 379),("Hands",752,.ref 459),("MOST_BEARERS",756,.int 12 755)]) 50
def al7:OO:=oX (xs0.take 102)
def afj:OO:=oY "HeapError" [v5] [6e3,v5,v6,v7,v0] 44 [(.ref 65),(.ref 84),(.ref 103),(.ref 122),(.ref 141),(.ref 160),(.ref 179),(.ref 198),(.ref 217),(.ref 236)] (.some (.ref 22)) 196 204 v8
def al8:OO:=oD [("__module__",397,.str "stillheap.errors" 194),("__qualname__",399,.str "NoRound" 398),("__firstlineno__",401,.int 40 400),("called",408,.ref 195),("__static_attributes__",409,.ref 196)] 5
def al9:OO:=oX [42,4,194]
def ama:OO:=oM "NoRound" 392 40 185 181 186 395 396
def amb:OO:=oR 187 3 184 v2
def afk:OO:=oT (oS ["self"] 405)
def amc:OO:=oG aci
def afm:OO:=oC aci 402 42 1 0 0 3 189 181 190 191 192 193 406 407
def afn:OO:=oF aci v2 194
def afo:OO:=oD [("__module__",397,.str "stillheap.errors" 194),("__firstlineno__",401,.int 40 400),("called",408,.ref 195),("__static_attributes__",409,.ref 196),("__doc__",410,.none)] 2
def afp:OO:=oY "NoRound" [6e3] [(.ref 198),6e3,v5,v6,v7,v0] 197 [] (.some (.ref 182)) 390 398 v8
def amd:OO:=oU 198
def ame:OO:=oP v4 (.ref 198)
def amf:OO:=oD [("__module__",420,.str "stillheap.errors" 194),("__qualname__",422,.str "BadView" 421),("__firstlineno__",424,.int 44 423),("called",431,.ref 214),("__static_attributes__",432,.ref 215)] 5
def amh:OO:=oX [46,4,213]
def ami:OO:=oM "BadView" 415 44 204 181 205 418 419
def amj:OO:=oR 206 3 203 v2
def afq:OO:=oT (oS ["self"] 428)
def amk:OO:=oG acj
def afr:OO:=oC acj 425 46 1 0 0 3 208 181 209 210 211 212 429 430
def afs:OO:=oF acj v2 213
def aft:OO:=oD [("__module__",420,.str "stillheap.errors" 194),("__firstlineno__",424,.int 44 423),("called",431,.ref 214),("__static_attributes__",432,.ref 215),("__doc__",433,.none)] 2
def afu:OO:=oY "BadView" [6e3] [(.ref 217),6e3,v5,v6,v7,v0] 216 [] (.some (.ref 201)) 413 421 v8
def aml:OO:=oU 217
def amm:OO:=oP v4 (.ref 217)
def amn:OO:=oD [("__module__",443,.str "stillheap.errors" 194),("__qualname__",445,.str "BadAddress" 444),("__firstlineno__",447,.int 48 446),("called",454,.ref 233),("__static_attributes__",455,.ref 234)] 5
def amo:OO:=oX [50,4,232]
def amq:OO:=oM "BadAddress" 438 48 223 181 224 441 442
def amr:OO:=oR 225 3 222 v2
def afv:OO:=oT (oS ["self"] 451)
def ams:OO:=oG ack
def afw:OO:=oC ack 448 50 1 0 0 3 227 181 228 229 230 231 452 453
def afx:OO:=oF ack v2 232
def afy:OO:=oD [("__module__",443,.str "stillheap.errors" 194),("__firstlineno__",447,.int 48 446),("called",454,.ref 233),("__static_attributes__",455,.ref 234),("__doc__",456,.none)] 2
def afz:OO:=oY "BadAddress" [6e3] [(.ref 236),6e3,v5,v6,v7,v0] 235 [] (.some (.ref 220)) 436 444 v8
def amt:OO:=oU 236
def amu:OO:=oP v4 (.ref 236)
def afA:OO:=oT (oS ["x"] 476)
def amv:OO:=oG acm
def afB:OO:=oC acm 473 59 1 0 0 3 239 181 240 241 242 243 477 478
def afC:OO:=oF acm v11 244
def afD:OO:=oT (oS ["t"] 483)
def amw:OO:=oG acn
def afE:OO:=oC acn 480 62 1 0 0 3 246 181 247 248 249 250 484 485
def afF:OO:=oF acn v11 251
def afG:OO:=oT (oS ["value"] 490)
def amx:OO:=oG aco
def afH:OO:=oC aco 487 66 1 0 0 3 253 181 254 255 256 257 491 492
def afI:OO:=oF aco v11 258
def afJ:OO:=oT (oS ["fields"] 497)
def amy:OO:=oG acp
def afK:OO:=oC acp 494 68 1 0 0 3 260 181 261 262 263 264 498 499
def afL:OO:=oF acp v11 265
def afM:OO:=oT (oS ["x"] 504)
def amz:OO:=oG acq
def afN:OO:=oC acq 501 72 1 0 0 3 267 181 268 269 270 271 505 506
def afO:OO:=oF acq v11 272
def afP:OO:=oT (oS ["h"] 511)
def amA:OO:=oG acr
def afQ:OO:=oC acr 508 75 1 0 0 3 274 181 275 276 277 278 512 513
def afR:OO:=oF acr v11 279
def afS:OO:=oT (oS ["w"] 518)
def amB:OO:=oG acs
def afT:OO:=oC acs 515 78 1 0 0 3 281 181 282 283 284 285 519 520
def afU:OO:=oF acs v11 286
def afV:OO:=oT (oS ["k","fields"] 525)
def amC:OO:=oG acu
def afW:OO:=oC acu 522 81 2 0 0 3 288 181 289 290 291 292 527 528
def afX:OO:=oF acu v11 293
def afY:OO:=oT (oS ["young","limit"] 533)
def amD:OO:=oG acv
def afZ:OO:=oC acv 530 84 2 0 0 3 295 181 296 297 298 299 535 536
def af0:OO:=oF acv v11 300
def af1:OO:=oT (oS ["memory","a","t","values","k","value"] 543)
def amE:OO:=oG acw
def af2:OO:=oC acw 540 90 4 0 0 3 302 181 303 304 305 306 549 550
def af3:OO:=oF acw v18 307
def amF:OO:=oG acx
def af4:OO:=oN acx 552 95 2 0 0 3 309 181 310 311 555 556
def af5:OO:=oF acx v18 312
def af6:OO:=oT (oS ["memory","a","word"] 561)
def amG:OO:=oG acy
def af7:OO:=oC acy 558 98 2 0 0 3 314 181 315 316 317 318 564 565
def af8:OO:=oF acy v18 319
def af9:OO:=oT (oS ["memory","a"] 570)
def amH:OO:=oG acz
def aga:OO:=oC acz 567 104 2 0 0 3 321 181 322 323 324 325 572 573
def agb:OO:=oF acz v18 326
def agc:OO:=oT (oS ["memory","a","kinds","word"] 578)
def amI:OO:=oG acA
def agd:OO:=oC acA 575 106 3 0 0 3 328 181 329 330 331 332 582 583
def age:OO:=oF acA v18 333
def agf:OO:=oT (oS ["memory","a","fields"] 588)
def amJ:OO:=oG acB
def agg:OO:=oC acB 585 112 3 0 0 3 335 181 336 337 338 339 591 592
def agh:OO:=oF acB v18 340
def amK:OO:=oG acC
def agi:OO:=oN acC 596 116 4 0 0 3 342 181 343 344 599 600
def agj:OO:=oF acC v19 345
def agk:OO:=oT (oS ["source","roots","things","words","done","a"] 605)
def amL:OO:=oG acD
def agl:OO:=oC acD 602 127 2 0 0 3 347 181 348 349 350 351 611 612
def agm:OO:=oF acD v19 352
def agn:OO:=oT (oS ["word"] 617)
def amM:OO:=oG acE
def ago:OO:=oC acE 614 138 1 0 0 3 354 181 355 356 357 358 618 619
def agp:OO:=oF acE v19 359
def amN:OO:=oG acF
def agq:OO:=oN acF 621 144 1 0 0 3 361 181 362 363 624 625
def agr:OO:=oF acF v19 364
def ags:OO:=oT (oS ["first","things","places","place","a"] 630)
def amO:OO:=oG acG
def agt:OO:=oC acG 627 146 2 0 0 3 366 181 367 368 369 370 635 636
def agu:OO:=oF acG v19 371
def agv:OO:=oT (oS ["word","places","a"] 641)
def amP:OO:=oG acH
def agw:OO:=oC acH 638 153 2 0 0 3 373 181 374 375 376 377 644 645
def agx:OO:=oF acH v19 378
def amQ:OO:=oD [("__module__",656,.str "stillheap.hands" 647),("__qualname__",658,.str "Hands" 657),("__firstlineno__",660,.int 157 659),("__init__",667,.ref 393),("word_in",675,.ref 400),("all_words",682,.ref 407),("put",691,.ref 414),("copy",700,.ref 421),("number",709,.ref 428),("kind",718,.ref 435),("value",726,.ref 442),("same",735,.ref 449),("thing_due",743,.ref 456),("__static_attributes__",745,.ref 457)] 14
def amR:OO:=oX [159,4,392,162,4,399,166,4,406,169,4,413,173,4,420,177,4,427,181,4,434,185,4,441,190,4,448,193,4,455]
def amS:OO:=oM "Hands" 651 157 383 181 384 654 655
def amT:OO:=oR 385 3 382 v10
def agy:OO:=oT (oS ["self"] 664)
def amU:OO:=oG acI
def agz:OO:=oC acI 661 159 1 0 0 3 387 181 388 389 390 391 665 666
def agA:OO:=oF acI v10 392
def agB:OO:=oT (oS ["self","h"] 671)
def amV:OO:=oG acJ
def agC:OO:=oC acJ 668 162 2 0 0 3 394 181 395 396 397 398 673 674
def agD:OO:=oF acJ v10 399
def agE:OO:=oT (oS ["self"] 679)
def amW:OO:=oG acK
def agF:OO:=oC acK 676 166 1 0 0 3 401 181 402 403 404 405 680 681
def agG:OO:=oF acK v10 406
def agH:OO:=oT (oS ["self","h","word"] 686)
def amX:OO:=oG acL
def agI:OO:=oC acL 683 169 3 0 0 3 408 181 409 410 411 412 689 690
def agJ:OO:=oF acL v10 413
def agK:OO:=oT (oS ["self","h","g"] 695)
def amY:OO:=oG acM
def agL:OO:=oC acM 692 173 3 0 0 3 415 181 416 417 418 419 698 699
def agM:OO:=oF acM v10 420
def agN:OO:=oT (oS ["self","h","x"] 704)
def amZ:OO:=oG acN
def agO:OO:=oC acN 701 177 3 0 0 3 422 181 423 424 425 426 707 708
def agP:OO:=oF acN v10 427
def agQ:OO:=oT (oS ["self","h","kind"] 713)
def am0:OO:=oG acO
def agR:OO:=oC acO 710 181 2 0 0 3 429 181 430 431 432 433 716 717
def agS:OO:=oF acO v10 434
def agT:OO:=oT (oS ["self","h"] 722)
def am1:OO:=oG acP
def agU:OO:=oC acP 719 185 2 0 0 3 436 181 437 438 439 440 724 725
def agV:OO:=oF acP v10 441
def agW:OO:=oT (oS ["self","h","g"] 730)
def am2:OO:=oG acQ
def agX:OO:=oC acQ 727 190 3 0 0 3 443 181 444 445 446 447 733 734
def agY:OO:=oF acQ v10 448
def agZ:OO:=oT (oS ["self","h"] 739)
def am3:OO:=oG acR
def ag0:OO:=oC acR 736 193 2 0 0 3 450 181 451 452 453 454 741 742
def ag1:OO:=oF acR v10 455
def ag2:OO:=oT (oS ["words_held"] 744)
def ag3:OO:=oD [("__module__",656,.str "stillheap.hands" 647),("__firstlineno__",660,.int 157 659),("__init__",667,.ref 393),("word_in",675,.ref 400),("all_words",682,.ref 407),("put",691,.ref 414),("copy",700,.ref 421),("number",709,.ref 428),("kind",718,.ref 435),("value",726,.ref 442),("same",735,.ref 449),("thing_due",743,.ref 456),("__static_attributes__",745,.ref 457),("__dict__",747,.ref 460),("__weakref__",749,.ref 461),("__doc__",750,.none)] 4
def ag4:OO:=oY "Hands" [v0] [(.ref 459),v0] 458 [] none 649 657 v15
def ag5:OO:=λ_=>⟨v9,none,(.fields (List.toArray [(.str "__dict__" 746),(.ref 459),v21,v22])),#[]⟩
def ag6:OO:=λ_=>⟨v9,none,(.fields (List.toArray [(.str "__weakref__" 748),(.ref 459),v17,.none])),#[]⟩
def am4:OO:=oU 459
def am5:OO:=oP v4 (.ref 459)
def am6:OO:=oD (ap [("__name__",165,.str "stillheap.ideal" 1092),("__doc__",166,.none),("__package__",167,.none),9e3,("__spec__",169,.none),("__annotations__",170,.ref 6),("__builtins__",171,.ref 4),("__file__",173,.str "/claim/cut.py" 172),("__cached__",174,.none),("_wall",193,.ref 21),("HeapError",228,.ref 45),("BadHand",251,.ref 65),("BadName",274,.ref 84),("BadField",297,.ref 103),("BadCount",320,.ref 122),("NoRoom",343,.ref 141),("TooManyWords",366,.ref 160),("RoundOn",389,.ref 179),("NoRound",412,.ref 198),("BadView",435,.ref 217),("BadAddress",458,.ref 236),("HANDS",462,.int 8 461),("WEAK_NAMES",464,.int 8 463),("MOST_FIELDS",466,.int 6 465),("LEAST_ROOM",468,.int 7 467),("MOST_YOUNG",470,.int 64 469),("MOST_LIMIT",472,.int 400 471),("number_value",479,.ref 245)] [("thing_value",486,.ref 252),("kind_of",493,.ref 259),("words_of",500,.ref 266),("look_at_number",507,.ref 273),("look_at_hand",514,.ref 280),("look_at_name",521,.ref 287),("look_at_field",529,.ref 294),("look_at_limits",537,.ref 301),("lay",551,.ref 308),("thing_at",557,.ref 313),("resolved",566,.ref 320),("fields_at",574,.ref 327),("fields_told",584,.ref 334),("look_at_room",593,.ref 341),("copied",601,.ref 346),("things_met",613,.ref 353),("address_told",620,.ref 360),("words_among",626,.ref 365),("places_from",637,.ref 372),("told_anew",646,.ref 379),("Hands",752,.ref 459),("MOST_BEARERS",756,.int 12 755),("WordTable",832,.ref 522),("last_steps",846,.ref 533),("NameTable",906,.ref 576),("Heap",1083,.ref 703),("thing_among",1091,.ref 714)]) 55
def am7:OO:=oX (xs0.take 117)
def am8:OO:=oD [("__module__",764,.str "stillheap.lastwords" 753),("__qualname__",766,.str "WordTable" 765),("__firstlineno__",768,.int 199 767),("__init__",775,.ref 477),("bear",784,.ref 484),("word_of",792,.ref 491),("bearers",799,.ref 498),("settle",808,.ref 505),("take",815,.ref 512),("said",822,.ref 519),("__static_attributes__",825,.ref 520)] 11
def am9:OO:=oX [201,4,476,205,4,483,210,4,490,213,4,497,216,4,504,221,4,511,224,4,518]
def ana:OO:=oM "WordTable" 759 199 467 181 468 762 763
def anb:OO:=oR 469 3 466 v14
def ag7:OO:=oT (oS ["self"] 772)
def anc:OO:=oG acS
def ag8:OO:=oC acS 769 201 1 0 0 3 471 181 472 473 474 475 773 774
def ag9:OO:=oF acS v14 476
def aha:OO:=oT (oS ["self","t","x"] 779)
def ane:OO:=oG acT
def ahb:OO:=oC acT 776 205 3 0 0 3 478 181 479 480 481 482 782 783
def ahc:OO:=oF acT v14 483
def ahe:OO:=oT (oS ["self","t"] 788)
def anf:OO:=oG acU
def ahf:OO:=oC acU 785 210 2 0 0 3 485 181 486 487 488 489 790 791
def ahg:OO:=oF acU v14 490
def ahh:OO:=oT (oS ["self"] 796)
def ang:OO:=oG acV
def ahi:OO:=oC acV 793 213 1 0 0 3 492 181 493 494 495 496 797 798
def ahj:OO:=oF acV v14 497
def ahk:OO:=oT (oS ["self","things","t"] 803)
def anh:OO:=oG acW
def ahm:OO:=oC acW 800 216 2 0 0 3 499 181 500 501 502 503 806 807
def ahn:OO:=oF acW v14 504
def aho:OO:=oT (oS ["self"] 812)
def ani:OO:=oG acX
def ahp:OO:=oC acX 809 221 1 0 0 3 506 181 507 508 509 510 813 814
def ahq:OO:=oF acX v14 511
def ahr:OO:=oT (oS ["self"] 819)
def anj:OO:=oG acY
def ahs:OO:=oC acY 816 224 1 0 0 3 513 181 514 515 516 517 820 821
def aht:OO:=oF acY v14 518
def ahu:OO:=oT (oS ["words_borne","words_said"] 823)
def ahv:OO:=oD [("__module__",764,.str "stillheap.lastwords" 753),("__firstlineno__",768,.int 199 767),("__init__",775,.ref 477),("bear",784,.ref 484),("word_of",792,.ref 491),("bearers",799,.ref 498),("settle",808,.ref 505),("take",815,.ref 512),("said",822,.ref 519),("__static_attributes__",825,.ref 520),("__dict__",827,.ref 523),("__weakref__",829,.ref 524),("__doc__",830,.none)] 4
def ahw:OO:=oY "WordTable" [v0] [(.ref 522),v0] 521 [] none 757 765 v15
def ahx:OO:=λ_=>⟨v9,none,(.fields (List.toArray [(.str "__dict__" 826),(.ref 522),v21,v22])),#[]⟩
def ahy:OO:=λ_=>⟨v9,none,(.fields (List.toArray [(.str "__weakref__" 828),(.ref 522),v17,.none])),#[]⟩
def ank:OO:=oU 522
def anm:OO:=oP v4 (.ref 522)
def ahz:OO:=oT (oS ["view","steps","place","thing","met","done"] 838)
def ano:OO:=oG acZ
def ahA:OO:=oC acZ 835 227 1 0 0 3 527 181 528 529 530 531 844 845
def ahB:OO:=oF acZ (.str "stillheap.reach" 833) 532
def anp:OO:=oD [("__module__",856,.str "stillheap.weaknames" 847),("__qualname__",858,.str "NameTable" 857),("__firstlineno__",860,.int 242 859),("__init__",867,.ref 547),("name",876,.ref 554),("named",884,.ref 561),("all_named",891,.ref 568),("settle",897,.ref 573),("__static_attributes__",899,.ref 574)] 9
def anq:OO:=oX [244,4,546,247,4,553,251,4,560,255,4,567,258,4,572]
def anr:OO:=oM "NameTable" 851 242 537 181 538 854 855
def ans:OO:=oR 539 3 536 v20
def ahC:OO:=oT (oS ["self"] 864)
def anu:OO:=oG ac0
def ahD:OO:=oC ac0 861 244 1 0 0 3 541 181 542 543 544 545 865 866
def ahE:OO:=oF ac0 v20 546
def ahF:OO:=oT (oS ["self","w","t"] 871)
def anv:OO:=oG ac1
def ahG:OO:=oC ac1 868 247 3 0 0 3 548 181 549 550 551 552 874 875
def ahH:OO:=oF ac1 v20 553
def ahI:OO:=oT (oS ["self","w"] 880)
def anw:OO:=oG ac2
def ahJ:OO:=oC ac2 877 251 2 0 0 3 555 181 556 557 558 559 882 883
def ahK:OO:=oF ac2 v20 560
def ahL:OO:=oT (oS ["self"] 888)
def anx:OO:=oG ac3
def ahM:OO:=oC ac3 885 255 1 0 0 3 562 181 563 564 565 566 889 890
def ahN:OO:=oF ac3 v20 567
def anz:OO:=oG ac4
def ahO:OO:=oN ac4 892 258 2 0 0 3 569 181 570 571 895 896
def ahP:OO:=oF ac4 v20 572
def ahQ:OO:=oT (oS ["things_named"] 898)
def ahR:OO:=oD [("__module__",856,.str "stillheap.weaknames" 847),("__firstlineno__",860,.int 242 859),("__init__",867,.ref 547),("name",876,.ref 554),("named",884,.ref 561),("all_named",891,.ref 568),("settle",897,.ref 573),("__static_attributes__",899,.ref 574),("__dict__",901,.ref 577),("__weakref__",903,.ref 578),("__doc__",904,.none)] 4
def ahS:OO:=oY "NameTable" [v0] [(.ref 576),v0] 575 [] none 849 857 v15
def ahT:OO:=λ_=>⟨v9,none,(.fields (List.toArray [(.str "__dict__" 900),(.ref 576),v21,v22])),#[]⟩
def ahU:OO:=λ_=>⟨v9,none,(.fields (List.toArray [(.str "__weakref__" 902),(.ref 576),v17,.none])),#[]⟩
def anA:OO:=oU 576
def anB:OO:=oP v4 (.ref 576)
def anC:OO:=oD [("__module__",916,.str "stillheap.heaps" 907),("__qualname__",918,.str "Heap" 917),("__firstlineno__",920,.int 261 919),("__init__",928,.ref 594),("add_thing",938,.ref 601),("load",949,.ref 608),("store",961,.ref 615),("copy",970,.ref 622),("drop",978,.ref 629),("number",987,.ref 636),("name",997,.ref 643),("read_thing",1007,.ref 650),("word",1017,.ref 657),("small_round",1023,.ref 662),("let_go",1032,.ref 669),("look_at_held",1040,.ref 676),("field_value",1049,.ref 683),("counts_held",1056,.ref 690),("words_among",1062,.ref 695),("led_among",1068,.ref 700),("__static_attributes__",1076,.ref 701)] 21
def anD:OO:=oX [263,4,593,272,4,600,280,4,607,286,4,614,292,4,621,295,4,628,298,4,635,301,4,642,305,4,649,311,4,656,316,4,661,327,4,668,333,4,675,337,4,682,340,4,689,343,4,694,346,4,699]
def anE:OO:=oM "Heap" 911 261 584 181 585 914 915
def anF:OO:=oR 586 3 583 v3
def ahV:OO:=oT (oS ["self","makes_young"] 924)
def anG:OO:=oG ac5
def ahW:OO:=oC ac5 921 263 2 0 0 3 588 181 589 590 591 592 926 927
def ahX:OO:=oF ac5 v3 593
def ahY:OO:=oT (oS ["self","h","n","t"] 932)
def anH:OO:=oG ac6
def ahZ:OO:=oC ac6 929 272 3 0 0 3 595 181 596 597 598 599 936 937
def ah0:OO:=oF ac6 v3 600
def ah1:OO:=oT (oS ["self","h","g","k","fields"] 942)
def anI:OO:=oG ac7
def ah2:OO:=oC ac7 939 280 4 0 0 3 602 181 603 604 605 606 947 948
def ah3:OO:=oF ac7 v3 607
def ah4:OO:=oT (oS ["self","g","k","h","fields","value"] 953)
def anJ:OO:=oG ac8
def ah5:OO:=oC ac8 950 286 4 0 0 3 609 181 610 611 612 613 959 960
def ah6:OO:=oF ac8 v3 614
def ah7:OO:=oT (oS ["self","h","g"] 965)
def anK:OO:=oG ac9
def ah8:OO:=oC ac9 962 292 3 0 0 3 616 181 617 618 619 620 968 969
def ah9:OO:=oF ac9 v3 621
def aia:OO:=oT (oS ["self","h"] 974)
def anL:OO:=oG ada
def aib:OO:=oC ada 971 295 2 0 0 3 623 181 624 625 626 627 976 977
def aic:OO:=oF ada v3 628
def aid:OO:=oT (oS ["self","h","x"] 982)
def anM:OO:=oG adb
def aie:OO:=oC adb 979 298 3 0 0 3 630 181 631 632 633 634 985 986
def aif:OO:=oF adb v3 635
def aih:OO:=oT (oS ["self","w","h","t"] 991)
def anN:OO:=oG ade
def aii:OO:=oC ade 988 301 3 0 0 3 637 181 638 639 640 641 995 996
def aij:OO:=oF ade v3 642
def aik:OO:=oT (oS ["self","h","w","t"] 1001)
def anO:OO:=oG adf
def ail:OO:=oC adf 998 305 3 0 0 3 644 181 645 646 647 648 1005 1006
def aim:OO:=oF adf v3 649
def ain:OO:=oT (oS ["self","h","x","t"] 1011)
def anP:OO:=oG adg
def aio:OO:=oC adg 1008 311 3 0 0 3 651 181 652 653 654 655 1015 1016
def aip:OO:=oF adg v3 656
def anQ:OO:=oG adh
def aiq:OO:=oN adh 1018 316 1 0 0 3 658 181 659 660 1021 1022
def air:OO:=oF adh v3 661
def ais:OO:=oT (oS ["self","gone","t"] 1027)
def anR:OO:=oG adi
def ait:OO:=oC adi 1024 327 2 0 0 3 663 181 664 665 666 667 1030 1031
def aiu:OO:=oF adi v3 668
def aiv:OO:=oT (oS ["self","t"] 1036)
def anS:OO:=oG adj
def aiw:OO:=oC adj 1033 333 2 0 0 3 670 181 671 672 673 674 1038 1039
def aix:OO:=oF adj v3 675
def aiy:OO:=oT (oS ["self","t","k"] 1044)
def anT:OO:=oG adk
def aiz:OO:=oC adk 1041 337 3 0 0 3 677 181 678 679 680 681 1047 1048
def aiA:OO:=oF adk v3 682
def aiB:OO:=oT (oS ["self"] 1053)
def anU:OO:=oG adl
def aiC:OO:=oC adl 1050 340 1 0 0 3 684 181 685 686 687 688 1054 1055
def aiD:OO:=oF adl v3 689
def anV:OO:=oG adn
def aiE:OO:=oN adn 1057 343 2 0 0 3 691 181 692 693 1060 1061
def aiF:OO:=oF adn v3 694
def anW:OO:=oG ado
def aiG:OO:=oN ado 1063 346 3 0 0 3 696 181 697 698 1066 1067
def aiH:OO:=oF ado v3 699
def aiI:OO:=oT (oS ["fields_held","in_hands","last_words","makes_young","next_thing","weak_names","young_things"] 1069)
def aiJ:OO:=oD [("__module__",916,.str "stillheap.heaps" 907),("__firstlineno__",920,.int 261 919),("__init__",928,.ref 594),("add_thing",938,.ref 601),("load",949,.ref 608),("store",961,.ref 615),("copy",970,.ref 622),("drop",978,.ref 629),("number",987,.ref 636),("name",997,.ref 643),("read_thing",1007,.ref 650),("word",1017,.ref 657),("small_round",1023,.ref 662),("let_go",1032,.ref 669),("look_at_held",1040,.ref 676),("field_value",1049,.ref 683),("counts_held",1056,.ref 690),("words_among",1062,.ref 695),("led_among",1068,.ref 700),("__static_attributes__",1076,.ref 701),("__dict__",1078,.ref 704),("__weakref__",1080,.ref 705),("__doc__",1081,.none)] 4
def anY:OO:=oY "Heap" [v0] [(.ref 703),v0] 702 [] none 909 917 v15
def aiK:OO:=λ_=>⟨v9,none,(.fields (List.toArray [(.str "__dict__" 1077),(.ref 703),v21,v22])),#[]⟩
def aiL:OO:=λ_=>⟨v9,none,(.fields (List.toArray [(.str "__weakref__" 1079),(.ref 703),v17,.none])),#[]⟩
def anZ:OO:=oU 703
def an0:OO:=oP v4 (.ref 703)
def aiM:OO:=oT (oS ["value","things"] 1087)
def an1:OO:=oG adp
def aiN:OO:=oC adp 1084 351 2 0 0 3 708 181 709 710 711 712 1089 1090
def aiO:OO:=oF adp v3 713
def aiP:OO:=oD (ap [("__name__",165,.str "law_stillheap_k44_whole_copied_heaps" 1459),("__doc__",166,.none),("__package__",167,.none),9e3,("__spec__",169,.none),("__annotations__",170,.ref 6),("__builtins__",171,.ref 4),("__file__",173,.str "/claim/cut.py" 172),("__cached__",174,.none),("_wall",193,.ref 21),("HeapError",228,.ref 45),("BadHand",251,.ref 65),("BadName",274,.ref 84),("BadField",297,.ref 103),("BadCount",320,.ref 122),("NoRoom",343,.ref 141),("TooManyWords",366,.ref 160),("RoundOn",389,.ref 179),("NoRound",412,.ref 198),("BadView",435,.ref 217),("BadAddress",458,.ref 236),("HANDS",462,.int 8 461),("WEAK_NAMES",464,.int 8 463),("MOST_FIELDS",466,.int 6 465),("LEAST_ROOM",468,.int 7 467),("MOST_YOUNG",470,.int 64 469),("MOST_LIMIT",472,.int 400 471),("number_value",479,.ref 245)] (ap [("thing_value",486,.ref 252),("kind_of",493,.ref 259),("words_of",500,.ref 266),("look_at_number",507,.ref 273),("look_at_hand",514,.ref 280),("look_at_name",521,.ref 287),("look_at_field",529,.ref 294),("look_at_limits",537,.ref 301),("lay",551,.ref 308),("thing_at",557,.ref 313),("resolved",566,.ref 320),("fields_at",574,.ref 327),("fields_told",584,.ref 334),("look_at_room",593,.ref 341),("copied",601,.ref 346),("things_met",613,.ref 353),("address_told",620,.ref 360),("words_among",626,.ref 365),("places_from",637,.ref 372),("told_anew",646,.ref 379),("Hands",752,.ref 459),("MOST_BEARERS",756,.int 12 755),("WordTable",832,.ref 522),("last_steps",846,.ref 533),("NameTable",906,.ref 576),("Heap",1083,.ref 703),("thing_among",1091,.ref 714),("IdealHeap",1296,.ref 885)] [("Memory",1366,.ref 939),("is_picture",1379,.ref 950),("first_unlike",1385,.ref 955),("first_misplaced",1397,.ref 962),("addresses_of",1403,.ref 967),("first_headless",1413,.ref 974),("first_unlike_field",1426,.ref 981),("first_unlike_word",1440,.ref 988),("is_like",1450,.ref 995),("place_met",1458,.ref 1002),("_law_cell",1468,.ref 1009),("_law_numbers",1480,.ref 1016),("_law_deed",1492,.ref 1023),("_law_plain",1500,.ref 1030),("_law_done",1510,.ref 1037),("_law_word_of",1518,.ref 1044),("_law_laid",1532,.ref 1051),("_law_names",1542,.ref 1058),("law",1548,.ref 1063)])) 75
def an2:OO:=oX (xs0.take 177)
def aiQ:OO:=oY "Heap" [v0] [(.ref 703),v0] 702 [(.ref 885)] none 909 917 v15
def aiR:OO:=oT [(.ref 703)]
def an3:OO:=oD [("__module__",1101,.str "stillheap.ideal" 1092),("__qualname__",1103,.str "IdealHeap" 1102),("__firstlineno__",1105,.int 356 1104),("__init__",1114,.ref 728),("make",1124,.ref 735),("read",1134,.ref 742),("take",1141,.ref 749),("kind",1149,.ref 756),("value",1157,.ref 763),("fields",1165,.ref 770),("same",1174,.ref 777),("held",1181,.ref 784),("small",1188,.ref 791),("begin",1197,.ref 798),("end",1205,.ref 805),("round_on",1212,.ref 812),("hands",1219,.ref 819),("names",1226,.ref 826),("things",1233,.ref 833),("fields_of",1241,.ref 840),("is_old",1249,.ref 847),("word_of",1257,.ref 854),("doomed",1264,.ref 861),("said",1271,.ref 868),("made",1278,.ref 875),("spare",1288,.ref 882),("__static_attributes__",1293,.ref 883)] 27
def an4:OO:=oX [358,4,727,366,4,734,375,4,741,380,4,748,383,4,755,386,4,762,389,4,769,392,4,776,395,4,783,398,4,790,401,4,797,411,4,804,419,4,811,422,4,818,425,4,825,428,4,832,431,4,839,435,4,846,438,4,853,441,4,860,444,4,867,447,4,874,450,4,881]
def an5:OO:=oM "IdealHeap" 1096 356 718 181 719 1099 1100
def an6:OO:=oR 720 3 717 v1
def aiS:OO:=oT (oS ["self","young","limit"] 1109)
def an7:OO:=oG adq
def aiT:OO:=oC adq 1106 358 3 0 0 3 722 181 723 724 725 726 1112 1113
def aiU:OO:=oF adq v1 727
def aiV:OO:=oT (oS ["self","h","n","size"] 1118)
def an8:OO:=oG ads
def aiW:OO:=oC ads 1115 366 3 0 0 3 729 181 730 731 732 733 1122 1123
def aiX:OO:=oF ads v1 734
def aiY:OO:=oT (oS ["self","h","w","t"] 1128)
def an9:OO:=oG adt
def aiZ:OO:=oC adt 1125 375 3 0 0 3 736 181 737 738 739 740 1132 1133
def ai0:OO:=oF adt v1 741
def ai1:OO:=oT (oS ["self"] 1138)
def aoa:OO:=oG adu
def ai2:OO:=oC adu 1135 380 1 0 0 3 743 181 744 745 746 747 1139 1140
def ai3:OO:=oF adu v1 748
def ai4:OO:=oT (oS ["self","h"] 1145)
def aob:OO:=oG adv
def ai5:OO:=oC adv 1142 383 2 0 0 3 750 181 751 752 753 754 1147 1148
def ai6:OO:=oF adv v1 755
def ai7:OO:=oT (oS ["self","h"] 1153)
def aoc:OO:=oG adw
def ai8:OO:=oC adw 1150 386 2 0 0 3 757 181 758 759 760 761 1155 1156
def ai9:OO:=oF adw v1 762
def aja:OO:=oT (oS ["self","h"] 1161)
def aod:OO:=oG adx
def ajb:OO:=oC adx 1158 389 2 0 0 3 764 181 765 766 767 768 1163 1164
def ajc:OO:=oF adx v1 769
def ajd:OO:=oT (oS ["self","h","g"] 1169)
def aoe:OO:=oG ady
def aje:OO:=oC ady 1166 392 3 0 0 3 771 181 772 773 774 775 1172 1173
def ajf:OO:=oF ady v1 776
def ajg:OO:=oT (oS ["self"] 1178)
def aof:OO:=oG adz
def ajh:OO:=oC adz 1175 395 1 0 0 3 778 181 779 780 781 782 1179 1180
def aji:OO:=oF adz v1 783
def ajj:OO:=oT (oS ["self"] 1185)
def aog:OO:=oG adA
def ajk:OO:=oC adA 1182 398 1 0 0 3 785 181 786 787 788 789 1186 1187
def ajl:OO:=oF adA v1 790
def ajm:OO:=oT (oS ["self","kept","t"] 1192)
def aoh:OO:=oG adB
def ajn:OO:=oC adB 1189 401 1 0 0 3 792 181 793 794 795 796 1195 1196
def ajo:OO:=oF adB v1 797
def ajp:OO:=oT (oS ["self","gone"] 1201)
def aoi:OO:=oG adC
def ajq:OO:=oC adC 1198 411 1 0 0 3 799 181 800 801 802 803 1203 1204
def ajr:OO:=oF adC v1 804
def ajs:OO:=oT (oS ["self"] 1209)
def aoj:OO:=oG adD
def ajt:OO:=oC adD 1206 419 1 0 0 3 806 181 807 808 809 810 1210 1211
def aju:OO:=oF adD v1 811
def ajv:OO:=oT (oS ["self"] 1216)
def aok:OO:=oG adE
def ajw:OO:=oC adE 1213 422 1 0 0 3 813 181 814 815 816 817 1217 1218
def ajx:OO:=oF adE v1 818
def ajy:OO:=oT (oS ["self"] 1223)
def aol:OO:=oG adF
def ajz:OO:=oC adF 1220 425 1 0 0 3 820 181 821 822 823 824 1224 1225
def ajA:OO:=oF adF v1 825
def ajB:OO:=oT (oS ["self"] 1230)
def aom:OO:=oG adG
def ajC:OO:=oC adG 1227 428 1 0 0 3 827 181 828 829 830 831 1231 1232
def ajD:OO:=oF adG v1 832
def ajE:OO:=oT (oS ["self","t"] 1237)
def aon:OO:=oG adH
def ajF:OO:=oC adH 1234 431 2 0 0 3 834 181 835 836 837 838 1239 1240
def ajG:OO:=oF adH v1 839
def ajH:OO:=oT (oS ["self","t"] 1245)
def aoo:OO:=oG adI
def ajI:OO:=oC adI 1242 435 2 0 0 3 841 181 842 843 844 845 1247 1248
def ajJ:OO:=oF adI v1 846
def ajK:OO:=oT (oS ["self","t"] 1253)
def aop:OO:=oG adJ
def ajL:OO:=oC adJ 1250 438 2 0 0 3 848 181 849 850 851 852 1255 1256
def ajM:OO:=oF adJ v1 853
def ajN:OO:=oT (oS ["self"] 1261)
def aoq:OO:=oG adK
def ajO:OO:=oC adK 1258 441 1 0 0 3 855 181 856 857 858 859 1262 1263
def ajP:OO:=oF adK v1 860
def ajQ:OO:=oT (oS ["self"] 1268)
def aor:OO:=oG adL
def ajR:OO:=oC adL 1265 444 1 0 0 3 862 181 863 864 865 866 1269 1270
def ajS:OO:=oF adL v1 867
def ajT:OO:=oT (oS ["self"] 1275)
def aos:OO:=oG adM
def ajU:OO:=oC adM 1272 447 1 0 0 3 869 181 870 871 872 873 1276 1277
def ajV:OO:=oF adM v1 874
def ajW:OO:=oT (oS ["self","t","spared","other"] 1282)
def aot:OO:=oG adN
def ajX:OO:=oC adN 1279 450 2 0 0 3 876 181 877 878 879 880 1286 1287
def ajY:OO:=oF adN v1 881
def ajZ:OO:=oT (oS ["doomed_things","in_round","limit","young_room"] 1289)
def aj0:OO:=oD [("__module__",1101,.str "stillheap.ideal" 1092),("__firstlineno__",1105,.int 356 1104),("__init__",1114,.ref 728),("make",1124,.ref 735),("read",1134,.ref 742),("take",1141,.ref 749),("kind",1149,.ref 756),("value",1157,.ref 763),("fields",1165,.ref 770),("same",1174,.ref 777),("held",1181,.ref 784),("small",1188,.ref 791),("begin",1197,.ref 798),("end",1205,.ref 805),("round_on",1212,.ref 812),("hands",1219,.ref 819),("names",1226,.ref 826),("things",1233,.ref 833),("fields_of",1241,.ref 840),("is_old",1249,.ref 847),("word_of",1257,.ref 854),("doomed",1264,.ref 861),("said",1271,.ref 868),("made",1278,.ref 875),("spare",1288,.ref 882),("__static_attributes__",1293,.ref 883),("__doc__",1294,.none)] 2
def aj1:OO:=oY "IdealHeap" [(.ref 703)] [(.ref 885),(.ref 703),v0] 884 [] (.some (.ref 715)) 1094 1102 v15
def aou:OO:=oU 885
def aov:OO:=oP v4 (.ref 885)
def aow:OO:=oD [("__module__",1306,.str "stillheap.memory" 1297),("__qualname__",1308,.str "Memory" 1307),("__firstlineno__",1310,.int 455 1309),("__init__",1318,.ref 901),("size",1325,.ref 908),("at",1333,.ref 915),("put",1342,.ref 922),("copy_of",1349,.ref 929),("look_at_address",1357,.ref 936),("__static_attributes__",1359,.ref 937)] 10
def aox:OO:=oX [457,4,900,460,4,907,463,4,914,467,4,921,471,4,928,474,4,935]
def aoy:OO:=oM "Memory" 1301 455 891 181 892 1304 1305
def aoz:OO:=oR 893 3 890 v16
def aj2:OO:=oT (oS ["self","size"] 1314)
def aoA:OO:=oG adO
def aj3:OO:=oC adO 1311 457 2 0 0 3 895 181 896 897 898 899 1316 1317
def aj4:OO:=oF adO v16 900
def aj5:OO:=oT (oS ["self"] 1322)
def aoB:OO:=oG adP
def aj6:OO:=oC adP 1319 460 1 0 0 3 902 181 903 904 905 906 1323 1324
def aj7:OO:=oF adP v16 907
def aj8:OO:=oT (oS ["self","a"] 1329)
def aoC:OO:=oG Yz
def aj9:OO:=oC Yz 1326 463 2 0 0 3 909 181 910 911 912 913 1331 1332
def aka:OO:=oF Yz v16 914
def akb:OO:=oT (oS ["self","a","word"] 1337)
def aoD:OO:=oG YA
def akc:OO:=oC YA 1334 467 3 0 0 3 916 181 917 918 919 920 1340 1341
def akd:OO:=oF YA v16 921
def ake:OO:=oT (oS ["self"] 1346)
def aoE:OO:=oG YB
def akf:OO:=oC YB 1343 471 1 0 0 3 923 181 924 925 926 927 1347 1348
def akg:OO:=oF YB v16 928
def akh:OO:=oT (oS ["self","a"] 1353)
def aoF:OO:=oG YC
def aki:OO:=oC YC 1350 474 2 0 0 3 930 181 931 932 933 934 1355 1356
def akj:OO:=oF YC v16 935
def akk:OO:=oT (oS ["cells"] 1358)
def akl:OO:=oD [("__module__",1306,.str "stillheap.memory" 1297),("__firstlineno__",1310,.int 455 1309),("__init__",1318,.ref 901),("size",1325,.ref 908),("at",1333,.ref 915),("put",1342,.ref 922),("copy_of",1349,.ref 929),("look_at_address",1357,.ref 936),("__static_attributes__",1359,.ref 937),("__dict__",1361,.ref 940),("__weakref__",1363,.ref 941),("__doc__",1364,.none)] 4
def akm:OO:=oY "Memory" [v0] [(.ref 939),v0] 938 [] none 1299 1307 v15
def akn:OO:=λ_=>⟨v9,none,(.fields (List.toArray [(.str "__dict__" 1360),(.ref 939),v21,v22])),#[]⟩
def ako:OO:=λ_=>⟨v9,none,(.fields (List.toArray [(.str "__weakref__" 1362),(.ref 939),v17,.none])),#[]⟩
def aoG:OO:=oU 939
def aoH:OO:=oP v4 (.ref 939)
def akp:OO:=oT (oS ["ideal","memory","hands","names","book"] 1372)
def aoI:OO:=oG YD
def akq:OO:=oC YD 1369 478 5 0 0 3 944 181 945 946 947 948 1377 1378
def akr:OO:=oF YD v12 949
def aoJ:OO:=oG YE
def aks:OO:=oN YE 1380 480 5 0 0 3 951 181 952 953 1383 1384
def akt:OO:=oF YE v12 954
def aku:OO:=oT (oS ["ideal","memory","book","uses","pair","a"] 1389)
def aoK:OO:=oG YF
def akv:OO:=oC YF 1386 494 3 0 0 3 956 181 957 958 959 960 1395 1396
def akw:OO:=oF YF v12 961
def aoL:OO:=oG YG
def akx:OO:=oN YG 1398 504 2 0 0 3 963 181 964 965 1401 1402
def aky:OO:=oF YG v12 966
def akz:OO:=oT (oS ["ideal","memory","book","pair"] 1407)
def aoM:OO:=oG YH
def akA:OO:=oC YH 1404 506 3 0 0 3 968 181 969 970 971 972 1411 1412
def akB:OO:=oF YH v12 973
def akC:OO:=oT (oS ["ideal","memory","book","stands","pair","k","value"] 1417)
def aoN:OO:=oG YI
def akD:OO:=oC YI 1414 511 3 0 0 3 975 181 976 977 978 979 1424 1425
def akE:OO:=oF YI v12 980
def akF:OO:=oT (oS ["kind","told","memory","words","book","stands","i","value"] 1430)
def aoO:OO:=oG YJ
def akG:OO:=oC YJ 1427 518 5 0 0 3 982 181 983 984 985 986 1438 1439
def akH:OO:=oF YJ v12 987
def akI:OO:=oT (oS ["value","memory","word","stands"] 1444)
def aoP:OO:=oG YK
def akJ:OO:=oC YK 1441 524 4 0 0 3 989 181 990 991 992 993 1448 1449
def akK:OO:=oF YK v12 994
def akL:OO:=oT (oS ["memory","a"] 1454)
def aoQ:OO:=oG YL
def akM:OO:=oC YL 1451 528 2 0 0 3 996 181 997 998 999 1000 1456 1457
def akN:OO:=oF YL v12 1001
def akO:OO:=oT (oS ["script","k"] 1464)
def aoR:OO:=oG YM
def akP:OO:=oC YM 1461 534 2 0 0 3 1003 181 1004 1005 1006 1007 1466 1467
def akQ:OO:=oF YM v13 1008
def akR:OO:=oT (oS ["script","most","found","k","near","turn"] 1472)
def aoS:OO:=oG YN
def akS:OO:=oC YN 1469 538 2 0 0 3 1010 181 1011 1012 1013 1014 1478 1479
def akT:OO:=oF YN v13 1015
def akU:OO:=oT (oS ["number","a","b","c","kind","some"] 1484)
def aoT:OO:=oG YO
def akV:OO:=oC YO 1481 550 1 0 0 3 1017 181 1018 1019 1020 1021 1490 1491
def akW:OO:=oF YO v13 1022
def akX:OO:=oT (oS ["hall","deed"] 1496)
def aoU:OO:=oG YQ
def akY:OO:=oC YQ 1493 563 2 0 0 3 1024 181 1025 1026 1027 1028 1498 1499
def akZ:OO:=oF YQ v13 1029
def ak0:OO:=oT (oS ["hall","deed","word","e"] 1504)
def aoV:OO:=oG YR
def ak1:OO:=oC YR 1501 588 2 0 0 3 1031 181 1032 1033 1034 1035 1508 1509
def ak2:OO:=oF YR v13 1036
def ak3:OO:=oT (oS ["value","at"] 1514)
def aoW:OO:=oG YS
def ak4:OO:=oC YS 1511 595 2 0 0 3 1038 181 1039 1040 1041 1042 1516 1517
def ak5:OO:=oF YS v13 1043
def ak6:OO:=oT (oS ["heap","memory","at","behind","thing","fields","k","value"] 1522)
def aoX:OO:=oG YT
def ak7:OO:=oC YT 1519 599 2 0 0 3 1045 181 1046 1047 1048 1049 1530 1531
def ak8:OO:=oF YT v13 1050
def ak9:OO:=oT (oS ["heap","at","told","thing"] 1536)
def aoY:OO:=oG YU
def ala:OO:=oC YU 1533 611 2 0 0 3 1052 181 1053 1054 1055 1056 1540 1541
def alb:OO:=oF YU v13 1057
def aoZ:OO:=oG YV
def alc:OO:=oN YV 1543 619 1 0 0 3 1059 181 1060 1061 1546 1547
def ald:OO:=oF YV v13 1062
def hL:List OO:=o0::o1::o2::aiP::o4::o5::o6::o7::o8::o9::o10::o7::an2::o11::o12::o7::o8::o15::o7::o16::o17::o18::o19::o20::o21::o7::o22::o23::o24::o7::o8::o25::o7::o26::o27::o28::o7::o8::o29::o7::o30::o31::o32::o7::o33::afj::o35::o36::o37::o38::o20::o39::o7::o40::o41::o42::o7::o8::o43::o7::o44::o45::o46::o7::o47::o48::o49::o50::o38::o20::o51::o7::o52::o53::o54::o7::o8::o55::o7::o56::o57::o58::o7::o59::o60::o61::o62::o38::o20::o63::o7::o64::o65::o66::o7::o8::o67::o7::o68::o69::o70::o7::o71::o72::o73::o74::o38::o20::o75::o7::o76::o77::o78::o7::o8::o79::o7::o80::o81::o82::o7::o83::o84::o85::o86::o38::o20::o87::o7::o88::o89::o90::o7::o8::o91::o7::o92::o93::o94::o7::o95::o96::o97::o98::o38::o20::o99::o7::alT::alU::alV::o7::o8::ae8::o7::alW::ae9::afa::o7::afb::afc::alX::alY::o38::o20::alZ::o7::al0::al1::al2::o7::o8::afd::o7::al3::afe::aff::o7::afg::afi::al4::al5::o38::o20::al8::o7::al9::ama::amb::o7::o8::afk::o7::amc::afm::afn::o7::afo::afp::amd::ame::o38::o20::amf::o7::amh::ami::amj::o7::o8::afq::o7::amk::afr::afs::o7::aft::afu::aml::amm::o38::o20::amn::o7::amo::amq::amr::o7::o8::afv::o7::ams::afw::afx::o7::afy::afz::amt::amu::o7::o8::afA::o7::amv::afB::afC::o7::o8::afD::o7::amw::afE::afF::o7::o8::afG::o7::amx::afH::afI::o7::o8::afJ::o7::amy::afK::afL::o7::o8::afM::o7::amz::afN::afO::o7::o8::afP::o7::amA::afQ::afR::o7::o8::afS::o7::amB::afT::afU::o7::o8::afV::o7::amC::afW::afX::o7::o8::afY::o7::amD::afZ::af0::o7::o8::af1::o7::amE::af2::af3::o7::o8::amF::af4::af5::o7::o8::af6::o7::amG::af7::af8::o7::o8::af9::o7::amH::aga::agb::o7::o8::agc::o7::amI::agd::age::o7::o8::agf::o7::amJ::agg::agh::o7::o8::amK::agi::agj::o7::o8::agk::o7::amL::agl::agm::o7::o8::agn::o7::amM::ago::agp::o7::o8::amN::agq::agr::o7::o8::ags::o7::amO::agt::agu::o7::o8::agv::o7::amP::agw::agx::o7::o20::amQ::o7::amR::amS::amT::o7::o8::agy::o7::amU::agz::agA::o7::o8::agB::o7::amV::agC::agD::o7::o8::agE::o7::amW::agF::agG::o7::o8::agH::o7::amX::agI::agJ::o7::o8::agK::o7::amY::agL::agM::o7::o8::agN::o7::amZ::agO::agP::o7::o8::agQ::o7::am0::agR::agS::o7::o8::agT::o7::am1::agU::agV::o7::o8::agW::o7::am2::agX::agY::o7::o8::agZ::o7::am3::ag0::ag1::ag2::ag3::ag4::ag5::ag6::am4::am5::o7::o20::am8::o7::am9::ana::anb::o7::o8::ag7::o7::anc::ag8::ag9::o7::o8::aha::o7::ane::ahb::ahc::o7::o8::ahe::o7::anf::ahf::ahg::o7::o8::ahh::o7::ang::ahi::ahj::o7::o8::ahk::o7::anh::ahm::ahn::o7::o8::aho::o7::ani::ahp::ahq::o7::o8::ahr::o7::anj::ahs::aht::ahu::ahv::ahw::ahx::ahy::ank::anm::o7::o8::ahz::o7::ano::ahA::ahB::o7::o20::anp::o7::anq::anr::ans::o7::o8::ahC::o7::anu::ahD::ahE::o7::o8::ahF::o7::anv::ahG::ahH::o7::o8::ahI::o7::anw::ahJ::ahK::o7::o8::ahL::o7::anx::ahM::ahN::o7::o8::anz::ahO::ahP::ahQ::ahR::ahS::ahT::ahU::anA::anB::o7::o20::anC::o7::anD::anE::anF::o7::o8::ahV::o7::anG::ahW::ahX::o7::o8::ahY::o7::anH::ahZ::ah0::o7::o8::ah1::o7::anI::ah2::ah3::o7::o8::ah4::o7::anJ::ah5::ah6::o7::o8::ah7::o7::anK::ah8::ah9::o7::o8::aia::o7::anL::aib::aic::o7::o8::aid::o7::anM::aie::aif::o7::o8::aih::o7::anN::aii::aij::o7::o8::aik::o7::anO::ail::aim::o7::o8::ain::o7::anP::aio::aip::o7::o8::anQ::aiq::air::o7::o8::ais::o7::anR::ait::aiu::o7::o8::aiv::o7::anS::aiw::aix::o7::o8::aiy::o7::anT::aiz::aiA::o7::o8::aiB::o7::anU::aiC::aiD::o7::o8::anV::aiE::aiF::o7::o8::anW::aiG::aiH::aiI::aiJ::aiQ::aiK::aiL::anZ::an0::o7::o8::aiM::o7::an1::aiN::aiO::aiR::o20::an3::o7::an4::an5::an6::o7::o8::aiS::o7::an7::aiT::aiU::o7::o8::aiV::o7::an8::aiW::aiX::o7::o8::aiY::o7::an9::aiZ::ai0::o7::o8::ai1::o7::aoa::ai2::ai3::o7::o8::ai4::o7::aob::ai5::ai6::o7::o8::ai7::o7::aoc::ai8::ai9::o7::o8::aja::o7::aod::ajb::ajc::o7::o8::ajd::o7::aoe::aje::ajf::o7::o8::ajg::o7::aof::ajh::aji::o7::o8::ajj::o7::aog::ajk::ajl::o7::o8::ajm::o7::aoh::ajn::ajo::o7::o8::ajp::o7::aoi::ajq::ajr::o7::o8::ajs::o7::aoj::ajt::aju::o7::o8::ajv::o7::aok::ajw::ajx::o7::o8::ajy::o7::aol::ajz::ajA::o7::o8::ajB::o7::aom::ajC::ajD::o7::o8::ajE::o7::aon::ajF::ajG::o7::o8::ajH::o7::aoo::ajI::ajJ::o7::o8::ajK::o7::aop::ajL::ajM::o7::o8::ajN::o7::aoq::ajO::ajP::o7::o8::ajQ::o7::aor::ajR::ajS::o7::o8::ajT::o7::aos::ajU::ajV::o7::o8::ajW::o7::aot::ajX::ajY::ajZ::aj0::aj1::aou::aov::o7::o20::aow::o7::aox::aoy::aoz::o7::o8::aj2::o7::aoA::aj3::aj4::o7::o8::aj5::o7::aoB::aj6::aj7::o7::o8::aj8::o7::aoC::aj9::aka::o7::o8::akb::o7::aoD::akc::akd::o7::o8::ake::o7::aoE::akf::akg::o7::o8::akh::o7::aoF::aki::akj::akk::akl::akm::akn::ako::aoG::aoH::o7::o8::akp::o7::aoI::akq::akr::o7::o8::aoJ::aks::akt::o7::o8::aku::o7::aoK::akv::akw::o7::o8::aoL::akx::aky::o7::o8::akz::o7::aoM::akA::akB::o7::o8::akC::o7::aoN::akD::akE::o7::o8::akF::o7::aoO::akG::akH::o7::o8::akI::o7::aoP::akJ::akK::o7::o8::akL::o7::aoQ::akM::akN::o7::o8::akO::o7::aoR::akP::akQ::o7::o8::akR::o7::aoS::akS::akT::o7::o8::akU::o7::aoT::akV::akW::o7::o8::akX::o7::aoU::akY::akZ::o7::o8::ak0::o7::aoV::ak1::ak2::o7::o8::ak3::o7::aoW::ak4::ak5::o7::o8::ak6::o7::aoX::ak7::ak8::o7::o8::ak9::o7::aoY::ala::alb::o7::o8::aoZ::alc::ald::[]
def hTa(P:Params):BT:=mkT P 12 (stT (hL.take 15) [(3,o3),(12,o8)])
def hSa(w:World)(os:OsState):SharedT:=⟨hTa w.params,15,9e8,#[],⟨0,0,0,0⟩,187,os⟩
def hTb(P:Params):BT:=mkT P 12 (stT (hL.take 15) [(3,o3),(12,o8)])
def hSb(w:World)(os:OsState):SharedT:=⟨hTb w.params,15,9e8,#[],⟨0,0,0,0⟩,187,os⟩
def hT0(P:Params):BT:=mkT P 12 (stT (hL.take 182) [(3,o13),(12,o14),(45,o34)])
def hS0(w:World)(os:OsState):SharedT:=⟨hT0 w.params,182,9e8,#[],⟨0,0,0,0⟩,390,os⟩
def hT1(P:Params):BT:=mkT P 12 (stT (hL.take 464) [(3,al6),(12,al7)])
def hS1(w:World)(os:OsState):SharedT:=⟨hT1 w.params,464,9e8,#[],⟨0,0,0,0⟩,757,os⟩
def hT2(P:Params):BT:=mkT P 12 (stT (hL.take 715) [(3,am6),(12,am7),(703,anY)])
def hS2(w:World)(os:OsState):SharedT:=⟨hT2 w.params,715,9e8,#[],⟨0,0,0,0⟩,1094,os⟩
def hT3(P:Params):BT:=mkT P 12 hL
def hS3(w:World)(os:OsState):SharedT:=⟨hT3 w.params,1064,9e8,#[],⟨0,0,0,0⟩,1549,os⟩
def hTf(P:Params):BT:=mkT P 12 hL
def hSf(w:World)(os:OsState):SharedT:=⟨hTf w.params,1064,9e8,#[],⟨0,0,0,0⟩,1549,os⟩
def XU:Env:={scope:=(9e9).main.scope,locals:=mainNs,globals:=mainNs,cells:=[],code:=(.ref 13),frame:=some 14}
def hG0:List Stmt:=[top 0,top 1,top 2,top 3,top 4,top 5,top 6,top 7,top 8,top 9]
def hG1:List Stmt:=[top 10,top 11,top 12,top 13,top 14,top 15,top 16,top 17,top 18,top 19,top 20,top 21,top 22,top 23,top 24,top 25,top 26,top 27,top 28,top 29,top 30,top 31,top 32,top 33,top 34,top 35,top 36,top 37,top 38,top 39,top 40,top 41,top 42,top 43,top 44,top 45,top 46]
def hG2:List Stmt:=[top 47,top 48,top 49,top 50,top 51,top 52,top 53,top 54,top 55]
def hG3:List Stmt:=[top 56,top 57,top 58,top 59,top 60,top 61,top 62,top 63,top 64,top 65,top 66,top 67,top 68,top 69,top 70,top 71,top 72,top 73,top 74,top 75,top 76,top 77,top 78]
def hB:List Stmt:=hG0++(hG1++(hG2++(hG3++[])))
def hC:Code:=.body hB XU
abbrev hF:List Frame:=[topFrame ⟨0,0,0,0⟩]
theorem ao0(w:World)(os:OsState):topGo treeTable 9e9 w 11 (.some (.ref 6)) 12 ⟨boot_heap w.params,#[],boot_drawn,boot_toks,os⟩ (topStub 9e9)=some ((hSa w os).abs,⟨denote treeTable hC,hC,⟨0,0,0,0⟩,hF⟩):=by kernel_rfl
theorem ao1(w:World)(os:OsState):segRun treeTable 9e9 w 11 (.some (.ref 6)) 1 1 (hSa w os).abs (blockOf hB XU hC ⟨0,0,0,0⟩ hF)=some (.next,(hSb w os).abs,hC,⟨0,0,0,0⟩):=by kernel_rfl
theorem hR0(w:World)(os:OsState):segRunT treeTable 9e9 w 11 (.some (.ref 6)) 1 1988 (hSb w os) (piecesOf hG0 XU hC ⟨0,0,0,0⟩ hF)=some (.next,hS0 w os,hC,⟨36,0,39,24⟩):=by kernel_rfl
theorem hR1(w:World)(os:OsState):segRunT treeTable 9e9 w 11 (.some (.ref 6)) 1 1977 (hS0 w os) (piecesOf hG1 XU hC ⟨36,0,39,24⟩ hF)=some (.next,hS1 w os,hC,⟨198,0,198,12⟩):=by kernel_rfl
theorem hR2(w:World)(os:OsState):segRunT treeTable 9e9 w 11 (.some (.ref 6)) 1 1605 (hS1 w os) (piecesOf hG2 XU hC ⟨198,0,198,12⟩ hF)=some (.next,hS2 w os,hC,⟨355,0,355,8⟩):=by kernel_rfl
theorem hR3(w:World)(os:OsState):segRunT treeTable 9e9 w 11 (.some (.ref 6)) 1 1928 (hS2 w os) (piecesOf hG3 XU hC ⟨355,0,355,8⟩ hF)=some (.next,hS3 w os,hC,⟨619,0,645,80⟩):=by kernel_rfl
theorem ao2(w:World)(os:OsState):topRun treeTable 9e9 w 11 (.some (.ref 6)) 2 (hS3 w os).abs ⟨doneF .next,hC,⟨619,0,645,80⟩,hF⟩=some (hSf w os).abs:=by kernel_rfl
theorem ao3(w:World)(os:OsState):topRun treeTable 9e9 w 11 (.some (.ref 6)) (12+(1+(1988+(1977+(1605+(1928+2)))))) ⟨boot_heap w.params,#[],boot_drawn,boot_toks,os⟩ (topStub 9e9)=some (hSf w os).abs:=go_top (ao0 w os) (piece_block (ao1 w os) (piece_app (segRun_of (hR0 w os)) (piece_app (segRun_of (hR1 w os)) (piece_app (segRun_of (hR2 w os)) (piece_app (segRun_of (hR3 w os)) (ao2 w os))))))
def hK(P:Params):Frag:=(nat_lit 2,o2 P)::(nat_lit 3,aiP P)::(nat_lit 15,o7 P)::(nat_lit 17,o15 P)::(nat_lit 18,o7 P)::(nat_lit 20,o17 P)::(nat_lit 21,o18 P)::(nat_lit 22,o19 P)::(nat_lit 29,o7 P)::(nat_lit 31,o25 P)::(nat_lit 32,o7 P)::(nat_lit 34,o27 P)::(nat_lit 35,o28 P)::(nat_lit 36,o7 P)::(nat_lit 38,o29 P)::(nat_lit 39,o7 P)::(nat_lit 41,o31 P)::(nat_lit 42,o32 P)::(nat_lit 43,o7 P)::(nat_lit 44,o33 P)::(nat_lit 45,afj P)::(nat_lit 46,o35 P)::(nat_lit 49,o38 P)::(nat_lit 56,o7 P)::(nat_lit 58,o43 P)::(nat_lit 59,o7 P)::(nat_lit 61,o45 P)::(nat_lit 62,o46 P)::(nat_lit 63,o7 P)::(nat_lit 64,o47 P)::(nat_lit 65,o48 P)::(nat_lit 68,o38 P)::(nat_lit 75,o7 P)::(nat_lit 77,o55 P)::(nat_lit 78,o7 P)::(nat_lit 80,o57 P)::(nat_lit 81,o58 P)::(nat_lit 82,o7 P)::(nat_lit 83,o59 P)::(nat_lit 84,o60 P)::(nat_lit 87,o38 P)::(nat_lit 94,o7 P)::(nat_lit 96,o67 P)::(nat_lit 97,o7 P)::(nat_lit 99,o69 P)::(nat_lit 100,o70 P)::(nat_lit 101,o7 P)::(nat_lit 102,o71 P)::(nat_lit 103,o72 P)::(nat_lit 106,o38 P)::(nat_lit 113,o7 P)::(nat_lit 115,o79 P)::(nat_lit 116,o7 P)::(nat_lit 118,o81 P)::(nat_lit 119,o82 P)::(nat_lit 120,o7 P)::(nat_lit 121,o83 P)::(nat_lit 122,o84 P)::(nat_lit 125,o38 P)::(nat_lit 132,o7 P)::(nat_lit 134,o91 P)::(nat_lit 135,o7 P)::(nat_lit 137,o93 P)::(nat_lit 138,o94 P)::(nat_lit 139,o7 P)::(nat_lit 140,o95 P)::(nat_lit 141,o96 P)::(nat_lit 144,o38 P)::(nat_lit 151,o7 P)::(nat_lit 153,ae8 P)::(nat_lit 154,o7 P)::(nat_lit 156,ae9 P)::(nat_lit 157,afa P)::(nat_lit 158,o7 P)::(nat_lit 159,afb P)::(nat_lit 160,afc P)::(nat_lit 163,o38 P)::(nat_lit 170,o7 P)::(nat_lit 172,afd P)::(nat_lit 173,o7 P)::(nat_lit 175,afe P)::(nat_lit 176,aff P)::(nat_lit 177,o7 P)::(nat_lit 178,afg P)::(nat_lit 179,afi P)::(nat_lit 182,o38 P)::(nat_lit 189,o7 P)::(nat_lit 191,afk P)::(nat_lit 192,o7 P)::(nat_lit 194,afm P)::(nat_lit 195,afn P)::(nat_lit 196,o7 P)::(nat_lit 197,afo P)::(nat_lit 198,afp P)::(nat_lit 201,o38 P)::(nat_lit 208,o7 P)::(nat_lit 210,afq P)::(nat_lit 211,o7 P)::(nat_lit 213,afr P)::(nat_lit 214,afs P)::(nat_lit 215,o7 P)::(nat_lit 216,aft P)::(nat_lit 217,afu P)::(nat_lit 220,o38 P)::(nat_lit 227,o7 P)::(nat_lit 229,afv P)::(nat_lit 230,o7 P)::(nat_lit 232,afw P)::(nat_lit 233,afx P)::(nat_lit 234,o7 P)::(nat_lit 235,afy P)::(nat_lit 236,afz P)::(nat_lit 239,o7 P)::(nat_lit 241,afA P)::(nat_lit 242,o7 P)::(nat_lit 244,afB P)::(nat_lit 245,afC P)::(nat_lit 246,o7 P)::(nat_lit 248,afD P)::(nat_lit 249,o7 P)::(nat_lit 251,afE P)::(nat_lit 252,afF P)::(nat_lit 253,o7 P)::(nat_lit 255,afG P)::(nat_lit 256,o7 P)::(nat_lit 258,afH P)::(nat_lit 259,afI P)::(nat_lit 260,o7 P)::(nat_lit 262,afJ P)::(nat_lit 263,o7 P)::(nat_lit 265,afK P)::(nat_lit 266,afL P)::(nat_lit 267,o7 P)::(nat_lit 269,afM P)::(nat_lit 270,o7 P)::(nat_lit 272,afN P)::(nat_lit 273,afO P)::(nat_lit 274,o7 P)::(nat_lit 276,afP P)::(nat_lit 277,o7 P)::(nat_lit 279,afQ P)::(nat_lit 280,afR P)::(nat_lit 281,o7 P)::(nat_lit 283,afS P)::(nat_lit 284,o7 P)::(nat_lit 286,afT P)::(nat_lit 287,afU P)::(nat_lit 288,o7 P)::(nat_lit 290,afV P)::(nat_lit 291,o7 P)::(nat_lit 293,afW P)::(nat_lit 294,afX P)::(nat_lit 295,o7 P)::(nat_lit 297,afY P)::(nat_lit 298,o7 P)::(nat_lit 300,afZ P)::(nat_lit 301,af0 P)::(nat_lit 302,o7 P)::(nat_lit 304,af1 P)::(nat_lit 305,o7 P)::(nat_lit 307,af2 P)::(nat_lit 308,af3 P)::(nat_lit 309,o7 P)::(nat_lit 312,af4 P)::(nat_lit 313,af5 P)::(nat_lit 314,o7 P)::(nat_lit 316,af6 P)::(nat_lit 317,o7 P)::(nat_lit 319,af7 P)::(nat_lit 320,af8 P)::(nat_lit 321,o7 P)::(nat_lit 323,af9 P)::(nat_lit 324,o7 P)::(nat_lit 326,aga P)::(nat_lit 327,agb P)::(nat_lit 328,o7 P)::(nat_lit 330,agc P)::(nat_lit 331,o7 P)::(nat_lit 333,agd P)::(nat_lit 334,age P)::(nat_lit 335,o7 P)::(nat_lit 337,agf P)::(nat_lit 338,o7 P)::(nat_lit 340,agg P)::(nat_lit 341,agh P)::(nat_lit 342,o7 P)::(nat_lit 345,agi P)::(nat_lit 346,agj P)::(nat_lit 347,o7 P)::(nat_lit 349,agk P)::(nat_lit 350,o7 P)::(nat_lit 352,agl P)::(nat_lit 353,agm P)::(nat_lit 354,o7 P)::(nat_lit 356,agn P)::(nat_lit 357,o7 P)::(nat_lit 359,ago P)::(nat_lit 360,agp P)::(nat_lit 361,o7 P)::(nat_lit 364,agq P)::(nat_lit 365,agr P)::(nat_lit 366,o7 P)::(nat_lit 368,ags P)::(nat_lit 369,o7 P)::(nat_lit 371,agt P)::(nat_lit 372,agu P)::(nat_lit 373,o7 P)::(nat_lit 375,agv P)::(nat_lit 376,o7 P)::(nat_lit 378,agw P)::(nat_lit 379,agx P)::(nat_lit 387,o7 P)::(nat_lit 389,agy P)::(nat_lit 390,o7 P)::(nat_lit 392,agz P)::(nat_lit 393,agA P)::(nat_lit 394,o7 P)::(nat_lit 396,agB P)::(nat_lit 397,o7 P)::(nat_lit 399,agC P)::(nat_lit 400,agD P)::(nat_lit 401,o7 P)::(nat_lit 403,agE P)::(nat_lit 404,o7 P)::(nat_lit 406,agF P)::(nat_lit 407,agG P)::(nat_lit 408,o7 P)::(nat_lit 410,agH P)::(nat_lit 411,o7 P)::(nat_lit 413,agI P)::(nat_lit 414,agJ P)::(nat_lit 415,o7 P)::(nat_lit 417,agK P)::(nat_lit 418,o7 P)::(nat_lit 420,agL P)::(nat_lit 421,agM P)::(nat_lit 422,o7 P)::(nat_lit 424,agN P)::(nat_lit 425,o7 P)::(nat_lit 427,agO P)::(nat_lit 428,agP P)::(nat_lit 429,o7 P)::(nat_lit 431,agQ P)::(nat_lit 432,o7 P)::(nat_lit 434,agR P)::(nat_lit 435,agS P)::(nat_lit 436,o7 P)::(nat_lit 438,agT P)::(nat_lit 439,o7 P)::(nat_lit 441,agU P)::(nat_lit 442,agV P)::(nat_lit 443,o7 P)::(nat_lit 445,agW P)::(nat_lit 446,o7 P)::(nat_lit 448,agX P)::(nat_lit 449,agY P)::(nat_lit 450,o7 P)::(nat_lit 452,agZ P)::(nat_lit 453,o7 P)::(nat_lit 455,ag0 P)::(nat_lit 456,ag1 P)::(nat_lit 457,ag2 P)::(nat_lit 458,ag3 P)::(nat_lit 459,ag4 P)::(nat_lit 460,ag5 P)::(nat_lit 461,ag6 P)::(nat_lit 471,o7 P)::(nat_lit 473,ag7 P)::(nat_lit 474,o7 P)::(nat_lit 476,ag8 P)::(nat_lit 477,ag9 P)::(nat_lit 478,o7 P)::(nat_lit 480,aha P)::(nat_lit 481,o7 P)::(nat_lit 483,ahb P)::(nat_lit 484,ahc P)::(nat_lit 485,o7 P)::(nat_lit 487,ahe P)::(nat_lit 488,o7 P)::(nat_lit 490,ahf P)::(nat_lit 491,ahg P)::(nat_lit 492,o7 P)::(nat_lit 494,ahh P)::(nat_lit 495,o7 P)::(nat_lit 497,ahi P)::(nat_lit 498,ahj P)::(nat_lit 499,o7 P)::(nat_lit 501,ahk P)::(nat_lit 502,o7 P)::(nat_lit 504,ahm P)::(nat_lit 505,ahn P)::(nat_lit 506,o7 P)::(nat_lit 508,aho P)::(nat_lit 509,o7 P)::(nat_lit 511,ahp P)::(nat_lit 512,ahq P)::(nat_lit 513,o7 P)::(nat_lit 515,ahr P)::(nat_lit 516,o7 P)::(nat_lit 518,ahs P)::(nat_lit 519,aht P)::(nat_lit 520,ahu P)::(nat_lit 521,ahv P)::(nat_lit 522,ahw P)::(nat_lit 523,ahx P)::(nat_lit 524,ahy P)::(nat_lit 527,o7 P)::(nat_lit 529,ahz P)::(nat_lit 530,o7 P)::(nat_lit 532,ahA P)::(nat_lit 533,ahB P)::(nat_lit 541,o7 P)::(nat_lit 543,ahC P)::(nat_lit 544,o7 P)::(nat_lit 546,ahD P)::(nat_lit 547,ahE P)::(nat_lit 548,o7 P)::(nat_lit 550,ahF P)::(nat_lit 551,o7 P)::(nat_lit 553,ahG P)::(nat_lit 554,ahH P)::(nat_lit 555,o7 P)::(nat_lit 557,ahI P)::(nat_lit 558,o7 P)::(nat_lit 560,ahJ P)::(nat_lit 561,ahK P)::(nat_lit 562,o7 P)::(nat_lit 564,ahL P)::(nat_lit 565,o7 P)::(nat_lit 567,ahM P)::(nat_lit 568,ahN P)::(nat_lit 569,o7 P)::(nat_lit 572,ahO P)::(nat_lit 573,ahP P)::(nat_lit 574,ahQ P)::(nat_lit 575,ahR P)::(nat_lit 576,ahS P)::(nat_lit 577,ahT P)::(nat_lit 578,ahU P)::(nat_lit 588,o7 P)::(nat_lit 590,ahV P)::(nat_lit 591,o7 P)::(nat_lit 593,ahW P)::(nat_lit 594,ahX P)::(nat_lit 595,o7 P)::(nat_lit 597,ahY P)::(nat_lit 598,o7 P)::(nat_lit 600,ahZ P)::(nat_lit 601,ah0 P)::(nat_lit 602,o7 P)::(nat_lit 604,ah1 P)::(nat_lit 605,o7 P)::(nat_lit 607,ah2 P)::(nat_lit 608,ah3 P)::(nat_lit 609,o7 P)::(nat_lit 611,ah4 P)::(nat_lit 612,o7 P)::(nat_lit 614,ah5 P)::(nat_lit 615,ah6 P)::(nat_lit 616,o7 P)::(nat_lit 618,ah7 P)::(nat_lit 619,o7 P)::(nat_lit 621,ah8 P)::(nat_lit 622,ah9 P)::(nat_lit 623,o7 P)::(nat_lit 625,aia P)::(nat_lit 626,o7 P)::(nat_lit 628,aib P)::(nat_lit 629,aic P)::(nat_lit 630,o7 P)::(nat_lit 632,aid P)::(nat_lit 633,o7 P)::(nat_lit 635,aie P)::(nat_lit 636,aif P)::(nat_lit 637,o7 P)::(nat_lit 639,aih P)::(nat_lit 640,o7 P)::(nat_lit 642,aii P)::(nat_lit 643,aij P)::(nat_lit 644,o7 P)::(nat_lit 646,aik P)::(nat_lit 647,o7 P)::(nat_lit 649,ail P)::(nat_lit 650,aim P)::(nat_lit 651,o7 P)::(nat_lit 653,ain P)::(nat_lit 654,o7 P)::(nat_lit 656,aio P)::(nat_lit 657,aip P)::(nat_lit 658,o7 P)::(nat_lit 661,aiq P)::(nat_lit 662,air P)::(nat_lit 663,o7 P)::(nat_lit 665,ais P)::(nat_lit 666,o7 P)::(nat_lit 668,ait P)::(nat_lit 669,aiu P)::(nat_lit 670,o7 P)::(nat_lit 672,aiv P)::(nat_lit 673,o7 P)::(nat_lit 675,aiw P)::(nat_lit 676,aix P)::(nat_lit 677,o7 P)::(nat_lit 679,aiy P)::(nat_lit 680,o7 P)::(nat_lit 682,aiz P)::(nat_lit 683,aiA P)::(nat_lit 684,o7 P)::(nat_lit 686,aiB P)::(nat_lit 687,o7 P)::(nat_lit 689,aiC P)::(nat_lit 690,aiD P)::(nat_lit 691,o7 P)::(nat_lit 694,aiE P)::(nat_lit 695,aiF P)::(nat_lit 696,o7 P)::(nat_lit 699,aiG P)::(nat_lit 700,aiH P)::(nat_lit 701,aiI P)::(nat_lit 702,aiJ P)::(nat_lit 703,aiQ P)::(nat_lit 704,aiK P)::(nat_lit 705,aiL P)::(nat_lit 708,o7 P)::(nat_lit 710,aiM P)::(nat_lit 711,o7 P)::(nat_lit 713,aiN P)::(nat_lit 714,aiO P)::(nat_lit 715,aiR P)::(nat_lit 722,o7 P)::(nat_lit 724,aiS P)::(nat_lit 725,o7 P)::(nat_lit 727,aiT P)::(nat_lit 728,aiU P)::(nat_lit 729,o7 P)::(nat_lit 731,aiV P)::(nat_lit 732,o7 P)::(nat_lit 734,aiW P)::(nat_lit 735,aiX P)::(nat_lit 736,o7 P)::(nat_lit 738,aiY P)::(nat_lit 739,o7 P)::(nat_lit 741,aiZ P)::(nat_lit 742,ai0 P)::(nat_lit 743,o7 P)::(nat_lit 745,ai1 P)::(nat_lit 746,o7 P)::(nat_lit 748,ai2 P)::(nat_lit 749,ai3 P)::(nat_lit 750,o7 P)::(nat_lit 752,ai4 P)::(nat_lit 753,o7 P)::(nat_lit 755,ai5 P)::(nat_lit 756,ai6 P)::(nat_lit 757,o7 P)::(nat_lit 759,ai7 P)::(nat_lit 760,o7 P)::(nat_lit 762,ai8 P)::(nat_lit 763,ai9 P)::(nat_lit 764,o7 P)::(nat_lit 766,aja P)::(nat_lit 767,o7 P)::(nat_lit 769,ajb P)::(nat_lit 770,ajc P)::(nat_lit 771,o7 P)::(nat_lit 773,ajd P)::(nat_lit 774,o7 P)::(nat_lit 776,aje P)::(nat_lit 777,ajf P)::(nat_lit 778,o7 P)::(nat_lit 780,ajg P)::(nat_lit 781,o7 P)::(nat_lit 783,ajh P)::(nat_lit 784,aji P)::(nat_lit 785,o7 P)::(nat_lit 787,ajj P)::(nat_lit 788,o7 P)::(nat_lit 790,ajk P)::(nat_lit 791,ajl P)::(nat_lit 792,o7 P)::(nat_lit 794,ajm P)::(nat_lit 795,o7 P)::(nat_lit 797,ajn P)::(nat_lit 798,ajo P)::(nat_lit 799,o7 P)::(nat_lit 801,ajp P)::(nat_lit 802,o7 P)::(nat_lit 804,ajq P)::(nat_lit 805,ajr P)::(nat_lit 806,o7 P)::(nat_lit 808,ajs P)::(nat_lit 809,o7 P)::(nat_lit 811,ajt P)::(nat_lit 812,aju P)::(nat_lit 813,o7 P)::(nat_lit 815,ajv P)::(nat_lit 816,o7 P)::(nat_lit 818,ajw P)::(nat_lit 819,ajx P)::(nat_lit 820,o7 P)::(nat_lit 822,ajy P)::(nat_lit 823,o7 P)::(nat_lit 825,ajz P)::(nat_lit 826,ajA P)::(nat_lit 827,o7 P)::(nat_lit 829,ajB P)::(nat_lit 830,o7 P)::(nat_lit 832,ajC P)::(nat_lit 833,ajD P)::(nat_lit 834,o7 P)::(nat_lit 836,ajE P)::(nat_lit 837,o7 P)::(nat_lit 839,ajF P)::(nat_lit 840,ajG P)::(nat_lit 841,o7 P)::(nat_lit 843,ajH P)::(nat_lit 844,o7 P)::(nat_lit 846,ajI P)::(nat_lit 847,ajJ P)::(nat_lit 848,o7 P)::(nat_lit 850,ajK P)::(nat_lit 851,o7 P)::(nat_lit 853,ajL P)::(nat_lit 854,ajM P)::(nat_lit 855,o7 P)::(nat_lit 857,ajN P)::(nat_lit 858,o7 P)::(nat_lit 860,ajO P)::(nat_lit 861,ajP P)::(nat_lit 862,o7 P)::(nat_lit 864,ajQ P)::(nat_lit 865,o7 P)::(nat_lit 867,ajR P)::(nat_lit 868,ajS P)::(nat_lit 869,o7 P)::(nat_lit 871,ajT P)::(nat_lit 872,o7 P)::(nat_lit 874,ajU P)::(nat_lit 875,ajV P)::(nat_lit 876,o7 P)::(nat_lit 878,ajW P)::(nat_lit 879,o7 P)::(nat_lit 881,ajX P)::(nat_lit 882,ajY P)::(nat_lit 883,ajZ P)::(nat_lit 884,aj0 P)::(nat_lit 885,aj1 P)::(nat_lit 895,o7 P)::(nat_lit 897,aj2 P)::(nat_lit 898,o7 P)::(nat_lit 900,aj3 P)::(nat_lit 901,aj4 P)::(nat_lit 902,o7 P)::(nat_lit 904,aj5 P)::(nat_lit 905,o7 P)::(nat_lit 907,aj6 P)::(nat_lit 908,aj7 P)::(nat_lit 909,o7 P)::(nat_lit 911,aj8 P)::(nat_lit 912,o7 P)::(nat_lit 914,aj9 P)::(nat_lit 915,aka P)::(nat_lit 916,o7 P)::(nat_lit 918,akb P)::(nat_lit 919,o7 P)::(nat_lit 921,akc P)::(nat_lit 922,akd P)::(nat_lit 923,o7 P)::(nat_lit 925,ake P)::(nat_lit 926,o7 P)::(nat_lit 928,akf P)::(nat_lit 929,akg P)::(nat_lit 930,o7 P)::(nat_lit 932,akh P)::(nat_lit 933,o7 P)::(nat_lit 935,aki P)::(nat_lit 936,akj P)::(nat_lit 937,akk P)::(nat_lit 938,akl P)::(nat_lit 939,akm P)::(nat_lit 940,akn P)::(nat_lit 941,ako P)::(nat_lit 944,o7 P)::(nat_lit 946,akp P)::(nat_lit 947,o7 P)::(nat_lit 949,akq P)::(nat_lit 950,akr P)::(nat_lit 951,o7 P)::(nat_lit 954,aks P)::(nat_lit 955,akt P)::(nat_lit 956,o7 P)::(nat_lit 958,aku P)::(nat_lit 959,o7 P)::(nat_lit 961,akv P)::(nat_lit 962,akw P)::(nat_lit 963,o7 P)::(nat_lit 966,akx P)::(nat_lit 967,aky P)::(nat_lit 968,o7 P)::(nat_lit 970,akz P)::(nat_lit 971,o7 P)::(nat_lit 973,akA P)::(nat_lit 974,akB P)::(nat_lit 975,o7 P)::(nat_lit 977,akC P)::(nat_lit 978,o7 P)::(nat_lit 980,akD P)::(nat_lit 981,akE P)::(nat_lit 982,o7 P)::(nat_lit 984,akF P)::(nat_lit 985,o7 P)::(nat_lit 987,akG P)::(nat_lit 988,akH P)::(nat_lit 989,o7 P)::(nat_lit 991,akI P)::(nat_lit 992,o7 P)::(nat_lit 994,akJ P)::(nat_lit 995,akK P)::(nat_lit 996,o7 P)::(nat_lit 998,akL P)::(nat_lit 999,o7 P)::(nat_lit 1001,akM P)::(nat_lit 1002,akN P)::(nat_lit 1003,o7 P)::(nat_lit 1005,akO P)::(nat_lit 1006,o7 P)::(nat_lit 1008,akP P)::(nat_lit 1009,akQ P)::(nat_lit 1010,o7 P)::(nat_lit 1012,akR P)::(nat_lit 1013,o7 P)::(nat_lit 1015,akS P)::(nat_lit 1016,akT P)::(nat_lit 1017,o7 P)::(nat_lit 1019,akU P)::(nat_lit 1020,o7 P)::(nat_lit 1022,akV P)::(nat_lit 1023,akW P)::(nat_lit 1024,o7 P)::(nat_lit 1026,akX P)::(nat_lit 1027,o7 P)::(nat_lit 1029,akY P)::(nat_lit 1030,akZ P)::(nat_lit 1031,o7 P)::(nat_lit 1033,ak0 P)::(nat_lit 1034,o7 P)::(nat_lit 1036,ak1 P)::(nat_lit 1037,ak2 P)::(nat_lit 1038,o7 P)::(nat_lit 1040,ak3 P)::(nat_lit 1041,o7 P)::(nat_lit 1043,ak4 P)::(nat_lit 1044,ak5 P)::(nat_lit 1045,o7 P)::(nat_lit 1047,ak6 P)::(nat_lit 1048,o7 P)::(nat_lit 1050,ak7 P)::(nat_lit 1051,ak8 P)::(nat_lit 1052,o7 P)::(nat_lit 1054,ak9 P)::(nat_lit 1055,o7 P)::(nat_lit 1057,ala P)::(nat_lit 1058,alb P)::(nat_lit 1059,o7 P)::(nat_lit 1062,alc P)::(nat_lit 1063,ald P)::[]
def hAs:List Addr:=[2,3,15,17,18,20,21,22,29,31,32,34,35,36,38,39,41,42,43,44,45,46,49,56,58,59,61,62,63,64,65,68,75,77,78,80,81,82,83,84,87,94,96,97,99,100,101,102,103,106,113,115,116,118,119,120,121,122,125,132,134,135,137,138,139,140,141,144,151,153,154,156,157,158,159,160,163,170,172,173,175,176,177,178,179,182,189,191,192,194,195,196,197,198,201,208,210,211,213,214,215,216,217,220,227,229,230,232,233,234,235,236,239,241,242,244,245,246,248,249,251,252,253,255,256,258,259,260,262,263,265,266,267,269,270,272,273,274,276,277,279,280,281,283,284,286,287,288,290,291,293,294,295,297,298,300,301,302,304,305,307,308,309,312,313,314,316,317,319,320,321,323,324,326,327,328,330,331,333,334,335,337,338,340,341,342,345,346,347,349,350,352,353,354,356,357,359,360,361,364,365,366,368,369,371,372,373,375,376,378,379,387,389,390,392,393,394,396,397,399,400,401,403,404,406,407,408,410,411,413,414,415,417,418,420,421,422,424,425,427,428,429,431,432,434,435,436,438,439,441,442,443,445,446,448,449,450,452,453,455,456,457,458,459,460,461,471,473,474,476,477,478,480,481,483,484,485,487,488,490,491,492,494,495,497,498,499,501,502,504,505,506,508,509,511,512,513,515,516,518,519,520,521,522,523,524,527,529,530,532,533,541,543,544,546,547,548,550,551,553,554,555,557,558,560,561,562,564,565,567,568,569,572,573,574,575,576,577,578,588,590,591,593,594,595,597,598,600,601,602,604,605,607,608,609,611,612,614,615,616,618,619,621,622,623,625,626,628,629,630,632,633,635,636,637,639,640,642,643,644,646,647,649,650,651,653,654,656,657,658,661,662,663,665,666,668,669,670,672,673,675,676,677,679,680,682,683,684,686,687,689,690,691,694,695,696,699,700,701,702,703,704,705,708,710,711,713,714,715,722,724,725,727,728,729,731,732,734,735,736,738,739,741,742,743,745,746,748,749,750,752,753,755,756,757,759,760,762,763,764,766,767,769,770,771,773,774,776,777,778,780,781,783,784,785,787,788,790,791,792,794,795,797,798,799,801,802,804,805,806,808,809,811,812,813,815,816,818,819,820,822,823,825,826,827,829,830,832,833,834,836,837,839,840,841,843,844,846,847,848,850,851,853,854,855,857,858,860,861,862,864,865,867,868,869,871,872,874,875,876,878,879,881,882,883,884,885,895,897,898,900,901,902,904,905,907,908,909,911,912,914,915,916,918,919,921,922,923,925,926,928,929,930,932,933,935,936,937,938,939,940,941,944,946,947,949,950,951,954,955,956,958,959,961,962,963,966,967,968,970,971,973,974,975,977,978,980,981,982,984,985,987,988,989,991,992,994,995,996,998,999,1001,1002,1003,1005,1006,1008,1009,1010,1012,1013,1015,1016,1017,1019,1020,1022,1023,1024,1026,1027,1029,1030,1031,1033,1034,1036,1037,1038,1040,1041,1043,1044,1045,1047,1048,1050,1051,1052,1054,1055,1057,1058,1059,1062,1063]
theorem sU(P:Params):hAs=(hK P).map (·.1):=rfl
def hQ:Program:={9e9 with main:={(9e9).main with body:=[top 0,top 2,top 3,top 4,top 5,top 6,top 7,top 8,top 9,top 10,top 11,top 12,top 14,top 15,top 16,top 17,top 18,top 19,top 20,top 21,top 22,top 23,top 24,top 25,top 26,top 27,top 28,top 30,top 31,top 32,top 33,top 34,top 35,top 37,top 38,top 39,top 40,top 41,top 42,top 44,top 46,top 47,top 49,top 51,top 53,top 54,top 56,top 58,top 60,top 61,top 62,top 63,top 64,top 65,top 66,top 67,top 68,top 70,top 71,top 72,top 73,top 74,top 75,top 76,top 77,top 78]}}
def hLo:List Str:=[]
theorem aed(w:World):(fencedOpening treeTable 9e9 w 15114).map (λs=>(s.heap,s.gens,s.drawn,s.toks))=some (boot_heap w.params,#[],boot_drawn,boot_toks):=by kernel_rfl
theorem aee(w:World):((boot_heap w.params).isNs mainGlobals&&(#[]:Array GenState).size == 0,(boot_heap w.params).objs.size,(boot_heap w.params).nsMap mainGlobals "__annotations__")=(true,11,((.some (.ref 6)):Option Value)):=by kernel_rfl
abbrev hXt(s:Shared):Bool:=xlAt hQ [] s&&recOk (RowW.records (OpenRow.toRowW (OpenLaw.row PySem.Challenge.rw_stillheap_k44_whole_copied_heaps))) s
noncomputable abbrev hFH(w:World):Heap:=(absHeap (hTf w.params) 1064 9e8)
noncomputable abbrev hFS(w:World)(os:OsState):Shared:=⟨hFH w,#[],⟨0,0,0,0⟩,1549,os⟩
theorem hK1(w:World)(os:OsState):staticsOk (importedModules (9e9).main.body) (boot_heap w.params) (hFH w)=true:=by kernel_rfl
theorem hK2(w:World)(os:OsState):namesBound 9e9 (hFH w)=true:=by kernel_rfl
theorem hK3(w:World)(os:OsState):gensDone (hFS w os)=true:=by kernel_rfl
theorem hK4(w:World)(os:OsState):laidKept (boot_heap w.params) (hFH w)=true:=by kernel_rfl
theorem hK5(w:World)(os:OsState):openSeen hQ hLo (importedModules (9e9).main.body) hXt true (hFS w os)=openGood hQ hLo:=by kernel_rfl
theorem hK6(w:World)(os:OsState):Hook.obs (kHook hK hAs sU) (hFS w os)=Hook.val (kHook hK hAs sU) w:=by kernel_rfl
theorem abw(w:World):(λos:OsState=>((staticsOk (importedModules (9e9).main.body) (boot_heap w.params) (hFH w)&&namesBound 9e9 (hFH w)&&gensDone (hFS w os)&&laidKept (boot_heap w.params) (hFH w)),
  openSeen hQ hLo (importedModules (9e9).main.body) hXt true (hFS w os),Hook.obs (kHook hK hAs sU) (hFS w os)))=λ_=>(true,openGood hQ hLo,Hook.val (kHook hK hAs sU) w):=by
 funext os
 rw[hK1 w os,hK2 w os,hK3 w os,hK4 w os,hK5 w os,hK6 w os];rfl
theorem aef:LeftO 9e9 hQ hLo hXt (Hook.obs (kHook hK hAs sU)) (Hook.val (kHook hK hAs sU)) 15114 :=
 LeftO.of_pieces (H₁:=λP=>absHeap (hTf P) 1064 9e8) aed aee ao3 (by rfl) abw
end
end K44
end
section
namespace L2
open PySem PySem.Spec PyProof.Rows
section
variable{κ:Type}[DecidableEq κ]
noncomputable def iX(kvs:List (κ×V))(k:κ):Option V:=(kvs.find? λkv=>decide (kv.1=k)).map (·.2)
noncomputable def putK(kvs:List (κ×V))(k:κ)(v:V):List (κ×V) :=
  if(kvs.any λkv=>decide (kv.1=k))=true then kvs.map (λkv=>if kv.1=k then(kv.1,v) else kv) else kvs++[(k,v)]
noncomputable def wz(kvs:List (κ×V))(k:κ):List (κ×V):=kvs.filter λkv=>decide (kv.1≠k)
theorem gi{p:κ×V}{r:List (κ×V)}{k:κ}(e:p.1=k):iX (p::r) k=some p.2:=by simp[iX,ara,e]
theorem fK{p:κ×V}{r:List (κ×V)}{k:κ}(e:¬p.1=k):iX (p::r) k=iX r k:=by simp[iX,ara,e]
theorem uI(k:κ):∀ kvs:List (κ×V),(kvs.any λkv=>decide (kv.1=k))=(iX kvs k).isSome
  | []=>rfl
  | p::r=>by
    rw[aro];by_cases e:p.1=k
    · simp only[gi e,decide_eq_true e,Bool.true_or,Option.isSome_some]
    · rw[fK e,decide_eq_false e,Bool.false_or];exact uI k r
theorem Rh(k j:κ)(y:V):∀ kvs:List (κ×V),iX (kvs.map λkv=>if kv.1=k then(kv.1,y) else kv) j=(iX kvs j).map λx=>if j=k then y else x
  | []=>rfl
  | p::r=>by
    have ih:=Rh k j y r;rw[aqd];by_cases h:p.1=k
    · rw[if_pos h]
      by_cases e:p.1=j
      · rw[gi (p:=(p.1,y)) e,gi e,aqQ,if_pos (e.symm.trans h)]
      · rw[fK (p:=(p.1,y)) e,fK e,ih]
    · rw[if_neg h]
      by_cases e:p.1=j
      · rw[gi (p:=p) e,gi e,aqQ,if_neg (λz=>h (e.trans z))]
      · rw[fK (p:=p) e,fK e,ih]
theorem MC(k j:κ)(y:V):∀ kvs:List (κ×V),iX kvs k=none->iX (kvs++[(k,y)]) j=if j=k then some y else iX kvs j
  | [],_=>by
    by_cases e:k=j
    · rw[if_pos e.symm];exact gi (p:=(k,y)) e
    · rw[if_neg (λz=>e z.symm)];exact fK (p:=(k,y)) e
  | p::r,hn=>by
    rw[List.cons_append];have hk:¬p.1=k:=λz=>by rw[gi z]at hn;cases hn
    rw[fK hk]at hn;have ih:=MC k j y r hn;by_cases e:p.1=j
    · rw[gi e,gi e,if_neg (λz=>hk (e.trans z))]
    · rw[fK e,fK e,ih]
theorem rO(kvs:List (κ×V))(k j:κ)(y:V):iX (putK kvs k y) j=if j=k then some y else iX kvs j:=by
  unfold putK;by_cases a:(kvs.any λkv=>decide (kv.1=k))=true
  · rw[if_pos a,Rh]
    rw[uI]at a;by_cases e:j=k
    · obtain⟨x,hx⟩:=ark.mp a
      rw[if_pos e,e,hx,aqQ,if_pos rfl]
    · rw[if_neg e]
      cases iX kvs j with
      | none=>rfl
      | some x=>rw[aqQ,if_neg e]
  · rw[if_neg a]
    refine MC k j y kvs ?_;rw[uI]at a;cases q:iX kvs k with
    | none=>rfl
    | some x=>rw[q]at a;exact(a rfl).elim
theorem GD(kvs:List (κ×V))(k:κ)(v:V):(putK kvs k v).length<=kvs.length+1:=by
  unfold putK;split
  · rw[apR];omega
  · rw[ap4,aqo,List.length_nil];omega
theorem pT{kvs:List (κ×V)}{k:κ}(v:V)(h:iX kvs k=none):putK kvs k v=kvs++[(k,v)]:=by
  unfold putK;rw[uI,h];exact if_neg 2e6
theorem Bj.rj{o:Option V}{u:Option Value}(r:Bj o u):o.isSome=u.isSome:=by
  cases o with
  | none=>cases u with
    | none=>rfl
    | some _=>exact(show False from r).elim
  | some _=>cases u with
    | none=>exact(show False from r).elim
    | some _=>rfl
theorem Bj.getD{o:Option V}{u:Option Value}{d:V}{d':Value}(r:Bj o u)(rd:RelV d d'):RelV (o.getD d) (u.getD d'):=by
  cases o with
  | none=>cases u with
    | none=>exact rd
    | some _=>exact(show False from r).elim
  | some _=>cases u with
    | none=>exact(show False from r).elim
    | some _=>exact r
theorem KV.val{kvs:List (κ×V)}{vs:List (κ×Value)}(r:KV kvs vs)(k:κ):Bj (iX kvs k) (valueAt vs k):=by
  unfold KV at r;induction r with
  | nil=>exact True.intro
  | @cons p q ps qs h t ih =>
    obtain⟨h1,h2⟩:=h;by_cases e:p.1=k
    · have e':q.1=k:=h1.symm.trans e
      have b:valueAt (q::qs) k=some q.2:=(by simp[valueAt,ara,e']);rw[gi e,b];exact h2
    · have e':¬q.1=k:=λz=>e (h1.trans z)
      have b:valueAt (q::qs) k=valueAt qs k:=(by simp[valueAt,ara,e']);rw[fK e,b];exact ih
theorem KV.any{kvs:List (κ×V)}{vs:List (κ×Value)}(r:KV kvs vs)(k:κ):(kvs.any λkv=>decide (kv.1=k))=vs.any λkv=>decide (kv.1=k):=by
  unfold KV at r;induction r with
  | nil=>rfl
  | cons h t ih=>rw[aro,aro,ih,h.1]
theorem KV.adQ{kvs:List (κ×V)}{vs:List (κ×Value)}(r:KV kvs vs)(k:κ){y:V}{u:Value}(ry:RelV y u) :
    KV (kvs.map λkv=>if kv.1=k then(kv.1,y) else kv) (vs.map λkv=>if kv.1=k then(kv.1,u) else kv):=by
  unfold KV at r ⊢;induction r with
  | nil=>exact .nil
  | @cons p q ps qs h t ih =>
    rw[aqd,aqd];refine .cons ?_ ih;obtain⟨h1,h2⟩:=h;by_cases e:p.1=k
    · rw[if_pos e,if_pos (h1.symm.trans e)];exact⟨h1,ry⟩
    · rw[if_neg e,if_neg (λz=>e (h1.trans z))];exact⟨h1,h2⟩
theorem KV.put{kvs:List (κ×V)}{vs:List (κ×Value)}(r:KV kvs vs)(k:κ){y:V}{u:Value}(ry:RelV y u):KV (putK kvs k y) (stored vs k u):=by
  unfold putK stored;rw[r.any k];by_cases e:(vs.any λkv=>decide (kv.1=k))=true
  · rw[if_pos e,if_pos e];exact r.adQ k ry
  · rw[if_neg e,if_neg e];exact Paired.snoc r ⟨rfl,ry⟩
theorem KV.drop{kvs:List (κ×V)}{vs:List (κ×Value)}(r:KV kvs vs)(k:κ):KV (wz kvs k) (without vs k):=by
  unfold KV at r ⊢;unfold wz without;induction r with
  | nil=>exact .nil
  | @cons p q ps qs h t ih =>
    obtain⟨h1,h2⟩:=h;rw[List.filter_cons,List.filter_cons];by_cases e:p.1=k
    · have a:¬decide (p.1≠k)=true:=by simp[e]
      have b:¬decide (q.1≠k)=true:=(by simp[h1.symm.trans e]);rw[if_neg a,if_neg b];exact ih
    · have e':¬q.1=k:=λz=>e (h1.trans z)
      have a:decide (p.1≠k)=true:=(by simp[e]);have b:decide (q.1≠k)=true:=(by simp[e']);rw[if_pos a,if_pos b];exact .cons ⟨h1,h2⟩ ih
theorem KV.keys{kvs:List (κ×V)}{vs:List (κ×Value)}(r:KV kvs vs):kvs.map (·.1)=vs.map (·.1):=by
  unfold KV at r;induction r with
  | nil=>rfl
  | cons h t ih=>rw[aqd,aqd,ih,h.1]
theorem KV.length{kvs:List (κ×V)}{vs:List (κ×Value)}(r:KV kvs vs):kvs.length=vs.length:=Paired.length r
theorem WT(kvs:List (κ×V))(k:κ):(wz kvs k).length<=kvs.length:=aqT _ _
end
theorem G4{P:Program}{w:World}{k:Key}{u:Value}(r:RelV (kV k) u):(cT P w).is k u=true:=by
  cases k with
  | inl i=>obtain⟨t,e⟩:=(show ∃ t,u=Value.int i t from r);subst e;exact Pt P w i t
  | inr x=>obtain⟨t,e⟩:=(show ∃ t,u=Value.str x t from r);subst e;exact Pu P w x t
theorem MD{P:Program}{w:World}:∀ {ks:List Key} {us:List Value},Vals (ks.map kV) us->ItemsAre (cT P w) ks us
  | [],_,r=>by rw[aq9]at r;cases r;exact .nil
  | k::ks,_,r=>by
    rw[aqd]at r;cases r with
    | cons h t=>exact .cons (G4 h) (MD t)
noncomputable abbrev KT(H:Hp):List (List Key×V)->List (List Key×Addr×Value)->Prop:=Paired λp q=>p.1=q.1/\H q.2.1=some (.tup (p.1.map kV))/\RelV p.2 q.2.2
theorem KT.val{H:Hp}{kvs:List (List Key×V)}{xs:List (List Key×Addr×Value)}(r:KT H kvs xs)(k:List Key):Bj (iX kvs k) ((atKey xs k).map (·.2)):=by
  induction r with
  | nil=>exact True.intro
  | @cons p q ps qs h t ih =>
    obtain⟨h1,_,h2⟩:=h;by_cases e:p.1=k
    · have e':q.1=k:=h1.symm.trans e
      have b:atKey (q::qs) k=some q.2:=(by simp[atKey,ara,e']);rw[gi e,b];exact h2
    · have e':¬q.1=k:=λz=>e (h1.trans z)
      have b:atKey (q::qs) k=atKey qs k:=(by simp[atKey,ara,e']);rw[fK e,b];exact ih
theorem KT.adQ{H:Hp}{kvs:List (List Key×V)}{xs:List (List Key×Addr×Value)}(r:KT H kvs xs)(k:List Key){y:V}{u:Value}(ry:RelV y u) :
    KT H (kvs.map λkv=>if kv.1=k then(kv.1,y) else kv) (xs.map (putAt k u)):=by
  induction r with
  | nil=>exact .nil
  | @cons p q ps qs h t ih =>
    rw[aqd,aqd];refine .cons ?_ ih;obtain⟨h1,h2,h3⟩:=h;unfold putAt;by_cases e:p.1=k
    · rw[if_pos e,if_pos (h1.symm.trans e)];exact⟨h1,h2,ry⟩
    · rw[if_neg e,if_neg (λz=>e (h1.trans z))];exact⟨h1,h2,h3⟩
theorem KT.put{H:Hp}{kvs:List (List Key×V)}{xs:List (List Key×Addr×Value)}(r:KT H kvs xs)(k:List Key){b:Addr}{y:V}{u:Value}(hb:H b=some (.tup (k.map kV)))(ry:RelV y u) :
    KT H (putK kvs k y) (storedH xs k b u):=by
  have e:(kvs.any λkv=>decide (kv.1=k))=(atKey xs k).isSome:=by
    rw[uI,(r.val k).rj,aq0]
  unfold putK storedH;rw[e];by_cases q:(atKey xs k).isSome=true
  · rw[if_pos q,if_pos q];exact r.adQ k ry
  · rw[if_neg q,if_neg q];exact Paired.snoc r ⟨rfl,hb,ry⟩
theorem KT.keeps{H H':Hp}{kvs:List (List Key×V)}{xs:List (List Key×Addr×Value)}(r:KT H kvs xs)(ht:∀ b ys,H b=some (.tup ys)->H' b=some (.tup ys)):KT H' kvs xs :=
  Paired.ab9 r λ_ _ z=>⟨z.1,ht _ _ z.2.1,z.2.2⟩
section
variable{P:Program}{w:World}{H:Hp}{h:Heap}{a:Addr}
theorem aaJ{u:HO}(ok:HOk P w H h)(e:Rd H a u):jk P w H h a u:=e.ok ok
theorem Bl{kvs:List (Key×V)}(ok:HOk P w H h)(e:Rd H a (.dK kvs)):kvs.length<=sizeLine/\(a == sysModules)=false/\∃ vs,KV kvs vs/\h.DictOf (cT P w) a vs :=
  show jk P w H h a 3e0 from aaJ ok e
theorem YW{kvs:List (Key×V)}(ok:HOk P w H h)(e:H a=some (.dK kvs)):kvs.length<=sizeLine/\(a == sysModules)=false/\∃ vs,KV kvs vs/\h.DictOf (cT P w) a vs:=Bl ok (.inl e)
theorem Il{ks:List Key}(ok:HOk P w H h)(e:H a=some (.tup (ks.map kV))):(tupleKind (cT P w)).is h ks a:=by
  obtain⟨_,its,r,o,h1,h2,n,h3⟩:=(show jk P w H h a (.tup (ks.map kV)) from ok a _ e);exact⟨o,its.toArray,n,h1,h2,h3,by simpa using MD r⟩
theorem Ml{kvs:List (List Key×V)}(ok:HOk P w H h)(e:Rd H a (.dT kvs)):kvs.length<=sizeLine/\(a == sysModules)=false /\
    ∃ xs,KT H kvs xs/\h.DictOfH (tupleKind (cT P w)) a xs:=by
  obtain⟨z,y,xs,r,o,es,ep,h1,h2,h3,h4,h5⟩:=(show jk P w H h a (.dT kvs) from aaJ ok e);refine⟨z,y,xs,r,o,es,ep,h1,h2,h3,h4,λx hx=>?_,h5⟩;have all:∀ {l:List (List Key×V)} {m:List (List Key×Addr×Value)},KT H l m->∀ x∈m,(tupleKind (cT P w)).is h x.1 x.2.1:=by
    intro l m q;induction q with
    | nil=>intro x hx;exact nomatch hx
    | @cons p q ps qs hq t ih =>
      intro x hx;rcases aqi.mp hx with e|hx
      · subst e
        exact Il ok (by rw[<-hq.1];exact hq.2.1)
      · exact ih x hx
  exact all r x hx
theorem aeg{kvs:List (List Key×V)}(ok:HOk P w H h)(e:H a=some (.dT kvs)):kvs.length<=sizeLine/\(a == sysModules)=false /\
    ∃ xs,KT H kvs xs/\h.DictOfH (tupleKind (cT P w)) a xs:=Ml ok (.inl e)
end
noncomputable def um(H:Hp)(a:Addr)(y:V)(r:Option V):Prop :=
  (∃ kvs k,Rd H a 3e0/\y=kV k/\r=iX kvs k)\/∃ kvs k b,Rd H a (.dT kvs)/\y=.ref b/\H b=some (.tup (k.map kV))/\r=iX kvs k
noncomputable def Em(H:Hp)(a:Addr)(y v:V)(H':Hp):Prop :=
  (∃ kvs k,H a=some 3e0/\y=kV k/\kvs.length<sizeLine/\H'=upd H a (.dK (putK kvs k v))) \/
  ∃ kvs k b,H a=some (.dT kvs)/\y=.ref b/\H b=some (.tup (k.map kV))/\kvs.length<sizeLine/\H'=upd H a (.dT (putK kvs k v))
theorem um.k{H:Hp}{a:Addr}{kvs:List (Key×V)}{k:Key}(e:H a=some (.dK kvs)):um H a (kV k) (iX kvs k):=.inl ⟨kvs,k,.inl e,rfl,rfl⟩
theorem Em.k{H:Hp}{a:Addr}{kvs:List (Key×V)}{k:Key}{v:V}(e:H a=some (.dK kvs))(hl:kvs.length<sizeLine):Em H a (kV k) v (upd H a (.dK (putK kvs k v))):=.inl ⟨kvs,k,e,rfl,hl,rfl⟩
section
variable{X:Cx}{pins:List (Addr×Obj)}{σ:St}{H:Hp}{s:Shared}{a:Addr}{y v:V}{u r:Value}{o:Option V}{A:Around}{E:Value->Shared->Prop}
theorem Inv.big(I:Inv X pins σ H s):sysModules<s.heap.objs.size:=by
  have h:mainGlobals<s.heap.objs.size:=(I.mod.glob.keeps I.bk).lt;exact Nat.lt_trans 2e6 h
theorem Vw{Q:Value->Shared->Prop}(hu:A.units+1<cLine)(I:Inv X pins σ H s)(g:um H a y (some v))(ry:RelV y u)(h:∀ w' s',Inv X pins σ H s'->RelV v w'->Q w' s') :
    wpAny 1e7 A (getItem 8e5 u) Q E s:=by
  rcases g with⟨kvs,k,e,ey,l⟩|⟨kvs,k,b,e,ey,eb,l⟩
  · subst ey
    obtain⟨z,hd,vs,rel,dd⟩:=Bl I.hok e;obtain⟨w',hw,rw'⟩:=Bj.some_of (v:=v) (o:=valueAt vs k) (by rw[l];exact rel.val k);exact wpAny_getItem_of (G4 ry) dd.mapOf hw (h w' _ (I.tok _) rw')
  · subst ey
    cases (show u=Value.ref b from ry);obtain⟨z,hd,xs,rel,dd⟩:=Ml I.hok e;obtain⟨w',hw,rw'⟩:=Bj.some_of (v:=v) (o:=(atKey xs k).map (·.2)) (by rw[l];exact rel.val k);obtain⟨p,hp,hp2⟩:=aqa.mp hw;refine wpAny_getItem_heap (tupleKind_room_in1 hu) (Il I.hok eb) dd hp ?_;rw[hp2];exact h w' _ (I.tok _) rw'
theorem ao4{Q:Value->Shared->Prop}(hu:A.units+1<cLine)(I:Inv X pins σ H s)(g:um H a y o)(ry:RelV y u)(h:∀ s',Inv X pins σ H s'->Q (.bool o.isSome) s') :
    wpAny 1e7 A (compareOp .In u 8e5) Q E s:=by
  rcases g with⟨kvs,k,e,ey,l⟩|⟨kvs,k,b,e,ey,eb,l⟩
  · subst ey
    obtain⟨z,hd,vs,rel,dd⟩:=Bl I.hok e;refine wpAny_in_of (G4 ry) hd dd.mapOf ?_;rw[<-(rel.val k).rj,<-l];exact h _ (I.tok _)
  · subst ey
    cases (show u=Value.ref b from ry);obtain⟨z,hd,xs,rel,dd⟩:=Ml I.hok e;refine wpAny_in_heap (tupleKind_room_in1 hu) (Il I.hok eb) hd dd ?_;have q:=(rel.val k).rj;rw[aq0]at q;rw[<-q,<-l];exact h _ (I.tok _)
theorem ZA{Q:Value->Shared->Prop}(hu:A.units+1<cLine)(I:Inv X pins σ H s)(g:um H a y o)(ry:RelV y u)(h:∀ s',Inv X pins σ H s'->Q (.bool (!o.isSome)) s') :
    wpAny 1e7 A (compareOp .NotIn u 8e5) Q E s:=by
  rcases g with⟨kvs,k,e,ey,l⟩|⟨kvs,k,b,e,ey,eb,l⟩
  · subst ey
    obtain⟨z,hd,vs,rel,dd⟩:=Bl I.hok e;refine wpAny_notIn_of (G4 ry) hd dd.mapOf ?_;rw[<-(rel.val k).rj,<-l];exact h _ (I.tok _)
  · subst ey
    cases (show u=Value.ref b from ry);obtain⟨z,hd,xs,rel,dd⟩:=Ml I.hok e;refine wpAny_notIn_heap (tupleKind_room_in1 hu) (Il I.hok eb) hd dd ?_;have q:=(rel.val k).rj;rw[aq0]at q;rw[<-q,<-l];exact h _ (I.tok _)
theorem OX{h':Heap}{t':Nat}{ob:HO}(I:Inv X pins σ H s)(mu:Mut (H a))(hs:Heap.SameBut a s.heap h')(he:∃ q,h'.get? a=some q)(new:jk X.prog X.w (upd H a ob) h' a ob) :
    Inv X pins σ (upd H a ob) {s with heap:=h',toks:=t'} :=
  I.write (x:=a) (e:=a) mu 3e6 (λb q hb z=>(hs.2 b hb).trans z) he new
theorem Uc{P:Program}{w:World}{H':Hp}{h':Heap}{kvs:List (Key×V)}{vs:List (Key×Value)}(z:kvs.length<=sizeLine)(hd:(a == sysModules)=false)(rel:KV kvs vs)(dd:h'.DictOf (cT P w) a vs) :
    jk P w H' h' a 3e0:=⟨z,hd,vs,rel,dd⟩
theorem Vx{H':Hp}{Q:Unit->Shared->Prop}(hu:A.units+1<cLine)(I:Inv X pins σ H s)(g:Em H a y v H')(ry:RelV y u)(rv:RelV v r)(h:∀ s',Inv X pins σ H' s'->Q () s') :
    wpAny 1e7 A (setItem 8e5 u r) Q E s:=by
  rcases g with⟨kvs,k,e,ey,l,eH⟩|⟨kvs,k,b,e,ey,eb,l,eH⟩
  · subst ey eH
    obtain⟨z,hd,vs,rel,dd⟩:=YW I.hok e;have hz:vs.length<=sizeLine:=(by rw[<-rel.length];exact z);have hl:(putK kvs k v).length<=sizeLine:=(by have:=GD kvs k v;omega);refine wpAny_setItem_pairs (hsz:=hz) (G4 ry) dd λh' dd' hs=>h _ ?_;have he:∃ q,h'.get? a=some q:=let ⟨q,_,_,hq,_⟩:=dd';⟨q,hq⟩;exact OX I (by rw[e];exact True.intro) hs he (Uc hl hd (rel.put k rv) dd')
  · subst ey eH
    cases (show u=Value.ref b from ry);obtain⟨z,hd,xs,rel,dd⟩:=aeg I.hok e;have hz:xs.length<=sizeLine:=(by rw[<-Paired.length rel];exact z);have hl:(putK kvs k v).length<=sizeLine:=(by have:=GD kvs k v;omega);refine wpAny_setItem_heap (hsz:=hz) (tupleKind_room_in1 hu) (Il I.hok eb) dd λh' dd' hs=>h _ ?_;obtain⟨q,es,ep,hq,h2,h3,h4,_,h5⟩:=dd';refine OX I (by rw[e];exact True.intro) hs ⟨q,hq⟩ ⟨hl,hd,_,(rel.put k eb rv).keeps λc ys ec=>?_,q,es,ep,hq,h2,h3,h4,h5⟩;rw[ah (ay ec e (λz=>nomatch z))];exact ec
end
section
variable{X:Cx}{pins:List (Addr×Obj)}{σ:St}{H:Hp}{s:Shared}{a:Addr}{kvs:List (Key×V)}{k:Key}{u:Value}{A:Around}{E:Value->Shared->Prop}
theorem aeh{v:V}{more:List Value}{Q:Value->Shared->Prop}(I:Inv X pins σ H s)(e:H a=some (.dK kvs))(ry:RelV (kV k) u)(l:iX kvs k=some v)(hm:more=[]\/∃ x,more=[x])
    (h:∀ w' s',Inv X pins σ (upd H a (.dK (wz kvs k))) s'->RelV v w'->Q w' s'):wpAny 1e7 A (call (.builtin "dict.pop") (.ref a::u::more)) Q E s:=by
  obtain⟨z,hd,vs,rel,dd⟩:=YW I.hok e;obtain⟨w',hw,rw'⟩:=Bj.some_of (v:=v) (o:=valueAt vs k) (by rw[<-l];exact rel.val k);have hp:(keyPart u).isSome=true:=by
    cases k with
    | inl i=>obtain⟨t,q⟩:=(show ∃ t,u=Value.int i t from ry);subst q;rfl
    | inr x=>obtain⟨t,q⟩:=(show ∃ t,u=Value.str x t from ry);subst q;rfl
  have ha:argsOk "dict.pop" ⟨.ref a::u::more,[]⟩:=by
    rcases hm with q|⟨x,q⟩
    · subst q;exact PySem.F.args_dict_pop_2 _ _
    · subst q;exact PySem.F.args_dict_pop_3 _ _ _
  refine call_meetsIn PySem.F.slot_dict_pop dd.typeIs PySem.F.entry_dict_pop ha (meets_dict_pop_there (cT X.prog X.w) a (G4 ry) more hm hp)
    ⟨vs,w',dd,by rw[<-rel.length];exact z,hw,λh' dd' hs=>h w' _ ?_ rw'⟩
  have he:∃ q,h'.get? a=some q:=let ⟨q,_,_,hq,_⟩:=dd';⟨q,hq⟩;exact OX I (by rw[e];exact True.intro) hs he (Uc (aqk (WT kvs k) z) hd (rel.drop k) dd')
theorem aei{Q:Value->Shared->Prop}(I:Inv X pins σ H s)(e:Rd H a (.dK kvs))(h:∀ t s',Inv X pins σ H s'->Q (.int kvs.length t) s'):wpAny 1e7 A (call (.builtin "len") [.ref a]) Q E s:=by
  obtain⟨z,hd,vs,rel,dd⟩:=Bl I.hok e;refine call_len_dict hd dd (by rw[<-rel.length];rw[sizeLine_eq]at z;omega) ?_;rw[<-rel.length];exact h _ _ (I.tok _)
end
noncomputable def ale(i:Expr):Prop:=∀ ov iv,subscripted i false ov iv=operate [ov,iv] (getItem ov iv)
theorem ZC{prog:Program}{w:World}{A:Around}{E:Value->Shared->Prop}{s:Shared}{env:Env}{value slice:Expr}{pos:Pos}{T id:String}{Q:Value->Shared->Prop}
    (hl:typeLookup (.type T) "__getitem__" = pure (some (.builtin id))) (hs:ale slice)
    (h:wpAny 2e1 A (eval value env) (λo s₁=>wpAny 2e1 A (eval slice env) (λi s₂=>s₂.TypeIs o T/\wpAny 2e1 A (getItem o i) Q E s₂) E s₁) E s) :
    wpAny 2e1 A (eval (.Subscript value slice pos) env) Q E s:=by
  refine Subscript_ (wpAny_mono h (λo s₁ h₁=>wpAny_mono h₁ (λi s₂ h₂=>?_) λ_ _ x=>x) λ_ _ x=>x);obtain⟨hT,h₂⟩:=h₂;unfold subscriptTail;refine wpAny_bind ?_;rw[getitemInPython_of_ne hT.not_modules];refine wpAny_bind (wpAny_specialOf hT hl ?_);have fin:wpAny 2e1 A (subscripted slice false o i) (λr s₃=>wpAny 2e1 A (letTemporaryGo value o r >>= λ_=>pure r) Q E s₃) E s₂:=by
    rw[hs o i];exact wpAny_operating (wpAny_mono h₂ (λr s₃ h₃=>wpAny_bind (wpAny_letTemporaryGo (wpAny_pure h₃))) λ_ _ x=>x)
  first
    | exact wpAny_pure (wpAny_bind fin)
    | exact wpAny_bind (wpAny_pure (wpAny_bind fin))
    | exact wpAny_bind fin
theorem Py{X:Cx}{pins:List (Addr×Obj)}{σ:St}{H:Hp}{s:Shared}{a:Addr}{y:V}{o:Option V}(I:Inv X pins σ H s)(g:um H a y o):s.TypeIs 8e5 "dict" := by
  rcases g with⟨kvs,k,e,_,_⟩|⟨kvs,k,b,e,_,_,_⟩
  · obtain⟨_,_,vs,_,dd⟩:=Bl I.hok e
    exact dd.typeIs
  · obtain⟨_,_,xs,_,dd⟩:=Ml I.hok e
    exact dd.typeIs
noncomputable def aej(td ty:TE):TE:=λσ H Q=>td σ H λx H1=>ty σ H1 λy H2=>∃ a v,x=.ref a/\um H2 a y (some v)/\Q v H2
noncomputable def ao5(ty td:TE):TE:=λσ H Q=>ty σ H λy H1=>td σ H1 λx H2=>∃ a o,x=.ref a/\um H2 a y o/\Q (.bl o.isSome) H2
noncomputable def ZD(ty td:TE):TE:=λσ H Q=>ty σ H λy H1=>td σ H1 λx H2=>∃ a o,x=.ref a/\um H2 a y o/\Q (.bl (!o.isSome)) H2
noncomputable def aek(td ty tv:TE):TS:=λD σ H=>tv σ H λv H1=>td σ H1 λx H2=>ty σ H2 λy H3=>∃ a H4,x=.ref a/\Em H3 a y v H4/\D.nx σ H4
section
variable{X:Cx}{o i e value:Expr}{pos pos' alK:Pos}{td ty tv:TE}
theorem dq(hu:X.A.units+1<cLine)(ho:PE X o td)(hi:PE X i ty)(hs:ale i):PE X (.Subscript o i pos) (aej td ty):=by
  intro pins s σ H Q I h;refine ZC PySem.F.slot_dict_getitem.lookup hs (thn (ho pins s σ H _ I h) λu s1 ⟨x,H1,I1,rx,q1⟩=>thn (hi pins s1 σ H1 _ I1 q1) λiv s2 ⟨y,H2,I2,ry,a,v,ex,g,q2⟩=>?_);subst ex;obtain rfl:u=Value.ref a:=rx;exact⟨Py I2 g,Vw hu I2 g ry λw' s3 I3 rw'=>⟨v,H2,I3,rw',q2⟩⟩
theorem XW(hu:X.A.units+1<cLine)(hi:PE X i ty)(ho:PE X o td):PC X .In i o (ao5 ty td):=by
  intro pins s σ H Q I h;refine thn (hi pins s σ H _ I h) λiv s1 ⟨y,H1,I1,ry,q1⟩=>thn (ho pins s1 σ H1 _ I1 q1) λu s2 ⟨x,H2,I2,rx,a,ov,ex,g,q2⟩=>?_;subst ex;obtain rfl:u=Value.ref a:=rx;exact ao4 hu I2 g ry λs3 I3=>⟨.bl ov.isSome,H2,I3,rfl,q2⟩
theorem kU(hu:X.A.units+1<cLine)(hi:PE X i ty)(ho:PE X o td):PC X .NotIn i o (ZD ty td):=by
  intro pins s σ H Q I h;refine thn (hi pins s σ H _ I h) λiv s1 ⟨y,H1,I1,ry,q1⟩=>thn (ho pins s1 σ H1 _ I1 q1) λu s2 ⟨x,H2,I2,rx,a,ov,ex,g,q2⟩=>?_;subst ex;obtain rfl:u=Value.ref a:=rx;exact ZA hu I2 g ry λs3 I3=>⟨.bl (!ov.isSome),H2,I3,rfl,q2⟩
theorem lQ(hu:X.A.units+1<cLine)(ho:PE X o td)(hi:PE X i ty)(hv:PE X value tv)(hs:swapsWith value (some (.Subscript o i pos')) pos.line X.env=pure false) :
    PS X (.Assign [.Subscript o i pos'] value pos) (aek td ty tv):=by
  intro pins s σ H D I h;refine wpAny_Assign_Subscript (thn (hv pins s σ H _ I h) λr s1 ⟨v,H1,I1,rv,q1⟩=>thn (ho pins s1 σ H1 _ I1 q1) λu s2 ⟨x,H2,I2,rx,q2⟩=>thn (hi pins s2 σ H2 _ I2 q2) λiv s3 ⟨y,H3,I3,ry,a,H4,ex,g,q3⟩=>?_) hs;subst ex;obtain rfl:u=Value.ref a:=rx;exact Vx hu I3 g ry rv λs4 I4=>⟨σ,H4,I4,q3⟩
end
theorem WU{P:Program}{w:World}{H:Hp}(h:Heap)(hb:sysModules<h.objs.size):jk P w H (h.push {cls:=.type "dict",data:=.dict #[]}) h.objs.size 6e1 :=
  ⟨aqu _,beq_eq_false_iff_ne.mpr (aqe (aqb hb)),[],.nil,Heap.DictOf.new h⟩
noncomputable def abx:TE:=λ_ H Q=>∀ p,H p=none->Q 4e7 (upd H p 6e1)
section
variable{X:Cx}{pos:Pos}
theorem jx:PE X (.Dict [] [] pos) abx:=λpins s σ H Q I h =>
  wpAny_Dict_empty ⟨.ref s.heap.objs.size,_,I.laid (a:=s.heap.objs.size) (o:=.dK []) (t':=s.toks) (λ_ _ q=>apY _ q) (apV _) (WU s.heap I.big),rfl,h _ (I.hok.fresh (apV _))⟩
end
structure M1(X:Cx)(o:Expr)(m:Str)(apos:Pos)(e:Expr)(xq:Pos):Prop where
  base:attributeBase o m X.env (eval o X.env)=eval o X.env
  few:((backTo xq (starEach [e] X.env)).all (λx=>!x.1)&&(backToKw xq 8e0).all (λx=>x.1.isSome)
    && decide (([e]:List Expr).length+([]:List Keyword).length+(if([]:List Keyword).isEmpty then 0 else 1)<30))=true
  line:(apos.endLine == xq.line)=true
  trees:backTo xq (starEach [e] X.env)=[(false,eval e X.env)]
structure M2(X:Cx)(o:Expr)(m:Str)(apos:Pos)(e f:Expr)(xq:Pos):Prop where
  base:attributeBase o m X.env (eval o X.env)=eval o X.env
  few:((backTo xq (starEach [e,f] X.env)).all (λx=>!x.1)&&(backToKw xq 8e0).all (λx=>x.1.isSome)
    && decide (([e,f]:List Expr).length+([]:List Keyword).length+(if([]:List Keyword).isEmpty then 0 else 1)<30))=true
  line:(apos.endLine == xq.line)=true
  trees:backTo xq (starEach [e,f] X.env)=[(false,eval e X.env),(false,eval f X.env)]
noncomputable def IsD(H:Hp)(a:Addr):Prop:=(∃ kvs,Rd H a 3e0)\/∃ kvs,Rd H a (.dT kvs)
theorem XX{X:Cx}{pins:List (Addr×Obj)}{σ:St}{H:Hp}{s:Shared}{a:Addr}(I:Inv X pins σ H s)(d:IsD H a) :
    s.TypeIs 8e5 "dict" /\ (∀ b,Value.ref a=.ref b->∃ ob,s.heap.get? b=some ob/\ob.dict=none)/\(a == sysModules)=false:=by
  rcases d with⟨kvs,e⟩|⟨kvs,e⟩
  · obtain⟨_,hd,vs,_,dd⟩:=Bl I.hok e
    refine⟨dd.typeIs,λb q=>?_,hd⟩;cases q;obtain⟨ob,_,_,h1,h2,_⟩:=dd;exact⟨ob,h1,h2.2.1⟩
  · obtain⟨_,hd,xs,_,dd⟩:=Ml I.hok e
    refine⟨dd.typeIs,λb q=>?_,hd⟩;cases q;obtain⟨ob,_,_,h1,h2,_⟩:=dd;exact⟨ob,h1,h2.2.1⟩
section
variable{X:Cx}{pins:List (Addr×Obj)}{σ:St}{H:Hp}{s:Shared}{a:Addr}{y d:V}{u r:Value}{o:Option V}{A:Around}{E:Value->Shared->Prop}
theorem aby{Q:Value->Shared->Prop}(hu:A.units+1<cLine)(I:Inv X pins σ H s)(g:um H a y o)(ry:RelV y u)(rd:RelV d r)(h:∀ w' s',Inv X pins σ H s'->RelV (o.getD d) w'->Q w' s') :
    wpAny 1e7 A (call (.builtin "dict.get") [.ref a,u,r]) Q E s:=by
  rcases g with⟨kvs,k,e,ey,l⟩|⟨kvs,k,b,e,ey,eb,l⟩
  · subst ey
    obtain⟨z,hd,vs,rel,dd⟩:=Bl I.hok e;refine call_meetsIn PySem.F.slot_dict_get dd.typeIs PySem.F.entry_dict_get (PySem.F.args_dict_get_3 _ _ _) (meets_dict_get_default (cT X.prog X.w) a (G4 ry) hd r) ⟨_,dd.mapOf,h _ _ (I.tok _) ?_⟩;rw[l];exact(rel.val k).getD rd
  · subst ey
    cases (show u=Value.ref b from ry);obtain⟨z,hd,xs,rel,dd⟩:=Ml I.hok e;refine call_meetsIn PySem.F.slot_dict_get dd.typeIs PySem.F.entry_dict_get (PySem.F.args_dict_get_3 _ _ _) (meetsH_dict_get_default (tupleKind (cT X.prog X.w)) a b hd r) ⟨tupleKind_room_in1 hu,k,xs,Il I.hok eb,dd,h _ _ (I.tok _) ?_⟩;rw[l];exact(rel.val k).getD rd
end
noncomputable def abz(td ty tx:TE):TE:=λσ H Q=>td σ H λx H1=>∃ a,x=.ref a/\IsD H1 a/\ty σ H1 λy H2=>tx σ H2 λz H3=>∃ o,um H3 a y o/\Q (o.getD z) H3
noncomputable def abA(td ty:TE):TE:=λσ H Q=>td σ H λx H1=>∃ a,x=.ref a/\IsD H1 a/\ty σ H1 λy H2=>∃ kvs k v,H2 a=some 3e0/\y=kV k/\iX kvs k=some v/\Q v (upd H2 a (.dK (wz kvs k)))
section
variable{X:Cx}{o e f:Expr}{apos xq:Pos}{td ty tx:TE}
theorem WW(hu:X.A.units+1<cLine)(ho:PE X o td)(he:PE X e ty)(hf:PE X f tx)(m:M2 X o "get" apos e f xq):PE X (.Call (.Attribute o "get" apos) [e,f] [] xq) (abz td ty tx):=by
  intro pins s σ H Q I h;refine wpAny_Call_method m.base m.few m.line PySem.F.plainAttrs_dict PySem.F.slot_dict_get PySem.F.type_dict_get (thn (ho pins s σ H _ I h) λu s1 ⟨x,H1,I1,rx,a,ex,d,q1⟩=>?_);subst ex;obtain rfl:u=Value.ref a:=rx;obtain⟨t1,t2,_⟩:=XX I1 d;refine⟨t1,t2,?_⟩;rw[m.trees];refine aru rfl (arA (arn (thn (he pins s1 σ H1 _ I1 q1) λiv s2 ⟨y,H2,I2,ry,q2⟩ =>
    arn (thn (hf pins s2 σ H2 _ I2 q2) λfv s3 ⟨z,H3,I3,rz,ov,g,q3⟩=>arL ?_))))
  exact aby hu I3 g ry rz λw' s4 I4 rw'=>⟨_,H3,I4,rw',q3⟩
theorem KG(ho:PE X o td)(he:PE X e ty)(m:M1 X o "pop" apos e xq):PE X (.Call (.Attribute o "pop" apos) [e] [] xq) (abA td ty):=by
  intro pins s σ H Q I h;refine wpAny_Call_method m.base m.few m.line PySem.F.plainAttrs_dict PySem.F.slot_dict_pop PySem.F.type_dict_pop (thn (ho pins s σ H _ I h) λu s1 ⟨x,H1,I1,rx,a,ex,d,q1⟩=>?_);subst ex;obtain rfl:u=Value.ref a:=rx;obtain⟨t1,t2,_⟩:=XX I1 d;refine⟨t1,t2,?_⟩;rw[m.trees];refine aru rfl (arA (arn (thn (he pins s1 σ H1 _ I1 q1) λiv s2 ⟨y,H2,I2,ry,kvs,k,v,ea,ey,l,q2⟩=>arL ?_)));subst ey;exact aeh I2 ea ry l 3e6 λw' s3 I3 rw'=>⟨v,_,I3,rw',q2⟩
end
section
variable{X:Cx}{pins:List (Addr×Obj)}{σ:St}{H:Hp}{s:Shared}{a:Addr}{kvs:List (Key×V)}{A:Around}{E:Value->Shared->Prop}
end
section
variable{X:Cx}{pins:List (Addr×Obj)}{σ:St}{H:Hp}{s:Shared}{a:Addr}{y:V}{u:Value}{A:Around}{E:Value->Shared->Prop}
end
end L2
namespace L2
open PySem PySem.Spec PyProof.Rows
section
variable{X:Cx}
theorem Vy:zk X (.builtin "len") (λxs H Q=>∃ a kvs,xs=[V.ref a]/\H a=some 3e0/\Q (.int kvs.length) H):=by
  intro pins s σ H xs us Q I r h;obtain⟨a,kvs,rfl,ha,q⟩:=h;obtain⟨u,rfl,ru⟩:=vals1 r;cases ru;exact aei I (.inl ha) λt s' I'=>⟨.int kvs.length,H,I',⟨t,rfl⟩,q⟩
end
end L2
end
section
namespace LX
open PySem PySem.W
noncomputable def eQ(c:Value)(od:Option Addr)(fs:Array Value)(sl:Array (Option Value)):Obj:={cls:=c,dict:=od,data:=.fields fs,slots:=sl}
noncomputable def abB(dd:Option Addr)(cd:ClassData)(k0 k1 k2 k3 k5:Option Value):Obj:={cls:=.type "type",dict:=dd,data:=.cls cd,slots:=#[k0,k1,k2,k3,some (.builtin "ValueError.__new__"),k5]}
structure jL(K:Frag)(C:Addr)(cd:ClassData):Prop where
 ob:∃ dd k0 k1 k2 k3 k5,K.lookup C=some (abB dd cd k0 k1 k2 k3 k5)
 del:cd.hasDel=false
 line:∃ r,cd.mro=.ref C::r
 val:cd.mro.contains 3e5=true
 bas:cd.mro.contains (.type "BaseException")=true
 obj:cd.mro.contains (.type "object")=true
 atr:cd.mro.contains (.type "AttributeError")=false
 nam:cd.mro.contains (.type "NameError")=false
noncomputable def Pb(K:Frag)(C:Addr):Bool:=match K.lookup C with
 | some ⟨.type "type",_,.cls cd,sl⟩=>(match cd.mro,sl.toList with
  | .ref D::_,[_,_,_,_,some (.builtin n),_]=>D == C&&n == "ValueError.__new__" && !cd.hasDel&&cd.mro.contains 3e5&&cd.mro.contains (.type "BaseException") &&
    cd.mro.contains (.type "object")&&!cd.mro.contains (.type "AttributeError")&&!cd.mro.contains (.type "NameError")
  | _,_=>false)
 | _=>false
theorem nL{K:Frag}{C:Addr}(e:Pb K C=true):∃ cd,clsIn K C=some cd/\jL K C cd:=by
 unfold Pb at e;split at e
 ·rename_i dd cd sl ho
  split at e
  ·rename_i D r k0 k1 k2 k3 n k5 hm hs
   simp only[arz,beq_iff_eq,Bool.not_eq_true']at e;obtain⟨⟨⟨⟨⟨⟨⟨rfl,rfl⟩,e1⟩,e2⟩,e3⟩,e4⟩,e5⟩,e6⟩:=e;obtain⟨sl⟩:=sl;simp only at hs;subst hs;exact⟨cd,by unfold clsIn;rw[ho],⟨dd,k0,k1,k2,k3,k5,ho⟩,e1,⟨r,hm⟩,e2,e3,e4,e5,e6⟩
  ·cases e
 ·cases e
section
variable{K:Frag}{C:Addr}{cd:ClassData}{M:Model}{h:Heap}
theorem jL.cls(x:jL K C cd):clsIn K C=some cd:=by
 obtain⟨dd,k0,k1,k2,k3,k5,e⟩:=x.ob;unfold clsIn;rw[e];rfl
theorem jL.KH(x:jL K C cd):cd.mro.isEmpty=false:=by
 obtain⟨r,e⟩:=x.line;rw[e];rfl
theorem jL.sub(x:jL K C cd)(X:K.In h)(v:Value):Looks M h (isSubtype 4e2 v) (cd.mro.contains v) :=
 looks_mroIn X (by unfold mroIn;rw[x.cls,Option.bind_some,if_neg (by rw[x.KH];decide)])
theorem jL.mro(x:jL K C cd)(X:K.In h):Looks M h (mroOf 4e2) cd.mro:=(looks_clsIn X x.cls).andThen .now
theorem jL.typ(x:jL K C cd)(X:K.In h):Looks M h (typeOf 4e2) (.type "type"):=by
 obtain⟨dd,k0,k1,k2,k3,k5,e⟩:=x.ob;exact(Looks.ld (X _ _ e)).andThen .now
theorem jL.alf(x:jL K C cd)(X:K.In h):Looks M h (isType 4e2) true:=by
 obtain⟨dd,k0,k1,k2,k3,k5,e⟩:=x.ob;intro A Q E s k q;unfold isType loadHead;exact wpAny_bind (wpAny_loadPart (k _ _ (X _ _ e)) (wpAny_pure q))
theorem jL.madeBy(x:jL K C cd)(X:K.In h):Looks M h (Bind.madeBy 4e2) (some "ValueError.__new__"):=by
 obtain⟨dd,k0,k1,k2,k3,k5,e⟩:=x.ob;obtain⟨r,hr⟩:=x.line;intro A Q E s k q;unfold Bind.madeBy;refine wpAny_bind (x.mro X A _ E s k ?_);rw[hr,List.forIn_cons];refine wpAny_bind (wpAny_bind (wpAny_bind (wpAny_bind (wpAny_loadPart (k _ _ (X _ _ e)) 8e9))));exact wpAny_pure (wpAny_pure (wpAny_pure q))
theorem jL.static(x:jL K C cd)(X:K.In h):Looks M h (Bind.staticBase 4e2) 4e2:=by
 obtain⟨r,hr⟩:=x.line;intro A Q E s k q;unfold Bind.staticBase;refine wpAny_bind (x.mro X A _ E s k ?_);rw[hr,List.forIn_cons];exact wpAny_bind (wpAny_bind (wpAny_bind (x.madeBy X A _ E s k (wpAny_pure (wpAny_pure (wpAny_pure q))))))
theorem ZE:Manifest.canonical "ValueError.__new__" = Manifest.canonical "BaseException.__new__" := PySem.F.excBase_ValueError.canon
theorem jL.here(x:jL K C cd)(X:K.In h):Looks M h (Bind.madeHere "BaseException.__new__" 4e2) () :=
 (x.static X).andThen ((x.madeBy X).andThen (Looks.of_pure (by simp only[aqQ,ZE,bne_self_eq_false,aqA,if_false])))
end
noncomputable def Back(x:Addr)(R:Result->Shared->Prop)(r:Result)(s':Shared):Prop:=match r with
 | .ok (.ret v)=>v=.none/\R (.ok (.ret 7e5)) s'
 | .ok _=>False
 | .error e=>R (.error e) s'
noncomputable abbrev Ud(C t:Addr):Obj:=eQ 4e2 none #[.ref t,.none,.none,.none,.bool false,.none] #[]
noncomputable abbrev zD(vs:List Value):Obj:={cls:=.type "tuple",data:=.seq vs.toArray}
noncomputable abbrev tW(h:Heap)(C:Addr)(vs:List Value):Heap:=(h.push (zD vs)).push (Ud C h.objs.size)
section
variable{prog:Program}{w:World}{A:Around}{R:Result->Shared->Prop}{h:Heap}{g:Array GenState}{d:Drawn}{t:Nat}{os:OsState}{K:Frag}{C:Addr}{cd:ClassData}{vs:List Value}
theorem WX(x:jL K C cd)(X:K.In h)(hv:vs.length<=sizeLine)(k:R (.ok (.ret (.ref (h.objs.size+1)))) ⟨tW h C vs,g,d,t,os⟩) :
  codeAny 2e1 A (.call (.builtin "ValueError.__new__") ⟨.ref C::vs,[]⟩) R ⟨h,g,d,t,os⟩:=by
 have F:=PySem.F.excBase_ValueError;have st:=x.static (M:=model prog w) X;have ty:=x.alf (M:=model prog w) X;have mb:=x.madeBy (M:=model prog w) X;have hh:=x.here (M:=model prog w) X;have s1:=x.sub (M:=model prog w) X 3e5;rw[x.val]at s1;have s2:=x.sub (M:=model prog w) X (.type "AttributeError");rw[x.atr]at s2;have s3:=x.sub (M:=model prog w) X (.type "NameError");rw[x.nam]at s3;refine codeAny_call_builtin_code (Code.quiet_builtin _ F.quiet) ?_;have star:=F.noStar;simp only[checkBuiltinCall,F.newKind,F.newSplit,F.newRow]
 repeat (first|simp only[bne_self_eq_false,aqA,if_false,Bool.not_true]|lk)
 refine codeAny_builtinAt F.entry ?_;unfold Builtin.«BaseException.__new__»;refine wpAt_bind ?_;show wpAt _ _ _ (stack >>= _) _ _ _;refine wpAt_bind (wpAt_stack λp below=>wpAt_of_wpAny ?_);have apL:=F.ends;wp_walk
 refine wpAt_of_wpAny ?_;rw[F.owner]
 repeat (first|simp only[bne_self_eq_false,aqA,if_false,Bool.not_true]|lk)
 rw[if_neg (by rw[ap5];omega)];obtain⟨dd,k0,k1,k2,k3,k5,ho⟩:=x.ob
 repeat lk
 refine nd_load (apY _ (apY _ (X _ _ ho))) (wpAny_pure 8e9);rw[x.del,if_neg ap0];refine wpAny_pure 8e9;show R _ _;rw[arh];exact k
theorem WY{f:Addr}(x:jL K C cd)(X:K.In h)(hi:findIn K (.ref C) "__init__" = some (some (.ref f)))(hf:typeIn K (.ref f)=some (.type "function"))(hv:vs.length<=sizeLine)
  (k:codeAny (model prog w) (A.under (.builtin "type.__call__" ⟨.ref C::vs,[]⟩)) (.call (.ref f) ⟨.ref (h.objs.size+1)::vs,[]⟩) (Back (h.objs.size+1) R) ⟨tW h C vs,g,d,t,os⟩) :
  codeAny 2e1 A (.call 4e2 ⟨vs,[]⟩) R ⟨h,g,d,t,os⟩:=by
 obtain⟨dd,k0,k1,k2,k3,k5,ho⟩:=x.ob;have hC:=X _ _ ho;have ht:=x.typ (M:=model prog w) X;refine codeAny_of_tree ?_;show wpAny _ _ (callAny 4e2 _) _ _ _;refine nd_load hC ?_;show wpAny _ _ (callAny.viaDunder 4e2 _) _ _ _;unfold callAny.viaDunder;have sp:Looks 2e1 h (specialOf 4e2 "__call__") (some (.builtin "type.__call__")):=ht.andThen (Looks.of_pure tc_lookup);refine wpAny_bind (sp.at ?_);dsimp only;rw[tc_bind];refine wpAny_bind (wpAny_pure (wpAny_bind 8e9));refine wpAny_pure (a:=Fin.again (.call (.builtin "type.__call__") ⟨.ref C::vs,[]⟩)) (And.intro rfl ?_);refine codeAny_call_builtin_at (Code.quiet_builtin _ 2e2) entry_typeCall (check_slot tc_kind tc_split (ht.andThen (Looks.of_pure tc_sub)) (tc_args _ _ _) ?_);unfold Builtin.«type.__call__»;have hm:=x.mro (M:=model prog w) X;have em:=x.KH;have mb:=x.madeBy (M:=model prog w) X
 repeat (first|simp only[em,aqA,if_false]|with_reducible refine wpAny_call ?_|lk)
 refine WX x X hv ?_;have kp:∀ b o,h.get? b=some o->(tW h C vs).get? b=some o:=λb o e=>apY _ (apY _ e);have X1:K.In (tW h C vs):=X.keeps kp;have hx:(tW h C vs).get? (h.objs.size+1)=some (Ud C h.objs.size):=by heap_get
 have t1:Looks 2e1 (tW h C vs) (typeOf (.ref (h.objs.size+1))) 4e2:=(Looks.ld hx).andThen .now;have s1:=x.sub (M:=model prog w) X1 4e2;obtain⟨r,hr⟩:=x.line;rw[show cd.mro.contains 4e2=true by rw[hr];simp]at s1;have i1:=looks_findIn (M:=model prog w) X1 hi;have b1:=bind_fn (M:=model prog w) X1 (.ref (h.objs.size+1)) hf;unfold isInstance callSpecial? specialOf
 repeat (first|with_reducible refine wpAny_call ?_|lk)
 refine codeAny_mono k λr s' z=>?_;rcases r with e|(v|_|_|_)<;>first|exact z|exact z.elim|skip;obtain⟨rfl,z⟩:=z;exact wpAny_pure (wpAny_pure z)
end
section
variable{prog:Program}{w:World}{A:Around}{E:Value->Shared->Prop}{h:Heap}{g:Array GenState}{d:Drawn}{t:Nat}{os:OsState}{K:Frag}{C e t0:Addr}{cd:ClassData}{vs:List Value}{od:Option Addr}{fs:Array Value}{sl:Array (Option Value)}
theorem KI{M:Model}(he:h.get? e=some (eQ (.ref C) od fs sl)):Looks M h (typeOf (.ref e)) 4e2:=(Looks.ld he).andThen .now
theorem Pz{Q:Value->Shared->Prop}(x:jL K C cd)(X:K.In h)(he:h.get? e=some (eQ (.ref C) od fs sl))(h0:fs[0]?=some (.ref t0))(hv:vs.length<=sizeLine)
  (k:Q .none ⟨(h.push (zD vs)).update e (Obj.mapFields (·.setIfInBounds 0 (.ref h.objs.size))),g,d,t,os⟩) :
  wpAny 2e1 A (call (.builtin "ValueError.__init__") (.ref e::vs)) Q E ⟨h,g,d,t,os⟩:=by
 have F:=PySem.F.excBase_ValueError;have ty:=KI (M:=model prog w) he;have s1:=x.sub (M:=model prog w) X 3e5;rw[x.val]at s1;obtain⟨dd,k0,k1,k2,k3,k5,ho⟩:=x.ob;have hC:h.get? C=some ⟨.type "type",dd,.cls cd,#[k0,k1,k2,k3,some (.builtin "ValueError.__new__"),k5]⟩:=X _ _ ho;have star:=F.noStar;refine wpAny_call (codeAny_call_builtin F.init.plain F.initEntry ?_);simp only[checkBuiltinCall,F.initKind,F.initSplit,F.initRow];unfold isInstance Bind.checkArgs;refine wpAny_bind (wpAny_bind (ty.at (s1.at ?_)));simp only[aqA,if_false,Bool.not_true];refine wpAny_bind (m:=Bind.printed "*" true _ _) ?_;unfold Bind.printed Bind.receiverType typeNameWhole;rw[if_neg 2e6];dsimp only;rw[if_neg 2e6];refine wpAny_bind (ty.at ?_);refine wpAny_bind (wpAny_bind ((looks_clsIn X x.cls).at (wpAny_pure 8e9)));refine wpAny_bind (m:=if("ValueError" != "*")=true then pure "ValueError" else _) ?_;rw[if_pos star];refine wpAny_pure (wpAny_onRaise ?_);show wpAny _ _ (Bind.check _ _ _ _ []) _ _ _;rw[PyProof.Rows.check_varPos];refine wpAny_pure ?_;unfold Builtin.«BaseException.__init__»;dsimp only;rw[if_neg 2e5];unfold newTuple Builtin.BaseException.bexcPut;have hsz:0<fs.size:=(aqj.mp h0).1;have e1:=apY (h:=h) (zD vs) he;refine wpAny_bind (wpAny_newObj_type ?_ (by show vs.toArray.size<=sizeLine;rw[ap5];exact hv));refine wpAny_bind (wpAny_bind (wpAny_field (s:=⟨h.push (zD vs),g,d,t,os⟩) e1 rfl h0 ?_));refine wpAny_bind (wpAny_setField (s:=⟨h.push (zD vs),g,d,t,os⟩) e1 rfl hsz ?_);exact wpAny_letGo (wpAny_pure k)
end
section
variable{prog:Program}{w:World}{A:Around}{E:Value->Shared->Prop}{s:Shared}{K:Frag}
theorem ZF:findCls K 3e5 (.type "type") "__init__" = some (.val (.builtin "ValueError.__init__")):=by kernel_rfl
theorem aaK:findIn K (.type "type") "__getattribute__" = some (some (.builtin "type.__getattribute__")):=by kernel_rfl
theorem XY{M:Model}{h:Heap}:Looks M h (typeOf 3e5) (.type "type"):=Looks.of_pure 1e4
theorem abC:subIn K (.type "type") (.type "type")=some true:=by kernel_rfl
theorem abD{M:Model}{h:Heap}:Looks M h (opaqueClassAbove 3e5) none:=Looks.of_pure 1e4
theorem ZG{pl:Sem Bool}{Q:Value×List Value->Shared->Prop}(X:K.In s.heap)(k:Q (.builtin "ValueError.__init__",[]) {s with toks:=s.toks+1}) :
  wpAny 2e1 A (getMethod 3e5 "__init__" pl) Q E s:=by
 have sp:Looks 2e1 s.heap (specialOf 3e5 "__getattribute__") (some (.builtin "type.__getattribute__")):=XY.andThen (looks_findIn X aaK);unfold getMethod;refine wpAny_bind (sp.here ?_);dsimp only;rw[if_pos canon_tga];refine wpAny_bind (cls_open (hook:=none) X abD XY aaK (Looks.of_pure 1e4) abC ZF ?_);refine wpAny_pure ?_;show wpAny _ _ (handedOut _) _ _ _;rw[handedOut_of 1e4];exact wpAny_pure (wpAny_pure k)
end
section
variable{prog:Program}{w:World}{A:Around}{E:Value->Shared->Prop}{s:Shared}{K:Frag}{env:Env}
noncomputable def Vz(K:Frag)(E:Value->Shared->Prop)(v:Value)(s1:Shared):Prop :=
 ∃(ea C:Addr) (cd:ClassData) (od:Option Addr) (fs:Array Value) (sl:Array (Option Value)),v=.ref ea/\s1.heap.get? ea=some (eQ 4e2 od fs sl)/\fs[1]?=some .none/\jL K C cd/\K.In s1.heap/\E (.ref ea) s1
theorem VA{e:Expr}{pos:Pos}{Q:Flow->Shared->Prop}(hh:A.handled=none)(k:wpAny (model prog w) A (eval e env) (Vz K E) E s) :
  wpAny 2e1 A (exec (.Raise (some e) none pos) env) Q E s:=by
 show wpAny 2e1 A (do standAt pos;raiseStmt env (some (do let v <-eval e env;standAt pos;pure v)) none) Q E s
 refine wpAny_bind (wpAny_standAt ?_);unfold raiseStmt;dsimp only;refine wpAny_bind (wpAny_bind (wpAny_mono k (λv s1 q=>wpAny_bind (wpAny_standAt 8e9)) λ_ _ z=>z));obtain⟨ea,C,cd,od,fs,sl,rfl,he,h1,x,X,hE⟩:=q;obtain⟨hp,g,d,tk,os⟩:=s1;have ty:=KI (M:=model prog w) he;have nt:Looks 2e1 hp (isType (.ref ea)) false:=by
  intro A' Q' E' s' kk q;unfold isType loadHead;exact wpAny_bind (wpAny_loadPart (kk _ _ he) (wpAny_pure q))
 have sb:=x.sub (M:=model prog w) X (.type "BaseException");rw[x.bas]at sb;have ct:=x.typ (M:=model prog w) X;have f1:Looks 2e1 hp (field (.ref ea) 1) .none:=looks_field he 1 h1;refine wpAny_bind 8e9;dsimp only;refine wpAny_bind (wpAny_holding ?_);unfold excFromValue isExcClass isInstance
 repeat (first|simp only[aqA,if_false,if_true]|lk)
 show wpAny _ _ handled _ _ _;refine wpAny_handled ?_;rw[hh];exact wpAny_throw hE
theorem GF{ea C D:Addr}{cd cd':ClassData}{od:Option Addr}{fs:Array Value}{sl:Array (Option Value)}{h:Heap}{g:Array GenState}{d:Drawn}{t:Nat}{os:OsState}{Q:Bool->Shared->Prop}{M:Model}(x:jL K C cd)(y:jL K D cd')(X:K.In h)
  (he:h.get? ea=some (eQ (.ref C) od fs sl)) (q:Q (cd.mro.contains (.ref D)) ⟨h,g,d,t,os⟩):wpAny M A (excMatches (.ref ea) (.ref D)) Q E ⟨h,g,d,t,os⟩:=by
 have ty:=KI (M:=M) he;have td:=y.typ (M:=M) X;have ti:=y.alf (M:=M) X;have tn:Looks M h (isSubtype (.type "type") (.type "tuple")) false:=Looks.of_pure tc_notTuple;have yb:=y.sub (M:=M) X (.type "BaseException");rw[y.bas]at yb;have xs:=x.sub (M:=M) X (.ref D);unfold excMatches isInstance isExcClass
 repeat (first|simp only[aqA,if_false,if_true,Bool.not_true]|lk)
 cases hb:cd.mro.contains (.ref D) with
 | true =>
  rw[hb]at q;simp only[if_true]
  repeat lk
  exact q
 | false =>
  rw[hb]at q;simp only[aqA,if_false]
  repeat lk
  exact q
theorem VB{ea C:Addr}{fs:Array Value}{sl:Array (Option Value)}{h:Heap}(he:h.get? ea=some (eQ (.ref C) none fs sl)):InstAt h ea (eQ 4e2 none fs sl) C none:=⟨he,rfl,rfl,True.intro⟩
theorem ZH:(Manifest.canonical "BaseException.__getattribute__" != "object.__getattribute__")=false:=by decide +kernel
theorem WZ{ea C f:Addr}{ox:Obj}{od:Option Obj}{name:Str}{pl:Sem Bool}{Q:Value×List Value->Shared->Prop}(X:K.In s.heap)(I:InstAt s.heap ea ox C od)
  (hg:findIn K (.ref C) "__getattribute__" = some (some (.builtin "BaseException.__getattribute__"))) (hk:findIn K (.ref C) "__getattr__" = some none)
  (hf:findIn K (.ref C) name=some (some (.ref f))) (ht:typeIn K (.ref f)=some (.type "function")) (hs:shadowIn od name=some false) (k:Q (.ref f,[.ref ea]) s) :
  wpAny 2e1 A (getMethod (.ref ea) name pl) Q E s:=by
 unfold getMethod specialOf;refine wpAny_bind (wpAny_bind (I.type.here ((looks_findIn X hg).here ?_)));dsimp only;rw[ZH,if_neg ap0];refine wpAny_bind (wpAny_bind (I.type.here ((looks_findIn X hk).here ?_)));refine wpAny_bind (wpAny_bind (I.type.here ((looks_findIn X hf).here (wpAny_bind ((looks_typeIn X ht).here ?_)))));rw[if_neg 2e2];refine wpAny_bind (wpAny_loadPart I.at_ ?_);have hd:=I.dict;cases e:ox.dict with
 | none=>exact wpAny_bind (wpAny_rule (wpAny_pure k))
 | some dx =>
  cases od with
  | none=>rw[e]at hd;exact hd.elim
  | some o =>
   rw[e]at hd;obtain⟨r,a,b⟩:=aqa.mp hs;refine wpAny_bind (wpAny_bind (wpAny_loadPart hd ?_));rw[nsLook_of a];refine wpAny_pure ?_;rw[b];exact wpAny_bind (wpAny_rule (wpAny_pure k))
end
structure adR(K:Frag)(C:Addr):Prop where
 ga:findIn K 4e2 "__getattribute__" = some (some (.builtin "BaseException.__getattribute__"))
 gt:findIn K 4e2 "__getattr__" = some none
section
variable{prog:Program}{w:World}{A:Around}{E:Value->Shared->Prop}{h:Heap}{g:Array GenState}{d:Drawn}{t:Nat}{os:OsState}{K:Frag}{C ea:Addr}{cd:ClassData}{ox:Obj}{od:Option Obj}{name:Str}
end
section
variable{prog:Program}{w:World}{A:Around}{E:Value->Shared->Prop}{h:Heap}{g:Array GenState}{d:Drawn}{t:Nat}{os:OsState}{K:Frag}{C CH ea:Addr}{cd:ClassData}{fs:Array Value}{sl:Array (Option Value)}{name:Str}{v:Value}
end
end LX
end
section
namespace LX
open PySem
structure Kept(fr xs:List Addr)(h k:Heap):Prop where
 plain:∀ b o,h.get? b=some o->b∉fr->b∉xs->k.get? b=some o
 frame:∀ b o,h.get? b=some o->b∈fr->b∉xs->∃ sl,k.get? b=some {o with slots:=sl}
theorem Kept.trans{fr xs ys:List Addr}{h k m:Heap}(x:Kept fr xs h k)(y:Kept fr ys k m):Kept fr (xs++ys) h m where
 plain:=λb o e hb hx=>y.plain b o (x.plain b o e hb λz=>hx (aqm _ z)) hb λz=>hx (ap1 _ z)
 frame:=λb o e hb hx=>by
  obtain⟨sl,e1⟩:=x.frame b o e hb λz=>hx (aqm _ z);obtain⟨sm,e2⟩:=y.frame b _ e1 hb λz=>hx (ap1 _ z);exact⟨sm,e2⟩
theorem Kept.weak{fr xs ys:List Addr}{h k:Heap}(x:Kept fr xs h k)(s:∀ b o,h.get? b=some o->b∈xs->b∈ys):Kept fr ys h k :=
 ⟨λb o e hb hy=>x.plain b o e hb λz=>hy (s b o e z),λb o e hb hy=>x.frame b o e hb λz=>hy (s b o e z)⟩
noncomputable abbrev eW(l:List Env):List Addr:=l.filterMap (·.frame)
section
variable{M:Model}{A:Around}{E:Value->Shared->Prop}{s:Shared}{base:Heap}{env:Env}{outer:List Env}{L e:Addr}{c:Value}{od:Option Addr}{fs:Array Value}{sl:Array (Option Value)}
theorem Ri{l:List Env}(F:s.heap.FunFrames base l)(he:s.heap.get? e=some (eQ c od fs sl)):e∉eW l:=λz=>by
 obtain⟨_,o,ho,hn⟩:=F.mem z;rw[he]at ho;cases ho;exact hn fs rfl
theorem En{h:Heap}{a:Addr}{i:Nat}{x:Value}(ha:h.get? a=some (eQ c od fs sl)) :
  (h.update a (Obj.mapFields (·.setIfInBounds i x))).get? a=some (eQ c od (fs.setIfInBounds i x) sl):=Heap.get?_update_self _ ha rfl
theorem JW{head:Value}{had:Bool}{Q:Unit->Shared->Prop}(hA:A.frames=some (env::outer))(F:s.heap.FunFrames base (env::outer))(hL:env.frame=some L)
  (he:s.heap.get? e=some (eQ c od fs sl)) (h1:1<fs.size)
  (k:∀ m T oc ts,s.heap.objs.size<=T->Kept (eW (env::outer)) [e] s.heap m->m.get? e=some (eQ c od (fs.setIfInBounds 1 (.ref T)) sl)->m.get? T=some (eQ oc none ts #[])->ts[3]?=some (rawInt L)->Q () {s with heap:=m}) :
  wpAny M A (do let a <-frameOf env;let pl <-entryPlaceOf L had;let b <-EntryCells.newEntry head a .none (rawInt L) .none pl;setField (.ref e) 1 b) Q E s:=by
 have ne:=Ri F he;refine wpAny_bind (wpAny_frameOf_fun hA F hL λg hg=>?_);obtain⟨g0,g1,g2⟩:=hg;refine wpAny_bind (wpAny_entryPlaceOf λpl hp=>?_);unfold EntryCells.newEntry newFields;refine wpAny_bind (wpAny_newObj_type ?_ (hp.sizeOk5 _ _ _ _ _));have e1:g.get? e=some (eQ c od fs sl):=(g1 e ne).trans he;have e2:=apY (h:=g) {cls:=.type "traceback",dict:=none,data:=.fields ([head,.ref L,.none,rawInt L,.none]++(if pl.isEmpty then List.replicate 6 Value.none else pl)).toArray} e1;refine wpAny_setField e2 rfl h1 ?_;have Te:g.objs.size≠e:=aq3 (ap2 e1);refine k _ g.objs.size (.type "traceback") ([head,.ref L,.none,rawInt L,.none]++(if pl.isEmpty then List.replicate 6 Value.none else pl)).toArray (Nat.le_of_eq g0.symm) ⟨λb o q hb hx=>?_,λb o q hb hx=>?_⟩ (En e2) ?_ ?_
 ·have be:b≠e:=λz=>hx (by rw[z];exact apU.mpr rfl)
  rw[aqx _ _ (aqe be)];exact apY _ ((g1 b hb).trans q)
 ·have be:b≠e:=λz=>hx (by rw[z];exact apU.mpr rfl)
  obtain⟨sm,q2⟩:=g2 b o q;refine⟨sm,?_⟩;rw[aqx _ _ (aqe be)];exact apY _ q2
 ·rw[aqx _ _ (aqe Te)]
  exact aqr g rfl
 ·first|(simp;done)|(rcases hp with rfl|⟨_,_,_,_,_,_,_,rfl⟩<;>simp)
inductive zm(h:Heap)(e:Addr)(fs:Array Value):Option Addr->Prop where
 | none (h1:fs[1]?=some .none):zm h e fs none
 | some {T:Addr} {oc:Value} {ts:Array Value} {d:Option Addr} {sl:Array (Option Value)} (h1:fs[1]?=some (.ref T)) (ne:T≠e) (hT:h.get? T=some (eQ oc d ts sl)) (h3:ts[3]?=some .none):zm h e fs (some T)
theorem zm.size{h:Heap}{fs:Array Value}{T:Option Addr}(t:zm h e fs T):1<fs.size:=by
 cases t with
 | none h1=>exact(aqj.mp h1).1
 | some h1=>exact(aqj.mp h1).1
theorem JX{T0:Option Addr}{Q:Unit->Shared->Prop}(hA:A.frames=some (env::outer))(F:s.heap.FunFrames base (env::outer))(hL:env.frame=some L)(he:s.heap.get? e=some (eQ c od fs sl))(t:zm s.heap e fs T0)
  (k:∀ m T oc ts,s.heap.objs.size<=T->Kept (eW (env::outer)) (e::T0.toList) s.heap m->m.get? e=some (eQ c od (fs.setIfInBounds 1 (.ref T)) sl)->m.get? T=some (eQ oc none ts #[])->ts[3]?=some (rawInt L)->Q () {s with heap:=m}) :
  wpAny M A (noteFrame (.ref e) env) Q E s:=by
 unfold noteFrame;simp only[hL];have h1s:=t.size;cases t with
 | none h1 =>
  refine wpAny_bind 1e12;rw[if_neg 2e6];exact JW hA F hL he h1s k
 | @some T oc ts d sm h1 ne hT h3 =>
  refine wpAny_bind 1e12;rw[if_pos (show(Value.ref T != Value.none)=true by simp)];refine wpAny_bind (wpAny_field hT rfl h3 ?_);rw[if_neg (show ¬((Value.none == rawInt L)=true) by simp[rawInt])];have h3s:3<ts.size:=(aqj.mp h3).1;refine wpAny_bind (wpAny_setField hT rfl h3s ?_);have oth:∀ b,b≠T->(s.heap.update T 6e6).get? b=s.heap.get? b:=λb hb=>aqx _ _ (aqe hb);have nT:=Ri F hT;have F1:(s.heap.update T 6e6).FunFrames base (env::outer):=F.of_keeps λb o hb hn=>⟨o,(oth b λz=>by rw[z,hT]at hb;cases hb;exact hn ts rfl).trans hb,rfl⟩;refine JW (s:={s with heap:=s.heap.update T 6e6}) hA F1 hL ((oth e (aqe ne)).trans he) h1s λm T' oc' ts' z1 z2 z3 z4 z5=>k m T' oc' ts' ?_ ?_ z3 z4 z5
  ·have zz:(s.heap.update T 6e6).objs.size=s.heap.objs.size:=(Heap.SameBut.update (h:=s.heap) (a:=T) (f:=Obj.mapFields (·.setIfInBounds 3 Value.none))).1
   rw[<-zz];exact z1
  ·have kk:Kept (eW (env::outer)) [T] s.heap (s.heap.update T 6e6) :=
    ⟨λb o q _ hx=>(oth b λz=>hx (by rw[z];exact apU.mpr rfl)).trans q,λb o q _ hx=>⟨o.slots,(oth b λz=>hx (by rw[z];exact apU.mpr rfl)).trans q⟩⟩
   refine(kk.trans z2).weak λb o _ q=>?_;simp only[aqc,apU]at q;simp only[Option.toList_some,aqi,aqR,or_false];exact q.symm
theorem oy{T:Addr}{oc:Value}{ts:Array Value}{d:Option Addr}{sm:Array (Option Value)}{Q:Unit->Shared->Prop}(he:s.heap.get? e=some (eQ c od fs sl))(h1:fs[1]?=some (.ref T))(ne:T≠e)
  (hT:s.heap.get? T=some (eQ oc d ts sm)) (h3:3<ts.size)
  (k:∀ m,(∀ b o,b≠T->s.heap.get? b=some o->m.get? b=some o)->zm m e fs (some T)->m.get? e=some (eQ c od fs sl)->Q () {s with heap:=m}):wpAny M A (setFlight (.ref e) none) Q E s:=by
 unfold setFlight;refine wpAny_bind 1e12;rw[if_pos (show(Value.ref T != Value.none)=true by simp)];have oth:∀ b o,b≠T->s.heap.get? b=some o->(s.heap.update T 6e6).get? b=some o:=λb o hb q=>(aqx _ _ (aqe hb)).trans q;exact wpAny_setField hT rfl h3 (k _ oth (.some h1 ne (En hT) (by simp[h3])) (oth e _ (aqe ne) he))
theorem Ue{T0:Option Addr}{Q:Unit->Shared->Prop}(hA:A.frames=some (env::outer))(F:s.heap.FunFrames base (env::outer))(hL:env.frame=some L)(he:s.heap.get? e=some (eQ c od fs sl))(t:zm s.heap e fs T0)
  (k:∀ m T fs',s.heap.objs.size<=T->Kept (eW (env::outer)) (e::T0.toList) s.heap m->m.get? e=some (eQ c od fs' sl)->fs'[0]?=fs[0]?->zm m e fs' (some T)->Q () {s with heap:=m}) :
  wpAny M A (leaving env (.ref e)) Q E s:=by
 unfold leaving;refine wpAny_bind (JX hA F hL he t λm T oc ts z1 z2 z3 z4 z5=>?_);have Te:T≠e:=aq3 (ap9 (ap2 he) z1);have f1:(fs.setIfInBounds 1 (Value.ref T))[1]?=some (.ref T):=by
  have:=t.size
  simp[this]
 refine oy (s:={s with heap:=m}) z3 f1 Te z4 (aqj.mp z5).1 λm' q1 q2 q3=>k m' T _ z1 ⟨λb o q hb hx=>?_,λb o q hb hx=>?_⟩ q3 2e5 q2
 ·exact q1 b o (aqb (ap9 (ap2 q) z1)) (z2.plain b o q hb hx)
 ·obtain⟨sm,r⟩:=z2.frame b o q hb hx
  exact⟨sm,q1 b _ (aqb (ap9 (ap2 q) z1)) r⟩
end
end LX
end
section
namespace L2
open PySem PySem.Spec PyProof.Rows LX
noncomputable def ExP(fresh:Bool)(C e:Addr)(od:Option Addr)(h:Heap):Prop:=∃ fs sl t0,h.get? e=some (eQ 4e2 od fs sl)/\fs[0]?=some (.ref t0)/\(fresh=true->fs[1]?=some .none)
noncomputable def exo(fresh:Bool)(C e:Addr)(od:Option Addr):HO:=.ext (ExP fresh C e od)
section
variable{P:Program}{w:World}{H:Hp}{h:Heap}{b:Bool}{C e:Addr}{od:Option Addr}
theorem Ug(x:ExP b C e od h):jk P w H h e (exo b C e od):=by
 refine⟨x,?_,λh1 h2 p k=>?_⟩
 ·obtain⟨fs,sl,t0,z,_⟩:=x
  exact⟨_,z⟩
 ·obtain⟨fs,sl,t0,z,r⟩:=p
  exact⟨fs,sl,t0,k _ z,r⟩
theorem JY(ok:HOk P w H h)(z:H e=some (exo b C e od)):ExP b C e od h:=(show jk P w H h e (exo b C e od) from ok e _ z).1
end
noncomputable def del(H:Hp)(a:Addr):Hp:=λb=>if b=a then none else H b
theorem Rj{H:Hp}{a:Addr}:del H a a=none:=by unfold del;rw[if_pos rfl]
theorem zE{H:Hp}{a b:Addr}(h:b≠a):del H a b=H b:=by unfold del;rw[if_neg h]
theorem Rk{H:Hp}{a b:Addr}{o:HO}(h:del H a b=some o):H b=some o/\b≠a:=by
 unfold del at h;by_cases q:b=a
 ·rw[if_pos q]at h;cases h
 ·rw[if_neg q]at h;exact⟨h,q⟩
section
variable{P:Program}{w:World}{H H':Hp}{h h':Heap}{a:Addr}
theorem HOk.keeps(ok:HOk P w H h)(k:∀ b u o,H b=some u->h.get? b=some o->h'.get? b=some o):HOk P w H h':=λb u q =>
 (ok b u q).OT (λc v hc r=>by
  rcases hc with rfl|hc
  ·exact k c u v q r
  ·exact k c _ v hc r) (λ_ z=>z) λ_ _ z=>z
theorem HOk.del(ok:HOk P w H h)(ha:∀ y,H a≠some (.own y))(hb:∀ xs,H a≠some (.tup xs)):HOk P w (del H a) h:=λb u q=>by
 obtain⟨q1,q2⟩:=Rk q;refine(ok b u q1).OT (λ_ _ _ r=>r) (λc z=>?_) λc xs z=>?_
 ·rw[zE λe=>ha b (by rw[<-e];exact z)];exact z
 ·rw[zE λe=>hb xs (by rw[<-e];exact z)];exact z
theorem HOk.add(ok:HOk P w H h){o:HO}(ha:H a=none)(new:jk P w (upd H a o) h a o):HOk P w (upd H a o) h:=λb u q=>by
 by_cases e:b=a
 ·subst e
  rw[ag]at q;cases q;exact new
 ·rw[ah e]at q
  refine(ok b u q).OT (λ_ _ _ r=>r) (λc z=>?_) λc xs z=>?_
  ·rw[ah λe=>by rw[e,ha]at z;cases z];exact z
  ·rw[ah λe=>by rw[e,ha]at z;cases z];exact z
end
theorem xu{h k base:Heap}:∀ {l:List Env},h.FunFrames base l->(∀ b∈frs l,∀ o,h.get? b=some o->∃ sl,k.get? b=some {o with slots:=sl})->k.FunFrames base l
 | [],_,_=>True.intro
 | env::r,⟨h1,⟨L,o,e1,e2,e3,e4⟩,h2⟩,q=>by
  have hm:L∈frs (env::r):=aqK.mpr ⟨env,ap7,e1⟩;obtain⟨sl,z⟩:=q L hm o e3;refine⟨h1,⟨L,_,e1,e2,z,e4⟩,xu h2 λb hb o' z'=>q b ?_ o' z'⟩;obtain⟨x,hx,hy⟩:=aqK.mp hb;exact aqK.mpr ⟨x,ap8 _ hx,hy⟩
structure Lies(P:Program)(w:World)(outer:List Env)(H H':Hp)(s:Shared)(ea C T:Addr)(od:Option Addr)(fs:Array Value)(sl:Array (Option Value))(s':Shared):Prop where
 os:s'.os=s.os
 bare:AllBare s'.gens
 un:Un (frs outer) [] H H' s.heap s'.heap
 hok:HOk P w H' s'.heap
 ZI:s.heap.get? ea=none
 ao6:s.heap.get? T=none
 Sn:H' ea=none
 ael:H' T=none
 at_:s'.heap.get? ea=some (eQ 4e2 od fs sl)
 args:∃ t0,fs[0]?=some (.ref t0)
 trail:zm s'.heap ea fs (some T)
noncomputable def CXE(P:Program)(w:World):CXT:=λouter H s E e s'=>∃ ea C T od fs sl H',e=.ref ea/\Lies P w outer H H' s ea C T od fs sl s'/\E 4e2 od H'
section
variable{X:Cx}{pins:List (Addr×Obj)}{σ:St}{H H':Hp}{s s':Shared}{ea C T:Addr}{od:Option Addr}{fs:Array Value}{sl:Array (Option Value)}
theorem Lies.frames(I:Inv X pins σ H s)(l:Lies X.prog X.w X.stack H H' s ea C T od fs sl s'):s'.heap.FunFrames X.base X.stack :=
 xu I.stack λb hb o z=>l.un.any z (I.Eh b hb) 2e5
theorem Lies.on{m:Heap}{t':Nat}(I:Inv X pins σ H s)(l:Lies X.prog X.w X.stack H H' s ea C T od fs sl s')(k:Kept (eW X.stack) [ea,T] s'.heap m) :
  Un (frs X.stack) [] H H' s.heap m/\HOk X.prog X.w H' m:=by
 have fr:∀ b,b∈frs X.stack->H' b=none:=λb hb=>by
  obtain⟨_,o,z,_⟩:=I.stack.mem hb;exact l.un.free b o z (I.Eh b hb) 2e5
 have ne:∀ b o,s.heap.get? b=some o->b∉[ea,T]:=λb o z q=>by
  rcases aqi.mp q with e|q
  ·rw[e,l.ZI]at z;cases z
  ·rw[apU.mp q,l.ao6]at z;cases z
 refine⟨⟨λb o z n hb hx=>?_,λb o z n hb hx=>?_,l.un.free,λb o z hx=>?_,l.un.GA,l.un.Ip,l.un.JS⟩,?_⟩
 ·exact k.plain b o (l.un.keep b o z n hb hx) hb (ne b o z)
 ·obtain⟨s1,z1⟩:=l.un.slot b o z n hb hx
  obtain⟨s2,z2⟩:=k.frame b _ z1 hb (ne b o z);exact⟨s2,z2⟩
 ·obtain⟨o1,z1⟩:=l.un.there b o z hx
  by_cases hb:b∈eW X.stack
  ·obtain⟨s2,z2⟩:=k.frame b _ z1 hb (ne b o z)
   exact⟨_,z2⟩
  ·exact⟨_,k.plain b _ z1 hb (ne b o z)⟩
 ·refine l.hok.keeps λb u o z q=>k.plain b o q (λhb=>?_) λhx=>?_
  ·rw[fr b hb]at z;cases z
  ·rcases aqi.mp hx with e|hx
   ·rw[e,l.Sn]at z;cases z
   ·rw[apU.mp hx,l.ael]at z;cases z
end
section
variable{P:Program}{w:World}{K:W.Frag}{mg:Str->Option Value}{base:Heap}{N:List Str}{qual:Str}{scope:Scope}{f:Addr}{cdv:Value}{A:Around}{outer:List Env}{s₀:Shared}{H₀:Hp}{E₀:XK}
noncomputable abbrev cxE(P:Program)(w:World)(K:W.Frag)(mg:Str->Option Value)(base:Heap)(N:List Str)(qual:Str)(scope:Scope)(f:Addr)(cdv:Value)(A:Around)(outer:List Env)(s₀:Shared)(H₀:Hp)(E₀:XK):Cx :=
 Wr (CXE P w) P w K mg base N qual scope f cdv A outer s₀ H₀ E₀
theorem So{pins:List (Addr×Obj)}{σ:St}{H H':Hp}{s s':Shared}{ea C T:Addr}{od:Option Addr}{fs:Array Value}{sl:Array (Option Value)}(I:Inv (cxE P w K mg base N qual scope f cdv A outer s₀ H₀ E₀) pins σ H s)
  (l:Lies P w (cxE P w K mg base N qual scope f cdv A outer s₀ H₀ E₀).stack H H' s ea C T od fs sl s') (hE:E₀ (.ref C) od H'):(cxE P w K mg base N qual scope f cdv A outer s₀ H₀ E₀).xe (.ref ea) s':=by
 refine Ue I.ok.frames (Lies.frames I l) rfl l.at_ l.trail λm T' fs' z1 z2 z3 z4 z5=>?_;obtain⟨un,hok⟩:=l.on (t':=s'.toks) I z2;have J:Inv 7e1 pins σ H' {s' with heap:=m}:=I.Mi l.os un hok l.bare (λb z=>absurd z 2e5);have old:∀ b o,s₀.heap.get? b=some o->∃ o',s.heap.get? b=some o':=λb o z=>I.base.there b o z (aqR);have e0:s₀.heap.get? ea=none:=by
  cases q:s₀.heap.get? ea with
  | none=>rfl
  | some o =>
   obtain⟨o',z⟩:=old ea o q;rw[l.ZI]at z;cases z
 have t0:s₀.heap.get? T'=none:=by
  cases q:s₀.heap.get? T' with
  | none=>rfl
  | some o =>
   obtain⟨o1,y1⟩:=old T' o q;obtain⟨o2,y2⟩:=l.un.there T' o1 y1 2e5;exact absurd (ap2 y2) (Nat.not_lt.mpr z1)
 obtain⟨a0,ha⟩:=l.args;exact⟨ea,C,T',od,fs',sl,H',rfl,⟨J.os,J.bare,J.base,J.hok,e0,t0,l.Sn,l.hok.fresh z1,z3,⟨a0,by rw[z4];exact ha⟩,z5⟩,hE⟩
theorem Wa{E:XK}(hE:∀ c od H',E c od H'->E₀ c od H'):Passes (CXE P w) 7e1 E:=λpins σ H s e s' I h=>by
 obtain⟨ea,C,T,od,fs,sl,H',rfl,l,q⟩:=h;exact So I l (hE _ _ _ q)
theorem leave_new{pins:List (Addr×Obj)}{σ:St}{H:Hp}{s:Shared}{ea C:Addr}{od:Option Addr}(I:Inv (cxE P w K mg base N qual scope f cdv A outer s₀ H₀ E₀) pins σ H s)(h1:H ea=some (exo true C ea od))(h0:H₀ ea=none)
  (hE:E₀ (.ref C) od (del H ea)):(cxE P w K mg base N qual scope f cdv A outer s₀ H₀ E₀).xe (.ref ea) s:=by
 obtain⟨fs,sl,a0,z,ha,hf⟩:=JY I.hok h1;have frz:∀ b,b∈frs (cxE P w K mg base N qual scope f cdv A outer s₀ H₀ E₀).stack->H b=none:=I.Eh;have e0:s₀.heap.get? ea=none:=by
  cases q:s₀.heap.get? ea with
  | none=>rfl
  | some o =>
   have:=I.base.free ea o q h0 aqR
   rw[h1]at this;cases this
 refine Ue I.ok.frames I.stack rfl z (.none (hf rfl)) λm T' fs' z1 z2 z3 z4 z5=>?_;have hd:HOk P w (del H ea) s.heap:=I.hok.del (λy q=>by rw[h1]at q;cases q) λxs q=>by rw[h1]at q;cases q
 have hm:HOk P w (del H ea) m:=hd.keeps λb u o q r=>by
  obtain⟨q1,q2⟩:=Rk q;exact z2.plain b o r (λhb=>by rw[frz b hb]at q1;cases q1) (by simpa using q2)
 have neE:∀ b o,s₀.heap.get? b=some o->b≠ea:=λb o q r=>by rw[r,e0]at q;cases q
 have t0:s₀.heap.get? T'=none:=by
  cases q:s₀.heap.get? T' with
  | none=>rfl
  | some o =>
   obtain⟨o2,y2⟩:=I.base.there T' o q aqR;exact absurd (ap2 y2) (Nat.not_lt.mpr z1)
 have neL:∀ b o,s₀.heap.get? b=some o->b∈eW (cxE P w K mg base N qual scope f cdv A outer s₀ H₀ E₀).stack->b∈frs outer:=λb o q hb=>by
  rcases aqi.mp (I.DY b hb) with r|r
  ·exact absurd (ap2 q) (by rw[r];exact Nat.not_lt.mpr I.ok.above)
  ·exact r
 have sub:∀ b,b∈frs outer->b∈eW (cxE P w K mg base N qual scope f cdv A outer s₀ H₀ E₀).stack:=λb hb=>by
  obtain⟨x,hx,hy⟩:=aqK.mp hb;exact aqK.mpr ⟨x,ap8 _ hx,hy⟩
 refine⟨ea,C,T',od,fs',sl,del H ea,rfl,⟨I.os,I.bare,⟨λb o q n hb hx=>?_,λb o q n hb hx=>?_,λb o q n hx=>?_,λb o q hx=>?_,λb xs q=>?_,λb o u q=>?_,λb ps q=>?_⟩,hm,e0,t0,Rj,?_,z3,⟨a0,by rw[z4];exact ha⟩,z5⟩,hE⟩
 ·exact z2.plain b o (I.base.keep b o q n hb hx) (λz=>hb (neL b o q z)) (by simpa using neE b o q)
 ·obtain⟨s1,y1⟩:=I.base.slot b o q n hb hx
  obtain⟨s2,y2⟩:=z2.frame b _ y1 (sub b hb) (by simpa using neE b o q);exact⟨s2,y2⟩
 ·rw[zE (neE b o q)]
  exact I.base.free b o q n hx
 ·obtain⟨o1,y1⟩:=I.base.there b o q hx
  by_cases hb:b∈eW (cxE P w K mg base N qual scope f cdv A outer s₀ H₀ E₀).stack
  ·obtain⟨s2,y2⟩:=z2.frame b _ y1 hb (by simpa using neE b o q)
   exact⟨_,y2⟩
  ·exact⟨_,z2.plain b _ y1 hb (by simpa using neE b o q)⟩
 ·have r:=I.base.GA b xs q
  rw[zE λe=>by rw[e,h1]at r;cases r];exact r
 ·have r:=I.base.Ip b o u q
  rw[zE λe=>by rw[e,h1]at r;cases r];exact r
 ·obtain⟨more,r⟩:=I.base.JS b ps q
  exact⟨more,by rw[zE λe=>by rw[e,h1]at r;cases r];exact r⟩
 ·by_cases q:T'=ea
  ·rw[q];exact Rj
  ·rw[zE q];exact I.hok.fresh z1
end
theorem Fun.okE{P:Program}{w:World}{K:W.Frag}{mg:Str->Option Value}{base:Heap}{x qual:Str}{st:Stmt}{f:Addr}{fd:FuncData}{N ps:List Str}{k:Nat}{sp:Sp}(F:Fun K x qual st f fd)(S:aw N ps (aq st))(len:∀ vs H Q E,sp vs H Q E->vs.length=ps.length)
  (GZ:∀(cdv:Value) (A:Around) (outer:List Env) (s:Shared) (H:Hp) (vs:List V) (Q:VK) (E:XK),lO k (A.deeper (envOfC qual (aq st) s.heap.objs.size f cdv))->sp vs H Q E ->
   ∃ t,PSs (cxE P w K mg base N qual (aq st) f cdv A outer s H E) (aE st) t/\t {nx:=λ_ H'=>Q .non H',rt:=Q} (start N vs) H):Ej P w K mg base (CXE P w) (k+1) f fd ps sp:=by
 obtain⟨oc,od,kV,doc,pm,an,cdv,ct,osl,rfl,lk,hcd⟩:=F.ex;exact ad7 lk hcd S len λA outer s H vs Q E hr hsp=>GZ cdv A outer s H vs Q E hr hsp
noncomputable def Rl(X:Cx)(E:XK):Prop:=∀(pins:List 4e3) (σ:St) (H:Hp) (s:Shared) (ea C:Addr) (od:Option Addr),Inv X pins σ H s->H ea=some (exo true C ea od)->X.H₀ ea=none->E 4e2 od (del H ea)->X.xe (.ref ea) s
theorem kN{P:Program}{w:World}{K:W.Frag}{mg:Str->Option Value}{base:Heap}{N:List Str}{qual:Str}{scope:Scope}{f:Addr}{cdv:Value}{A:Around}{outer:List Env}{s₀:Shared}{H₀:Hp}{E₀:XK} :
  Rl 7e1 E₀:=λ_ _ _ _ _ _ _ I h1 h0 q=>leave_new I h1 h0 q
noncomputable def abE(H₀:Hp)(K:W.Frag)(E:XK)(te:TE):TS:=λ_ σ H=>te σ H λv H1=>∃ ea C od,v=.ref ea/\H1 ea=some (exo true C ea od)/\(∃ cd,jL K C cd)/\H₀ ea=none/\E 4e2 od (del H1 ea)
section
variable{X:Cx}
theorem fL{e:Expr}{te:TE}{pos:Pos}{E:XK}(hc:X.calm=true)(hx:Rl X E)(he:PE X e te):PS X (.Raise (some e) none pos) (abE X.H₀ X.K E te):=by
 intro pins s σ H D I h;refine VA (K:=X.K) (I.ok.hd hc) (thn 5e1 λu s1 ⟨v,H1,I1,r,ea,C,od,ev,h1,⟨cd,xc⟩,h0,q⟩=>?_);subst ev;obtain rfl:u=Value.ref ea:=r;obtain⟨fs,sl,a0,z,ha,hf⟩:=JY I1.hok h1;exact⟨ea,C,cd,od,fs,sl,rfl,z,hf rfl,xc,I1.kIn,hx pins σ H1 s1 ea C od I1 h1 h0 q⟩
noncomputable def gC(CX:CXT)(X:Cx)(EK:St->XK):Prop:=∀(pins:List 4e3) (σ:St) (H:Hp) (s:Shared) (e:Value) (s':Shared),Inv X pins σ H s->CX X.stack H s (EK σ) e s'->X.xe e s'
theorem Passes.x{CX:CXT}{E:XK}(h:Passes CX X E):gC CX X (λ_=>E):=λpins σ H s e s' I q=>h pins σ H s e s' I q
noncomputable def YX(sp:Sp)(dvs:List V)(EK:St->XK)(t:TA):TE:=λσ H Q=>t σ H λvs H1=>sp (vs++dvs) H1 Q (EK σ)
noncomputable def Wb(C:Addr)(m:Str)(sp:Sp)(dvs:List V)(EK:St->XK)(ta:TE)(t:TA):TE:=λσ H Q=>ta σ H λx H1=>∃ a dx fs,x=.ref a/\H1 a=some (.ins C dx fs)/\fs.lookup m=none /\
 t σ H1 λvs H2=>sp (x::(vs++dvs)) H2 Q (EK σ)
noncomputable def alg(C:Addr)(sp:Sp)(EK:St->XK)(t:TA):TE:=λσ H Q=>t σ H λvs H1=>∀ ea,H1 ea=none->sp (.ref ea::vs) (upd H1 ea (exo true C ea none)) (λv H2=>v=.non/\Q (.ref ea) H2) (EK σ)
variable{CX:CXT}{k:Nat}{f C:Addr}{fd:FuncData}{ps:List Str}{sp:Sp}{dvs:List V}{ds:List Value}{EK:St->XK}{x m:Str}{p pos apos:Pos}{e o:Expr}{es:List Expr}{ta:TE}{t:TA}
theorem aaL{pins:List (Addr×Obj)}{σ:St}{H:Hp}{s:Shared}{Q:VK}{us:List Value}{vs:List V}(F:Ej X.prog X.w X.K X.mg X.base CX k f fd ps sp)(hr:lO k X.A)(hb:Binds X.K fd ps ds)(hd:Vals dvs ds)(hx:gC CX X EK)
  (I:Inv X pins σ H s) (r:Vals vs us) (h:sp (vs++dvs) H Q (EK σ)):wpAny 1e7 X.A (call 7e4 us) 4e8 X.xe s:=by
 have r2:Vals (vs++dvs) (us++ds):=r.append hd;have hl:(us++ds).length=ps.length:=by rw[<-r2.length];exact F.len _ _ _ _ h
 refine wpAny_call (codeAny_mono (F.run X.A X.stack s H ⟨us,[]⟩ (us++ds) (vs++dvs) Q (EK σ) hr I.aaC (hb s us I.kIn hl) r2 h) λr s' hq=>?_);cases r with
 | error e=>exact hx pins σ H s e s' I hq
 | ok fl =>
  cases fl with
  | ret u=>exact I.after hq
  | _=>exact False.elim hq
theorem tX(F:Ej X.prog X.w X.K X.mg X.base CX k f fd ps sp)(hr:lO k X.A)(hg:Gl X x)(hm:X.mg x=some (.ref f))(hk:PySem.W.keepIn X.K (.ref f)=true)(hb:Binds X.K fd ps ds)(hd:Vals dvs ds)(hx:gC CX X EK)
  (ha:PA X (e::es) t) (hdb:(x == ("__debug__" : Str))=false:=by decide) (he:starEach (e::es) X.env=(false,eval e X.env)::starEach es X.env:=by rfl) (hpl:(backTo pos (starEach es X.env)).any (·.1)=false:=by rfl) :
  PE X (.Call (.Name x p) (e::es) [] pos) (YX sp dvs EK t):=by
 intro pins s σ H Q I h;refine wpAny_Call_Name_kw (tV I hg hm ?_ hdb);exact PySem.W.callWith_K (h₀:=X.base) I.ok.mod.kin hk (thn 1e11 λus s1 ⟨vs,H1,I1,r,q⟩=>⟨I1.kIn,aaL F hr hb hd hx I1 r q⟩) he hpl
theorem UD{pl:Sem Bool}(he:PE X o ta)(c:Cls X.K C)(hm:Meth X.K C m f)(F:Ej X.prog X.w X.K X.mg X.base CX k f fd ps sp)(hr:lO k X.A)(hb:Binds X.K fd ps ds)(hd:Vals dvs ds)(hx:gC CX X EK)(ha:PA X (e::es) t)
  (hst:starEach (e::es) X.env=(false,eval e X.env)::starEach es X.env:=by rfl) (hpl:(backTo pos (starEach es X.env)).any (·.1)=false:=by rfl)
  (ht:eval (.Call (.Attribute o m apos) (e::es) [] pos) X.env=(do
   let ov <-eval o X.env
   standAt apos.atName
   let (f,first) <-holding [ov] (getMethod ov m pl)
   callWith pos f first (backTo pos (starEach (e::es) X.env)) (backToKw pos 8e0)):=by rfl) :
  PE X (.Call (.Attribute o m apos) (e::es) [] pos) (Wb C m sp dvs EK ta t):=by
 intro pins s σ H Q I h;refine PySem.W.methodCall_KW (pl:=pl) (thn 5e1 λu s1 ⟨x,H1,I1,rx,a,dx,fs,ex,ea,l,q⟩=>?_) ht;subst ex;obtain rfl:u=Value.ref a:=rx;refine JV I1 ea c hm l ?_;exact PySem.W.callWith_K (first:=[.ref a]) (h₀:=X.base) I.ok.mod.kin hm.kp (thn (ha pos pins s1 σ H1 _ I1 q) λus s2 ⟨vs,H2,I2,r,q2⟩=>⟨I2.kIn,aaL (us:=.ref a::us) (vs:=.ref a::vs) F hr hb hd hx I2 (.cons rfl r) q2⟩) hst hpl
theorem W0{pl:Sem Bool}(he:PE X o ta)(c:Cls X.K C)(hm:Meth X.K C m f)(F:Ej X.prog X.w X.K X.mg X.base CX k f fd ps sp)(hr:lO k X.A)(hb:Binds X.K fd ps ds)(hd:Vals dvs ds)(hx:gC CX X EK)
  (ht:eval (.Call (.Attribute o m apos) [] [] pos) X.env=(do
   let ov <-eval o X.env
   standAt apos.atName
   let (f,first) <-holding [ov] (getMethod ov m pl)
   callWith pos f first (backTo pos (starEach [] X.env)) (backToKw pos 8e0)):=by rfl) :
  PE X (.Call (.Attribute o m apos) [] [] pos) (Wb C m sp dvs EK ta OV):=by
 intro pins s σ H Q I h;refine PySem.W.methodCall_KW (pl:=pl) (thn 5e1 λu s1 ⟨x,H1,I1,rx,a,dx,fs,ex,ea,l,q⟩=>?_) ht;subst ex;obtain rfl:u=Value.ref a:=rx;refine JV I1 ea c hm l ?_;exact PySem.W.callWith_K0 (first:=[.ref a]) I1.kIn hm.kp (aaL (us:=[.ref a]) (vs:=[.ref a]) F hr hb hd hx I1 (.cons rfl .nil) q)
structure MkX(K:W.Frag)(C f:Addr):Prop where
 cls:∃ cd,jL K C cd
 init:PySem.W.findIn K 4e2 "__init__" = some (some 7e4)
 fn:PySem.W.isFn K 7e4=true
 kp:PySem.W.keepIn K 4e2=true
theorem ZJ{pins:List (Addr×Obj)}{σ:St}{H:Hp}{s:Shared}{Q:VK}{us:List Value}{vs:List V}(M:MkX X.K C f)(F:Ej X.prog X.w X.K X.mg X.base CX k f fd ps sp)(hr:lO (k+1) X.A)(hb:Binds X.K fd ps [])(hx:gC CX X EK)(hps:ps.length<=1000)
  (I:Inv X pins σ H s) (r:Vals vs us) (h:∀ ea,H ea=none->sp (.ref ea::vs) (upd H ea (exo true C ea none)) (λv H2=>v=.non/\Q (.ref ea) H2) (EK σ)) :
  wpAny 1e7 X.A (call 4e2 us) 4e8 X.xe s:=by
 have hq:=h 2e9 (I.hok.fresh (arD _));obtain⟨cd,xc⟩:=M.cls;have r2:Vals (V.ref 2e9::vs) (Value.ref 2e9::us):=.cons rfl r;have hl:(Value.ref 2e9::us).length=ps.length:=by rw[<-r2.length];exact F.len _ _ _ _ hq
 have hz:us.length<=sizeLine:=by rw[aqo]at hl;rw[sizeLine_eq];omega
 have I2:Inv X pins σ (upd H 2e9 (exo true C 2e9 none)) {s with heap:=tW s.heap C us}:=by
  refine I.laid (t':=s.toks) (λb u q=>apY _ (apY _ q)) (arD _) (Ug ⟨#[.ref s.heap.objs.size,.none,.none,.none,.bool false,.none],#[],s.heap.objs.size,?_,rfl,λ_=>rfl⟩);show(tW s.heap C us).get? 2e9=some (Ud C s.heap.objs.size);heap_get
 obtain⟨hh,g,d,tk,os⟩:=s;refine wpAny_call (WY xc I.kIn M.init (beq_iff_eq.mp M.fn) hz (codeAny_mono (F.run _ X.stack _ _ ⟨Value.ref (hh.objs.size+1)::us,[]⟩ (Value.ref (hh.objs.size+1)::us) _ _ (EK σ) (hr.make C us []) (I2.aaC.make C us [])
  (by have:=hb _ (Value.ref (hh.objs.size+1)::us) I2.kIn (by rw[aq8];exact hl);rw[aq8]at this;exact this) r2 hq) λr s' hq'=>?_))
 cases r with
 | error e=>exact hx pins σ _ _ e s' I2 hq'
 | ok fl =>
  cases fl with
  | ret u =>
   obtain⟨v,H',I3,rv,ev,q3⟩:=I2.after hq';subst ev;exact⟨rv,⟨V.ref (hh.objs.size+1),H',I3,rfl,q3⟩⟩
  | _=>exact False.elim hq'
theorem abF(M:MkX X.K C f)(F:Ej X.prog X.w X.K X.mg X.base CX k f fd ps sp)(hr:lO (k+1) X.A)(hg:Gl X x)(hm:X.mg x=some (.ref C))(hb:Binds X.K fd ps [])(hx:gC CX X EK)
  (ha:PA X (e::es) t) (hps:ps.length<=1000:=by decide) (hdb:(x == ("__debug__" : Str))=false:=by decide) (he:starEach (e::es) X.env=(false,eval e X.env)::starEach es X.env:=by rfl) (hpl:(backTo pos (starEach es X.env)).any (·.1)=false:=by rfl) :
  PE X (.Call (.Name x p) (e::es) [] pos) (alg C sp EK t):=by
 intro pins s σ H Q I h;refine wpAny_Call_Name_kw (tV I hg hm ?_ hdb);exact PySem.W.callWith_K (h₀:=X.base) I.ok.mod.kin M.kp (thn 1e11 λus s1 ⟨vs,H1,I1,r,q⟩=>⟨I1.kIn,ZJ M F hr hb hx hps I1 r q⟩) he hpl
end
theorem W2{H:Hp}{a:Addr}{o:HO}(h:H a=some o):upd H a o=H:=by
 funext b
 by_cases e:b=a
 ·rw[e,ag,h]
 ·rw[ah e]
section
variable{X:Cx}
noncomputable def tVe(K:W.Frag)(t:TA):TE:=λσ H Q=>t σ H λvs H1=>∃ ea C od r,vs=.ref ea::r/\r.length<=1000/\H1 ea=some (exo true C ea od)/\(∃ cd,jL K C cd)/\Q .non H1
theorem aem{p apos pos:Pos}{e:Expr}{es:List Expr}{t:TA}{pl:Sem Bool}(hg:Gl X "ValueError")(hm:X.mg "ValueError" = none)(ha:PA X (e::es) t)
  (hst:starEach (e::es) X.env=(false,eval e X.env)::starEach es X.env:=by rfl) (hpl:(backTo pos (starEach es X.env)).any (·.1)=false:=by rfl)
  (ht:eval (.Call (.Attribute (.Name "ValueError" p) "__init__" apos) (e::es) [] pos) X.env=(do
   let ov <-eval (.Name "ValueError" p) X.env
   standAt apos.atName
   let (f,first) <-holding [ov] (getMethod ov "__init__" pl)
   callWith pos f first (backTo pos (starEach (e::es) X.env)) (backToKw pos 8e0)):=by rfl) :
  PE X (.Call (.Attribute (.Name "ValueError" p) "__init__" apos) (e::es) [] pos) (tVe X.K t):=by
 intro pins s σ H Q I h;refine PySem.W.methodCall_KW (pl:=pl) (K3 I hg hm PyProof.Rows.Boot.«ValueError» ?_) ht;refine ZG I.kIn ?_;refine PyProof.Rows.callWith_builtin1 (thn (ha pos pins _ σ H _ (I.tok _) h) λus s1 ⟨vs,H1,I1,r,ea,C,od,rr,ev,hl,h1,⟨cd,xc⟩,q⟩=>?_) hst hpl;subst ev;cases r with
 | @cons _ u _ us' r1 r2 =>
 obtain rfl:u=Value.ref ea:=r1;obtain⟨fs,sl,a0,z,ha,hf⟩:=JY I1.hok h1;have hz:us'.length<=sizeLine:=by rw[<-r2.length,sizeLine_eq];omega
 have I2:Inv X pins σ H1 {s1 with heap:=s1.heap.push (zD us')}:=I1.kept (t':=s1.toks) λb u q=>apY _ q;have z2:=apY (h:=s1.heap) (zD us') z;have hs0:0<fs.size:=(aqj.mp ha).1;have I3:Inv X pins σ (upd H1 ea (exo true C ea od)) {s1 with heap:=(s1.heap.push (zD us')).update ea (Obj.mapFields (·.setIfInBounds 0 (.ref s1.heap.objs.size)))}:=by
  refine I2.write (x:=ea) (e:=ea) (t':=s1.toks) (by rw[h1];exact True.intro) 3e6 (λb u hb q=>(aqx _ _ (aqe hb)).trans q) ⟨_,En z2⟩ (Ug ⟨_,_,s1.heap.objs.size,En z2,by simp[hs0],λ_=>?_⟩)
  have:=hf rfl
  simpa using this
 rw[W2 h1]at I3;obtain⟨hh,g,d,tk,os⟩:=s1;exact Pz xc I1.kIn z ha hz ⟨.non,H1,I3,rfl,q⟩
noncomputable abbrev TF:=St->Hp->(Hp->Prop)->Prop
noncomputable def PF(X:Cx)(e:Expr)(t:TF):Prop :=
 ∀(pins:List 4e3) (s:Shared) (σ:St) (H:Hp) (Q:Hp->Prop),Inv X pins σ H s->t σ H Q->wpAny 1e7 X.A (eval e X.env) (λv s1=>∃ y tk H1,v=.str y tk/\y.length<=2000/\Inv X pins σ H1 s1/\Q H1) X.xe s
noncomputable def PFs(X:Cx)(es:List Expr)(t:TF):Prop :=
 ∀(out:Str) (pins:List 4e3) (s:Shared) (σ:St) (H:Hp) (Q:V->Hp->Prop),out.length+2000*es.length<=100000->Inv X pins σ H s->t σ H (λH1=>∀ y,y.length<=100000->Q (.str y) H1) ->
  wpAny 1e7 X.A (joinParts out (evalEach es X.env)) 4e8 X.xe s
noncomputable def aaM:TF:=λ_ H Q=>Q H
noncomputable def ao7(te:TE):TF:=λσ H Q=>te σ H λv H1=>∃ i,v=.int i/\i.natAbs.log2<1920/\Q H1
noncomputable def abG(t u:TF):TF:=λσ H Q=>t σ H λH1=>u σ H1 Q
theorem Rm:(100000:Nat)<=sizeLine:=by rw[sizeLine_eq];omega
theorem gE{x j pos}(hl:x.length<=2000:=by decide +kernel):PF X (.Constant (.str x) j pos) aaM:=λ_ _ _ H _ I h=>Calls.Constant_str ⟨_,_,H,rfl,hl,I.tok _,h⟩
theorem kO{e:Expr}{te:TE}{pos:Pos}(he:PE X e te):PF X (.FormattedValue e (-1) none pos) (ao7 te):=by
 intro pins s σ H Q I h;refine FormattedValue_plain (thn 5e1 λu s1 ⟨v,H1,I1,r,i,ev,hi,q⟩=>?_);subst ev;obtain⟨t,rfl⟩:=(show ∃ t,u=Value.int i t from r);exact formatField_int_small hi ⟨_,_,H1,rfl,aqk (int_text_len_1921 hi) 2e6,I1.tok _,q⟩
theorem jz:PFs X [] aaM:=λout pins s σ H Q hl I h =>
 joinParts_nil ⟨.str out,H,I.tok _,⟨_,rfl⟩,h out (by simpa using hl)⟩ (aqk (by simpa using hl) Rm)
theorem aY{e:Expr}{es:List Expr}{t u:TF}(h1:PF X e t)(h2:PFs X es u):PFs X (e::es) (abG t u):=by
 intro out pins s σ H Q hl I h;rw[aqo]at hl;refine joinParts_consE (joinParts_cons (thn (h1 pins s σ H _ I h) λv s1 ⟨y,tk,H1,ev,hy,I1,q⟩=>?_));subst ev;have hz:(out++y).length+2000*es.length<=100000:=by rw[strLen_append];omega
 exact⟨aqk 1e1 Rm,h2 (out++y) pins s1 σ H1 Q hz I1 q⟩
noncomputable def aen(t:TF):TE:=λσ H Q=>t σ H λH1=>∀ y,y.length<=100000->Q (.str y) H1
theorem jA{e e':Expr}{es:List Expr}{t:TF}{pos:Pos}(h:PFs X (e::e'::es) t)(hl:2000*(e::e'::es).length<=100000:=by decide):PE X (.JoinedStr (e::e'::es) pos) (aen t) :=
 λpins s σ H Q I q=>JoinedStr_many (h Str.empty pins s σ H Q (by have z:Str.empty.length=0:=rfl;rw[z];omega) I q)
end
noncomputable abbrev Cx.G5(X:Cx)(pins:List (Addr×Obj))(E:Value->Shared->Prop):Cx:={X with xe:=E,pn:=X.pn++pins}
noncomputable abbrev Cx.qb(X:Cx)(ea:Addr):Cx:={X with A:=X.A.mark (some (.ref ea)),calm:=false,xe:=λ_ _=>False}
section
variable{X:Cx}{pins:List (Addr×Obj)}{σ:St}{H:Hp}{s:Shared}{E:Value->Shared->Prop}{ea:Addr}
theorem Inv.G5(I:Inv X pins σ H s)(E:Value->Shared->Prop):Inv (X.G5 pins E) [] σ H s :=
 ⟨⟨I.ok.mod,I.ok.kind,I.ok.glob,I.ok.blt,I.ok.above,I.ok.inj,I.ok.has,I.ok.cab,I.ok.hd,I.ok.frames,I.ok.stk,I.ok.exf,I.ok.bs,I.ok.bsz,I.ok.Se,I.ok.Uv,I.ok.Eg,I.ok.frf⟩,
  I.os,I.bare,I.base,I.loc,I.cell,I.free,I.pL,λp hp=>I.pin p (by simpa using hp),I.hok,I.len⟩
theorem Inv.pU{O5:List (Addr×Obj)}(I:Inv (X.G5 pins E) O5 σ H s):Inv X pins σ H s :=
 ⟨⟨I.ok.mod,I.ok.kind,I.ok.glob,I.ok.blt,I.ok.above,I.ok.inj,I.ok.has,I.ok.cab,I.ok.hd,I.ok.frames,I.ok.stk,I.ok.exf,I.ok.bs,I.ok.bsz,I.ok.Se,I.ok.Uv,I.ok.Eg,I.ok.frf⟩,
  I.os,I.bare,I.base,I.loc,I.cell,I.free,I.pL,λp hp=>I.pin p (aqm _ hp),I.hok,I.len⟩
theorem Inv.qb(I:Inv X pins σ H s)(ea:Addr):Inv (X.qb ea) pins σ H s :=
 ⟨⟨I.ok.mod,I.ok.kind,I.ok.glob,I.ok.blt,I.ok.above,I.ok.inj,I.ok.has,I.ok.cab,(λz=>nomatch z),I.ok.frames,I.ok.stk,I.ok.exf,I.ok.bs,I.ok.bsz,I.ok.Se,I.ok.Uv,I.ok.Eg,I.ok.frf⟩,
  I.os,I.bare,I.base,I.loc,I.cell,I.free,I.pL,I.pin,I.hok,I.len⟩
theorem Inv.uncaught{Y:Cx}(I:Inv (Y.qb ea) pins σ H s)(ok:Y.Ok):Inv Y pins σ H s:=⟨ok,I.os,I.bare,I.base,I.loc,I.cell,I.free,I.pL,I.pin,I.hok,I.len⟩
theorem Inv.aeo{o:HO}{c:Value}{od:Option Addr}{fs:Array Value}{sl:Array (Option Value)}(I:Inv X pins σ H s)(hn:H ea=none)(h0:X.s₀.heap.get? ea=none)(hr:s.heap.get? ea=some (eQ c od fs sl))
  (hp:∀ p∈X.pn++pins,p.1≠ea) (new:jk X.prog X.w (upd H ea o) s.heap ea o):Inv X pins σ (upd H ea o) s:=by
 have ne:∀ b u,H b=some u->b≠ea:=λb u q e=>by rw[e,hn]at q;cases q
 refine⟨I.ok,I.os,I.bare,⟨I.base.keep,I.base.slot,λb u q n hx=>?_,I.base.there,λb xs q=>?_,λb u v q=>?_,λb ps q=>?_⟩,I.loc,I.cell,?_,λx c' q=>?_,λp hq=>?_,I.hok.add hn new,I.len⟩
 ·rw[ah λe=>by rw[e,h0]at q;cases q]
  exact I.base.free b u q n hx
 ·have r:=I.base.GA b xs q
  rw[ah (ne b _ r)];exact r
 ·have r:=I.base.Ip b u v q
  rw[ah (ne b _ r)];exact r
 ·obtain⟨more,r⟩:=I.base.JS b ps q
  exact⟨more,by rw[ah (ne b _ r)];exact r⟩
 ·rw[ah λe=>?_]
  ·exact I.free
  ·obtain⟨m,⟨oL,es,ep,ho,hd,_⟩,_⟩:=I.loc
   rw[e,hr]at ho;cases ho;cases hd
 ·rw[ah λe=>?_]
  ·exact I.pL x c' q
  ·obtain⟨v,oc,ho,hd⟩:=I.cell x c' q
   rw[e,hr]at ho;cases ho;cases hd
 ·obtain⟨e,n,z⟩:=I.pin p hq
  exact⟨e,by rw[ah (hp p hq)];exact n,z⟩
end
noncomputable def UE(i:Nat)(D:Ends):Ends:={nx:=λσ H=>D.nx (σ.set i none) H,rt:=D.rt,bk:=λσ H=>D.bk (σ.set i none) H,ct:=λσ H=>D.ct (σ.set i none) H}
noncomputable def YY(K:W.Frag)(Dc:Addr)(i:Nat)(ts:TS)(D:Ends):St->XK:=λσ c od H=>∃ C cd,c=.ref C/\jL K C cd/\cd.mro.contains (.ref Dc)=true/\∀ ea,H ea=none->ts (UE i D) (σ.set i (some (.ref ea))) (upd H ea (exo false C ea od))
noncomputable def ao8(K:W.Frag)(Dc:Addr)(i:Nat)(tb:(St->XK)->TS)(ts:TS):TS:=λD σ H=>tb (YY K Dc i ts D) D σ H
section
variable{X:Cx}
theorem W3{pins:List (Addr×Obj)}{σ:St}{H:Hp}{s:Shared}{E:Value->Shared->Prop}{n:Str}{i:Nat}{pos:Pos}{Q:Unit->Shared->Prop}(I:Inv X pins σ H s)(hN:X.N.Nodup)(hi:X.N[i]?=some n)(hx:X.env.scope.names.lookup n=some .local)
  (k:∀ s',Inv X pins (σ.set i none) H s'->Q () s'):wpAny 1e7 X.A (do bindName X.env n .none;unbindBehindTheSuite X.env n pos) Q E s:=by
 obtain⟨m,hn,hl⟩:=id I.loc;have aca:(X.env.scope.kind == .class||(X.env.scope.kind == .module&&X.env.locals != X.env.globals))=false:=by rw[I.ok.kind];rfl
 refine wpAny_nameGoes_keeps hx hn aca λh' v hn' hs=>k _ ?_;obtain⟨oL,_,_,hoL,_⟩:=id hn;have tr:HOk X.prog X.w H h':=I.hok.keeps λb u o q r=>(hs.2 b λe=>by rw[e,I.free]at q;cases q).trans r;refine⟨I.ok,I.os,I.bare,⟨λb o e n hb hx=>?_,λb o e n hb hx=>?_,I.base.free,λb o e hx=>?_,I.base.GA,I.base.Ip,I.base.JS⟩,⟨_,hn',λj y v' e1 e2 e3=>?_⟩,λy c e=>?_,I.free,I.pL,λp hp=>?_,tr,by simpa using I.len⟩
 ·exact(hs.2 b (aqb (ap9 (ap2 e) I.ok.above))).trans (I.base.keep b o e n hb hx)
 ·obtain⟨sl,e1⟩:=I.base.slot b o e n hb hx
  exact⟨sl,(hs.2 b (aqb (ap9 (ap2 e) I.ok.above))).trans e1⟩
 ·obtain⟨o',e1⟩:=I.base.there b o e hx
  exact⟨o',(hs.2 b (aqb (ap9 (ap2 e) I.ok.above))).trans e1⟩
 ·by_cases hj:j=i
  ·subst hj
   rw[arM]at e2;simp only[if_true]at e2;split at e2<;>cases e2
  ·rw[aqN (aqe hj)]at e2
   obtain⟨u',r',q⟩:=hl j y v' e1 e2 e3;refine⟨u',r',?_⟩;rcases q with⟨kk,e⟩|⟨kk,c,e,z⟩
   ·refine .inl ⟨kk,?_⟩
    have:y≠n:=λe=>hj (KA hN e1 (e ▸ hi))
    simp[this,e]
   ·exact .inr ⟨kk,c,e,z.sameBut hs (I.cne y c e)⟩
 ·obtain⟨w',z⟩:=I.cell y c e
  exact⟨w',z.sameBut hs (I.cne y c e)⟩
 ·obtain⟨e,n,ne,nf,d⟩:=I.pin p hp
  exact⟨(hs.2 p.1 ne).trans e,n,ne,nf,d⟩
theorem abH{body Sq:List Stmt}{b₀:Stmt}{x n:Str}{np hpos pos:Pos}{i:Nat}{Dc:Addr}{cdD:ClassData}{tb:(St->XK)->TS}{ts:TS}(hex:X.ex=[])(hst:X.stack=X.env::X.outer)(hfr:X.env.frame=some X.env.locals)(hg:Gl X x)(hm:X.mg x=some (.ref Dc))
  (hD:jL X.K Dc cdD) (hN:X.N.Nodup) (hi:X.N[i]?=some n) (hx:X.env.scope.names.lookup n=some .local)
  (hb:∀(pins:List (Addr×Obj)) (E:Value->Shared->Prop) (EK:St->XK),gC (CXE X.prog X.w) (X.G5 pins E) EK->PSs (X.G5 pins E) body (tb EK))
  (hs:∀ ea,PSs (X.qb ea) (b₀::Sq) ts) (hdb:(x == ("__debug__" : Str))=false:=by decide) :
  PS X (.Try body [.ExceptHandler (some (.Name x np)) (some n) (b₀::Sq) hpos] [] [] pos) (ao8 X.K Dc i tb ts):=by
 intro pins s σ H D I h;refine wpAny_Try_except ?_;refine wpAny_mono (hb pins (λe s₁=>∃ σ' H1 sc,Inv X pins σ' H1 sc/\CXE X.prog X.w X.stack H1 sc (YY X.K Dc i ts D σ') e s₁) (YY X.K Dc i ts D)
  (λO5 σ' H1 sc e s' J q=>⟨σ',H1,sc,J.pU,q⟩) [] s σ H D (I.G5 _) h) (λfl s1 q=>?_) λe s1 q=>?_
 ·cases fl with
  | next =>
   obtain⟨σ',H',J,q⟩:=q;exact wpAny_execs_nil ⟨σ',H',J.pU,q⟩
  | brk=>obtain⟨σ',H',J,q⟩:=q;exact⟨σ',H',J.pU,q⟩
  | cont=>obtain⟨σ',H',J,q⟩:=q;exact⟨σ',H',J.pU,q⟩
  | ret u=>obtain⟨v,σ',H',J,r,q⟩:=q;exact⟨v,σ',H',J.pU,r,q⟩
 ·obtain⟨σ',H1,sc,J,ea,Cv,T,od,fs,sl,H',rfl,l,C,cd,ec,xc,hmr,q⟩:=q
  cases ec;have hA:X.A.frames=some (X.env::X.outer):=by rw[J.ok.frames,hst]
  have hF:s1.heap.FunFrames X.base (X.env::X.outer):=by rw[<-hst];exact l.frames J
  have e0:X.s₀.heap.get? ea=none:=by
   cases z:X.s₀.heap.get? ea with
   | none=>rfl
   | some o =>
    obtain⟨o',z'⟩:=J.base.there ea o z (by rw[hex];exact aqR);rw[l.ZI]at z';cases z'
  have st:∀(m:Heap) (tk:Nat),Kept (eW X.stack) [ea,T] s1.heap m->Inv X pins σ' H' {s1 with heap:=m,toks:=tk}:=λm tk k=>by
   obtain⟨un,hok⟩:=l.on (t':=s1.toks) J k;exact J.Mi l.os un hok l.bare λb z=>absurd z 2e5
  have pn:∀ p∈X.pn++pins,p.1≠ea:=λp hp e=>by
   obtain⟨z,_⟩:=J.pin p hp;rw[e,l.ZI]at z;cases z
  refine JX hA hF hfr l.at_ l.trail λm T' oc tsx z1 z2 z3 z4 z5=>?_;have Te:T'≠ea:=aq3 (ap9 (ap2 l.at_) z1);have f1:(fs.setIfInBounds 1 (Value.ref T'))[1]?=some (.ref T'):=by
   have:=l.trail.size
   simp[this]
  have k1:Kept (eW X.stack) [ea,T] s1.heap m:=by rw[hst];exact z2
  refine oy (s:={s1 with heap:=m}) z3 f1 Te z4 (aqj.mp z5).1 λm' q1 q2 q3=>?_;have nT:∀ b o,s1.heap.get? b=some o->b≠T':=λb o q=>aqb (ap9 (ap2 q) z1);have k2:Kept (eW X.stack) [ea,T] s1.heap m':=⟨λb o q hb hx=>q1 b o (nT b o q) (k1.plain b o q hb hx),λb o q hb hx=>by
   obtain⟨sm,r⟩:=k1.frame b o q hb hx;exact⟨sm,q1 b _ (nT b o q) r⟩⟩
  have J2:=st m' s1.toks k2;refine wpAny_handleBy_cons (codeAny_handlers_test ?_) 1e0;refine tV (X:=X.qb ea) (J2.qb ea) hg hm ?_ hdb;refine GF xc hD J2.kIn q3 ?_;rw[hmr];refine codeAny_handlers_suite_as ?_;cases q2 with
  | @some _ oc2 ts2 d2 sm2 y1 y2 y3 y4 =>
  refine oy (s:={s1 with heap:=m'}) q3 y1 y2 y3 (aqj.mp y4).1 λm3 r1 r2 r3=>?_;have k3:Kept (eW X.stack) [ea,T] s1.heap m3:=⟨λb o q hb hx=>r1 b o (nT b o q) (k2.plain b o q hb hx),λb o q hb hx=>by
   obtain⟨sm,r⟩:=k2.frame b o q hb hx;exact⟨sm,r1 b _ (nT b o q) r⟩⟩
  have J3:=st m3 s1.toks k3;obtain⟨a0,ha⟩:=l.args;have J4:Inv X pins σ' (upd H' ea (exo false Cv ea od)) {s1 with heap:=m3}:=J3.aeo l.Sn e0 r3 pn (Ug ⟨_,_,a0,r3,by simpa using ha,λz=>nomatch z⟩);refine D3 (X:=X.qb ea) (J4.qb ea) hN hi (.inl hx) (v:=.ref ea) rfl (λs5 J5=>?_) (.inr hx);refine wpAny_mono (hs ea pins s5 _ _ (UE i D) J5 (q ea l.Sn)) (λfl s6 w=>?_) λ_ _ z=>False.elim z;have off:∀ {σ6:St} {H6:Hp} {Q6:Unit->Shared->Prop},Inv (X.qb ea) pins σ6 H6 s6->(∀ s7,Inv X pins (σ6.set i none) H6 s7->Q6 () s7)->wpAny 1e7 X.A (do bindName X.env n .none;unbindBehindTheSuite X.env n hpos) Q6 X.xe s6 :=
   λJ6 k=>W3 (J6.uncaught J.ok) hN hi hx k
  cases fl with
  | next=>obtain⟨σ6,H6,J6,w⟩:=w;exact off J6 λs7 J7=>⟨_,_,J7,w⟩
  | brk=>obtain⟨σ6,H6,J6,w⟩:=w;exact off J6 λs7 J7=>⟨_,_,J7,w⟩
  | cont=>obtain⟨σ6,H6,J6,w⟩:=w;exact off J6 λs7 J7=>⟨_,_,J7,w⟩
  | ret u=>obtain⟨v,σ6,H6,J6,r,w⟩:=w;exact off J6 λs7 J7=>⟨v,_,_,J7,r,w⟩
end
section
variable{X:Cx}
noncomputable def aep(K:W.Frag):R2:=λx y H Q=>∃ l b xs zs,x=.ref l/\y=.ref b/\SqL K H l xs/\SqL K H b zs/\xs.length+zs.length<=sizeLine/\∀ p,H p=none->Q 4e7 (upd H p (.lst (xs++zs)))
theorem UG:OpR X (binaryOp .Add) (aep X.K):=by
 intro pins s σ H x y v u Q I rx ry h;obtain⟨l,b,xs,zs,rfl,rfl,hx,hy,hz,q⟩:=h;cases rx;cases ry;obtain⟨vs,r1,⟨⟨c1,d1,da1,s1⟩,n1,e1,f1,_,g1⟩,_⟩:=I.list hx;obtain⟨ws,r2,⟨⟨c2,d2,da2,s2⟩,n2,e2,f2,_,g2⟩,_⟩:=I.list hy;simp only at f1 g1 f2 g2;subst f1 g1 f2 g2;have hl:vs.length+ws.length<=sizeLine:=by rw[<-r1.length,<-r2.length];exact hz
 have ea:vs.toArray++ws.toArray=(vs++ws).toArray:=by simp
 refine concat_meets ⟨_,e1,rfl⟩ ⟨_,e2,rfl⟩ noFill_list_add seq_list_add PySem.F.slot_list_add PySem.F.entry_list_add (PySem.F.args_list_add_2 _ _) (list_addW l b vs.toArray ws.toArray n1 n2 d1 d2 s1 s2 (by simpa using hl)) ⟨e1,e2,?_⟩;rw[ea];exact⟨.ref _,_,I.Zw (t':=s.toks) (r1.append r2) (by rw[ap4];exact hz),rfl,q _ I.fresh⟩
end
theorem az.upd{H:Hp}{a:Addr}{o:HO}(h:H a=none):az H (L2.upd H a o):=λb u q=>by rw[ah λe=>by rw[e,h]at q;cases q];exact q
structure OY(K:W.Frag)(C:Addr):Prop where
 cls:∃ cd,jL K C cd
 get:adR K C
 own:PySem.W.findIn K 4e2 "__class__" = some (some (.builtin "object.__class__"))
noncomputable def Bm(K:W.Frag):Sp:=λvs H Q _=>∃ ea C od x,vs=[.ref ea,x]/\H ea=some (exo true C ea od)/\(∃ cd,jL K C cd)/\Q .non H
theorem bq{P:Program}{w:World}{X:Cx}:gC (CXE P w) X.nox (λ_ _ _ _=>False):=λ_ _ _ _ _ _ _ ⟨_,_,_,_,_,_,_,_,_,q⟩=>q.elim
theorem VC{n:Int}(h:n.natAbs<2 ^ 1920):n.natAbs.log2<1920:=by
 by_cases z:n.natAbs=0
 ·rw[z];decide
 ·exact(Nat.log2_lt z).mpr h
theorem aeq{P:Program}{w:World}{outer:List Env}{H:Hp}{s:Shared}{e:Value}{s':Shared}(h:CXE P w outer H s (λ_ _ _=>False) e s'):False:=by
 obtain⟨_,_,_,_,_,_,_,_,_,q⟩:=h;exact q
noncomputable def YZ(xs ys:List V):Bool:=(List.range xs.length).all λj=>eqV (xs.getD j .non) (ys.getD j .non)
section
variable{X:Cx}
variable{o e value:Expr}{f:Str}{pos pos':Pos}{ta tv:TE}
structure aaN(K:W.Frag)(C:Addr)(m:Str)(f:Addr):Prop where
 rd:PySem.W.readsIn K C (.type "type")=true
 fc:PySem.W.findCls K 4e2 (.type "type") m=some (.val 7e4)
 ga:PySem.W.specialIn K 4e2 "__getattribute__" = some (some (.builtin "type.__getattribute__"))
 kp:PySem.W.keepIn K 7e4=true
theorem abI{CX:CXT}{k:Nat}{f C:Addr}{fd:FuncData}{ps:List Str}{sp:Sp}{EK:St->XK}{x m:Str}{p apos pos:Pos}{e:Expr}{es:List Expr}{t:TA}{pl:Sem Bool}(hg:Gl X x)(hm:X.mg x=some (.ref C))(c:aaN X.K C m f)(F:Ej X.prog X.w X.K X.mg X.base CX k f fd ps sp)(hr:lO k X.A)(hb:Binds X.K fd ps [])
  (hx:gC CX X EK) (ha:PA X (e::es) t) (hdb:(x == ("__debug__" : Str))=false:=by decide) (hst:starEach (e::es) X.env=(false,eval e X.env)::starEach es X.env:=by rfl) (hpl:(backTo pos (starEach es X.env)).any (·.1)=false:=by rfl)
  (ht:eval (.Call (.Attribute (.Name x p) m apos) (e::es) [] pos) X.env=(do
   let ov <-eval (.Name x p) X.env
   standAt apos.atName
   let (f,first) <-holding [ov] (getMethod ov m pl)
   callWith pos f first (backTo pos (starEach (e::es) X.env)) (backToKw pos 8e0)):=by rfl) :
  PE X (.Call (.Attribute (.Name x p) m apos) (e::es) [] pos) (YX sp [] EK t):=by
 intro pins s σ H Q I h;refine PySem.W.methodCall_KW (pl:=pl) (tV I hg hm ?_ hdb) ht;refine PySem.W.method_cls I.kIn c.ga (PySem.W.cls_value I.kIn c.rd c.fc rfl ?_);exact PySem.W.callWith_K (first:=[]) (h₀:=X.base) I.ok.mod.kin c.kp (thn (ha pos pins _ σ H _ (I.tok _) h) λus s1 ⟨vs,H1,I1,r,q⟩=>⟨I1.kIn,aaL F hr hb .nil hx I1 r q⟩) hst hpl
end
theorem DN{prog:Program}{w:World}{A:Around}{R:Result->Shared->Prop}{s:Shared}{elt target iter:Expr}{scope:Scope}{pos:Pos}{it acc:Value}{env:Env}(I:Nat->Shared->Prop)
  (turn:∀ n s,I n s->wpAny (model prog w) A (pyNext it) (λr s₁=>match r with
   | none=>R (.ok .next) s₁
   | some v=>wpAny 2e1 A (letOwnedTupleGo target it v) (λ_ s5=>wpAny 2e1 A (assign target env v) (λ_ s₂=>wpAny 2e1 A (eval elt env) (λx s₃ =>
     wpAny 2e1 A (call (.builtin "list.append") [acc,x]) (λ_ s₄=>∃ m,m<n/\I m s₄) 3e2 s₃)
     3e2 s₂) 3e2 s5) 3e2 s₁) 3e2 s)
  (n:Nat) (h:I n s):codeAny 2e1 A (.compLoop (.ListComp elt [⟨target,iter,[],0⟩] scope pos) 0 it acc env) R s:=by
 refine codeAny_loop rfl I (λn s hI=>?_) n h;show wpAny _ _ ((compTurn (.ListComp elt [⟨target,iter,[],0⟩] scope pos) 0 it acc env).onRaise (λx=>do noteFrame x env;theTreesLotGoes x)) _ _ s
 refine wpAny_noted ?_;rw[compTurn_list1];refine wpAny_bind (wpAny_standAt (wpAny_bind (wpAny_mono (turn n s hI) (λr s₁ h₁=>?_) λ_ _ h'=>h')));cases r with
 | none=>exact wpAny_pure h₁
 | some v =>
  refine wpAny_bind (wpAny_mono h₁ (λ_ s5 h5=>?_) λ_ _ h'=>h');exact wpAny_bind (wpAny_mono h5 (λ_ s₂ h₂=>wpAny_bind (wpAny_bind (wpAny_mono h₂ (λx s₃ h₃=>wpAny_bind (wpAny_mono h₃
   (λ_ s₄ h₄=>wpAny_pure (wpAny_pure ⟨rfl,h₄⟩)) λ_ _ h'=>h')) λ_ _ h'=>h'))) λ_ _ h'=>h')
noncomputable abbrev cxC(X:Cx)(scope:Scope)(cl:List (Str×Addr))(NC:List Str)(C:Addr)(fp:List Addr)(s₀:Shared)(H₀:Hp):Cx :=
 {X with N:=NC,s₀:=s₀,H₀:=H₀,env:=compEnvC scope cl C X.env,outer:=X.stack,ex:=fp,fn:=λ_=>false,pn:=[],xe:=λ_ _=>False}
noncomputable def Bn(σ:St)(idx:List Nat):St:=idx.map λi=>(σ[i]?).getD none
structure Im(X:Cx)(scope:Scope)(cl:List (Str×Addr))(x:Str)(idx:List Nat)(NC:List Str):Prop where
 adS:closureFor scope X.env=pure cl
 sub:∀ y c,cl.lookup y=some c->X.env.cells.lookup y=some c
 has:∀ y,((relabel scope X.env).names.lookup y=some .cell\/(relabel scope X.env).names.lookup y=some .free)->∃ c,cl.lookup y=some c
 Uh:∀ y∈scope.names,y.2≠.cell
 kind:scope.kind=.function
 loc:∀ y∈scope.names,y.2=.local->scope.names.lookup y.1=some .local
 xl:scope.names.lookup x=some .local
 nc:NC=x::idx.map λi=>X.N.getD i x
 nd:NC.Nodup
 cap:∀ i∈idx,i<X.N.length/\((X.env.scope.names.lookup (X.N.getD i x)=some .cell\/X.env.scope.names.lookup (X.N.getD i x)=some .free)/\((relabel scope X.env).names.lookup (X.N.getD i x)=some .cell\/(relabel scope X.env).names.lookup (X.N.getD i x)=some .free))
section
variable{X:Cx}{scope:Scope}{cl:List (Str×Addr)}{x:Str}{idx:List Nat}{NC:List Str}{C:Addr}{fp:List Addr}{pins:List (Addr×Obj)}{σ:St}{H:Hp}{s:Shared}
theorem KJ{h1:Heap}{t':Nat}(c:Im X scope cl x idx NC)(I:Inv X pins σ H s)(hf:∀ b∈fp,Iq X pins H b)(hlt:∀ b∈fp,b<s.heap.objs.size)(ns:h1.Ns s.heap.objs.size (λ_=>none))
  (k:∀ b o,s.heap.get? b=some o->h1.get? b=some o):Inv (cxC X scope cl NC s.heap.objs.size fp s H) [] (none::Bn σ idx) H {s with heap:=h1,toks:=t'}:=by
 have sub:∀ b,b∈frs X.stack->b∈X.env.locals::X.fs:=I.DY;refine⟨⟨I.ok.mod,c.kind,I.ok.glob,I.ok.blt,apV _,λy z a h1 h2=>I.ok.inj y z a (c.sub _ _ h1) (c.sub _ _ h2),c.has,λy a z=>(by cases z),I.ok.hd,I.ok.frames,.inl rfl,λb hb=>⟨aqb (hlt b hb),λy a q=>(hf b hb).2.2.2.2.1 y a (c.sub _ _ q)⟩,
  λb o q=>I.bs b o q,aqk I.ok.bsz I.sz,λb o q hb=>?_,λb hb z=>?_,I.stack,I.Eh⟩,rfl,I.bare,Un.kept k,⟨_,ns,λi y v e1 e2 e3=>?_⟩,λy a q=>?_,I.hok.fresh (apV _),λy a q=>I.pL _ _ (c.sub _ _ q),λp hp=>(by cases hp),I.hok.keeps λb u o _ q=>k b o q,?_⟩
 ·rcases(hf b hb).2.2.2.1 with z|z
  ·exact I.ok.Se b o q z
  ·exact absurd (ap9 (ap2 (I.ok.bs b o q).1) z) (aq4 _)
 ·rcases aqi.mp (sub b z) with r|r
  ·exact(hf b hb).2.1 r
  ·exact(hf b hb).2.2.1 r
 ·cases i with
  | zero=>cases e2
  | succ j =>
   have e1':(idx.map λi=>X.N.getD i x)[j]?=some y:=by
    have:(cxC X scope cl NC s.heap.objs.size fp s H).N=NC:=rfl
    rw[this,c.nc]at e1;exact e1
   have e2':(Bn σ idx)[j]?=some (some v):=e2;rw[apZ]at e1';unfold Bn at e2';rw[apZ]at e2';cases ei:idx[j]? with
   | none=>rw[ei]at e1';cases e1'
   | some i =>
    rw[ei]at e1' e2';simp only[aqQ,Option.some.injEq]at e1' e2';obtain⟨hi,h2,h3⟩:=c.cap i (apW ei);rw[e1']at h2 h3;have hN:X.N[i]?=some y:=by
     rw[<-e1'];simp[List.getD,apT hi]
    have hσ:σ[i]?=some (some v):=by
     cases q:σ[i]? with
     | none=>rw[q]at e2';cases e2'
     | some o=>rw[q]at e2';simp only[Option.getD_some]at e2';rw[e2']
    obtain⟨m,hn,hl⟩:=I.loc;obtain⟨u,r,l⟩:=hl i y v hN hσ (h2.elim (λz=>.inr (.inl z)) λz=>.inr (.inr z));refine⟨u,r,.inr ⟨h3,?_⟩⟩;rcases l with⟨l,_⟩|⟨_,a,ha,hc⟩
    ·exfalso
     have l':X.env.scope.names.lookup y=some .local:=l;rcases h2 with z|z<;>(rw[l']at z;cases z)
    ·obtain⟨a',ha'⟩:=c.has y h3
     have:=c.sub _ _ ha'
     rw[ha]at this;cases this;exact⟨a,ha',hc.keeps k⟩
 ·obtain⟨v,z⟩:=I.cell _ _ (c.sub _ _ q)
  exact⟨v,z.keeps k⟩
 ·show _=NC.length
  rw[c.nc];simp[Bn]
noncomputable def Pc(J:It)(D:Addr)(τ:St)(te:TE)(Q:VK)(H:Hp):Prop:=∃ W:Nat->Nat->List V->Hp->Prop,(∃ m,W 0 m [] H)/\∀ i m ys H2,W i m ys H2->H2 D=some 5e0 /\
 ((J.stop i H2/\Q (.ref D) H2)\/(J.go i H2/\ys.length<sizeLine/\∃ N:List V->Hp->Prop,(∀ zs H',N zs H'->∃ m',m'<m/\W (i+1) m' zs H')/\∀ y H3,J.yld i H2 y H3->te (some y::τ) H3 λv H4=>H4 D=some 5e0/\N (ys++[v]) (upd H4 D (.lst (ys++[v])))))
noncomputable def aaO(wi:TI)(idx:List Nat)(te:TE):TE:=λσ H Q=>wi σ H λJ H1=>∀ D,H1 D=none->Pc J D (Bn σ idx) te Q (upd H1 D (.lst []))
theorem KL{X:Cx}{pins:List (Addr×Obj)}{σ:St}{H:Hp}{s:Shared}{D:Addr}{ys:List V}{v:V}{u:Value}(I:Inv X pins σ H s)(h:H D=some (.lst ys))(hz:ys.length<sizeLine)(r:RelV v u) :
  wpAny 1e7 X.A (call (.builtin "list.append") [.ref D,u]) (λ_ s'=>Inv X pins σ (upd H D (.lst (ys++[v]))) s') X.xe s:=by
 refine thn (rh pins s σ H (.ref D) [v] (.ref D) [u] (λ_ H'=>H'=upd H D (.lst (ys++[v]))) I rfl (.cons r .nil) ⟨D,ys,v,rfl,rfl,h,hz,rfl⟩) λw s' ⟨_,H',I',_,e⟩=>?_;rw[<-e];exact I'
theorem kY{elt iter:Expr}{px pos:Pos}{wi:TI}{te:TE}(c:Im X scope cl x idx NC)(hc:X.calm=true)(hi:PI X (.Name x px) iter wi)(he:∀ C fp s₀ H₀,PE (cxC X scope cl NC C fp s₀ H₀) elt te)
  (hs:∀ x,foldedSetIterable iter X.env x=pure x:=by intro _;rfl):PE X 9e0 (aaO wi idx te):=by
 intro pins s σ H Q I h;rw[eval_ListComp];refine wpAny_comprehension_free (use:=none) rfl hs c.adS c.kind c.loc (thn (hi pins s σ H _ I h) λv s1 h1=>thn h1 λitv s2 h2=>?_);obtain⟨it,fp,tn,J,H2,rfl,I2,T,st2,f2,q⟩:=h2;refine wpAny_newObj_type (wpAny_newFunctionEnv c.Uh (by intro y hy;simp at hy) (λh₁ hns₁ hsb₁=>?_) c.kind);dsimp only at hns₁ hsb₁ ⊢;have I3:Inv X pins σ (upd H2 s2.heap.objs.size (.lst [])) {s2 with heap:=s2.heap.push {cls:=.type "list",data:=.seq ([]:List Value).toArray},toks:=s2.toks}:=I2.Zw (ys:=[]) (its:=[]) .nil (aqu _);obtain⟨W,⟨m0,w0⟩,turn⟩:=q s2.heap.objs.size I2.fresh;generalize hD:s2.heap.objs.size=D at *;generalize hH:s2.heap.push {cls:=.type "list",data:=.seq ([]:List Value).toArray}=h3 at *;have UH:∀ b∈fp,b<D:=λb hb=>by
  obtain⟨o,e,_⟩:=T.obj _ _ st2 b hb;rw[<-hD];exact ap2 e
 have hlt:∀ b∈fp,b<h3.objs.size:=λb hb=>by
  rw[<-hH,arh,hD];exact arw (UH b hb)
 have hf:∀ b∈fp,Iq X pins 9e4 b:=λb hb=>⟨by rw[ah (aqb (UH b hb))];exact(f2 b hb).1,(f2 b hb).2⟩;have kp:∀ b o,h3.get? b=some o->h₁.get? b=some o:=λb o e=>hsb₁.extBut b o (aqb (ap2 e)) (apY _ e);have I4:Inv 1e3 [] (none::Bn σ idx) 9e4 {s2 with heap:=h₁,toks:=s2.toks+([]:List (Str×Value)).length} :=
  KJ (s:={s2 with heap:=h3,toks:=s2.toks}) c I3 hf hlt hns₁ kp
 have Ir:∀ {H':Hp},6e2->∀ b∈fp,Iq 1e3 [] H' b:=λhn b hb =>
  ⟨hn b hb,aqb (hlt b hb),λz=>(aqi.mp (I3.DY b z)).elim (hf b hb).2.1 (hf b hb).2.2.1,.inl hb,λy a q=>(hf b hb).2.2.2.2.1 y a (c.sub _ _ q),λp hp=>(by cases hp)⟩
 have st1:tn 0 h₁:=T.keep 0 _ _ st2 λb hb o e=>kp b o (by rw[<-hH];exact apY _ e);have loop:∀ s4:Shared,s4={s2 with heap:=h₁,toks:=s2.toks+([]:List (Str×Value)).length} ->
   codeAny 1e7 X.A (.compLoop 9e0 0 (.ref it) (.ref D) (compEnvC scope cl h3.objs.size X.env)) (compPost 1e7 X.A X.xe none 4e8 (.ref D) h3.objs.size) s4:=by
  rintro s4 rfl;refine DN (λn s'=>∃ i ys H' v0,Inv 1e3 [] (v0::Bn σ idx) H' s'/\tn i s'.heap/\6e2/\W i n ys H')
   ?_ m0 ⟨0,[],_,none,I4,st1,λb hb=>(hf b hb).1,w0⟩
  rintro n s5 ⟨i,ys,H5,v0,I5,st5,fr5,w5⟩;obtain⟨hDl,alt⟩:=turn i n ys H5 w5;rcases alt with⟨stop,qn⟩|⟨go,hz,N,hN,step⟩
  ·refine thn (T.done 1e3 rfl rfl rfl hc i [] s5 _ H5 _ I5 (Ir fr5) st5 stop) λr s6 ⟨hr,I6⟩=>?_
   subst hr;obtain⟨m,ns6,_⟩:=id I6.loc;refine⟨m,ns6,λh' hs'=>⟨.ref D,H5,?_,rfl,qn⟩⟩;have J6:Inv X pins σ H5 s6:=I3.Mi (ch:=fp) I6.os I6.base I6.hok I6.bare λb hb=>⟨(hf b hb).2.2.2.1,(hf b hb).2.1,(hf b hb).2.2.2.2.1,(hf b hb).2.2.2.2.2⟩;refine J6.turned (t':=s6.toks) (it:=h3.objs.size) (λb o hb e=>hs'.extBut b o hb e) I6.free (aq3 I3.lt) (.inr I3.sz) (λy a q z=>?_) (λp hp z=>?_)
   ·obtain⟨v,q'⟩:=I3.cell y a q
    exact absurd q'.lt (by rw[z];exact aq4 _)
   ·exact absurd (ap2 (I3.pin p hp).1) (by rw[z];exact aq4 _)
  ·refine thn (T.item 1e3 rfl rfl rfl hc i [] s5 _ H5 _ I5 (Ir fr5) st5 go) λr s6 ⟨u,hr,h6⟩=>?_
   subst hr;refine thn h6 λ_ s7 ⟨y,H7,I7,r7,y7,st7,fr7⟩=>?_;have I7':=I7.pinned (Ir fr7) (T.obj _ _ st7);have hnl:(relabel scope X.env).names.lookup x=some .local:=lookup_relabel_local c.xl;refine wpAny_mono (bA (X:=cxC X scope cl NC h3.objs.size fp {s2 with heap:=h3,toks:=s2.toks} 9e4) (i:=0) (x:=x) (pos:=px) c.nd (by show NC[0]?=some x;rw[c.nc];rfl) (.inl hnl) (.inr hnl) _ s7 _ H7 y u
    (λσ' H'=>σ'=some y::Bn σ idx/\H'=H7) I7' r7 ⟨rfl,rfl⟩) (λ_ s8 ⟨σ8,H8,I8,e8,e8'⟩=>?_) λ_ _ z=>z.elim
   subst e8 e8';refine wpAny_mono (he _ _ _ _ _ s8 _ H8 _ I8 (step y H8 y7)) (λw s9 ⟨v,H9,I9,r9,hD9,n9⟩=>?_) λ_ _ z=>z.elim;obtain⟨m',hm,w9⟩:=hN _ _ n9;refine wpAny_mono (KL (X:=1e3) I9 hD9 hz r9) (λ_ s10 I10=>?_) λ_ _ z=>z.elim;refine⟨m',hm,i+1,ys++[v],_,some y,I10.pR,T.keep _ _ _ st7 λb hb o e=>(I10.pin (b,o) 8e7).1,λb hb=>?_,w9⟩;obtain⟨o,e,d⟩:=T.obj _ _ st7 b hb;exact(I10.pin (b,o) 8e7).2.1
 exact codeAny_compStart_list (loop _ rfl) (T.self _ 0 _ _ _ st1 (loop _ rfl))
end
section
variable{X:Cx}
theorem K7{prog:Program}{w:World}{A:Around}{R:Result->Shared->Prop}{s:Shared}{elt target iter c:Expr}{scope:Scope}{pos:Pos}{it acc:Value}{env:Env}(I:Nat->Shared->Prop)
  (turn:∀ n s,I n s->wpAny (model prog w) A (pyNext it) (λr s₁=>match r with
   | none=>R (.ok .next) s₁
   | some v=>wpAny 2e1 A (letOwnedTupleGo target it v) (λ_ s5=>wpAny 2e1 A (assign target env v) (λ_ s₂=>wpAny 2e1 A (isTrue c env (eval c env)) (λok s6=>if ok=true then wpAny 2e1 A (eval elt env) (λx s₃ =>
     wpAny 2e1 A (call (.builtin "list.append") [acc,x]) (λ_ s₄=>∃ m,m<n/\I m s₄) 3e2 s₃)
     3e2 s6 else ∃ m,m<n/\I m s6) 3e2 s₂) 3e2 s5) 3e2 s₁) 3e2 s)
  (n:Nat) (h:I n s):codeAny 2e1 A (.compLoop (.ListComp elt [⟨target,iter,[c],0⟩] scope pos) 0 it acc env) R s:=by
 refine codeAny_loop rfl I (λn s hI=>?_) n h;show wpAny _ _ ((compTurn (.ListComp elt [⟨target,iter,[c],0⟩] scope pos) 0 it acc env).onRaise (λx=>do noteFrame x env;theTreesLotGoes x)) _ _ s
 refine wpAny_noted ?_;rw[compTurn_list];refine wpAny_bind (wpAny_standAt (wpAny_bind (wpAny_mono (turn n s hI) (λr s₁ h₁=>?_) λ_ _ h'=>h')));cases r with
 | none=>exact wpAny_pure h₁
 | some v =>
  refine wpAny_bind (wpAny_mono h₁ (λ_ s5 h5=>?_) λ_ _ h'=>h');refine wpAny_bind (wpAny_mono h5 (λ_ s₂ h₂=>wpAny_bind (wpAny_mono (wpAny_tests_one h₂) (λok s₃ h₃=>?_) λ_ _ h'=>h')) λ_ _ h'=>h');cases ok with
  | false=>exact wpAny_pure ⟨rfl,h₃⟩
  | true =>
   exact wpAny_bind (wpAny_bind (wpAny_mono h₃ (λx s₄ h₄=>wpAny_bind (wpAny_mono h₄ (λ_ s₅ h₅=>wpAny_pure (wpAny_pure ⟨rfl,h₅⟩)) λ_ _ h'=>h')) λ_ _ h'=>h'))
variable{scope:Scope}{cl:List (Str×Addr)}{x:Str}{idx:List Nat}{NC:List Str}{C:Addr}{fp:List Addr}{pins:List (Addr×Obj)}{σ:St}{H:Hp}{s:Shared}
noncomputable def abJ(wi:TI)(idx:List Nat)(tc:TT)(te:TE):TE:=λσ H Q=>wi σ H λJ H1=>∀ D,H1 D=none->∃ W:Nat->Nat->List V->Hp->Prop,(∃ m,W 0 m [] (upd H1 D (.lst [])))/\∀ i m ys H2,W i m ys H2->H2 D=some 5e0 /\
 ((J.stop i H2/\Q (.ref D) H2)\/(J.go i H2/\ys.length<sizeLine/\∃ N:List V->Hp->Prop,(∀ zs H',N zs H'->∃ m',m'<m/\W (i+1) m' zs H')/\∀ y H3,J.yld i H2 y H3->tc (some y::Bn σ idx) H3 λb H4=>if b=true then te (some y::Bn σ idx) H4 λv H5=>H5 D=some 5e0/\N (ys++[v]) (upd H5 D (.lst (ys++[v])))
  else N ys H4))
end
noncomputable def Ite(K:W.Frag)(a:Addr):It :=
 ⟨λi H=>∃ xs x,SqL K H a xs/\xs[i]?=some x,λi H y H'=>∃ t x,H t=none/\y=.ref t/\(∀ xs,SqL K H a xs->xs[i]?=some x)/\H'=upd H t (.tup [.int (i:Int),x]),λi H=>∃ xs,SqL K H a xs/\xs.length<=i⟩
theorem VD{P:Program}{w:World}{K:W.Frag}{es:List Expr}{x1:Nat}{pos:Pos}(a it e:Addr)(hne:e≠it) :
  Turn P w K (.Tuple es x1 pos) (Ite K a) [e,it] e (λi h=>∃ old,IsEnum h e it i old/\h.IsListIter it a i) where
 mem:=by simp
 obj:=λi h st b hb=>by
  obtain⟨old,h1,o,q,c,d⟩:=st;rcases aqi.mp hb with z|z
  ·rw[z]
   exact⟨_,h1,λv z=>by
    have z':Data.fields _=Data.cell v:=z;cases z'⟩
  ·rw[apU.mp z]
   exact⟨o,q,λv z=>by rw[d]at z;cases z⟩
 keep:=λi h h' st k=>by
  obtain⟨old,h1,h2⟩:=st;exact⟨old,k e 2e5 _ h1,h2.at λo q=>k it 2e5 o q⟩
 item:=by
  intro X hP hw hK hc i pins s σ H E I hf st hg;subst hP hw hK;obtain⟨xs,x,hq,hx⟩:=hg;obtain⟨its,rv,p,hz⟩:=I.list hq;obtain⟨u,hu,ru⟩:=rv.get hx;obtain⟨old,he,hit⟩:=st;have fr:H s.heap.objs.size=none:=I.hok.fresh (apV _);refine wpAny_pyNext_enum_item he hit p.isList (x:=u) (by simpa using hu) hne λh1 heo hit1 ht1 hz1 hk1=>⟨_,rfl,wpAny_letOwnedTupleGo_enum heo λh2 he2 hs2=>?_⟩;replace hs2:Heap.SameBut e h1 h2:=hs2;have hel:e<s.heap.objs.size:=ap2 he;have k2:∀ b o,b≠e->b≠it->s.heap.get? b=some o->h2.get? b=some o:=λb o z1 z2 q=>(hs2.2 b z1).trans (hk1 b o z1 z2 q);have ht2:h2.get? s.heap.objs.size=some {cls:=.type "tuple",data:=.seq #[.int i s.toks,u]}:=(hs2.2 _ (aq3 hel)).trans ht1;have ao9:h2.IsListIter it a (i+1):=hit1.extBut hs2.extBut (aqe hne);have nt:∀ b o,s.heap.get? b=some o->b≠s.heap.objs.size:=λb o q=>aqb (ap2 q);have nh:∀ b v,H b=some v->b≠s.heap.objs.size:=λb v q=>ar q fr;have ne':∀ b v,H b=some v->b≠e/\b≠it:=λb v q=>⟨ar q (hf e 2e5).1,ar q (hf it 2e5).1⟩;refine⟨.ref s.heap.objs.size,upd H s.heap.objs.size (.tup [.int (i:Int),x]),?_,rfl,⟨_,x,fr,rfl,λys hy=>by rw[I.Ra hy hq];exact hx,rfl⟩,⟨_,he2,ao9⟩,λb hb=>?_⟩
  ·refine Inv.step (s:=s) (h':=h2) (t':=s.toks+1) (H:=H) (g':=s.gens) (d':=s.drawn) (ch:=[e,it]) I (λb hb=>⟨(hf b hb).2.2.2.1,(hf b hb).2.1,(hf b hb).2.2.2.2.1,(hf b hb).2.2.2.2.2⟩)
    (λb o _ _ z q _=>k2 b o (λy=>z (by simp[y])) (λy=>z (by simp[y])) q) (λb o _ _ z q _=>⟨o.slots,k2 b o (λy=>z (by simp[y])) (λy=>z (by simp[y])) q⟩)
    (λb o _ q n=>by rw[ah (nt b o q)];exact n) (λb o z q=>⟨o,k2 b o (λy=>z (by simp[y])) (λy=>z (by simp[y])) q⟩)
    (λb xs q=>by rw[ah (nh b _ q)];exact q) (λb o v q=>by rw[ah (nh b _ q)];exact q) (λb ps q=>⟨#[],by rw[ah (nh b _ q),q];simp⟩) (λm hm=>?_) (λb v q=>?_) I.bare
   ·obtain⟨o,es',ep,ho,r⟩:=hm
    exact⟨o,es',ep,k2 _ o (aqe (hf e 2e5).2.1) (aqe (hf it 2e5).2.1) ho,r⟩
   ·by_cases z:b=s.heap.objs.size
    ·subst z
     rw[ag]at q;cases q;exact⟨by show 2<=sizeLine;decide,[.int i s.toks,u],.cons ⟨_,rfl⟩ (.cons ru .nil),_,ht2,rfl,_,rfl⟩
    ·rw[ah z]at q
     refine(I.hok b v q).OT (λc o hc w=>?_) (λc w=>by rw[ah (nh c _ w)];exact w) λc xs w=>by rw[ah (nh c _ w)];exact w
     rcases hc with y|y
     ·rw[y]at w ⊢
      exact k2 b o (ne' b v q).1 (ne' b v q).2 w
     ·exact k2 c o (ne' c _ y).1 (ne' c _ y).2 w
  ·have hb':b<s.heap.objs.size:=by
    rcases aqi.mp hb with z|z
    ·rw[z];exact hel
    ·rw[apU.mp z]
     obtain⟨o,q,_⟩:=hit;exact ap2 q
   rw[ah (aqb hb')];exact(hf b hb).1
 done:=by
  intro X hP hw hK hc i pins s σ H E I hf st hg;subst hP hw hK;obtain⟨xs,hq,hx⟩:=hg;obtain⟨its,rv,p,hz⟩:=I.list hq;obtain⟨f0,f1,f2,f3,f4,f5⟩:=hf it 2e5;have hl:=rv.length;obtain⟨old,he,hit⟩:=st;exact wpAny_pyNext_enum_end (I.ok.hd hc) he hit p.isList (by simp;omega) λh' eb=>⟨rfl,I.turned (t':=s.toks) (λb o hb q=>eb b o hb q) f0 f1 f3 f4 f5⟩
 self:=λA i s Q E st h=>by
  obtain⟨old,he,hit⟩:=st;exact wpAny_pyIter_enum he h
section
variable{X:Cx}{es:List Expr}{x1:Nat}{tp:Pos}
noncomputable def aer(K:W.Frag)(ta:TA):TI:=λσ H R=>ta σ H λvs H1=>∃ a,vs=[.ref a]/\(∃ xs,SqL K H1 a xs)/\R (Ite K a) H1
theorem zF{a:Expr}{ta:TA}{p pos:Pos}(hg:Gl X "enumerate")(hm:X.mg "enumerate" = none)(ha:PA X [a] ta)(hs:starEach [a] X.env=[(false,eval a X.env)]:=by rfl):PI X (.Tuple es x1 tp) (.Call (.Name "enumerate" p) [a] [] pos) (aer X.K ta):=by
 intro pins s σ H R I h;refine Call_ (K3 I hg hm PyProof.Rows.Boot.«enumerate» (PyProof.Rows.callWith_type1 (thn 1e11 λus s1 ⟨vs,H1,I1,r1,q1⟩=>?_) hs rfl));obtain⟨l,e,⟨xs,hq⟩,q⟩:=q1;subst e;cases r1 with
 | cons r rr =>
  cases rr;cases r;obtain⟨its,rv,pl,hz⟩:=I1.list hq;refine call_enumerate_list pl.isList λh' he hit hsz hk=>?_;refine wpAny_pyIter_enum he ?_;refine⟨s1.heap.objs.size+1,[s1.heap.objs.size+1,s1.heap.objs.size],_,_,H1,rfl,I1.kept (t':=s1.toks) hk,VD l s1.heap.objs.size (s1.heap.objs.size+1) (Nat.succ_ne_self _),⟨_,he,hit⟩,λb hb=>?_,q⟩;have hb':s1.heap.objs.size<=b:=by
   rcases aqi.mp hb with z|z
   ·rw[z];exact arD _
   ·rw[apU.mp z]
    exact apV _
  exact I1.XM hb' (I1.hok.fresh hb')
end
theorem uJ{K:W.Frag}{a:Addr}{xs:List V}{g:TG}{tb:TS}{D:Ends}{σ:St}{H:Hp}(Pv:Nat->St->Hp->Prop)(h0:Pv 0 σ H)(hl:∀ i σ H,i<=xs.length->Pv i σ H->SqL K H a xs)
  (hs:∀ i x σ H t,xs[i]?=some x->Pv i σ H->H t=none->g (.ref t) σ (upd H t (.tup [.int (i:Int),x])) λσ2 H2=>tb {D with nx:=Pv (i+1),ct:=Pv (i+1),bk:=D.nx} σ2 H2) (hd:∀ σ H,Pv xs.length σ H->D.nx σ H) :
  ∃ W:Nat->Nat->St->Hp->Prop,(∃ m,W 0 m σ H)/\∀ i m σ H,W i m σ H ->
   ((Ite K a).stop i H/\D.nx σ H)\/((Ite K a).go i H/\∃ N:St->Hp->Prop,8e4/\∀ x H',(Ite K a).yld i H x H'->g x σ H' λσ2 H2=>tb {D with nx:=N,ct:=N,bk:=D.nx} σ2 H2):=by
 refine⟨λi m σ H=>m=xs.length-i/\i<=xs.length/\Pv i σ H,⟨xs.length,by simp,aqu _,h0⟩,?_⟩;rintro i m σ H ⟨rfl,hi,p⟩;by_cases hlt:i<xs.length
 ·refine .inr ⟨⟨xs,xs[i],hl i σ H hi p,apT hlt⟩,Pv (i+1),λσ' H' p'=>⟨xs.length-(i+1),by omega,rfl,hlt,p'⟩,λx H' y=>?_⟩
  obtain⟨t,v,e1,e2,e3,e4⟩:=y;subst e2 e4;exact hs i v σ H t (e3 xs (hl i σ H hi p)) p e1
 ·have e:i=xs.length:=by omega
  subst e;exact .inl ⟨⟨xs,hl _ σ H hi p,apV _⟩,hd σ H p⟩
end L2
namespace L2
open PySem
theorem JZ{lo:Int}{n:Nat}{te:TE}{Q:VK}{D:Addr}{τ:St}{H:Hp}(Pv:Nat->List V->Hp->Prop)(h0:Pv 0 [] H)(hD:∀ i ys H,i<=n->Pv i ys H->H D=some (.lst ys)/\ys.length=i)(hn:n<=sizeLine)
  (hs:∀ i ys H,i<n->Pv i ys H->te (some (.int (lo+i))::τ) H λv H4=>H4 D=some (.lst ys)/\Pv (i+1) (ys++[v]) (upd H4 D (.lst (ys++[v])))) (hd:∀ ys H,Pv n ys H->Q (.ref D) H):Pc (Itr lo n) D τ te Q H:=by
 refine⟨λi m ys H=>m=n-i/\i<=n/\Pv i ys H,⟨n,by simp,aqu _,h0⟩,?_⟩;rintro i m ys H2 ⟨rfl,hi,p⟩;obtain⟨hd1,hd2⟩:=hD i ys H2 hi p;refine⟨hd1,?_⟩;by_cases hlt:i<n
 ·refine .inr ⟨hlt,by omega,Pv (i+1),λzs H' p'=>⟨n-(i+1),by omega,rfl,hlt,p'⟩,λy H3 e=>?_⟩
  obtain⟨e1,e2⟩:=e;subst e1 e2;exact hs i ys _ hlt p
 ·have e:i=n:=by omega
  subst e;exact .inl ⟨apV _,hd ys H2 p⟩
theorem jn{K:W.Frag}{a:Addr}{xs:List V}{te:TE}{Q:VK}{D:Addr}{τ:St}{H:Hp}(Pv:Nat->List V->Hp->Prop)(h0:Pv 0 [] H)(hD:∀ i ys H,i<=xs.length->Pv i ys H->H D=some (.lst ys)/\ys.length=i)(hl:∀ i ys H,i<=xs.length->Pv i ys H->SqL K H a xs)(hn:xs.length<=sizeLine)
  (hs:∀ i x ys H,xs[i]?=some x->Pv i ys H->te (some x::τ) H λv H4=>H4 D=some (.lst ys)/\Pv (i+1) (ys++[v]) (upd H4 D (.lst (ys++[v])))) (hd:∀ ys H,Pv xs.length ys H->Q (.ref D) H):Pc (Itl K a) D τ te Q H:=by
 refine⟨λi m ys H=>m=xs.length-i/\i<=xs.length/\Pv i ys H,⟨xs.length,by simp,aqu _,h0⟩,?_⟩;rintro i m ys H2 ⟨rfl,hi,p⟩;obtain⟨hd1,hd2⟩:=hD i ys H2 hi p;refine⟨hd1,?_⟩;by_cases hlt:i<xs.length
 ·refine .inr ⟨⟨xs,xs[i],hl i ys H2 hi p,apT hlt⟩,by omega,Pv (i+1),λzs H' p'=>⟨xs.length-(i+1),by omega,rfl,hlt,p'⟩,λy H3 e=>?_⟩
  obtain⟨e1,e2⟩:=e;subst e1;exact hs i y ys _ (e2 xs (hl i ys _ hi p)) p
 ·have e:i=xs.length:=by omega
  subst e;exact .inl ⟨⟨xs,hl _ ys H2 hi p,apV _⟩,hd ys H2 p⟩
end L2
end
section
namespace L2
open PySem PySem.Spec PyProof.Rows LX
noncomputable def aaP(sc:Scope)(names:List (Str×NameKind)):List (Str×NameKind):=names.map λ(n,k)=>if(k == .free&&sc.kind == .function&&sc.names.lookup n == some .cell) then(n,.cell) else(n,k)
noncomputable def Y0(sc scope:Scope)(x:Str)(ns N:List Str)(idx:List Nat):Prop :=
 (∀ y∈scope.names,y.2≠.cell)/\(∀ y∈scope.names,y.2=.local->scope.names.lookup y.1=some .local)/\scope.names.lookup x=some .local/\(∀ p∈aaP sc scope.names,p.2=.cell\/p.2=.free->p.1∈ns)/\(x::idx.map λi=>N.getD i x).Nodup /\
 ∀ i∈idx,i<N.length/\((sc.names.lookup (N.getD i x)=some .cell\/sc.names.lookup (N.getD i x)=some .free)/\((aaP sc scope.names).lookup (N.getD i x)=some .cell\/(aaP sc scope.names).lookup (N.getD i x)=some .free))
noncomputable instance (sc scope:Scope) (x:Str) (ns N:List Str) (idx:List Nat):Decidable (Y0 sc scope x ns N idx):=by unfold Y0;infer_instance
theorem GG{y:Str}:∀ {cl:List (Str×Addr)},y∈cl.map (·.1)->∃ c,cl.lookup y=some c
 | [],h=>by simp at h
 | (n,c)::r,h=>by
  by_cases e:y=n
  ·exact⟨c,by simp[List.lookup,e]⟩
  ·have h':y∈r.map (·.1):=by
    rw[aqd]at h;rcases aqi.mp h with z|z
    ·exact absurd z e
    ·exact z
   obtain⟨c',q⟩:=GG h';have hb:(y == n)=false:=beq_eq_false_iff_ne.mpr e;exact⟨c',by simp only[List.lookup,hb];exact q⟩
theorem iC{X:Cx}{sc scope:Scope}{cl:List (Str×Addr)}{x:Str}{ns N:List Str}{idx:List Nat}(hsc:X.env.scope=sc)(hN:X.N=N)(hk:scope.kind=.function)(p:Y0 sc scope x ns N idx)(hn:cl.map (·.1)=ns)
  (aes:closureFor scope X.env=pure cl) (apa:∀ q∈cl,X.env.cells.lookup q.1=some q.2):Im X scope cl x idx (x::idx.map λi=>N.getD i x):=by
 obtain⟨p1,p2,p3,p4,p5,p6⟩:=p;have re:(relabel scope X.env).names=aaP sc scope.names:=by subst hsc;rfl
 subst hsc hN hn;refine⟨aes,λy c q=>apa (y,c) (aqG q),λy h=>?_,p1,hk,p2,p3,rfl,p5,λi hi=>?_⟩
 ·rw[re]at h
  refine GG ?_;rcases h with h|h
  ·exact p4 (y,.cell) (aqG h) 3e6
  ·exact p4 (y,.free) (aqG h) (.inr rfl)
 ·rw[re]
  exact p6 i hi
theorem Bo{P:Program}{w:World}{X:Cx}:gC (CXE P w) X (λ_ _ _ _=>False):=λ_ _ _ _ _ _ _ ⟨_,_,_,_,_,_,_,_,_,q⟩=>q.elim
section
variable{X:Cx}{scope:Scope}{cl:List (Str×Addr)}{x:Str}{idx:List Nat}{NC:List Str}{pins:List (Addr×Obj)}{σ:St}{H:Hp}{s:Shared}
theorem J8{i:Nat}{y:Str}{elt iter:Expr}{px py pos UI:Pos}{wi:TI}{te:TE}(hN:X.N.Nodup)(hi':X.N[i]?=some y)(hx:X.env.scope.names.lookup y=some .local)(c:Im X scope cl x idx NC)(hc:X.calm=true)(hi:PI X (.Name x px) iter wi)
  (he:∀ C fp s₀ H₀,PE (cxC X scope cl NC C fp s₀ H₀) elt te) (hsw:swapsWith (.ListComp elt [⟨.Name x px,iter,[],0⟩] scope pos) (some (.Name y py)) UI.line X.env=pure true:=by rfl)
  (hs:∀ x,foldedSetIterable iter X.env x=pure x:=by intro _;rfl):PS X (.Assign [.Name y py] 9e0 UI) (Wn (aaO wi idx te) (sL i)):=by
 intro pins s σ H D0 I h;rw[exec_Assign_Name_used _ _ _ _ hsw];refine wpAny_bind (wpAny_standAt (wpAny_bind ?_));show wpAny _ _ (do let _ <-comprehension 9e0 scope X.env _ (newList []) false (eval iter X.env) (some (assign (.Name y py) X.env))) _ _ s
 refine wpAny_bind (wpAny_mono (wpAny_comprehension_free (use:=some (assign (.Name y py) X.env)) (Q:=λ_ s'=>SP X pins D0 .next s') rfl hs c.adS c.kind c.loc
  (thn (hi pins s σ H _ I h) λv s1 h1=>thn h1 λitv s2 h2=>?_)) (λ_ s' hq=>wpAny_pure (wpAny_pure hq)) λ_ _ e=>e)
 obtain⟨it,fp,tn,J,H2,rfl,I2,T,st2,f2,q⟩:=h2;refine wpAny_newObj_type (wpAny_newFunctionEnv c.Uh (by intro y hy;simp at hy) (λh₁ hns₁ hsb₁=>?_) c.kind);dsimp only at hns₁ hsb₁ ⊢;have I3:Inv X pins σ (upd H2 s2.heap.objs.size (.lst [])) {s2 with heap:=s2.heap.push {cls:=.type "list",data:=.seq ([]:List Value).toArray},toks:=s2.toks}:=I2.Zw (ys:=[]) (its:=[]) .nil (aqu _);obtain⟨W,⟨m0,w0⟩,turn⟩:=q s2.heap.objs.size I2.fresh;generalize hD:s2.heap.objs.size=D at *;generalize hH:s2.heap.push {cls:=.type "list",data:=.seq ([]:List Value).toArray}=h3 at *;have UH:∀ b∈fp,b<D:=λb hb=>by
  obtain⟨o,e,_⟩:=T.obj _ _ st2 b hb;rw[<-hD];exact ap2 e
 have hlt:∀ b∈fp,b<h3.objs.size:=λb hb=>by
  rw[<-hH,arh,hD];exact arw (UH b hb)
 have hf:∀ b∈fp,Iq X pins 9e4 b:=λb hb=>⟨by rw[ah (aqb (UH b hb))];exact(f2 b hb).1,(f2 b hb).2⟩;have kp:∀ b o,h3.get? b=some o->h₁.get? b=some o:=λb o e=>hsb₁.extBut b o (aqb (ap2 e)) (apY _ e);have I4:Inv 1e3 [] (none::Bn σ idx) 9e4 {s2 with heap:=h₁,toks:=s2.toks+([]:List (Str×Value)).length} :=
  KJ (s:={s2 with heap:=h3,toks:=s2.toks}) c I3 hf hlt hns₁ kp
 have Ir:∀ {H':Hp},6e2->∀ b∈fp,Iq 1e3 [] H' b:=λhn b hb =>
  ⟨hn b hb,aqb (hlt b hb),λz=>(aqi.mp (I3.DY b z)).elim (hf b hb).2.1 (hf b hb).2.2.1,.inl hb,λy a q=>(hf b hb).2.2.2.2.1 y a (c.sub _ _ q),λp hp=>(by cases hp)⟩
 have st1:tn 0 h₁:=T.keep 0 _ _ st2 λb hb o e=>kp b o (by rw[<-hH];exact apY _ e);have loop:∀ s4:Shared,s4={s2 with heap:=h₁,toks:=s2.toks+([]:List (Str×Value)).length} ->
   codeAny 1e7 X.A (.compLoop 9e0 0 (.ref it) (.ref D) (compEnvC scope cl h3.objs.size X.env)) (compPost 1e7 X.A X.xe (some (assign (.Name y py) X.env)) (λ_ s'=>SP X pins D0 .next s') (.ref D) h3.objs.size) s4:=by
  rintro s4 rfl;refine DN (λn s'=>∃ i ys H' v0,Inv 1e3 [] (v0::Bn σ idx) H' s'/\tn i s'.heap/\6e2/\W i n ys H')
   ?_ m0 ⟨0,[],_,none,I4,st1,λb hb=>(hf b hb).1,w0⟩
  rintro n s5 ⟨i5,ys,H5,v0,I5,st5,fr5,w5⟩;obtain⟨hDl,alt⟩:=turn i5 n ys H5 w5;rcases alt with⟨stop,qn⟩|⟨go,hz,N,hN',step⟩
  ·refine thn (T.done 1e3 rfl rfl rfl hc i5 [] s5 _ H5 _ I5 (Ir fr5) st5 stop) λr s6 ⟨hr,I6⟩=>?_
   subst hr;obtain⟨m,ns6,_⟩:=id I6.loc;have J6:Inv X pins σ H5 s6:=I3.Mi (ch:=fp) I6.os I6.base I6.hok I6.bare λb hb=>⟨(hf b hb).2.2.2.1,(hf b hb).2.1,(hf b hb).2.2.2.2.1,(hf b hb).2.2.2.2.2⟩;have fC:Iq X pins H5 h3.objs.size:=I3.XM (apV _) I6.free;obtain⟨o,es,ep,ho,rr⟩:=ns6;have od:∀ v,o.data≠.cell v:=λv z=>by
    rw[rr.1]at z;cases z
   show wpAny _ _ (assign (.Name y py) X.env (.ref D)) (λ_ s''=>∃ m,s''.heap.Ns h3.objs.size m/\∀ h',Heap.SameBut h3.objs.size s''.heap h'->SP X pins D0 .next {s'' with heap:=h'}) X.xe s6;have J7:=J6.pinned (fp:=[h3.objs.size]) (λb hb=>by rw[apU.mp hb];exact fC) (λb hb=>by rw[apU.mp hb];exact⟨o,ho,od⟩);refine wpAny_mono (bA (pos:=py) hN hi' (.inl hx) (.inr hx) _ s6 _ H5 (.ref D) (.ref D) D0.nx J7 rfl qn) (λ_ s7 ⟨σ7,H7,I7,q7⟩=>?_) (λ_ _ z=>z);have pC:=I7.pin (h3.objs.size,o) (ap1 _ (ap1 _ (iR (apU.mpr rfl) ho)));refine⟨m,⟨o,es,ep,pC.1,rr⟩,λh' hs'=>⟨σ7,H7,?_,q7⟩⟩;exact I7.pR.turned (t':=s7.toks) (it:=h3.objs.size) (λb o hb e=>hs'.extBut b o hb e) pC.2.1 fC.2.1 fC.2.2.2.1 fC.2.2.2.2.1 fC.2.2.2.2.2
  ·refine thn (T.item 1e3 rfl rfl rfl hc i5 [] s5 _ H5 _ I5 (Ir fr5) st5 go) λr s6 ⟨u,hr,h6⟩=>?_
   subst hr;refine thn h6 λ_ s7 ⟨y,H7,I7,r7,y7,st7,fr7⟩=>?_;have I7':=I7.pinned (Ir fr7) (T.obj _ _ st7);have hnl:(relabel scope X.env).names.lookup x=some .local:=lookup_relabel_local c.xl;refine wpAny_mono (bA (X:=cxC X scope cl NC h3.objs.size fp {s2 with heap:=h3,toks:=s2.toks} 9e4) (i:=0) (x:=x) (pos:=px) c.nd (by show NC[0]?=some x;rw[c.nc];rfl) (.inl hnl) (.inr hnl) _ s7 _ H7 y u
    (λσ' H'=>σ'=some y::Bn σ idx/\H'=H7) I7' r7 ⟨rfl,rfl⟩) (λ_ s8 ⟨σ8,H8,I8,e8,e8'⟩=>?_) λ_ _ z=>z.elim
   subst e8 e8';refine wpAny_mono (he _ _ _ _ _ s8 _ H8 _ I8 (step y H8 y7)) (λw s9 ⟨v,H9,I9,r9,hD9,n9⟩=>?_) λ_ _ z=>z.elim;obtain⟨m',hm,w9⟩:=hN' _ _ n9;refine wpAny_mono (KL (X:=1e3) I9 hD9 hz r9) (λ_ s10 I10=>?_) λ_ _ z=>z.elim;refine⟨m',hm,i5+1,ys++[v],_,some y,I10.pR,T.keep _ _ _ st7 λb hb o e=>(I10.pin (b,o) 8e7).1,λb hb=>?_,w9⟩;obtain⟨o,e,d⟩:=T.obj _ _ st7 b hb;exact(I10.pin (b,o) 8e7).2.1
 exact codeAny_compStart_list (loop _ rfl) (T.self _ 0 _ _ _ st1 (loop _ rfl))
noncomputable def apb(K:W.Frag):R2:=λx y H Q=>∃ a b xs ys,x=.ref a/\y=.ref b/\SqL K H a xs/\SqL K H b ys/\xs.length=ys.length/\xs.all mS=true/\ys.all mS=true/\Q (.bl (!YZ xs ys)) H
theorem abK{X:Cx}(hu:X.A.units<cLine):OpR X (compareOp .NotEq) (apb X.K):=by
 intro pins s σ H x y v u Q I rx ry h;obtain⟨a,b,xs,ys,rfl,rfl,ha,hb,hl,fx,fy,q⟩:=h;cases rx;cases ry;obtain⟨vs,r1,⟨o1,n1,e1,c1,_,g1⟩,_⟩:=I.list ha;obtain⟨ws,r2,⟨o2,n2,e2,c2,_,g2⟩,_⟩:=I.list hb;have l1:=r1.length;have l2:=r2.length;refine SeqAt.RcNeAt.lists (e:=λj=>eqV (xs.getD j .non) (ys.getD j .non)) ⟨o1,e1,c1,n1,g1⟩ ⟨o2,e2,c2,n2,g2⟩ (by simp only[ap5];omega) hu (λj h1 h2=>?_) _ _ _ _ ⟨.bl _,H,I,rfl,?_⟩
 ·simp only[ap5]at h1 h2
  obtain⟨w1,z1,rz1⟩:=r1.get (i:=j) (x:=xs[j]' 1e1) (apT 1e1);obtain⟨w2,z2,rz2⟩:=r2.get (i:=j) (x:=ys[j]' 1e1) (apT 1e1);have a1:vs.toArray[j]=w1:=by
   have:=(apS.mp z1).2
   simpa using this
  have a2:ws.toArray[j]=w2:=by
   have:=(apS.mp z2).2
   simpa using this
  rw[a1,a2];have d1:xs.getD j .non=xs[j]' 1e1:=by simp[List.getD,apT (show j<xs.length by omega)]
  have d2:ys.getD j .non=ys[j]' 1e1:=by simp[List.getD,apT (show j<ys.length by omega)]
  show SeqAt.EqAt _ _ _ _ (eqV (xs.getD j .non) (ys.getD j .non));rw[d1,d2];exact O9 rz1 rz2 (aq5.mp fx _ (aqI _)) (aq5.mp fy _ (aqI _))
 ·have:vs.toArray.size=xs.length:=by simp only[ap5];omega
  rw[this];exact q
end
theorem UJ:∀ {us:List Value} {ks:List Int},us.length=ks.length->(∀(j:Nat) (v:Value),us[j]?=some v->∃ t,v=Value.int (ks.getD j 0) t)->IntsAre us ks
 | [],[],_,_=>.nil
 | [],_::_,h,_=>by simp at h
 | _::_,[],h,_=>by simp at h
 | u::us,k::ks,h,f=>by
  obtain⟨t,e⟩:=f 0 u rfl;subst e;exact .cons k t (UJ (by simpa using h) λj v q=>f (j+1) v q)
section
variable{X:Cx}
theorem ME{P:Program}{w:World}{vs:List (Key×Value)}{ks:List Int}{acc:Array Value}(hk:vs.map (·.1)=ks.map Sum.inl)(ha:acc.size=vs.length)(h:∀(j:Nat) (v:Value),acc[j]?=some v->∃ k x,vs[j]?=some (k,x)/\(cT P w).is k v=true):IntsAre acc.toList ks:=by
 have hl:vs.length=ks.length:=by
  have:=congrArg List.length hk
  simpa using this
 refine UJ (by rw[arC];omega) λj v e=>?_;obtain⟨k,x,h1,h2⟩:=h j v (by rw[<-Array.getElem?_toList];exact e);have h3:(vs.map (·.1))[j]?=some k:=by rw[apZ,h1];rfl
 rw[hk,apZ]at h3;obtain⟨i,hi,rfl⟩:=aqa.mp h3;have h4:vq (.inl i) v=true:=h2;rcases cF h4 with⟨i',t,e1,e2⟩|⟨y,t,e1,_⟩
 ·injection e1 with e1
  subst e1;exact⟨t,by rw[e2];simp[List.getD,hi]⟩
 ·cases e1
end
theorem MF{xs ys:List Int}(p:xs.Perm ys)(hx:xs.Pairwise (·<=·))(hy:ys.Pairwise (·<=·)):xs=ys :=
 p.eq_of_pairwise (λa b _ _ h1 h2=>Int.le_antisymm h1 h2) hx hy
theorem XZ{v:V}(h:mS v=true):eqV v v=true:=by
 cases v with
 | non=>rfl
 | bl b=>cases b<;>rfl
 | int n=>simp[eqV]
 | str z=>simp[eqV]
 | _=>exact absurd (show false=true from h) ap0
section
variable{X:Cx}
end
section
variable{X:Cx}{tg:Expr}
theorem PS.nox{st:Stmt}{t:TS}(h:PS X.nox st t):PS X st t:=λpins s σ H D I hw =>
 wpAny_mono (h pins s σ H D (I.K4 _) hw) (λ_ _ q=>q.sS) λ_ _ z=>False.elim z
end
section
variable{X:Cx}{scope:Scope}{cl:List (Str×Addr)}{x:Str}{idx:List Nat}{NC:List Str}{pins:List (Addr×Obj)}{σ:St}{H:Hp}{s:Shared}
theorem W5{i:Nat}{y:Str}{elt iter ct:Expr}{px py pos UI:Pos}{wi:TI}{tc:TT}{te:TE}(hN:X.N.Nodup)(hi':X.N[i]?=some y)(hx:X.env.scope.names.lookup y=some .local)(c:Im X scope cl x idx NC)(hc:X.calm=true)(hi:PI X (.Name x px) iter wi)
  (ht:∀ C fp s₀ H₀,PT (cxC X scope cl NC C fp s₀ H₀) ct tc) (he:∀ C fp s₀ H₀,PE (cxC X scope cl NC C fp s₀ H₀) elt te) (hsw:swapsWith (.ListComp elt [⟨.Name x px,iter,[ct],0⟩] scope pos) (some (.Name y py)) UI.line X.env=pure true:=by rfl)
  (hs:∀ x,foldedSetIterable iter X.env x=pure x:=by intro _;rfl):PS X (.Assign [.Name y py] (.ListComp elt [⟨.Name x px,iter,[ct],0⟩] scope pos) UI) (Wn (abJ wi idx tc te) (sL i)):=by
 intro pins s σ H D0 I h;rw[exec_Assign_Name_used _ _ _ _ hsw];refine wpAny_bind (wpAny_standAt (wpAny_bind ?_));show wpAny _ _ (do let _ <-comprehension (.ListComp elt [⟨.Name x px,iter,[ct],0⟩] scope pos) scope X.env _ (newList []) false (eval iter X.env) (some (assign (.Name y py) X.env))) _ _ s
 refine wpAny_bind (wpAny_mono (wpAny_comprehension_free (use:=some (assign (.Name y py) X.env)) (Q:=λ_ s'=>SP X pins D0 .next s') rfl hs c.adS c.kind c.loc
  (thn (hi pins s σ H _ I h) λv s1 h1=>thn h1 λitv s2 h2=>?_)) (λ_ s' hq=>wpAny_pure (wpAny_pure hq)) λ_ _ e=>e)
 obtain⟨it,fp,tn,J,H2,rfl,I2,T,st2,f2,q⟩:=h2;refine wpAny_newObj_type (wpAny_newFunctionEnv c.Uh (by intro y hy;simp at hy) (λh₁ hns₁ hsb₁=>?_) c.kind);dsimp only at hns₁ hsb₁ ⊢;have I3:Inv X pins σ (upd H2 s2.heap.objs.size (.lst [])) {s2 with heap:=s2.heap.push {cls:=.type "list",data:=.seq ([]:List Value).toArray},toks:=s2.toks}:=I2.Zw (ys:=[]) (its:=[]) .nil (aqu _);obtain⟨W,⟨m0,w0⟩,turn⟩:=q s2.heap.objs.size I2.fresh;generalize hD:s2.heap.objs.size=D at *;generalize hH:s2.heap.push {cls:=.type "list",data:=.seq ([]:List Value).toArray}=h3 at *;have UH:∀ b∈fp,b<D:=λb hb=>by
  obtain⟨o,e,_⟩:=T.obj _ _ st2 b hb;rw[<-hD];exact ap2 e
 have hlt:∀ b∈fp,b<h3.objs.size:=λb hb=>by
  rw[<-hH,arh,hD];exact arw (UH b hb)
 have hf:∀ b∈fp,Iq X pins 9e4 b:=λb hb=>⟨by rw[ah (aqb (UH b hb))];exact(f2 b hb).1,(f2 b hb).2⟩;have kp:∀ b o,h3.get? b=some o->h₁.get? b=some o:=λb o e=>hsb₁.extBut b o (aqb (ap2 e)) (apY _ e);have I4:Inv 1e3 [] (none::Bn σ idx) 9e4 {s2 with heap:=h₁,toks:=s2.toks+([]:List (Str×Value)).length} :=
  KJ (s:={s2 with heap:=h3,toks:=s2.toks}) c I3 hf hlt hns₁ kp
 have Ir:∀ {H':Hp},6e2->∀ b∈fp,Iq 1e3 [] H' b:=λhn b hb =>
  ⟨hn b hb,aqb (hlt b hb),λz=>(aqi.mp (I3.DY b z)).elim (hf b hb).2.1 (hf b hb).2.2.1,.inl hb,λy a q=>(hf b hb).2.2.2.2.1 y a (c.sub _ _ q),λp hp=>(by cases hp)⟩
 have st1:tn 0 h₁:=T.keep 0 _ _ st2 λb hb o e=>kp b o (by rw[<-hH];exact apY _ e);have loop:∀ s4:Shared,s4={s2 with heap:=h₁,toks:=s2.toks+([]:List (Str×Value)).length} ->
   codeAny 1e7 X.A (.compLoop (.ListComp elt [⟨.Name x px,iter,[ct],0⟩] scope pos) 0 (.ref it) (.ref D) (compEnvC scope cl h3.objs.size X.env)) (compPost 1e7 X.A X.xe (some (assign (.Name y py) X.env)) (λ_ s'=>SP X pins D0 .next s') (.ref D) h3.objs.size) s4:=by
  rintro s4 rfl;refine K7 (λn s'=>∃ i ys H' v0,Inv 1e3 [] (v0::Bn σ idx) H' s'/\tn i s'.heap/\6e2/\W i n ys H')
   ?_ m0 ⟨0,[],_,none,I4,st1,λb hb=>(hf b hb).1,w0⟩
  rintro n s5 ⟨i5,ys,H5,v0,I5,st5,fr5,w5⟩;obtain⟨hDl,alt⟩:=turn i5 n ys H5 w5;rcases alt with⟨stop,qn⟩|⟨go,hz,N,hN',step⟩
  ·refine thn (T.done 1e3 rfl rfl rfl hc i5 [] s5 _ H5 _ I5 (Ir fr5) st5 stop) λr s6 ⟨hr,I6⟩=>?_
   subst hr;obtain⟨m,ns6,_⟩:=id I6.loc;have J6:Inv X pins σ H5 s6:=I3.Mi (ch:=fp) I6.os I6.base I6.hok I6.bare λb hb=>⟨(hf b hb).2.2.2.1,(hf b hb).2.1,(hf b hb).2.2.2.2.1,(hf b hb).2.2.2.2.2⟩;have fC:Iq X pins H5 h3.objs.size:=I3.XM (apV _) I6.free;obtain⟨o,es,ep,ho,rr⟩:=ns6;have od:∀ v,o.data≠.cell v:=λv z=>by
    rw[rr.1]at z;cases z
   show wpAny _ _ (assign (.Name y py) X.env (.ref D)) (λ_ s''=>∃ m,s''.heap.Ns h3.objs.size m/\∀ h',Heap.SameBut h3.objs.size s''.heap h'->SP X pins D0 .next {s'' with heap:=h'}) X.xe s6;have J7:=J6.pinned (fp:=[h3.objs.size]) (λb hb=>by rw[apU.mp hb];exact fC) (λb hb=>by rw[apU.mp hb];exact⟨o,ho,od⟩);refine wpAny_mono (bA (pos:=py) hN hi' (.inl hx) (.inr hx) _ s6 _ H5 (.ref D) (.ref D) D0.nx J7 rfl qn) (λ_ s7 ⟨σ7,H7,I7,q7⟩=>?_) (λ_ _ z=>z);have pC:=I7.pin (h3.objs.size,o) (ap1 _ (ap1 _ (iR (apU.mpr rfl) ho)));refine⟨m,⟨o,es,ep,pC.1,rr⟩,λh' hs'=>⟨σ7,H7,?_,q7⟩⟩;exact I7.pR.turned (t':=s7.toks) (it:=h3.objs.size) (λb o hb e=>hs'.extBut b o hb e) pC.2.1 fC.2.1 fC.2.2.2.1 fC.2.2.2.2.1 fC.2.2.2.2.2
  ·refine thn (T.item 1e3 rfl rfl rfl hc i5 [] s5 _ H5 _ I5 (Ir fr5) st5 go) λr s6 ⟨u,hr,h6⟩=>?_
   subst hr;refine thn h6 λ_ s7 ⟨y,H7,I7,r7,y7,st7,fr7⟩=>?_;have I7':=I7.pinned (Ir fr7) (T.obj _ _ st7);have hnl:(relabel scope X.env).names.lookup x=some .local:=lookup_relabel_local c.xl;refine wpAny_mono (bA (X:=cxC X scope cl NC h3.objs.size fp {s2 with heap:=h3,toks:=s2.toks} 9e4) (i:=0) (x:=x) (pos:=px) c.nd (by show NC[0]?=some x;rw[c.nc];rfl) (.inl hnl) (.inr hnl) _ s7 _ H7 y u
    (λσ' H'=>σ'=some y::Bn σ idx/\H'=H7) I7' r7 ⟨rfl,rfl⟩) (λ_ s8 ⟨σ8,H8,I8,e8,e8'⟩=>?_) λ_ _ z=>z.elim
   subst e8 e8';refine wpAny_mono (ht _ _ _ _ _ s8 _ H8 _ I8 (step y H8 y7)) (λbb s11 ⟨H11,I11,q11⟩=>?_) λ_ _ z=>z.elim;have fin:∀ {H12:Hp} {s12:Shared} {zs:List V} {m':Nat},Inv 1e3 ([]++K5 fp s7.heap) (some y::Bn σ idx) H12 s12->m'<n->W (i5+1) m' zs H12 ->
     ∃ m,m<n/\∃ i ys H' v0,Inv 1e3 [] (v0::Bn σ idx) H' s12/\tn i s12.heap/\6e2/\W i m ys H':=λ{H12 s12 zs m'} I12 hm w12=>by
    refine⟨m',hm,i5+1,zs,_,some y,I12.pR,T.keep _ _ _ st7 λb hb o e=>(I12.pin (b,o) 8e7).1,λb hb=>?_,w12⟩;obtain⟨o,e,d⟩:=T.obj _ _ st7 b hb;exact(I12.pin (b,o) 8e7).2.1
   cases bb with
   | false =>
    obtain⟨m',hm,w9⟩:=hN' _ _ q11;exact fin I11 hm w9
   | true =>
    refine wpAny_mono (he _ _ _ _ _ s11 _ H11 _ I11 q11) (λw s9 ⟨v,H9,I9,r9,hD9,n9⟩=>?_) λ_ _ z=>z.elim;obtain⟨m',hm,w9⟩:=hN' _ _ n9;refine wpAny_mono (KL (X:=1e3) I9 hD9 hz r9) (λ_ s10 I10=>?_) λ_ _ z=>z.elim;exact fin I10 hm w9
 exact codeAny_compStart_list (loop _ rfl) (T.self _ 0 _ _ _ st1 (loop _ rfl))
noncomputable def UK(J:It)(D:Addr)(τ:St)(tc:TT)(te:TE)(Q:VK)(H:Hp):Prop:=∃ W:Nat->Nat->List V->Hp->Prop,(∃ m,W 0 m [] H)/\∀ i m ys H2,W i m ys H2->H2 D=some 5e0 /\
 ((J.stop i H2/\Q (.ref D) H2)\/(J.go i H2/\ys.length<sizeLine/\∃ N:List V->Hp->Prop,(∀ zs H',N zs H'->∃ m',m'<m/\W (i+1) m' zs H')/\∀ y H3,J.yld i H2 y H3->tc (some y::τ) H3 λb H4=>if b=true then te (some y::τ) H4 λv H5=>H5 D=some 5e0/\N (ys++[v]) (upd H5 D (.lst (ys++[v])))
  else N ys H4))
noncomputable def abL(wi:TI)(idx:List Nat)(tc:TT)(te:TE):TE:=λσ H Q=>wi σ H λJ H1=>∀ D,H1 D=none->UK J D (Bn σ idx) tc te Q (upd H1 D (.lst []))
theorem W6{i:Nat}{y:Str}{elt iter ct:Expr}{px py pos UI:Pos}{wi:TI}{tc:TT}{te:TE}(hN:X.N.Nodup)(hi':X.N[i]?=some y)(hx:X.env.scope.names.lookup y=some .local)(c:Im X scope cl x idx NC)(hc:X.calm=true)(hi:PI X (.Name x px) iter wi)
  (ht:∀ C fp s₀ H₀,PT (cxC X scope cl NC C fp s₀ H₀) ct tc) (he:∀ C fp s₀ H₀,PE (cxC X scope cl NC C fp s₀ H₀) elt te) (hsw:swapsWith (.ListComp elt [⟨.Name x px,iter,[ct],0⟩] scope pos) (some (.Name y py)) UI.line X.env=pure true:=by rfl)
  (hs:∀ x,foldedSetIterable iter X.env x=pure x:=by intro _;rfl):PS X (.Assign [.Name y py] (.ListComp elt [⟨.Name x px,iter,[ct],0⟩] scope pos) UI) (Wn (abL wi idx tc te) (sL i)) :=
 W5 hN hi' hx c hc hi ht he hsw hs
end
end L2
end
section
namespace L2
open PySem PySem.Spec PyProof.Rows LX
section
variable{P:Program}{w:World}{A:Around}{E:Value->Shared->Prop}{s:Shared}{a:Addr}{S:Int->Bool}{n:Nat}
end
end L2
end
section
namespace L2
open PySem PySem.Spec PyProof.Rows LX
section
variable{P:Program}{w:World}{A:Around}{R:Result->Shared->Prop}{I:Addr}{fp wr:List Addr}{G:Array GenState->Array GenState->Prop}{n:Nat}{p:Nat->Value->Prop}{St:Nat->Shared->Prop}
end
section
variable{P:Program}{w:World}{A:Around}{E:Value->Shared->Prop}{s:Shared}
end
section
variable{P:Program}{w:World}{A:Around}{E:Value->Shared->Prop}{s:Shared}{it a:Addr}{first:Value}{i n ep:Nat}
end
section
variable{P:Program}{w:World}{A:Around}{E:Value->Shared->Prop}{s:Shared}{it a:Addr}{first:Value}{i n ep:Nat}{es:Array (Int×Value)}{t:SetTable}
end
section
variable{P:Program}{w:World}{A:Around}{E:Value->Shared->Prop}{s:Shared}{I a:Addr}{ep:Nat}{es:Array (Int×Value)}{t:SetTable}{sl:Nat->Nat}{vs:List Value}
end
end L2
end
section
namespace L2
open PySem PySem.Spec PyProof.Rows LX PySem.W
section
variable{P:Program}{w:World}{A:Around}{E:Value->Shared->Prop}{s:Shared}{a:Addr}{ep:Nat}{es:Array (Int×Value)}{t:SetTable}
end
section
variable{P:Program}{w:World}{A:Around}{E:Value->Shared->Prop}{s:Shared}{a:Addr}{ep:Nat}{es:Array (Int×Value)}{t:SetTable}
end
section
variable{X:Cx}
end
end L2
end
section
namespace L2
open PySem PySem.Spec PyProof.Rows LX
section
variable{X:Cx}{pins:List (Addr×Obj)}{σ:St}{H:Hp}{s:Shared}{d:Addr}{kvs:List (Key×V)}
theorem Inv.frozen(I:Inv X pins σ H s)(hd:H d=some (.dK kvs)):∃ o,Inv X pins σ (upd H d 6e0) s:=by
 obtain⟨hz,h0,vs,rel,o,es,ep,ho,r⟩:=YW I.hok hd;have nn:∀ {b:Addr},H b=none->upd H d 6e0 b=none:=λ{b} q=>by
  rw[ah λz=>by rw[z,hd]at q;cases q];exact q
 have ns:∀ {b:Addr} {u:HO},H b=some u->u≠.dK kvs->upd H d 6e0 b=some u:=λ{b u} q n=>by
  rw[ah λz=>n (by rw[z,hd]at q;exact(aqh q).symm)];exact q
 refine⟨o,I.ok,I.os,I.bare,⟨I.base.keep,I.base.slot,λb ob q n e=>nn (I.base.free b ob q n e),I.base.there,λb xs q=>ns (I.base.GA b xs q) 1e0,λb ob u q=>ns (I.base.Ip b ob u q) 1e0,λb ps q=>?_⟩,I.loc,I.cell,nn I.free,λx c q=>nn (I.pL x c q),λp hp=>?_,λa u q=>?_,I.len⟩
 ·obtain⟨more,q'⟩:=I.base.JS b ps q
  exact⟨more,ns q' 1e0⟩
 ·obtain⟨p1,p2,p3⟩:=I.pin p hp
  exact⟨p1,nn p2,p3⟩
 ·have st:∀ {a:Addr} {u:HO},jk X.prog X.w H s.heap a u->jk X.prog X.w (upd H d 6e0) s.heap a u:=λx=>x.OT (λ_ _ _ z=>z) (λb z=>ns z (by intro y;cases y)) λb xs z=>ns z (by intro y;cases y)
  by_cases e:a=d
  ·subst e
   rw[ag]at q;cases q;exact⟨ho,st (I.hok a _ hd)⟩
  ·rw[ah e]at q
   exact st (I.hok a u q)
noncomputable def apc(te:TE):TE:=λσ H Q=>te σ H λv H1=>∃ d kvs,H1 d=some 3e0/\∀ o,Q v (upd H1 d 6e0)
theorem uK{e:Expr}{te:TE}(h:PE X e te):PE X e (apc te):=by
 intro pins s σ H Q I t;refine wpAny_mono (h pins s σ H _ I t) (λu s1 ⟨v,H1,I1,r,q⟩=>?_) λ_ _ z=>z;obtain⟨d,kvs,hd,q⟩:=q;obtain⟨o,I2⟩:=I1.frozen hd;exact⟨v,_,I2,r,q o⟩
noncomputable def Itd(d:Addr)(o:Obj)(kvs:List (Key×V)):It :=
 ⟨λi H=>H d=some 6e0/\i<kvs.length,λi H x H'=>H'=H/\∃ p,kvs[i]?=some p/\x=kV p.1,λi H=>H d=some 6e0/\kvs.length<=i⟩
theorem abM{P:Program}{w:World}{k:Key}{u:Value}(h:(cT P w).is k u=true):RelV (kV k) u:=by
 have h4:vq k u=true:=h;rcases cF h4 with⟨i,t,e1,e2⟩|⟨y,t,e1,e2⟩
 ·subst e1 e2
  exact⟨t,rfl⟩
 ·subst e1 e2
  exact⟨t,rfl⟩
theorem Ui{o:Obj}(I:Inv X pins σ H s)(hd:H d=some (.frz o (.dK kvs))){es:Array DictEntry}{ep:Nat}(eo:o.data=.dict es ep):kvs.length<=sizeLine/\(d == sysModules)=false/\∃ vs,KV kvs vs/\s.heap.DictAt (cT X.prog X.w) d vs ep:=by
 obtain⟨ho,hz,h0,vs,rel,o',es',ep',ho',c1,c2,c3⟩:=(show jk X.prog X.w H s.heap d 6e0 from I.hok d _ hd);have e:o'=o:=aqh (ho'.symm.trans ho);subst e;rw[eo]at c2;injection c2 with e1 e2;subst e1 e2;exact⟨hz,h0,vs,rel,o',es,ho',c1,eo,c3⟩
theorem Xa{o:Obj}(I:Inv X pins σ H s)(hd:H d=some (.frz o (.dK kvs))):∃ es ep,o.data=.dict es ep:=by
 obtain⟨ho,hz,h0,vs,rel,o',es',ep',ho',c1,c2,c3⟩:=(show jk X.prog X.w H s.heap d 6e0 from I.hok d _ hd);have e:o'=o:=aqh (ho'.symm.trans ho);subst e;exact⟨es',ep',c2⟩
theorem X0:∀ {kvs:List (Key×V)} {vs:List (Key×Value)},KV kvs vs->∀ {i:Nat} {p:Key×V},kvs[i]?=some p->∃ x,vs[i]?=some (p.1,x)
 | _,_,.nil,_,_,h=>by simp at h
 | (k,v)::_,(k',x)::_,.cons a r,0,p,h=>by
  have h1:(k,v)=p:=by simpa using h
  subst h1;obtain⟨e,_⟩:=a;have e':k=k':=e;subst e';exact⟨x,rfl⟩
 | _::_,_::_,.cons _ r,i+1,p,h=>by
  have:=X0 r (i:=i) (p:=p) (by simpa using h)
  simpa using this
theorem VE{P:Program}{w:World}{K:W.Frag}{tg:Expr}(d it:Addr)(o:Obj)(kvs:List (Key×V))(ne:d≠it):Turn P w K tg (Itd d o kvs) [it] it (λi h=>∃ es ep,o.data=.dict es ep/\h.IsKeyIter it d i kvs.length ep) where
 mem:=by simp
 obj:=λi h st b hb=>by
  have e:b=it:=by simpa using hb
  subst e;obtain⟨es,ep,_,o,e,c,d⟩:=st;exact⟨o,e,λv z=>by rw[d]at z;cases z⟩
 keep:=λi h h' ⟨es,ep,eo,st⟩ k=>⟨es,ep,eo,st.at λo e=>k it 2e5 o e⟩
 item:=by
  rintro X hP hw hK hc i pins s σ H E I hf ⟨es,ep,eo,st⟩ ⟨hd,hi⟩;subst hP hw hK;obtain⟨hz,h0,vs,rel,hat⟩:=Ui I hd eo;have hl:=rel.length;obtain⟨x,hx⟩:=X0 rel (apT hi);obtain⟨f0,f1,f2,f3,f4,f5⟩:=hf it 2e5;rw[hl]at st;refine wpAny_pyNext_dict_item st hat hx λkey h' hk st' sb=>?_;have I1:Inv X pins σ H {s with heap:=h'}:=I.turned (t':=s.toks) (λb o hb e=>(sb.2 b hb).trans e) f0 f1 f3 f4 f5;exact⟨key,rfl,letGo_keyiter (s':={s with heap:=h'}) st' ⟨kV (kvs[i]'hi).1,H,I1,abM hk,⟨rfl,_,apT hi,rfl⟩,⟨es,ep,eo,by rw[hl];exact st'⟩,λb hb=>(hf b hb).1⟩⟩
 done:=by
  rintro X hP hw hK hc i pins s σ H E I hf ⟨es,ep,eo,st⟩ ⟨hd,hi⟩;subst hP hw hK;obtain⟨hz,h0,vs,rel,hat⟩:=Ui I hd eo;have hl:=rel.length;obtain⟨f0,f1,f2,f3,f4,f5⟩:=hf it 2e5;rw[hl]at st;exact wpAny_pyNext_dict_end (I.ok.hd hc) st hat (List.getElem?_eq_none 1e1) λh' eb=>⟨rfl,I.turned (t':=s.toks) (λb o hb e=>eb b o hb e) f0 f1 f3 f4 f5⟩
 self:=λ_ _ _ _ _ ⟨_,_,_,st⟩ h=>wpAny_pyIter_keyiter st h
noncomputable def aet(td:TE):TI:=λσ H R=>td σ H λx H1=>∃ d o kvs,x=.ref d/\H1 d=some 6e0/\R (Itd d o kvs) H1
theorem lS{tg l:Expr}{tl:TE}(hl:PE X l tl):PI X tg l (aet tl):=by
 intro pins s σ H R I h;refine thn (hl pins s σ H _ I h) λv s1 ⟨x,H1,I1,r1,q1⟩=>?_;obtain⟨d,o,kvs,e,hd,q⟩:=q1;subst e;cases r1;obtain⟨es,ep,eo⟩:=Xa I1 hd;obtain⟨hz,h0,vs,rel,hat⟩:=Ui I1 hd eo;have hl:=rel.length;refine wpAny_pyIter_dict h0 hat ?_;rw[<-hl];refine⟨s1.heap.objs.size,[s1.heap.objs.size],_,_,H1,rfl,I1.kept (t':=s1.toks) λb o e=>apY _ e,VE d _ o kvs (aqb hat.lt_size),⟨es,ep,eo,_,aqr _ rfl,rfl,rfl⟩,λb hb=>?_,q⟩;have e:b=s1.heap.objs.size:=by simpa using hb
 subst e;exact I1.XM (apV _) (I1.hok.fresh (apV _))
end
theorem rP{d:Addr}{o:Obj}{kvs:List (Key×V)}{g:TG}{tb:TS}{D:Ends}{σ:St}{H:Hp}(Pv:Nat->St->Hp->Prop)(h0:Pv 0 σ H)(hl:∀ i σ H,i<=kvs.length->Pv i σ H->H d=some (.frz o (.dK kvs)))
  (hs:∀ i p σ H,kvs[i]?=some p->Pv i σ H->g (kV p.1) σ H λσ2 H2=>tb {D with nx:=Pv (i+1),ct:=Pv (i+1),bk:=D.nx} σ2 H2) (hd:∀ σ H,Pv kvs.length σ H->D.nx σ H) :
  ∃ W:Nat->Nat->St->Hp->Prop,(∃ m,W 0 m σ H)/\∀ i m σ H,W i m σ H ->
   ((Itd d o kvs).stop i H/\D.nx σ H)\/((Itd d o kvs).go i H/\∃ N:St->Hp->Prop,8e4/\∀ x H',(Itd d o kvs).yld i H x H'->g x σ H' λσ2 H2=>tb {D with nx:=N,ct:=N,bk:=D.nx} σ2 H2):=by
 refine⟨λi m σ H=>m=kvs.length-i/\i<=kvs.length/\Pv i σ H,⟨kvs.length,by simp,aqu _,h0⟩,?_⟩;rintro i m σ H ⟨rfl,hi,p⟩;by_cases hlt:i<kvs.length
 ·refine .inr ⟨⟨hl i σ H hi p,hlt⟩,Pv (i+1),λσ' H' p'=>⟨kvs.length-(i+1),by omega,rfl,hlt,p'⟩,λx H' y=>?_⟩
  obtain⟨e1,q,e2,e3⟩:=y;subst e1 e3;exact hs i q σ _ e2 p
 ·have e:i=kvs.length:=by omega
  subst e;exact .inl ⟨⟨hl _ σ H hi p,apV _⟩,hd σ H p⟩
section
variable{X:Cx}
end
section
variable{X:Cx}{pins:List (Addr×Obj)}{σ:St}{H:Hp}{s:Shared}
end
theorem Sr:∀ {ms ns:List Int},ms.length=ns.length->YZ (ms.map V.int) 4e6=decide (ms=ns):=by
 intro ms ns hl;rw[arl,decide_eq_true_eq];unfold YZ;rw[aq5];constructor
 ·intro h
  refine List.ext_getElem hl λj h1 h2=>?_
  have:=h j (by rw[apR];exact aq6.mpr h1)
  simpa[List.getD,h1,h2,eqV] using this
 ·rintro rfl j hj
  rw[apR]at hj;have hj:=aq6.mp hj;simp[List.getD,hj,eqV]
section
variable{X:Cx}
theorem Xb:∀ {x y:V} {us:List Value},Vals [x,y] us->∃ u v,us=[u,v]/\RelV x u/\RelV y v
 | _,_,_,.cons a (.cons b .nil)=>⟨_,_,rfl,a,b⟩
end
section
variable{X:Cx}
noncomputable def abN:List V->Hp->VK->Prop:=λvs H Q=>∃(p:Addr) (kvs:List (Key×V)) (ks:List Int),vs=[.ref p]/\Rd H p 3e0/\kvs.map (·.1)=ks.map Sum.inl/\∀ l:Addr,H l=none->Q (.ref l) (upd H l (.lst (ks.map V.int)))
theorem Ka(hc:X.calm=true):zk X (.type "list") abN:=by
 rintro pins s σ H xs us Q I r ⟨p,kvs,ks,rfl,hp,hk,q⟩;obtain⟨u,rfl,ru⟩:=r.one;cases (show u=Value.ref p from ru);obtain⟨hz,hd,vs,rel,dd⟩:=Bl I.hok hp;obtain⟨ep,hat⟩:=dd.dictAt;have hl:ks.length=kvs.length:=by
  have:=congrArg List.length hk
  simpa using this.symm
 refine PySem.W.kdl_call (PySem.W.kdl_dict (knd:=cT X.prog X.w) (kvs:=vs) (ep:=ep) hd) (I.ok.hd hc) hat (by rw[<-rel.length];exact hz) λh' tk acc c hkp hS hacc=>?_;have hI:IntsAre acc.toList ks:=ME (by rw[<-rel.keys];exact hk) hacc.1 hacc.2;refine⟨.ref s.heap.objs.size,_,I.laid (a:=s.heap.objs.size) (o:=.lst (ks.map V.int)) (t':=tk) hkp (apV _) ?_,rfl,q _ (I.hok.fresh (apV _))⟩;refine⟨by rw[apR,hl];exact hz,acc.toList,c,uk hI,?_⟩;rw[hS]
end
section
variable{X:Cx}
end
theorem Ss{d:Addr}{o:Obj}{kvs:List (Key×V)}{tc:TT}{te:TE}{Q:VK}{D:Addr}{τ:St}{H:Hp}(Pv:Nat->List V->Hp->Prop)(h0:Pv 0 [] H)(hD:∀ i ys H,i<=kvs.length->Pv i ys H->H D=some (.lst ys)/\ys.length<=i)(hl:∀ i ys H,i<=kvs.length->Pv i ys H->H d=some (.frz o (.dK kvs)))(hn:kvs.length<=sizeLine)
  (hs:∀ i p ys H,kvs[i]?=some p->Pv i ys H->tc (some (kV p.1)::τ) H λb H4=>if b=true then te (some (kV p.1)::τ) H4 λv H5=>H5 D=some (.lst ys)/\Pv (i+1) (ys++[v]) (upd H5 D (.lst (ys++[v]))) else Pv (i+1) ys H4)
  (hd:∀ ys H,Pv kvs.length ys H->Q (.ref D) H):UK (Itd d o kvs) D τ tc te Q H:=by
 refine⟨λi m ys H=>m=kvs.length-i/\i<=kvs.length/\Pv i ys H,⟨kvs.length,by simp,aqu _,h0⟩,?_⟩;rintro i m ys H2 ⟨rfl,hi,p⟩;obtain⟨d1,d2⟩:=hD i ys H2 hi p;refine⟨d1,?_⟩;have hS:=hl i ys H2 hi p;by_cases hlt:i<kvs.length
 ·refine .inr ⟨⟨hS,hlt⟩,by omega,Pv (i+1),λzs H' p'=>⟨kvs.length-(i+1),by omega,rfl,hlt,p'⟩,λy H3 q=>?_⟩
  obtain⟨e1,q',e2,e3⟩:=q;subst e1 e3;exact hs i q' ys _ e2 p
 ·have e:i=kvs.length:=by omega
  subst e;exact .inl ⟨⟨hS,apV _⟩,hd ys H2 p⟩
theorem Iz:typeLookup (Value.type "list") (Str.ofString "keys")=pure none:=am_miss_of_fast 2e2
theorem list_getattr_none:typeLookup (Value.type "list") (Str.ofString "__getattr__")=pure none:=am_miss_of_fast 2e2
section
variable{P:Program}{w:World}{A:Around}{E:Value->Shared->Prop}
theorem ZK{h:Heap}{g:Array GenState}{d:Drawn}{t:Nat}{os:OsState}{a:Addr}{its:Array Value}{n:Nat}{u:Tok}{Q:PySem.Fin->Shared->Prop}(hx:h.get? a=some {cls:=.type "list",data:=.seq its n})(hA:A.handled=none)
  (q:∀(h':Heap) (tk:Nat) (e:Addr),h.NewAttrErr h' e (.ref a) (Str.ofString "keys")->E (.ref e) {heap:=h',gens:=g,drawn:=d,toks:=tk,os:=os}) :
  wpAny 8e2 A (Builtin.«object.__getattribute__» {pos:=[.ref a,.str (Str.ofString "keys") u]}) Q E {heap:=h,gens:=g,drawn:=d,toks:=t,os:=os}:=by
 have hT:Shared.TypeIs {heap:=h,gens:=g,drawn:=d,toks:=t,os:=os} 8e5 "list" := ⟨_,hx,rfl⟩;have f1:=Iz;unfold Builtin.«object.__getattribute__»;wp_walk
 exact wpAny_raiseAttrError hA q 2e2
theorem VF{h:Heap}{g:Array GenState}{d:Drawn}{t:Nat}{os:OsState}{a:Addr}{its:Array Value}{n:Nat}{Q:Option Value->Shared->Prop}(hx:h.get? a=some {cls:=.type "list",data:=.seq its n})(hA:A.handled=none)
  (q:∀(h':Heap) (tk:Nat),(∀ b o,h.get? b=some o->h'.get? b=some o)->Q none {heap:=h',gens:=g,drawn:=d,toks:=tk,os:=os}) :
  wpAny 8e2 A (getAttr? 8e5 (Str.ofString "keys")) Q E {heap:=h,gens:=g,drawn:=d,toks:=t,os:=os}:=by
 have hT:∀ t,Shared.TypeIs {heap:=h,gens:=g,drawn:=d,toks:=t,os:=os} 8e5 "list" := λ_=>⟨_,hx,rfl⟩;have hT0:=hT t;have hT1:=hT (t+1);have f2:=PySem.F.slot_list_getattribute.lookup;have f3:=PySem.F.slot_list_getattribute.bind (Value.ref a);have f5:=list_getattr_none;have f1:=sub_AttributeError;unfold getAttr? getAttrBy?;wp_walk
 refine codeAny_call_builtin PySem.F.slot_list_getattribute.plain PySem.F.entry_list_ga (PySem.F.slot_list_getattribute.check _ _ _ _ (Value.ref a) [Value.str (Str.ofString "keys") t] [] _ hT1 (PySem.F.args_list_getattribute_2 _ _) (ZK hx (by simp[hA]) λh' tk e he=>?_));obtain⟨t',u',hg⟩:=he.there;have hTe:Shared.TypeIs {heap:=h',gens:=g,drawn:=d,toks:=tk,os:=os} (.ref e) "AttributeError" := ⟨_,hg,rfl⟩;have q':=q h' tk he.keeps;show wpAny _ _ (getattributeRaised _ _ _ _ _ _ _) _ _ _;unfold getattributeRaised;wp_walk
 all_goals exact q'
end
theorem MG:entryFor table "dict.update.loop" = some Builtin.«dict.update.loop» := entryFor_of_tree (by rfl)
theorem zo:plainId "dict.update.loop" = true:=by decide +kernel
section
variable{P:Program}{w:World}{A:Around}{R:Result->Shared->Prop}{KK:Type}[DecidableEq KK]{knd:KeyKind P w KK}
theorem stored_new{kvs:List (KK×Value)}{k:KK}{v:Value}(h:k∉kvs.map (·.1)):stored kvs k v=kvs++[(k,v)]:=by
 rw[stored.eq_1,if_neg];intro z;obtain⟨p,hp,e⟩:=List.any_eq_true.mp z;exact h (aqf.mpr ⟨p,hp,of_decide_eq_true e⟩)
theorem MH{h h':Heap}{D:Addr}{kvs:List (KK×Value)}(d:Heap.DictOf knd h D kvs)(k:∀ o,h.get? D=some o->h'.get? D=some o):Heap.DictOf knd h' D kvs:=by
 obtain⟨o,es,ep,h1,h2⟩:=d;exact⟨o,es,ep,k o h1,h2⟩
theorem Su{I l D:Addr}{items:Array Value}(hA:A.in1.handled=none)(hne:l≠I)(hDI:D≠I)(hDl:D≠l)(kv:List (KK×Value))(hn:kv.length=items.size)(nd:(kv.map (·.1)).Nodup)(hz:kv.length<=sizeLine) :
  ∀(k i:Nat) (s:Shared),items.size-i=k->i<=items.size->(s.heap.IsListIter I l i/\s.heap.IsList l items)->Heap.DictOf knd s.heap D (kv.take i) ->
  (∀ j (hj:j<kv.length),∃(b:Addr) (o:Obj) (kx:Value) (n:Nat),items[j]?=some (.ref b)/\s.heap.get? b=some o/\o.cls=.type "tuple" /\ o.data=.seq #[kx,kv[j].2] n/\knd.is kv[j].1 kx=true/\b≠D/\b≠I) ->
  (∀(h':Heap) (tk:Nat),Heap.DictOf knd h' D kv->(∀ b o,b≠D->b≠I->s.heap.get? b=some o->h'.get? b=some o)->R (.ok (.ret .none)) {s with heap:=h',toks:=tk}) ->
  codeAny 8e2 A (.builtin "dict.update.loop" ⟨[.ref D,.ref I,.int (i:Int) 0,.none],[]⟩) R s:=by
 have W:=Walks.list (prog:=P) (w:=w) hA I l hne items;intro k;induction k with
 | zero =>
  intro i s hk hi st hS ht q;have e:i=items.size:=by omega
  subst e;refine codeAny_builtin MG ?_;rw[Around.under_plainId zo _];show wpAny _ A.in1 (pyNext (.ref I) >>= _) _ _ s;refine wpAny_bind (W.done s _ _ st λh' tk hm=>?_);rw[<-hn,apX (apV _)]at hS;wp_walk
  exact q h' tk (MH hS λo z=>hm D o (by simpa using hDI) z) λb o _ nb z=>hm b o (by simpa using nb) z
 | succ k ih =>
  intro i s hk hi st hS ht q;have hlt:i<items.size:=by omega
  refine codeAny_builtin MG ?_;rw[Around.under_plainId zo _];show wpAny _ A.in1 (pyNext (.ref I) >>= _) _ _ s;refine wpAny_bind (W.item i s _ _ hlt st λv h' tk hP st' hm=>?_);obtain⟨b,o,kx,n,hb,ho,hc,hd,hk1,nb1,nb2⟩:=ht i 1e1;have hv:v=.ref b:=by
   have hP:items[i]?=some v:=hP;rw[hb]at hP;exact(aqh hP).symm
  subst hv;have ho':=hm b o (by simpa using nb2) ho;have hT:Shared.TypeIs {s with heap:=h',toks:=tk} (.ref b) "tuple" := ⟨_,ho',hc⟩;show wpAny _ A.in1 (holding [Value.ref b] _ >>= _) _ _ _;refine wpAny_bind (wpAny_holding (wpAny_bind (wpAny_tryCatch ?_)));unfold Builtin.Dict.pairItems;refine wpAny_bind (wpAny_typeOf hT ?_);rw[if_pos 2e6];refine wpAny_bind (wpAny_seqItems ho' hd 8e9);show wpAny _ A.in1 (holding [kx,kv[i].2] (dictSet D kx kv[i].2)) _ _ _;have hS':=MH (h':=h') hS λo z=>hm D o (by simpa using hDI) z;have hi':i<kv.length:=by omega
  have tk1:kv.take (i+1)=kv.take i++[kv[i]]:=aql hi';have nk:kv[i].1∉(kv.take i).map (·.1):=λg=>by
   have h1:((kv.take i).map (·.1)++[kv[i].1]).Nodup:=by
    have e9:(kv.take (i+1)).map (·.1)=(kv.take i).map (·.1)++[kv[i].1]:=by
     rw[tk1,ap3];rfl
    rw[<-e9];exact((List.take_sublist _ _).map _).nodup nd
   exact(aqz.mp h1).2.2 _ g _ (apU.mpr rfl) rfl
  refine wpAny_holding (wpAny_dictSet_pairs hk1 hS' (λh2 dd sb=>?_) (by rw[ap6];omega));rw[stored_new nk,show kv.take i++[(kv[i].1,kv[i].2)]=kv.take (i+1) from tk1.symm]at dd;refine wpAny_pure ⟨plainId_quiet zo _,?_⟩;show codeAny 8e2 A (.builtin "dict.update.loop" ⟨[.ref D,.ref I,.int ((i+1:Nat):Int) 0,.none],[]⟩) R _;have keep:∀ b o,b≠D->b≠I->s.heap.get? b=some o->h2.get? b=some o:=λb o n1 n2 z=>(sb.2 b n1).trans (hm b o (by simpa using n2) z);refine ih (i+1) _ 1e1 hlt (W.frame _ h' h2 st' λb hb' o z=>?_) dd (λj hj=>?_) λh3 tk3 d3 k3=>q h3 tk3 d3 λb o n1 n2 z=>k3 b o n1 n2 (keep b o n1 n2 z)
  ·rw[sb.2 b (λe:b=D=>?_)]
   ·exact z
   ·rw[e]at hb'
    rcases aqi.mp hb' with g|g
    ·exact hDI g
    ·exact hDl (apU.mp g)
  ·obtain⟨b,o,kx,n,x1,x2,x3,x4,x5,x6,x7⟩:=ht j hj
   exact⟨b,o,kx,n,x1,keep b o x6 x7 x2,x3,x4,x5,x6,x7⟩
end
section
variable{P:Program}{w:World}{A:Around}{E:Value->Shared->Prop}{KK:Type}[DecidableEq KK]{knd:KeyKind P w KK}
theorem Sv{s:Shared}{l:Addr}{items:Array Value}{nl:Nat}{Q:Value->Shared->Prop}(hA:A.handled=none)(hl:s.heap.get? l=some {cls:=.type "list",data:=.seq items nl})(kv:List (KK×Value))(hn:kv.length=items.size)(nd:(kv.map (·.1)).Nodup)(hz:kv.length<=sizeLine)
  (ht:∀ j (hj:j<kv.length),∃(b:Addr) (o:Obj) (kx:Value) (n:Nat),items[j]?=some (.ref b)/\s.heap.get? b=some o/\o.cls=.type "tuple" /\ o.data=.seq #[kx,kv[j].2] n/\knd.is kv[j].1 kx=true)
  (q:∀(h':Heap) (tk:Nat),Heap.DictOf knd h' s.heap.objs.size kv->(∀ b o,s.heap.get? b=some o->h'.get? b=some o)->Q (.ref s.heap.objs.size) {s with heap:=h',toks:=tk}) :
  wpAny 8e2 A (call (.type "dict") [.ref l]) Q E s:=by
 obtain⟨h0,g,d,t,os⟩:=s;dsimp only at hl ht q;refine callType_codes PySem.F.kt_called_dict (PySem.F.kt_typeCall_dict_1 _) PySem.F.entry_dict_init (kt_code_dict_new (Q₁:=λv u=>v=.ref h0.objs.size/\u={heap:=h0.push {cls:=.type "dict",data:=.dict #[]},gens:=g,drawn:=d,toks:=t,os:=os}) _ ⟨rfl,rfl⟩) λobj s1 ⟨e1,e2⟩=>?_;subst e1 e2;have aaH:=Heap.DictOf.new (knd:=knd) h0;have hp:∀ b o,h0.get? b=some o->(h0.push {cls:=.type "dict",data:=.dict #[]}).get? b=some o:=λb o z=>apY _ z;have hT:=aaH.typeIs (s:={heap:=h0.push {cls:=.type "dict",data:=.dict #[]},gens:=g,drawn:=d,toks:=t,os:=os});have hTl:Shared.TypeIs {heap:=h0.push {cls:=.type "dict",data:=.dict #[]},gens:=g,drawn:=d,toks:=t,os:=os} (.ref l) "list" := ⟨_,hp _ _ hl,rfl⟩;refine⟨hT,PySem.F.args_dict_init_2 _ _,?_⟩;unfold Builtin.«dict.__init__» Builtin.Dict.selfAndRest;refine wpAny_bind (wpAny_bind (wpAny_notOrdered_dict hT ?_));show wpAny _ _ (pure _) _ _ _;refine wpAny_pure ?_;show wpAny _ _ (Builtin.Dict.updateFrom _ _ _ _ _) _ _ _;unfold Builtin.Dict.updateFrom;refine wpAny_bind (wpAny_typeOf hTl ?_);dsimp only;rw[if_pos 2e6];refine wpAny_bind (VF (hp _ _ hl) (by simp[hA]) λh1 tk1 k1=>?_)
 try dsimp only
 rw[if_pos (show(none:Option Value).isNone=true from rfl)];refine wpAny_bind (wpAny_rule ?_);have hl1:h1.IsList l items:=⟨_,k1 _ _ (hp _ _ hl),rfl,_,rfl⟩;refine wpAny_bind (wpAny_pyIter_list hl1 ?_);refine wpAny_pure ⟨plainId_quiet zo _,?_⟩;have l0:l<h0.objs.size:=ap2 hl;obtain⟨oD,esD,epD,gD,aeu⟩:=aaH;have gD1:=k1 _ _ gD;have s1:h0.objs.size<h1.objs.size:=ap2 gD1;have up:∀ b o,h0.get? b=some o->(h1.push {cls:=Value.type "list_iterator",data:=Data.fields #[Value.ref l,Value.int 0 0]}).get? b=some o:=λb o z=>apY _ (k1 _ _ (hp _ _ z));refine Su (knd:=knd) (I:=h1.objs.size) (l:=l) (D:=h0.objs.size) (items:=items) (by simp[hA]) (aqb (Nat.lt_trans l0 s1)) (aqb s1) (aq3 l0) kv hn nd hz (items.size-0) 0 _ rfl (aqu _) ⟨⟨_,aqr _ rfl,rfl,rfl⟩,hl1.push _⟩ ?_ (λj hj=>?_) λh' tk dd kk=>?_
 ·exact⟨oD,esD,epD,apY _ gD1,aeu⟩
 ·obtain⟨b,o,kx,n,x1,x2,x3,x4,x5⟩:=ht j hj
  have b0:=ap2 x2;exact⟨b,o,kx,n,x1,up _ _ x2,x3,x4,x5,aqb b0,aqb (Nat.lt_trans b0 s1)⟩
 ·refine⟨rfl,q h' tk dd λb o z=>?_⟩
  have b0:=ap2 z;exact kk b o (aqb b0) (aqb (Nat.lt_trans b0 s1)) (up _ _ z)
end
section
variable{P:Program}{w:World}{A:Around}{E:Value->Shared->Prop}
end
section
variable{X:Cx}
theorem Rn{pins:List (Addr×Obj)}{σ:St}{H:Hp}{s:Shared}(I:Inv X pins σ H s):∀(xs:List Addr) (kvs:List (Key×V)),Paired (λx (p:Key×V)=>H x=some (.tup [kV p.1,p.2])) xs kvs ->
  ∃ vs:List (Key×Value),KV kvs vs/\vs.map (·.1)=kvs.map (·.1)/\vs.length=xs.length/\∀ j (h1:j<vs.length) (h2:j<xs.length),∃(o:Obj) (kx:Value) (n:Nat),s.heap.get? xs[j]=some o/\o.cls=.type "tuple" /\ o.data=.seq #[kx,vs[j].2] n/\(cT X.prog X.w).is vs[j].1 kx=true
 | _,_,.nil=>⟨[],.nil,rfl,rfl,λj h=>absurd h (arF _)⟩
 | x::xs,p::kvs,.cons h t=>by
  obtain⟨vs,r1,r2,r3,r4⟩:=Rn I xs kvs t;obtain⟨its,rv,⟨o,ho,hc,n,hd⟩,_⟩:=I.tuple (SqT.of h);obtain⟨u,v,rfl,ru,rv'⟩:=Xb rv;refine⟨(p.1,v)::vs,.cons ⟨rfl,rv'⟩ r1,by rw[aqd,aqd,r2],by rw[aqo,aqo,r3],λj h1 h2=>?_⟩;cases j with
  | zero=>exact⟨o,u,n,ho,hc,hd,G4 ru⟩
  | succ j=>exact r4 j (Nat.lt_of_succ_lt_succ h1) (Nat.lt_of_succ_lt_succ h2)
theorem Ro:∀ {xs:List Addr} {its:List Value},Vals (xs.map V.ref) its->its=xs.map Value.ref
 | [],_,.nil=>rfl
 | x::xs,_,.cons r t=>by
  cases (show _=Value.ref x from r);rw[aqd,<-Ro t]
noncomputable def abO:List V->Hp->VK->Prop:=λvs H Q=>∃(p:Addr) (xs:List Addr) (kvs:List (Key×V)),vs=[.ref p]/\H p=some (.lst (xs.map V.ref))/\Paired (λx (p:Key×V)=>H x=some (.tup [kV p.1,p.2])) xs kvs/\(kvs.map (·.1)).Nodup/\∀ l:Addr,H l=none->Q (.ref l) (upd H l 3e0)
theorem Bp(hc:X.calm=true):zk X (.type "dict") abO:=by
 rintro pins s σ H xs us Q I r ⟨p,xs,kvs,rfl,hp,hpr,nd,q⟩;obtain⟨u,rfl,ru⟩:=r.one;cases (show u=Value.ref p from ru);obtain⟨its,n,rv,ho,hz⟩:=I.lst hp;obtain⟨vs,r1,r2,r3,r4⟩:=Rn I xs kvs hpr;have ei:=Ro rv;subst ei;rw[apR]at hz;have hl:kvs.length=vs.length:=by
  have:=congrArg List.length r2
  simpa using this.symm
 refine Sv (knd:=cT X.prog X.w) (I.ok.hd hc) ho vs (by simp[r3]) (by rw[r2];exact nd) 1e1 (λj hj=>?_) λh' tk dd k=>?_
 ·obtain⟨o,kx,n,x1,x2,x3,x4⟩:=r4 j hj 1e1
  exact⟨xs[j],o,kx,n,by simp[show j<xs.length by omega],x1,x2,x3,x4⟩
 ·refine⟨.ref s.heap.objs.size,_,I.laid (a:=s.heap.objs.size) (o:=.dK kvs) (t':=tk) k (apV _) ?_,rfl,q _ (I.hok.fresh (apV _))⟩
  exact Uc 1e1 (beq_eq_false_iff_ne.mpr (aqe (aqb I.big))) r1 dd
end
noncomputable def Uj(K:W.Frag)(Dc:Addr)(ts:TS)(D:Ends):St->XK:=λσ c _ H=>∃ C cd,c=.ref C/\jL K C cd/\cd.mro.contains (.ref Dc)=true/\ts D σ H
noncomputable def aev(K:W.Frag)(Dc:Addr)(tb:(St->XK)->TS)(ts:TS):TS:=λD σ H=>tb (Uj K Dc ts D) D σ H
section
variable{X:Cx}
theorem ZL{body Sq:List Stmt}{b₀:Stmt}{x:Str}{np hpos pos:Pos}{Dc:Addr}{cdD:ClassData}{tb:(St->XK)->TS}{ts:TS}(hst:X.stack=X.env::X.outer)(hfr:X.env.frame=some X.env.locals)(hg:Gl X x)(hm:X.mg x=some (.ref Dc))
  (hD:jL X.K Dc cdD)
  (hb:∀(pins:List (Addr×Obj)) (E:Value->Shared->Prop) (EK:St->XK),gC (CXE X.prog X.w) (X.G5 pins E) EK->PSs (X.G5 pins E) body (tb EK))
  (hs:∀ ea,PSs (X.qb ea) (b₀::Sq) ts) (hdb:(x == ("__debug__" : Str))=false:=by decide) :
  PS X (.Try body [.ExceptHandler (some (.Name x np)) none (b₀::Sq) hpos] [] [] pos) (aev X.K Dc tb ts):=by
 intro pins s σ H D I h;refine wpAny_Try_except ?_;refine wpAny_mono (hb pins (λe s₁=>∃ σ' H1 sc,Inv X pins σ' H1 sc/\CXE X.prog X.w X.stack H1 sc (Uj X.K Dc ts D σ') e s₁) (Uj X.K Dc ts D)
  (λO5 σ' H1 sc e s' J q=>⟨σ',H1,sc,J.pU,q⟩) [] s σ H D (I.G5 _) h) (λfl s1 q=>?_) λe s1 q=>?_
 ·cases fl with
  | next =>
   obtain⟨σ',H',J,q⟩:=q;exact wpAny_execs_nil ⟨σ',H',J.pU,q⟩
  | brk=>obtain⟨σ',H',J,q⟩:=q;exact⟨σ',H',J.pU,q⟩
  | cont=>obtain⟨σ',H',J,q⟩:=q;exact⟨σ',H',J.pU,q⟩
  | ret u=>obtain⟨v,σ',H',J,r,q⟩:=q;exact⟨v,σ',H',J.pU,r,q⟩
 ·obtain⟨σ',H1,sc,J,ea,Cv,T,od,fs,sl,H',rfl,l,C,cd,ec,xc,hmr,q⟩:=q
  cases ec;have hA:X.A.frames=some (X.env::X.outer):=by rw[J.ok.frames,hst]
  have hF:s1.heap.FunFrames X.base (X.env::X.outer):=by rw[<-hst];exact l.frames J
  have st:∀(m:Heap) (tk:Nat),Kept (eW X.stack) [ea,T] s1.heap m->Inv X pins σ' H' {s1 with heap:=m,toks:=tk}:=λm tk k=>by
   obtain⟨un,hok⟩:=l.on (t':=s1.toks) J k;exact J.Mi l.os un hok l.bare λb z=>absurd z 2e5
  refine JX hA hF hfr l.at_ l.trail λm T' oc tsx z1 z2 z3 z4 z5=>?_;have Te:T'≠ea:=aq3 (ap9 (ap2 l.at_) z1);have f1:(fs.setIfInBounds 1 (Value.ref T'))[1]?=some (.ref T'):=by
   have:=l.trail.size
   simp[this]
  have k1:Kept (eW X.stack) [ea,T] s1.heap m:=by rw[hst];exact z2
  refine oy (s:={s1 with heap:=m}) z3 f1 Te z4 (aqj.mp z5).1 λm' q1 q2 q3=>?_;have nT:∀ b o,s1.heap.get? b=some o->b≠T':=λb o q=>aqb (ap9 (ap2 q) z1);have k2:Kept (eW X.stack) [ea,T] s1.heap m':=⟨λb o q hb hx=>q1 b o (nT b o q) (k1.plain b o q hb hx),λb o q hb hx=>by
   obtain⟨sm,r⟩:=k1.frame b o q hb hx;exact⟨sm,q1 b _ (nT b o q) r⟩⟩
  have J2:=st m' s1.toks k2;refine wpAny_handleBy_cons (codeAny_handlers_test ?_) 1e0;refine tV (X:=X.qb ea) (J2.qb ea) hg hm ?_ hdb;refine GF xc hD J2.kIn q3 ?_;rw[hmr];refine codeAny_handlers_suite ?_;cases q2 with
  | @some _ oc2 ts2 d2 sm2 y1 y2 y3 y4 =>
  refine oy (s:={s1 with heap:=m'}) q3 y1 y2 y3 (aqj.mp y4).1 λm3 r1 r2 r3=>?_;have k3:Kept (eW X.stack) [ea,T] s1.heap m3:=⟨λb o q hb hx=>r1 b o (nT b o q) (k2.plain b o q hb hx),λb o q hb hx=>by
   obtain⟨sm,r⟩:=k2.frame b o q hb hx;exact⟨sm,r1 b _ (nT b o q) r⟩⟩
  have J3:=st m3 s1.toks k3;refine wpAny_mono (hs ea pins _ _ _ D (J3.qb ea) q) (λfl s6 w=>?_) λ_ _ z=>False.elim z;cases fl with
  | next=>obtain⟨σ6,H6,J6,w⟩:=w;exact⟨_,_,J6.uncaught J.ok,w⟩
  | brk=>obtain⟨σ6,H6,J6,w⟩:=w;exact⟨_,_,J6.uncaught J.ok,w⟩
  | cont=>obtain⟨σ6,H6,J6,w⟩:=w;exact⟨_,_,J6.uncaught J.ok,w⟩
  | ret u=>obtain⟨v,σ6,H6,J6,r,w⟩:=w;exact⟨v,_,_,J6.uncaught J.ok,r,w⟩
end
inductive Vl where
 | a (v:V)
 | l (xs:List Vl)
 | t (xs:List Vl)
noncomputable def Rp(H:Hp):Nat->V->Vl->Prop
 | 0,v,.a x=>v=x/\mS x=true
 | 0,_,.l _=>False
 | 0,_,.t _=>False
 | _+1,v,.a x=>v=x/\mS x=true
 | n+1,v,.l xs=>∃ p us,v=.ref p/\H p=some (.lst us)/\us.length=xs.length/\∀(i:Nat) (u:V) (x:Vl),us[i]?=some u->xs[i]?=some x->Rp H n u x
 | n+1,v,.t xs=>∃ p us,v=.ref p/\H p=some (.tup us)/\us.length=xs.length/\∀(i:Nat) (u:V) (x:Vl),us[i]?=some u->xs[i]?=some x->Rp H n u x
noncomputable def eqD:Nat->Vl->Vl->Bool
 | _,.a x,.a y=>eqV x y
 | n+1,.l xs,.l ys=>(List.range xs.length).all (λi=>match xs[i]?,ys[i]? with|some x,some y=>eqD n x y|_,_=>true)&&xs.length == ys.length
 | n+1,.t xs,.t ys=>(List.range xs.length).all (λi=>match xs[i]?,ys[i]? with|some x,some y=>eqD n x y|_,_=>true)&&xs.length == ys.length
 | _,_,_=>false
theorem Rp.GH{H:Hp}{n:Nat}{v x:V}(h:Rp H n v (.a x)):v=x/\mS x=true:=by cases n<;>exact h
theorem Pd{n:Nat}{x y:V}:eqD n (.a x) (.a y)=eqV x y:=by cases n<;>rfl
theorem X2{H:Hp}{n:Nat}{us:List V}{xs ys:List Vl}(lx:us.length=xs.length)(ly:us.length=ys.length)(h:∀(i:Nat) (x y:Vl),xs[i]?=some x->ys[i]?=some y->eqD n x y=true) :
  ((List.range xs.length).all (λi=>match xs[i]?,ys[i]? with|some x,some y=>eqD n x y|_,_=>true)&&xs.length == ys.length)=true:=by
 rw[arz];refine⟨aq5.mpr λi hi=>?_,beq_iff_eq.mpr 1e1⟩;have hi:=aq6.mp hi;have e1:xs[i]?=some xs[i]:=apT hi;have e2:ys[i]?=some (ys[i]' 1e1):=apT 1e1;simp only[e1,e2];exact h i _ _ e1 e2
theorem yu{H:Hp}:∀ {n:Nat} {v:V} {a b:Vl},Rp H n v a->Rp H n v b->eqD n a b=true:=by
 intro n;induction n with
 | zero =>
  intro v a b ha hb;cases a with
  | a x =>
   cases b with
   | a y =>
    obtain⟨rfl,fx⟩:=ha.GH;obtain⟨rfl,_⟩:=hb.GH;rw[Pd];exact XZ fx
   | l ys=>exact hb.elim
   | t ys=>exact hb.elim
  | l xs=>exact ha.elim
  | t xs=>exact ha.elim
 | succ n ih =>
  intro v a b ha hb;cases a with
  | a x =>
   obtain⟨rfl,fx⟩:=ha.GH;cases b with
   | a y =>
    obtain⟨rfl,_⟩:=hb.GH;rw[Pd];exact XZ fx
   | l ys =>
    obtain⟨p,us,rfl,_⟩:=hb;exact absurd 4e0 ap0
   | t ys =>
    obtain⟨p,us,rfl,_⟩:=hb;exact absurd 4e0 ap0
  | l xs =>
   obtain⟨p,us,rfl,hp,hl,hi⟩:=ha;cases b with
   | a y =>
    obtain⟨e,fy⟩:=hb.GH;rw[<-e]at fy;exact absurd (show false=true from fy) ap0
   | l ys =>
    obtain⟨q,ws,e,hq,ml,mi⟩:=hb;cases e;rw[hp]at hq;cases hq;exact X2 (H:=H) hl ml λi x y e1 e2=>by
     have hiu:i<us.length:=(by rw[hl];exact(apS.mp e1).1);exact ih (hi i _ x (apT hiu) e1) (mi i _ y (apT hiu) e2)
   | t ys =>
    obtain⟨q,ws,e,hq,ml,mi⟩:=hb;cases e;rw[hp]at hq;cases hq
  | t xs =>
   obtain⟨p,us,rfl,hp,hl,hi⟩:=ha;cases b with
   | a y =>
    obtain⟨e,fy⟩:=hb.GH;rw[<-e]at fy;exact absurd (show false=true from fy) ap0
   | t ys =>
    obtain⟨q,ws,e,hq,ml,mi⟩:=hb;cases e;rw[hp]at hq;cases hq;exact X2 (H:=H) hl ml λi x y e1 e2=>by
     have hiu:i<us.length:=(by rw[hl];exact(apS.mp e1).1);exact ih (hi i _ x (apT hiu) e1) (mi i _ y (apT hiu) e2)
   | l ys =>
    obtain⟨q,ws,e,hq,ml,mi⟩:=hb;cases e;rw[hp]at hq;cases hq
structure RcB(A:Around)(s:Shared)(u v:Value)(b:Bool):Prop where
 eq:SeqAt.RcAt A s u v b
 ne:SeqAt.RcNeAt A s u v (!b)
theorem MI{A:Around}{s:Shared}{y x:V}{u v:Value}(ry:RelV y u)(rx:RelV x v)(fy:mS y=true)(fx:mS x=true):RcB A s u v (eqV y x):=by
 cases y with
 | non =>
  cases ry;cases x with
  | non=>cases rx;exact⟨.none_none ,.none_none ⟩
  | bl b=>cases rx;exact⟨.none_bool b,.none_bool b⟩
  | int b=>obtain⟨t,rfl⟩:=rx;exact⟨.none_int b t,.none_int b t⟩
  | str b=>obtain⟨t,rfl⟩:=rx;exact⟨.none_str b t,.none_str b t⟩
  | _=>exact absurd 4e0 ap0
 | bl a =>
  cases ry;cases x with
  | non=>cases rx;exact⟨.bool_none a,.bool_none a⟩
  | bl b=>cases rx;exact⟨.bool_bool a b,.bool_bool a b⟩
  | int b=>obtain⟨t,rfl⟩:=rx;exact⟨.bool_int a b t,.bool_int a b t⟩
  | str b=>obtain⟨t,rfl⟩:=rx;exact⟨.bool_str a b t,.bool_str a b t⟩
  | _=>exact absurd 4e0 ap0
 | int a =>
  obtain⟨t',rfl⟩:=ry;cases x with
  | non=>cases rx;exact⟨.int_none a t',.int_none a t'⟩
  | bl b=>cases rx;exact⟨.int_bool a t' b,.int_bool a t' b⟩
  | int b=>obtain⟨t,rfl⟩:=rx;exact⟨.int_int a t' b t,.int_int a t' b t⟩
  | str b=>obtain⟨t,rfl⟩:=rx;exact⟨.int_str a t' b t,.int_str a t' b t⟩
  | _=>exact absurd 4e0 ap0
 | str a =>
  obtain⟨t',rfl⟩:=ry;cases x with
  | non=>cases rx;exact⟨.str_none a t',.str_none a t'⟩
  | bl b=>cases rx;exact⟨.str_bool a t' b,.str_bool a t' b⟩
  | int b=>obtain⟨t,rfl⟩:=rx;exact⟨.str_int a t' b t,.str_int a t' b t⟩
  | str b=>obtain⟨t,rfl⟩:=rx;exact⟨.str_str a t' b t,.str_str a t' b t⟩
  | _=>exact absurd 4e0 ap0
 | _=>exact absurd (show false=true from fy) ap0
section
variable{X:Cx}{pins:List (Addr×Obj)}{σ:St}{H:Hp}{s:Shared}
theorem Rq{A:Around}{x:V}{u:Value}{l:Addr}{items:Array Value}(rx:RelV x u)(fx:mS x=true)(hl:s.heap.IsList l items)(hu:A.units<cLine):RcB A s u (.ref l) false/\RcB A s (.ref l) u false/\SeqAt.EqAt A s u (.ref l) false/\SeqAt.EqAt A s (.ref l) u false:=by
 cases x with
 | non=>cases rx;exact⟨⟨.none_list hl hu,.none_list hl hu⟩,⟨.list_none hl hu,.list_none hl hu⟩,.none_list hl hu,.list_none hl hu⟩
 | bl b=>cases rx;exact⟨⟨.bool_list _ hl hu,.bool_list _ hl hu⟩,⟨.list_bool _ hl hu,.list_bool _ hl hu⟩,.bool_list _ hl hu,.list_bool _ hl hu⟩
 | int n=>obtain⟨t,rfl⟩:=rx;exact⟨⟨.int_list _ _ hl hu,.int_list _ _ hl hu⟩,⟨.list_int _ _ hl hu,.list_int _ _ hl hu⟩,.int_list _ _ hl hu,.list_int _ _ hl hu⟩
 | str z=>obtain⟨t,rfl⟩:=rx;exact⟨⟨.str_list _ _ hl hu,.str_list _ _ hl hu⟩,⟨.list_str _ _ hl hu,.list_str _ _ hl hu⟩,.str_list _ _ hl hu,.list_str _ _ hl hu⟩
 | _=>exact absurd 4e0 ap0
theorem Rr{A:Around}{x:V}{u:Value}{l:Addr}{items:Array Value}(rx:RelV x u)(fx:mS x=true)(hl:s.heap.IsTuple l items)(hu:A.units<cLine):RcB A s u (.ref l) false/\RcB A s (.ref l) u false/\SeqAt.EqAt A s u (.ref l) false/\SeqAt.EqAt A s (.ref l) u false:=by
 cases x with
 | non=>cases rx;exact⟨⟨.none_tuple hl hu,.none_tuple hl hu⟩,⟨.tuple_none hl hu,.tuple_none hl hu⟩,.none_tuple hl hu,.tuple_none hl hu⟩
 | bl b=>cases rx;exact⟨⟨.bool_tuple _ hl hu,.bool_tuple _ hl hu⟩,⟨.tuple_bool _ hl hu,.tuple_bool _ hl hu⟩,.bool_tuple _ hl hu,.tuple_bool _ hl hu⟩
 | int n=>obtain⟨t,rfl⟩:=rx;exact⟨⟨.int_tuple _ _ hl hu,.int_tuple _ _ hl hu⟩,⟨.tuple_int _ _ hl hu,.tuple_int _ _ hl hu⟩,.int_tuple _ _ hl hu,.tuple_int _ _ hl hu⟩
 | str z=>obtain⟨t,rfl⟩:=rx;exact⟨⟨.str_tuple _ _ hl hu,.str_tuple _ _ hl hu⟩,⟨.tuple_str _ _ hl hu,.tuple_str _ _ hl hu⟩,.str_tuple _ _ hl hu,.tuple_str _ _ hl hu⟩
 | _=>exact absurd 4e0 ap0
theorem lst_is(I:Inv X pins σ H s){p:Addr}{us:List V}(h:H p=some (.lst us)):∃ vs,Vals us vs/\s.heap.IsList p vs.toArray:=by
 obtain⟨vs,r,⟨o,n,e,c,_,g⟩,_⟩:=I.list (SqL.of h);exact⟨vs,r,o,e,c,n,g⟩
theorem tup_is(I:Inv X pins σ H s){p:Addr}{us:List V}(h:H p=some (.tup us)):∃ vs,Vals us vs/\s.heap.IsTuple p vs.toArray:=by
 obtain⟨vs,r,t,_⟩:=I.tuple (SqT.of h);exact⟨vs,r,t⟩
theorem rcG(I:Inv X pins σ H s):∀ {n:Nat} {x y:V} {a b:Vl},Rp H n x a->Rp H n y b->∀ {A:Around} {u v:Value},RelV x u->RelV y v->A.units+n<cLine ->
  SeqAt.EqAt A s u v (eqD n a b)/\(¬((∃ z,a=.a z)/\∃ z,b=.a z)->RcB A s u v (eqD n a b)):=by
 intro n;induction n with
 | zero =>
  intro x y a b ha hb A u v rx ry hu;cases a with
  | a z =>
   cases b with
   | a z' =>
    obtain⟨rfl,fx⟩:=ha.GH;obtain⟨rfl,fy⟩:=hb.GH;rw[Pd];exact⟨O9 rx ry fx fy,λh=>(h ⟨⟨_,rfl⟩,_,rfl⟩).elim⟩
   | _=>exact hb.elim
  | _=>exact ha.elim
 | succ n ih =>
  intro x y a b ha hb A u v rx ry hu;have hu0:A.units<cLine:=by omega
  cases a with
  | a z =>
   obtain⟨rfl,fx⟩:=ha.GH;cases b with
   | a z' =>
    obtain⟨rfl,fy⟩:=hb.GH;rw[Pd];exact⟨O9 rx ry fx fy,λh=>(h ⟨⟨_,rfl⟩,_,rfl⟩).elim⟩
   | l ys =>
    obtain⟨q,ws,rfl,hq,_⟩:=hb;obtain⟨vs,_,hl⟩:=lst_is I hq;cases ry;obtain⟨h1,_,h3,_⟩:=Rq rx fx hl hu0;exact⟨h3,λ_=>h1⟩
   | t ys =>
    obtain⟨q,ws,rfl,hq,_⟩:=hb;obtain⟨vs,_,hl⟩:=tup_is I hq;cases ry;obtain⟨h1,_,h3,_⟩:=Rr rx fx hl hu0;exact⟨h3,λ_=>h1⟩
  | l xs =>
   have ha':=ha;obtain⟨p,us,rfl,hp,lx,hx⟩:=ha;obtain⟨vs,r1,hl⟩:=lst_is I hp;cases rx;cases b with
   | a z' =>
    obtain⟨rfl,fy⟩:=hb.GH;obtain⟨_,h2,_,h4⟩:=Rq ry fy hl hu0;exact⟨h4,λ_=>h2⟩
   | l ys =>
    have hb':=hb;obtain⟨q,ws,rfl,hq,ly,hy⟩:=hb;obtain⟨vs2,r2,hl2⟩:=lst_is I hq;cases ry;have l1:=r1.length;have l2:=r2.length;have rc:RcB A s 4e7 (.ref q) (eqD (n+1) (.l xs) (.l ys)):=by
     by_cases hs:xs.length=ys.length
     ·have he:∀ j (h1:j<vs.toArray.size) (h2:j<vs2.toArray.size),SeqAt.EqAt A.in1 s vs.toArray[j] vs2.toArray[j] (match xs[j]?,ys[j]? with|some x,some y=>eqD n x y|_,_=>true):=λj h1 h2=>by
       simp only[ap5]at h1 h2;obtain⟨w1,z1,rz1⟩:=r1.get (i:=j) (x:=us[j]' 1e1) (apT 1e1);obtain⟨w2,z2,rz2⟩:=r2.get (i:=j) (x:=ws[j]' 1e1) (apT 1e1);have a1:vs.toArray[j]=w1:=by
        have:=(apS.mp z1).2
        simpa using this
       have a2:vs2.toArray[j]=w2:=by
        have:=(apS.mp z2).2
        simpa using this
       rw[a1,a2];have e1:xs[j]?=some (xs[j]' 1e1):=apT 1e1;have e2:ys[j]?=some (ys[j]' 1e1):=apT 1e1;simp only[e1,e2];exact(ih (hx j _ _ (apT 1e1) e1) (hy j _ _ (apT 1e1) e2) rz1 rz2 (by rw[Around.in1_units];omega)).1
      have e:eqD (n+1) (.l xs) (.l ys)=(List.range vs.toArray.size).all (λi=>match xs[i]?,ys[i]? with|some x,some y=>eqD n x y|_,_=>true):=by
       show(_&&_)=_;rw[beq_iff_eq.mpr hs,Bool.and_true];simp only[ap5];rw[show vs.length=xs.length by omega]
      rw[e];exact⟨.lists hl hl2 (by simp only[ap5];omega) hu0 he,.lists hl hl2 (by simp only[ap5];omega) hu0 he⟩
     ·have e:eqD (n+1) (.l xs) (.l ys)=false:=by
       show(_&&_)=_;rw[beq_eq_false_iff_ne.mpr hs,arK]
      rw[e];exact⟨.lists_lengths hl hl2 (by simp only[ap5,bne_iff_ne,ne_eq];omega) hu0,.lists_lengths hl hl2 (by simp only[ap5,bne_iff_ne,ne_eq];omega) hu0⟩
    refine⟨?_,λ_=>rc⟩;by_cases e:p=q
    ·subst e
     rw[yu ha' hb'];exact .same _
    ·exact .of_refs e rc.eq
   | t ys =>
    obtain⟨q,ws,rfl,hq,ly,hy⟩:=hb;obtain⟨vs2,r2,hl2⟩:=tup_is I hq;cases ry;have ne:p≠q:=λe=>by rw[e,hq]at hp;cases hp
    exact⟨.of_refs ne (.list_tuple hl hl2 hu0),λ_=>⟨.list_tuple hl hl2 hu0,.list_tuple hl hl2 hu0⟩⟩
  | t xs =>
   have ha':=ha;obtain⟨p,us,rfl,hp,lx,hx⟩:=ha;obtain⟨vs,r1,hl⟩:=tup_is I hp;cases rx;cases b with
   | a z' =>
    obtain⟨rfl,fy⟩:=hb.GH;obtain⟨_,h2,_,h4⟩:=Rr ry fy hl hu0;exact⟨h4,λ_=>h2⟩
   | l ys =>
    obtain⟨q,ws,rfl,hq,ly,hy⟩:=hb;obtain⟨vs2,r2,hl2⟩:=lst_is I hq;cases ry;have ne:p≠q:=λe=>by rw[e,hq]at hp;cases hp
    exact⟨.of_refs ne (.tuple_list hl hl2 hu0),λ_=>⟨.tuple_list hl hl2 hu0,.tuple_list hl hl2 hu0⟩⟩
   | t ys =>
    have hb':=hb;obtain⟨q,ws,rfl,hq,ly,hy⟩:=hb;obtain⟨vs2,r2,hl2⟩:=tup_is I hq;cases ry;have l1:=r1.length;have l2:=r2.length;have he:∀ j (h1:j<vs.toArray.size) (h2:j<vs2.toArray.size),SeqAt.EqAt A.in1 s vs.toArray[j] vs2.toArray[j] (match xs[j]?,ys[j]? with|some x,some y=>eqD n x y|_,_=>true):=λj h1 h2=>by
     simp only[ap5]at h1 h2;obtain⟨w1,z1,rz1⟩:=r1.get (i:=j) (x:=us[j]' 1e1) (apT 1e1);obtain⟨w2,z2,rz2⟩:=r2.get (i:=j) (x:=ws[j]' 1e1) (apT 1e1);have a1:vs.toArray[j]=w1:=by
      have:=(apS.mp z1).2
      simpa using this
     have a2:vs2.toArray[j]=w2:=by
      have:=(apS.mp z2).2
      simpa using this
     rw[a1,a2];have e1:xs[j]?=some (xs[j]' 1e1):=apT 1e1;have e2:ys[j]?=some (ys[j]' 1e1):=apT 1e1;simp only[e1,e2];exact(ih (hx j _ _ (apT 1e1) e1) (hy j _ _ (apT 1e1) e2) rz1 rz2 (by rw[Around.in1_units];omega)).1
    have e:eqD (n+1) (.t xs) (.t ys)=((List.range (min vs.toArray.size vs2.toArray.size)).all (λi=>match xs[i]?,ys[i]? with|some x,some y=>eqD n x y|_,_=>true)&&vs.toArray.size == vs2.toArray.size):=by
     show(_&&_)=_;simp only[ap5];by_cases hs:xs.length=ys.length
     ·rw[show min vs.length vs2.length=xs.length by omega,show(vs.length == vs2.length)=(xs.length == ys.length) by rw[show vs.length=xs.length by omega,show vs2.length=ys.length by omega]]
     ·rw[beq_eq_false_iff_ne.mpr hs,show(vs.length == vs2.length)=false from beq_eq_false_iff_ne.mpr 1e1,arK,arK]
    have rc:RcB A s 4e7 (.ref q) (eqD (n+1) (.t xs) (.t ys)):=by
     rw[e];exact⟨.tuples hl hl2 hu0 he,.tuples hl hl2 hu0 he⟩
    refine⟨?_,λ_=>rc⟩;by_cases e:p=q
    ·subst e
     rw[yu ha' hb'];exact .same _
    ·exact .of_refs e rc.eq
end
noncomputable def apd(n:Nat):R2:=λx y H Q=>∃ a b,Rp H n x a/\Rp H n y b/\Q (.bl (eqD n a b)) H
noncomputable def ape(n:Nat):R2:=λx y H Q=>∃ a b,Rp H n x a/\Rp H n y b/\Q (.bl (!eqD n a b)) H
section
variable{X:Cx}
theorem abP{n:Nat}(hu:X.A.units+n<cLine):OpR X (compareOp .Eq) (apd n):=by
 rintro pins s σ H x y v u Q I rx ry ⟨a,b,ha,hb,q⟩;by_cases h:(∃ z,a=.a z)/\∃ z,b=.a z
 ·obtain⟨⟨z,rfl⟩,z',rfl⟩:=h
  obtain⟨rfl,fx⟩:=ha.GH;obtain⟨rfl,fy⟩:=hb.GH;rw[Pd]at q;exact(MI rx ry fx fy).eq _ _ _ _ ⟨.bl _,H,I,rfl,q⟩
 ·exact((rcG I ha hb rx ry hu).2 h).eq _ _ _ _ ⟨.bl _,H,I,rfl,q⟩
theorem abQ{n:Nat}(hu:X.A.units+n<cLine):OpR X (compareOp .NotEq) (ape n):=by
 rintro pins s σ H x y v u Q I rx ry ⟨a,b,ha,hb,q⟩;by_cases h:(∃ z,a=.a z)/\∃ z,b=.a z
 ·obtain⟨⟨z,rfl⟩,z',rfl⟩:=h
  obtain⟨rfl,fx⟩:=ha.GH;obtain⟨rfl,fy⟩:=hb.GH;rw[Pd]at q;exact(MI rx ry fx fy).ne _ _ _ _ ⟨.bl _,H,I,rfl,q⟩
 ·exact((rcG I ha hb rx ry hu).2 h).ne _ _ _ _ ⟨.bl _,H,I,rfl,q⟩
end
section
variable{X:Cx}{pins:List (Addr×Obj)}{σ:St}{H:Hp}{s:Shared}{d:Addr}{o:Obj}{u:HO}
theorem Inv.adT(I:Inv X pins σ H s)(hd:H d=some (.frz o u))(h0:∀ o u,X.H₀ d≠some (.frz o u))(nt:∀ xs,u≠.tup xs)(no:∀ x,u≠.own x)(nb:∀ ps,u≠.tbl ps):Inv X pins σ (upd H d u) s:=by
 have nn:∀ {b:Addr},H b=none->upd H d u b=none:=λ{b} q=>by
  rw[ah λz=>by rw[z,hd]at q;cases q];exact q
 have ns:∀ {b:Addr} {v:HO},H b=some v->(∀ o w,v≠.frz o w)->upd H d u b=some v:=λ{b v} q n=>by
  rw[ah λz=>n o u (by rw[z,hd]at q;exact(aqh q).symm)];exact q
 refine⟨I.ok,I.os,I.bare,⟨I.base.keep,I.base.slot,λb ob q n e=>nn (I.base.free b ob q n e),I.base.there,λb xs q=>ns (I.base.GA b xs q) (by intro _ _ z;cases z),λb ob w q=>?_,λb ps q=>?_⟩,I.loc,I.cell,nn I.free,λx c q=>nn (I.pL x c q),λp hp=>?_,λa w q=>?_,I.len⟩
 ·have q':=I.base.Ip b ob w q
  rw[ah λz=>h0 ob w (by rw[<-z];exact q)];exact q'
 ·obtain⟨more,q'⟩:=I.base.JS b ps q
  exact⟨more,ns q' (by intro _ _ z;cases z)⟩
 ·obtain⟨p1,p2,p3⟩:=I.pin p hp
  exact⟨p1,nn p2,p3⟩
 ·have st:∀ {a:Addr} {w:HO},jk X.prog X.w H s.heap a w->jk X.prog X.w (upd H d u) s.heap a w:=λx=>x.OT (λ_ _ _ z=>z) (λb z=>ns z (by intro _ _ y;cases y)) λb xs z=>ns z (by intro _ _ y;cases y)
  by_cases e:a=d
  ·subst e
   rw[ag]at q;cases q;exact st (I.hok a _ hd).2
  ·rw[ah e]at q
   exact st (I.hok a w q)
noncomputable def apf(H₀:Hp)(te:TE):TE:=λσ H Q=>te σ H λv H1=>∃ d o kvs,H1 d=some 6e0/\(∀ o u,H₀ d≠some (.frz o u))/\Q v (upd H1 d 3e0)
theorem X3{e:Expr}{te:TE}(h:PE X e te):PE X e (apf X.H₀ te):=by
 intro pins s σ H Q I t;refine wpAny_mono (h pins s σ H _ I t) (λu s1 ⟨v,H1,I1,r,q⟩=>?_) λ_ _ z=>z;obtain⟨d,o,kvs,hd,h0,q⟩:=q;exact⟨v,_,I1.adT hd h0 8e1 8e1 8e1,r,q⟩
noncomputable def apg(H₀:Hp)(t:TS):TS:=λD σ H=>∃ d o kvs,H d=some 6e0/\(∀ o u,H₀ d≠some (.frz o u))/\t D σ (upd H d 3e0)
theorem X4{st:Stmt}{t:TS}(h:PS X st t):PS X st (apg X.H₀ t):=by
 intro pins s σ H D I q;obtain⟨d,o,kvs,hd,h0,q⟩:=q;exact h pins s σ _ D (I.adT hd h0 8e1 8e1 8e1) q
theorem aaQ:∀ {ns:List Int} {us:List Value},Vals 4e6 us->∃ ps:List (Int×Tok),us=ps.map (λp=>Value.int p.1 p.2)/\ps.map (·.1)=ns
 | [],_,.nil=>⟨[],rfl,rfl⟩
 | n::r,_,.cons h t=>by
  obtain⟨k,rfl⟩:=h;obtain⟨ps,e,e2⟩:=aaQ t;exact⟨(n,k)::ps,by rw[e];rfl,by rw[aqd,e2]⟩
noncomputable def aew(K:W.Frag):List V->Hp->VK->Prop:=λvs H Q=>∃(p:Addr) (ns:List Int),vs=[.ref p]/\SqL K H p 4e6/\Q (.int ns.sum) H
theorem Gi(hc:X.calm=true):zk X (.builtin "sum") (aew X.K):=by
 rintro pins s σ H xs us Q I r ⟨p,ns,rfl,hq,q⟩;obtain⟨u,rfl,ru⟩:=r.one;cases (show u=Value.ref p from ru);obtain⟨its,rv,⟨o,n,e1,e2,e3,e4⟩,hz⟩:=I.list hq;obtain⟨ps,e,ee⟩:=aaQ rv;have hl:s.heap.IsList p (intItems ps.toArray):=by
  refine⟨o,e1,e2,n,?_⟩;rw[e4,e];simp[intItems]
 have hs:preSum (numAt ps.toArray) ps.toArray.size=ns.sum:=by
  rw[preSum_eq];simp only[ap5];rw[ee,apX (by rw[<-ee,apR];exact apV _)]
 refine sum_intListG (I.ok.hd hc) hl λh' tk t' hk=>⟨.int ns.sum,H,I.kept (t':=tk) hk,⟨t',by rw[hs]⟩,q⟩
end
theorem zq{d:Addr}{o:Obj}{kvs:List (Key×V)}{te:TE}{Q:VK}{D:Addr}{τ:St}{H:Hp}(Pv:Nat->List V->Hp->Prop)(h0:Pv 0 [] H)(hD:∀ i ys H,i<=kvs.length->Pv i ys H->H D=some (.lst ys)/\ys.length=i)(hl:∀ i ys H,i<=kvs.length->Pv i ys H->H d=some (.frz o (.dK kvs)))(hn:kvs.length<=sizeLine)
  (hs:∀ i p ys H,kvs[i]?=some p->Pv i ys H->te (some (kV p.1)::τ) H λv H4=>H4 D=some (.lst ys)/\Pv (i+1) (ys++[v]) (upd H4 D (.lst (ys++[v])))) (hd:∀ ys H,Pv kvs.length ys H->Q (.ref D) H):Pc (Itd d o kvs) D τ te Q H:=by
 refine⟨λi m ys H=>m=kvs.length-i/\i<=kvs.length/\Pv i ys H,⟨kvs.length,by simp,aqu _,h0⟩,?_⟩;rintro i m ys H2 ⟨rfl,hi,p⟩;obtain⟨d1,d2⟩:=hD i ys H2 hi p;refine⟨d1,?_⟩;have hS:=hl i ys H2 hi p;by_cases hlt:i<kvs.length
 ·refine .inr ⟨⟨hS,hlt⟩,by omega,Pv (i+1),λzs H' p'=>⟨kvs.length-(i+1),by omega,rfl,hlt,p'⟩,λy H3 q=>?_⟩
  obtain⟨e1,q',e2,e3⟩:=q;subst e1 e3;exact hs i q' ys _ e2 p
 ·have e:i=kvs.length:=by omega
  subst e;exact .inl ⟨⟨hS,apV _⟩,hd ys H2 p⟩
noncomputable def Y1:Option Key->Value->Bool
 | none,.none=>true
 | none,_=>false
 | some k,v=>vq k v
theorem jM{v:Value}(h:Y1 none v=true):v=.none:=by
 cases v<;>first|rfl|cases h
noncomputable def aph(w:World):Option Key->Int
 | none=>reduceHash 0xFCA86420
 | some k=>aeZ w k
theorem VG{prog:Program}{w:World}{A:Around}{E:Value->Shared->Prop}{s:Shared}{Q:Int->Shared->Prop}(h:Q (reduceHash 0xFCA86420) {s with toks:=s.toks+1}):wpAny 2e1 A (pyHash .none) Q E s:=by
 show wpAny _ _ (pyHashByItsType .none) Q E s;exact PySem.W.pyHash_slot (T := "NoneType") rfl F.slot_NoneType_hash F.entry_NoneType_hash (F.args_NoneType_hash_1 _) (beq_builtin_none _) 3e6 (wpAny_bind (wpAny_pure (wpAny_bind (wpAny_mkInt (wpAny_pure ⟨_,_,rfl,h⟩)))))
noncomputable def optKind(prog:Program)(w:World):PySem.KeyKind prog w (Option Key) where
 is:=Y1
 hash:=aph w
 inj:=λv a b ha hb=>by
  cases a with
  | none =>
   obtain rfl:=jM ha;cases b with
   | none=>rfl
   | some k=>rcases cF (show vq k .none=true from hb) with⟨_,_,_,e⟩|⟨_,_,_,e⟩<;>exact nomatch e
  | some k =>
   cases b with
   | none =>
    obtain rfl:=jM hb;rcases cF (show vq k .none=true from ha) with⟨_,_,_,e⟩|⟨_,_,_,e⟩<;>exact nomatch e
   | some k'=>rw[(cT prog w).inj v k k' ha hb]
 byValue:=λk v h=>by
  cases k with
  | none=>obtain rfl:=jM h;rfl
  | some k=>exact(cT prog w).byValue k v h
 pyHash:=λ{A E s k v Q} hv h=>by
  cases k with
  | none=>obtain rfl:=jM hv;exact VG h
  | some k=>exact(cT prog w).pyHash (k:=k) hv h
 eqBool:=λ{A E s a b u v Q} hu hv h=>by
  cases a with
  | none =>
   obtain rfl:=jM hu;cases b with
   | none=>obtain rfl:=jM hv;exact SeqAt.EqAt.same _ _ _ _ _ h
   | some k =>
    rw[decide_eq_false 1e0]at h;rcases cF (show vq k v=true from hv) with⟨i,t,_,rfl⟩|⟨x,t,_,rfl⟩
    ·exact SeqAt.EqAt.none_int i t _ _ _ _ h
    ·exact SeqAt.EqAt.none_str x t _ _ _ _ h
  | some k =>
   cases b with
   | none =>
    obtain rfl:=jM hv;rw[decide_eq_false 1e0]at h;rcases cF (show vq k u=true from hu) with⟨i,t,_,rfl⟩|⟨x,t,_,rfl⟩
    ·exact SeqAt.EqAt.int_none i t _ _ _ _ h
    ·exact SeqAt.EqAt.str_none x t _ _ _ _ h
   | some k' =>
    refine(cT prog w).eqBool (a:=k) (b:=k') hu hv ?_;have e:decide (some k=some k')=decide (k=k'):=by
     by_cases c:k=k'
     ·subst c;simp
     ·rw[decide_eq_false c,decide_eq_false (by intro z;exact c (aqh z))]
    rw[<-e];exact h
 «strs» := λk x t v h=>by
  cases k with
  | none=>exact nomatch jM h
  | some k=>exact(cT prog w).strs k x t v h
theorem ZM{prog:Program}{w:World}{h:Heap}{a:Addr}{kvs:List (Key×Value)}(hd:h.DictOf (cT prog w) a kvs):h.MapOf (optKind prog w) a (λk=>k.bind λk=>valueAt kvs k):=by
 obtain⟨o,es,ep,ho,hc,api,hk,hf⟩:=hd.mapOf;refine⟨o,es,ep,ho,hc,api,λe he=>?_,λk=>?_⟩
 ·obtain⟨k,h1,h2⟩:=hk e he
  exact⟨some k,h1,h2⟩
 ·cases k with
  | none =>
   show(es.find? λe=>Y1 none e.key).map (·.val)=none;rw[Array.find?_eq_none.mpr λe he=>?_]
   ·rfl
   ·obtain⟨k,h1,_⟩:=hk e he
    intro z
    have:=jM z
    rw[this]at h1;rcases cF (show vq k .none=true from h1) with⟨_,_,_,e⟩|⟨_,_,_,e⟩<;>exact nomatch e
  | some k=>exact hf k
noncomputable def inO(kvs:List (Key×V)):Option Key->Bool
 | none=>false
 | some k=>(iX kvs k).isSome
noncomputable def adU:Option Key->V
 | none=>.non
 | some k=>kV k
section
variable{X:Cx}{i o:Expr}{ty td:TE}
noncomputable def aex(ty td:TE):TE:=λσ H Q=>ty σ H λy H1=>td σ H1 λx H2=>∃ a kvs k,x=.ref a/\y=adU k/\Rd H2 a 3e0/\Q (.bl (inO kvs k)) H2
theorem abR{P:Program}{w:World}{k:Option Key}{u:Value}(r:RelV (adU k) u):(optKind P w).is k u=true:=by
 cases k with
 | none=>cases r;rfl
 | some k=>exact G4 (P:=P) (w:=w) r
theorem ZN(hi:PE X i ty)(ho:PE X o td):PC X .In i o (aex ty td):=by
 intro pins s σ H Q I h;refine thn (hi pins s σ H _ I h) λiv s1 ⟨y,H1,I1,ry,q1⟩=>thn (ho pins s1 σ H1 _ I1 q1) λu s2 ⟨x,H2,I2,rx,a,kvs,k,ex,ey,g,q2⟩=>?_;subst ex ey;cases (show u=Value.ref a from rx);obtain⟨z,hd,vs,rel,dd⟩:=Bl I2.hok g;refine wpAny_in_of (abR (P:=X.prog) (w:=X.w) ry) hd (ZM dd) ?_;have e:(k.bind λk=>valueAt vs k).isSome=inO kvs k:=by
  cases k with
  | none=>rfl
  | some k=>exact(rel.val k).rj.symm
 rw[e];exact⟨.bl (inO kvs k),H2,I2.tok _,rfl,q2⟩
end
section
variable{X:Cx}{K:W.Frag}
theorem ZO{e:Expr}{f:Str}{pos:Pos}{ta:TE}(hK:X.K=K)(he:PE X e ta)(hb:attributeBase e f X.env (eval e X.env)=eval e X.env):PE X (.Attribute e f pos) (ae5 K ta f):=by
 subst hK;exact aL he hb
noncomputable def aey(K:W.Frag):List V->Hp->VK->Prop:=λxs H Q=>∃ p ys,xs=[V.ref p]/\(SqL K H p ys\/SqT K H p ys)/\Q (.int (ys.length:Int)) H
theorem MJ(hK:X.K=K):zk X (.builtin "len") (aey K):=by
 subst hK;exact bh
end
structure Wc(k:Nat)(A:Around):Prop where
 dp:A.depth+3*k+5<recursionLimit
 un:A.units+16*k+200<cLine
theorem lO.r0{j k:Nat}{A:Around}(r:lO k A)(h:j<=k):Wc j A:=⟨by have:=r.dp;omega,by have:=r.un;omega⟩
structure Sw(P:Program)(w:World)(K:W.Frag)(mg:Str->Option Value)(base:Heap)(CX:CXT)(k:Nat)(f:Addr)(fd:FuncData)(ps:List Str)(sp:Sp):Prop where
 len:∀ vs H Q E,sp vs H Q E->vs.length=ps.length
 run:∀(A:Around) (outer:List Env) (s:Shared) (H:Hp) (args:Args) (us:List Value) (vs:List V) (Q:VK) (E:XK),Wc k A->Sk P w K mg base A outer s H->BindsTo s fd args (ps.zip us)->Vals vs us->sp vs H Q E ->
  codeAny 8e2 A (.call 7e4 args) (CR CX outer P w H s Q E) s
noncomputable def cx0(CX:CXT)(P:Program)(w:World)(K:W.Frag)(mg:Str->Option Value)(base:Heap)(N:List Str)(qual:Str)(scope:Scope)(f:Addr)(cd:Value)(A:Around)(outer:List Env)(s:Shared)(H:Hp)(E:XK):Cx:={Wr CX P w K mg base N qual scope f cd A outer s H E with calm:=false}
theorem abS{CX:CXT}{P:Program}{w:World}{K:W.Frag}{mg:Str->Option Value}{base:Heap}{k:Nat}{f:Addr}{name qual:Str}{params:Arguments}{body:List Stmt}{scope:Scope}{dV kV doc pm cdv ct oc:Value}{an od:Option Addr}
  {osl:Array (Option Value)} {N ps:List Str} {sp:Sp} (lk:K.lookup f=some ⟨oc,od,.func (PySem.W.fnOf name qual params body scope dV kV doc pm an cdv ct),osl⟩) (hcd:PySem.W.codeIn K cdv qual=true) (S:aw N ps scope)
  (len:∀ vs H Q E,sp vs H Q E->vs.length=ps.length)
  (GZ:∀(A:Around) (outer:List Env) (s:Shared) (H:Hp) (vs:List V) (Q:VK) (E:XK),sp vs H Q E ->
   ∃ t,PSs (cx0 CX P w K mg base N qual scope f cdv A outer s H E) body t/\t {nx:=λ_ H'=>Q .non H',rt:=Q} (start N vs) H) :
  Sw P w K mg base CX (k+1) f (PySem.W.fnOf name qual params body scope dV kV doc pm an cdv ct) ps sp:=by
 refine⟨len,λA outer s H args us vs Q E hr e0 hb r hsp=>?_⟩;have hl:=len _ _ _ _ hsp;have KX:K.In s.heap:=e0.mod.kin.keeps λb o e=>(e0.bs b o e).1;have lim:s.heap.NoLimit:=e0.mod.nolimit.keeps λb o e=>(e0.bs b o e).1;have Yx:∀ y∈ps.zip us,scope.names.lookup y.1=some .local\/(scope.names.lookup y.1=some .cell/\((cellsFrom 2e9 scope.names []).lookup y.1).isSome=true):=λ⟨n,v⟩ hy=>by
  rcases S.par n (arE hy).1 with q|q
  ·exact .inl q
  ·exact .inr ⟨q,PySem.W.cellsFrom_some _ _ _ (.inl q)⟩
 have dep:A.depth<recursionLimit:=by have:=hr.dp;omega
 refine codeAny_call_function dep (KX _ _ lk) rfl S.co S.gen rfl (PySem.W.codeRec_of KX hcd) (hb _ _ _ _ ?_);refine wpAny_newFunctionEnv_cells S.kind Yx λenv he s1 x=>?_;subst he;refine⟨lim.keeps x.toInCall.keep,codeAny_func ?_⟩;obtain⟨t,ht,hq⟩:=GZ A outer s H vs Q E hsp;have I:Inv (cx0 CX P w K mg base N qual scope f cdv A outer s H E) [] (start N vs) H s1:=by
  have e1:Sk P w K mg base ({A with handled:=none}:Around) outer s H:=⟨e0.frames,e0.mod,e0.bs,e0.bsz,e0.Eg,e0.frf,e0.hok,e0.bare⟩;have J:=MA (CX:=CX) (E:=E) (A:={A with handled:=none}) S rfl e1 hl r x;exact⟨⟨J.ok.mod,J.ok.kind,J.ok.glob,J.ok.blt,J.ok.above,J.ok.inj,J.ok.has,J.ok.cab,(λh=>absurd h (by show ¬false=true;decide)),Around.frames_deeper e0.frames,J.ok.stk,J.ok.exf,J.ok.bs,J.ok.bsz,J.ok.Se,J.ok.Uv,J.ok.Eg,J.ok.frf⟩,J.os,J.bare,J.base,J.loc,J.cell,J.free,J.pL,J.pin,J.hok,J.len⟩
 refine wpAny_mono (ht [] s1 (start N vs) H _ I hq) (λfl s' hs=>?_) λe s' hs=>hs;have fin:∀ {σ':St} {H':Hp} {v:V} {u:Value},Inv (cx0 CX P w K mg base N qual scope f cdv A outer s H E) [] σ' H' s'->RelV v u->Q v H'->CE outer P w H s Q u s' :=
  λ{σ' H' v u} J rv q=>⟨v,H',J.os,J.bare,J.base,J.hok,rv,q⟩
 cases fl with
 | ret u =>
  obtain⟨v,σ',H',J,rv,q⟩:=hs;exact fin J rv q
 | next =>
  obtain⟨σ',H',J,q⟩:=hs;exact fin (v:=V.non) (u:=Value.none) J rfl q
 | brk =>
  obtain⟨_,_,_,q⟩:=hs;exact False.elim q
 | cont =>
  obtain⟨_,_,_,q⟩:=hs;exact False.elim q
theorem Fun.ok0{P:Program}{w:World}{K:W.Frag}{mg:Str->Option Value}{base:Heap}{x qual:Str}{st:Stmt}{f:Addr}{fd:FuncData}{N ps:List Str}{k:Nat}{sp:Sp}(F:Fun K x qual st f fd)(S:aw N ps (aq st))(len:∀ vs H Q E,sp vs H Q E->vs.length=ps.length)
  (GZ:∀(cdv:Value) (A:Around) (outer:List Env) (s:Shared) (H:Hp) (vs:List V) (Q:VK) (E:XK),sp vs H Q E ->
   ∃ t,PSs (cx0 (CXE P w) P w K mg base N qual (aq st) f cdv A outer s H E) (aE st) t/\t {nx:=λ_ H'=>Q .non H',rt:=Q} (start N vs) H):Sw P w K mg base (CXE P w) (k+1) f fd ps sp:=by
 obtain⟨oc,od,kV,doc,pm,an,cdv,ct,osl,rfl,lk,hcd⟩:=F.ex;exact abS lk hcd S len λA outer s H vs Q E hsp=>GZ cdv A outer s H vs Q E hsp
section
variable{X:Cx}{o:Expr}{ta:TE}
theorem aez{CX:CXT}{k:Nat}{f:Addr}{fd:FuncData}{ps:List Str}{sp:Sp}{ds:List Value}{dvs:List V}{EK:St->XK}{pins:List (Addr×Obj)}{σ:St}{H:Hp}{s:Shared}{Q:VK}{us:List Value}{vs:List V}(F:Sw X.prog X.w X.K X.mg X.base CX k f fd ps sp)(hr:Wc k X.A)(hb:Binds X.K fd ps ds)(hd:Vals dvs ds)(hx:gC CX X EK)
  (I:Inv X pins σ H s) (r:Vals vs us) (h:sp (vs++dvs) H Q (EK σ)):wpAny 1e7 X.A (call 7e4 us) 4e8 X.xe s:=by
 have r2:Vals (vs++dvs) (us++ds):=r.append hd;have hl:(us++ds).length=ps.length:=by rw[<-r2.length];exact F.len _ _ _ _ h
 refine wpAny_call (codeAny_mono (F.run X.A X.stack s H ⟨us,[]⟩ (us++ds) (vs++dvs) Q (EK σ) hr I.aaC (hb s us I.kIn hl) r2 h) λr s' hq=>?_);cases r with
 | error e=>exact hx pins σ H s e s' I hq
 | ok fl =>
  cases fl with
  | ret u=>exact I.after hq
  | _=>exact False.elim hq
structure X5(P:Program)(w:World)(K:W.Frag)(mg:Str->Option Value)(base:Heap)(CX:CXT)(k:Nat)(m:Str)(C:Addr)(sp:Sp):Prop where
 ex:∃ f fd ps,Meth K C m f/\Sw P w K mg base CX k f fd ps sp/\Binds K fd ps []
noncomputable def UL(P:Program)(w:World)(K:W.Frag)(mg:Str->Option Value)(base:Heap)(CX:CXT)(k:Nat)(m:Str)(EK:St->XK)(ta:TE):TE:=λσ H Q=>ta σ H λx H1=>∃ b a C sp,x=.ref a/\H1 a=some (exo b C a none)/\adR K C /\
 X5 P w K mg base CX k m C sp/\sp [x] H1 Q (EK σ)
theorem VH{CX:CXT}{k:Nat}{EK:St->XK}{m:Str}{pos apos:Pos}{pl:Sem Bool}(he:PE X o ta)(hr:Wc k X.A)(hx:gC CX X EK)
  (ht:eval (.Call (.Attribute o m apos) [] [] pos) X.env=(do
   let ov <-eval o X.env
   standAt apos.atName
   let (f,first) <-holding [ov] (getMethod ov m pl)
   callWith pos f first (backTo pos (starEach [] X.env)) (backToKw pos 8e0)):=by rfl) :
  PE X (.Call (.Attribute o m apos) [] [] pos) (UL X.prog X.w X.K X.mg X.base CX k m EK ta):=by
 intro pins s σ H Q I h;refine PySem.W.methodCall_KW (pl:=pl) (thn 5e1 λu s1 ⟨x,H1,I1,rx,b,a,C,sp,ex,ea,g,md,q⟩=>?_) ht;subst ex;obtain rfl:u=Value.ref a:=rx;obtain⟨f,fd,ps,mt,F,hb⟩:=md.ex;obtain⟨fs,sl,a0,z,_⟩:=JY I1.hok ea;have fin:wpAny 1e7 X.A (callWith pos 7e4 [.ref a] (backTo pos (starEach [] X.env)) (backToKw pos 8e0)) 4e8 X.xe s1 :=
  PySem.W.callWith_K0 (first:=[.ref a]) I1.kIn mt.kp (aez (us:=[.ref a]) (vs:=[.ref a]) (dvs:=[]) (ds:=[]) F hr hb .nil hx I1 (.cons rfl .nil) q)
 exact WZ I1.kIn (VB z) g.ga g.gt mt.at_ (beq_iff_eq.mp mt.fn) rfl fin
end
noncomputable def nsE:Expr->Bool
 | .Starred ..=>false
 | _=>true
theorem ZP{e:Expr}{es:List Expr}{env:Env}(h:nsE e=true):starEach (e::es) env=(false,eval e env)::starEach es env:=by
 cases e<;>first|rfl|cases h
theorem dO{X:Cx}{e:Expr}{es:List Expr}{te:TE}{t:TA}(ha:PE X e te)(hr:PA X es t)(hs:nsE e=true:=by rfl):PA X (e::es) (j3 te t):=aa ha hr (ZP hs)
theorem ZQ{es:List Expr}{p:Pos}{t:Option Expr}{l:Nat}{env:Env}:swapsWith (.List es p) t l env=pure false:=rfl
theorem ZR{X:Cx}{i:Nat}{x:Str}{es:List Expr}{p:Pos}{te:TE}{pos' pos:Pos}(hN:X.N.Nodup)(hi:X.N[i]?=some x)(hx:Loc X.env.scope x)(he:PE X (.List es p) te)(hf:X.fn x=true\/X.env.scope.names.lookup x=some .local:=by first|exact .inl rfl|exact .inr rfl|assumption) :
  PS X (.Assign [.Name x pos'] (.List es p) pos) (Wn te (sL i)):=aS hN hi hx he ZQ hf
theorem MK:∀(f n r:Nat),n<=f->r<=1->minRun' f n r<=max 64 (n+r)
 | 0,n,r,_,_=>Nat.le_max_right _ _
 | f+1,n,r,h,hr=>by
  rw[minRun'_succ];by_cases c:n<64
  ·rw[if_pos c];exact Nat.le_max_right _ _
  ·rw[if_neg c]
   have:=MK f (n/2) (max r (n%2)) 1e1 1e1
   omega
theorem PB{n:Nat}:¬n<minRun' n n 0:=by
 by_cases c:n<64
 ·cases n with
  | zero=>show ¬0<0+0;omega
  | succ f=>rw[minRun'_succ,if_pos c];omega
 ·have:=MK n n 0 (apV _) 1e1
  omega
section
variable{prog:Program}{w:World}{A:Around}{E:Value->Shared->Prop}{s:Shared}{a₀:Array Keyed}
theorem PD{st:SortSt}{m:Nat}{Q:Option Nat->SortSt->Prop}(ik:IntKeys a₀)(h:m<=a₀.size)(h1:1<=m)(B:SBase a₀ st)(up:SortedTo (arrOf st) m)(q:Q (some m) st):wpS 2e1 A E s (countRun' 0 m) Q st:=by
 rw[countRun0_eq];refine wpS_bind (wpS_ascLoop ik h (apV 1) h1 B (λi j a b=>up i j a 1e1) λn n1 n2 _ o=>?_);have e:n=m:=by
  rcases o with o|o
  ·exact o
  ·by_cases c:n=m
   ·exact c
   ·have:=up (n-1) n 1e1 1e1
    omega
 subst e;dsimp only;rw[if_pos 2e5];exact wpS_pure q
theorem Sx{st:SortSt}{Q:Unit->SortSt->Prop}(ik:IntKeys a₀)(B:SBase a₀ st)(n2:2<=a₀.size)(up:SortedTo (arrOf st) a₀.size)
  (q:∀ st',(arrOf st').Perm a₀->failedOf st'=none->SortedTo (arrOf st') a₀.size->Q () st'):wpS 2e1 A E s sortRuns' Q st:=by
 rw[sortRuns'_eq];refine wpS_bind (wpS_get ?_);dsimp only;have mr:¬a₀.size<minRun' a₀.size a₀.size 0:=PB;simp only[B.size];refine wpS_bind (wpS_mono (wpS_forRange (I:=λx c st'=>(x=0/\c=(none,0)/\st'=st)\/(1<=x/\c=(none,a₀.size)/\SDone a₀ st')) (Q:=λc st'=>c=(none,a₀.size)/\SDone a₀ st') ?one ?all (.inl ⟨rfl,rfl,rfl⟩)) ?rest)
 case all =>
  rintro c st' (⟨z,_,_⟩|⟨_,hc,d⟩)
  ·omega
  ·exact⟨hc,d⟩
 case one =>
  rintro x c st' _ hx (⟨rfl,rfl,rfl⟩|⟨_,rfl,d⟩)
  ·dsimp only
   rw[if_neg 1e1];simp only[Nat.sub_zero,Nat.zero_add];refine wpS_bind (PD ik (apV _) 1e1 B up ?_);dsimp only;rw[if_neg mr];refine wpS_bind (wpS_get ?_);rw[show(pendingOf st').back?=none by rw[B.pend];rfl];dsimp only;exact wpS_bind (wpS_modify (wpS_pure (.inr ⟨by omega,rfl,B.done up⟩)))
  ·dsimp only
   rw[if_pos (apV _)];exact wpS_pure ⟨rfl,d⟩
 case rest =>
  rintro c st' ⟨rfl,d⟩;dsimp only;refine wpS_bind (wpS_mono (wpS_forRange (I:=λ_ c st2=>st2=st'/\c=(none,())) (Q:=λc st2=>st2=st'/\c=(none,())) ?_ (λ_ _ z=>z) ⟨rfl,rfl⟩) ?_)
  ·rintro x c st2 _ _ ⟨rfl,rfl⟩
   refine wpS_bind (wpS_get ?_);rw[if_pos (show(pendingOf st2).size<=1 by rw[d.2.2.1];exact apV 1)];exact wpS_pure ⟨rfl,rfl⟩
  ·rintro c st2 ⟨rfl,rfl⟩
   exact wpS_pure (q _ d.1 d.2.1 d.2.2.2)
theorem UM:∀ {vs:List Value} {ns:List Int},IntsAre vs ns->∀(i:Nat) (h:i<vs.length) (h':i<ns.length),numOf vs[i]=ns[i]
 | _,_,.nil,i,h,_=>absurd h (arF _)
 | _,_,.cons k t r,0,_,_=>rfl
 | _,_,.cons k t r,i+1,h,h'=>UM r i (Nat.lt_of_succ_lt_succ h) (Nat.lt_of_succ_lt_succ h')
theorem Xc{vs:List Value}{ns:List Int}(hI:IntsAre vs ns)(up:ns.Pairwise (·<=·)):SortedTo (pairsOf vs) (pairsOf vs).size:=by
 intro i j ij hj;have hl:=hI.length;have hs:=pairsOf_size vs;rw[K_eq 1e1,K_eq 1e1];have hi2:i<ns.length:=by omega
 have hj2:j<ns.length:=by omega
 have e:∀(k:Nat) (h:k<(pairsOf vs).size) (h':k<ns.length),numOf (pairsOf vs)[k].1=ns[k]:=λk h h'=>by
  have:(pairsOf vs)[k].1=vs[k]' 1e1:=by simp[pairsOf]
  rw[this];exact UM hI k 1e1 h'
 rw[e i 1e1 hi2,e j 1e1 hj2];rcases arb i j with c|c
 ·exact List.pairwise_iff_getElem.mp up i j hi2 hj2 c
 ·have:i=j:=by omega
  subst this;exact aqH _
theorem DO{a:Addr}{vs:List Value}{ns:List Int}{n:Nat}{P:Fin->Shared->Prop}(ho:s.heap.get? a=some (seqObj "list" vs.toArray n))(hI:IntsAre vs ns)(few:vs.length<=20000)(up:ns.Pairwise (·<=·))
  (h:∀(out:Array Value) (ns':List Int),IntsAre out.toList ns'->ns'.Perm ns->ns'.Pairwise (·<=·)->P (.done (.ret .none)) {s with heap:=sortedHeap s.heap a vs out}):wpAny 2e1 A (Builtin.«list.sort» ⟨[.ref a],[]⟩) P E s:=by
 have hz:vs.length<=sizeLine:=arI (aqL few 2e6);rw[list_sort_plain];have la:a<s.heap.objs.size:=ap2 ho;refine wpAny_bind (listItems_at ho rfl (wpAny_bind (listUpdate_at ho rfl ?_ (by rw[ap5];exact hz) (aqu _))));obtain⟨e1,g1⟩:∃ e1,(s.heap.update a (Obj.mapSeq λ_=>#[])).get? a=some (seqObj "list" #[] e1):=⟨_,get?_update_seq ho (λ_=>#[])⟩;refine wpAny_bind (seqEpoch_at g1 rfl (wpAny_bind (wpAny_newTuple (wpAny_bind (wpAny_newList (wpAny_holding ?_) (aqu _))) (by show vs.length<=_;exact hz))));have g6:(((s.heap.update a (Obj.mapSeq λ_=>#[])).push (seqObj "tuple" vs.toArray 0)).push (seqObj "list" #[] 0)).get? a=some (seqObj "list" #[] e1):=apY _ (apY _ g1);show wpAny 2e1 A _ P E {s with heap:=((s.heap.update a (Obj.mapSeq λ_=>#[])).push (seqObj "tuple" vs.toArray 0)).push (seqObj "list" #[] 0)};dsimp only;have zs:(pairsOf vs).size=vs.length:=pairsOf_size vs;have fin:∀ st':SortSt,(arrOf st').Perm (pairsOf vs)->SortedTo (arrOf st') (pairsOf vs).size->P (.done (.ret .none)) {s with heap:=sortedHeap s.heap a vs ((arrOf st').map (·.2))}:=λst' hp hs=>by
  obtain⟨ns',q1,q2,q3⟩:=sorted_out hI hp hs;exact h _ ns' q1 q2 q3
 have up0:=Xc hI up;by_cases c:vs.toArray.size<2
 ·rw[if_pos c,if_pos c]
  refine wpAny_bind 8e9;rw[StateT.run_pure];refine wpAny_bind 8e9;dsimp only;refine wpAny_bind (seqEpoch_at g6 rfl (wpAny_bind (listUpdate_at g6 rfl ?_ (hsz2:=by rw[Array.size_map];show(pairsOf vs).size<=_;rw[zs];omega))));simp only[bne_self_eq_false,aqA,if_false];exact wpAny_pure (fin (SortSt.mk' general' (vs.toArray.zip vs.toArray) #[] 7 none) (Array.Perm.refl _) up0)
 ·rw[if_neg c,if_neg c]
  obtain⟨v1,v2,r,rfl⟩:∃ v1 v2 r,vs=v1::v2::r:=by
   match vs,c with
   | [],c=>simp at c
   | [_],c=>simp at c
   | v1::v2::r,_=>exact⟨v1,v2,r,rfl⟩
  rw[keyKind_ints hI];refine wpAny_bind (wpAny_pure (wpAny_bind (wpAny_mono (Sx (a₀:=pairsOf (v1::v2::r)) (st:=SortSt.mk' oneType' ((v1::v2::r).toArray.zip (v1::v2::r).toArray) #[] 7 none)
   (Q:=λ_ st'=>(arrOf st').Perm (pairsOf (v1::v2::r))/\failedOf st'=none/\SortedTo (arrOf st') (pairsOf (v1::v2::r)).size) hI.intKeys ⟨Array.Perm.refl _,rfl,rfl,rfl⟩ (by rw[zs];simp) up0 λst' a1 a2 a3=>⟨a1,a2,a3⟩) ?_ λ_ _ e=>e)))
  rintro⟨⟨⟩,st'⟩ s' ⟨rfl,hp,hf,hs⟩;dsimp only;refine wpAny_bind (seqEpoch_at g6 rfl (wpAny_bind (listUpdate_at g6 rfl ?_ (hsz2:=aqk (Nat.le_of_eq ((Array.size_map ..).trans (hp.size_eq.trans zs))) (Nat.le_succ_of_le hz)))));rw[hf];simp only[bne_self_eq_false,aqA,if_false];exact wpAny_pure (fin st' hp hs)
end
section
variable{X:Cx}
noncomputable def Xd:List V->Hp->VK->Prop:=λvs H Q=>∃(p:Addr) (kvs:List (Key×V)) (ks:List Int),vs=[.ref p]/\Rd H p 3e0/\kvs.map (·.1)=ks.map Sum.inl/\ks.length<=20000/\ks.Pairwise (·<=·)/\∀(l:Addr),H l=none->Q (.ref l) (upd H l (.lst (ks.map V.int)))
theorem Nd(hc:X.calm=true):zk X (.builtin "sorted") Xd:=by
 rintro pins s σ H xs us Q I r ⟨p,kvs,ks,rfl,hp,hk,few,up,q⟩;obtain⟨u,rfl,ru⟩:=r.one;cases (show u=Value.ref p from ru);obtain⟨hz,hd,vs,rel,dd⟩:=Bl I.hok hp;obtain⟨ep,hat⟩:=dd.dictAt;have hh:=I.ok.hd hc;have hl:ks.length=kvs.length:=by
  have:=congrArg List.length hk
  simpa using this.symm
 refine Calls.call_function_entry kind_sorted plain_sorted entry_sorted (args_sorted1 _) ?_;unfold Builtin.«sorted»;refine wpAny_bind (m:=checkCount "sorted" 1 1 _) 8e9;refine wpAny_bind (PySem.W.kdu_collect (A:=X.A.in1) (PySem.W.kdl_dict (knd:=cT X.prog X.w) (kvs:=vs) (ep:=ep) hd) hh hat (by rw[<-rel.length];exact hz) λh' tk acc hkp hacc=>?_);have hI:IntsAre acc.toList ks:=ME (by rw[<-rel.keys];exact hk) hacc.1 hacc.2;have hlen:=hI.length;have I1:Inv X pins σ H {s with heap:=h',toks:=tk}:=I.kept (t':=tk) hkp;refine wpAny_bind (wpAny_newList ?_ (by show acc.toList.length<=sizeLine;rw[hlen,hl];exact hz));have hoL:(h'.push (seqObj "list" acc.toList.toArray 0)).get? h'.objs.size=some (seqObj "list" acc.toList.toArray 0):=aqr _ rfl;show wpAny _ _ _ _ _ {s with heap:=h'.push (seqObj "list" acc.toList.toArray 0),toks:=tk};refine wpAny_bind (wpAny_holding (wpAny_call_entry slot_list_sort ⟨_,hoL,rfl⟩ entry_list_sort (DO hoL hI 1e1 up λout ns' a1 a2 a3=>⟨_,rfl,?_⟩) (args_list_sort _)));refine wpAny_pure ⟨_,rfl,?_⟩;cases MF a2 a3 up;obtain⟨e,he⟩:=sortedHeap_at (out:=out) hoL;refine⟨.ref h'.objs.size,_,I1.laid (a:=h'.objs.size) (o:=.lst (ks.map V.int)) (t':=tk) (λb o hb=>?_) (apV _) ?_,rfl,q _ (I1.hok.fresh (apV _))⟩
 ·have hlt:=ap2 hb
  rw[sortedHeap_old (aqb hlt) (by rw[size_push'];exact arw hlt),Heap.get?_push_ne _ _ _ (aqb hlt)];exact hb
 ·refine⟨by rw[apR,hl];exact hz,out.toList,e,uk a1,?_⟩
  rw[he]
noncomputable def ZS(K:W.Frag):List V->Hp->VK->Prop:=λvs H Q=>∃(p:Addr) (ns:List Int),vs=[.ref p]/\SqL K H p 4e6/\ns.length<=20000/\ns.Pairwise (·<=·)/\∀(l:Addr),H l=none->Q (.ref l) (upd H l (.lst 4e6))
theorem PH:zk X (.builtin "sorted") (ZS X.K):=by
 rintro pins s σ H xs us Q I r ⟨p,ns,rfl,hq,few,up,q⟩;obtain⟨u,rfl,ru⟩:=r.one;cases (show u=Value.ref p from ru);obtain⟨its,rv,pl,hz⟩:=I.list hq;have hI:=intsAre_of rv;have hlen:=rv.length;rw[apR]at hlen hz;refine Calls.call_function_entry kind_sorted plain_sorted entry_sorted (args_sorted1 _) ?_;unfold Builtin.«sorted»;refine wpAny_bind (m:=checkCount "sorted" 1 1 _) 8e9;have iz:its.length<=sizeLine:=by omega
 refine wpAny_bind (collect_list pl.isList ?_ iz);refine wpAny_bind (wpAny_newList ?_ iz);have sz:((s.heap.push (seqObj "list" #[] 0)).update s.heap.objs.size (Obj.mapSeq (·++its.toArray))).objs.size=s.heap.objs.size+1:=by rw[Heap.size_update,size_push']
 have hoL:(((s.heap.push (seqObj "list" #[] 0)).update s.heap.objs.size (Obj.mapSeq (·++its.toArray))).push (seqObj "list" its.toArray 0)).get? 2e9=some (seqObj "list" its.toArray 0):=by rw[<-sz];exact aqr _ rfl
 show wpAny _ _ _ _ _ {s with heap:=((s.heap.push (seqObj "list" #[] 0)).update s.heap.objs.size (Obj.mapSeq (·++its.toArray))).push (seqObj "list" its.toArray 0)};rw[sz];refine wpAny_bind (wpAny_holding (wpAny_call_entry slot_list_sort ⟨_,hoL,rfl⟩ entry_list_sort (DO hoL hI 1e1 up λout ns' a1 a2 a3=>⟨_,rfl,?_⟩) (args_list_sort _)));refine wpAny_pure ⟨_,rfl,?_⟩;cases MF a2 a3 up;obtain⟨e,he⟩:=sortedAll_at s.heap its out;refine⟨.ref 2e9,_,I.laid (a:=s.heap.objs.size+1) (o:=.lst 4e6) (t':=s.toks) (λ_ _=>sortedAll_old) (arD _) ?_,rfl,q _ (I.hok.fresh (arD _))⟩;refine⟨by rw[apR];exact hz,out.toList,e,uk a1,?_⟩;show(sortedAll s.heap its out).get? _=_;rw[he]
end
end L2
end
section
namespace K44
open PySem L2 LX
noncomputable abbrev ka:Stmt:=inClass (top 2) 0
noncomputable abbrev tY:Stmt:=inClass (top 3) 0
noncomputable abbrev tZ:Stmt:=inClass (top 4) 0
noncomputable abbrev rR:Stmt:=inClass (top 5) 0
noncomputable abbrev rS:Stmt:=inClass (top 6) 0
noncomputable abbrev vv:Stmt:=inClass (top 7) 0
noncomputable abbrev nG:Stmt:=inClass (top 8) 0
noncomputable abbrev ua:Stmt:=inClass (top 9) 0
noncomputable abbrev ub:Stmt:=inClass (top 10) 0
noncomputable abbrev uc:Stmt:=inClass (top 11) 0
noncomputable abbrev pV:Stmt:=inClass (top 12) 0
noncomputable abbrev qI:Stmt:=top 20
noncomputable abbrev sV:Stmt:=top 21
noncomputable abbrev zr:Stmt:=top 22
noncomputable abbrev Bq:Stmt:=top 23
noncomputable abbrev nM:Stmt:=top 24
noncomputable abbrev qJ:Stmt:=top 25
noncomputable abbrev qK:Stmt:=top 26
noncomputable abbrev pM:Stmt:=top 27
noncomputable abbrev nN:Stmt:=top 28
noncomputable abbrev Y2:Stmt:=top 30
noncomputable abbrev vw:Stmt:=top 31
noncomputable abbrev Br:Stmt:=top 32
noncomputable abbrev xF:Stmt:=top 33
noncomputable abbrev sW:Stmt:=top 34
noncomputable abbrev qL:Stmt:=top 35
noncomputable abbrev uL:Stmt:=top 37
noncomputable abbrev uR:Stmt:=top 38
noncomputable abbrev qM:Stmt:=top 39
noncomputable abbrev oz:Stmt:=top 40
noncomputable abbrev sX:Stmt:=top 41
noncomputable abbrev xG:Stmt:=top 42
noncomputable abbrev nO:Stmt:=inClass (top 44) 0
noncomputable abbrev pN:Stmt:=inClass (top 44) 1
noncomputable abbrev me:Stmt:=inClass (top 44) 2
noncomputable abbrev xI:Stmt:=inClass (top 44) 3
noncomputable abbrev uS:Stmt:=inClass (top 44) 4
noncomputable abbrev qN:Stmt:=inClass (top 44) 5
noncomputable abbrev uT:Stmt:=inClass (top 44) 6
noncomputable abbrev sY:Stmt:=inClass (top 44) 7
noncomputable abbrev mh:Stmt:=inClass (top 44) 9
noncomputable abbrev kc:Stmt:=inClass (top 47) 0
noncomputable abbrev nP:Stmt:=inClass (top 47) 1
noncomputable abbrev lA:Stmt:=inClass (top 47) 4
noncomputable abbrev uU:Stmt:=top 49
noncomputable abbrev ke:Stmt:=inClass (top 51) 0
noncomputable abbrev nQ:Stmt:=inClass (top 51) 1
noncomputable abbrev mj:Stmt:=inClass (top 51) 2
noncomputable abbrev jT:Stmt:=inClass (top 51) 3
noncomputable abbrev js:Stmt:=inClass (top 51) 4
noncomputable abbrev pO:Stmt:=inClass 5e9 0
noncomputable abbrev nR:Stmt:=inClass 5e9 1
noncomputable abbrev xJ:Stmt:=inClass 5e9 2
noncomputable abbrev uV:Stmt:=inClass 5e9 3
noncomputable abbrev xK:Stmt:=inClass 5e9 4
noncomputable abbrev xM:Stmt:=inClass 5e9 5
noncomputable abbrev sZ:Stmt:=inClass 5e9 6
noncomputable abbrev xN:Stmt:=inClass 5e9 7
noncomputable abbrev mz:Stmt:=inClass 5e9 8
noncomputable abbrev xO:Stmt:=inClass 5e9 9
noncomputable abbrev jt:Stmt:=inClass 5e9 10
noncomputable abbrev tf:Stmt:=inClass 5e9 11
noncomputable abbrev kR:Stmt:=inClass 5e9 12
noncomputable abbrev ju:Stmt:=inClass 5e9 15
noncomputable abbrev iY:Stmt:=inClass 5e9 16
noncomputable abbrev tj:Stmt:=top 54
noncomputable abbrev kf:Stmt:=inClass 4e9 0
noncomputable abbrev nS:Stmt:=inClass 4e9 1
noncomputable abbrev nU:Stmt:=inClass 4e9 2
noncomputable abbrev nV:Stmt:=inClass 4e9 4
noncomputable abbrev mB:Stmt:=inClass 4e9 5
noncomputable abbrev lB:Stmt:=inClass 4e9 6
noncomputable abbrev nW:Stmt:=inClass 4e9 8
noncomputable abbrev mC:Stmt:=inClass 4e9 9
noncomputable abbrev mD:Stmt:=inClass 4e9 10
noncomputable abbrev pP:Stmt:=inClass 4e9 11
noncomputable abbrev kg:Stmt:=inClass 4e9 12
noncomputable abbrev mE:Stmt:=inClass 4e9 13
noncomputable abbrev mF:Stmt:=inClass 4e9 14
noncomputable abbrev lC:Stmt:=inClass 4e9 15
noncomputable abbrev jU:Stmt:=inClass 4e9 16
noncomputable abbrev mG:Stmt:=inClass 4e9 22
noncomputable abbrev mI:Stmt:=inClass (top 58) 0
noncomputable abbrev tm:Stmt:=inClass (top 58) 1
noncomputable abbrev xP:Stmt:=inClass (top 58) 2
noncomputable abbrev uW:Stmt:=inClass (top 58) 3
noncomputable abbrev iB:Stmt:=inClass (top 58) 5
noncomputable abbrev uX:Stmt:=top 60
noncomputable abbrev kn:Stmt:=top 61
noncomputable abbrev mJ:Stmt:=top 62
noncomputable abbrev mT:Stmt:=top 63
noncomputable abbrev nX:Stmt:=top 64
noncomputable abbrev kh:Stmt:=top 65
noncomputable abbrev kS:Stmt:=top 66
noncomputable abbrev Gj:Stmt:=top 67
noncomputable abbrev xQ:Stmt:=top 68
noncomputable abbrev xR:Stmt:=top 70
noncomputable abbrev qO:Stmt:=top 71
noncomputable abbrev xS:Stmt:=top 72
noncomputable abbrev uY:Stmt:=top 73
noncomputable abbrev xU:Stmt:=top 74
noncomputable abbrev qP:Stmt:=top 75
noncomputable abbrev xV:Stmt:=top 76
noncomputable abbrev uZ:Stmt:=top 77
noncomputable abbrev aU:Stmt:=top 78
set_option genInjectivity false in
structure Ad where
 aM:Addr
 cU:Addr
 bM:Addr
 eT:Addr
 fu:Addr
 bj:Addr
 j7:Addr
 bR:Addr
 hU:Addr
 iM:Addr
 iN:Addr
 bo:Addr
 aN:Addr
 aH:Addr
 ba:Addr
 ab:Addr
 bS:Addr
 au:Addr
 aA:FuncData
 cV:Addr
 gF:FuncData
 cW:Addr
 gG:FuncData
 cv:Addr
 fR:FuncData
 cw:Addr
 fS:FuncData
 dH:Addr
 hX:FuncData
 bu:Addr
 dz:FuncData
 cX:Addr
 gH:FuncData
 cY:Addr
 gI:FuncData
 fg:Addr
 kC:FuncData
 di:Addr
 iS:FuncData
 eF:Addr
 ko:FuncData
 cQ:Addr
 gJ:FuncData
 d8:Addr
 hV:FuncData
 hW:Addr
 lK:FuncData
 cq:Addr
 gK:FuncData
 bB:Addr
 cK:FuncData
 dB:Addr
 jb:FuncData
 cN:Addr
 hZ:FuncData
 cZ:Addr
 iZ:FuncData
 G6:Addr
 Sy:FuncData
 jN:Addr
 rC:FuncData
 jO:Addr
 rD:FuncData
 iE:Addr
 ph:FuncData
 fz:Addr
 kZ:FuncData
 dC:Addr
 jc:FuncData
 nJ:Addr
 yv:FuncData
 gr:Addr
 nj:FuncData
 dD:Addr
 jd:FuncData
 fA:Addr
 k6:FuncData
 fB:Addr
 k8:FuncData
 iF:Addr
 pj:FuncData
 dS:Addr
 i0:FuncData
 cO:Addr
 gb:FuncData
 bT:Addr
 ed:FuncData
 fQ:Addr
 jB:FuncData
 iD:Addr
 nr:FuncData
 fP:Addr
 kq:FuncData
 fM:Addr
 jG:FuncData
 gL:Addr
 k9:FuncData
 bp:Addr
 cx:FuncData
 bX:Addr
 fD:FuncData
 dU:Addr
 i3:FuncData
 cH:Addr
 g5:FuncData
 gu:Addr
 nv:FuncData
 bY:Addr
 fE:FuncData
 dW:Addr
 i4:FuncData
 dr:Addr
 ir:FuncData
 bN:Addr
 eR:FuncData
 cI:Addr
 g7:FuncData
 cP:Addr
 jP:FuncData
 cu:Addr
 i6:FuncData
 gW:Addr
 pk:FuncData
 fN:Addr
 ny:FuncData
 gX:Addr
 pw:FuncData
 gY:Addr
 pA:FuncData
 eC:Addr
 lg:FuncData
 gZ:Addr
 pB:FuncData
 bU:Addr
 iu:FuncData
 g4:Addr
 pD:FuncData
 bK:Addr
 g9:FuncData
 dF:Addr
 jW:FuncData
 bC:Addr
 gj:FuncData
 br:Addr
 eX:FuncData
 bF:Addr
 fi:FuncData
 fF:Addr
 lh:FuncData
 bZ:Addr
 fG:FuncData
 dX:Addr
 i7:FuncData
 dY:Addr
 i8:FuncData
 fq:Addr
 kD:FuncData
 eh:Addr
 j4:FuncData
 dM:Addr
 jv:FuncData
 c7:Addr
 gM:FuncData
 bV:Addr
 eB:FuncData
 cy:Addr
 fT:FuncData
 dI:Addr
 ia:FuncData
 bG:Addr
 dP:FuncData
 cz:Addr
 fU:FuncData
 cA:Addr
 fV:FuncData
 bL:Addr
 dN:FuncData
 aQ:Addr
 bw:FuncData
 du:Addr
 iw:FuncData
 dw:Addr
 iy:FuncData
 eD:Addr
 iP:FuncData
 eU:Addr
 iG:FuncData
 fO:Addr
 jH:FuncData
 aX:Addr
 ck:FuncData
 gx:Addr
 nz:FuncData
 eG:Addr
 kr:FuncData
 cB:Addr
 iA:FuncData
 eI:Addr
 ku:FuncData
 c9:Addr
 i9:FuncData
 bH:Addr
 fH:FuncData
 bO:Addr
 gk:FuncData
 j8:Addr
 rk:FuncData
 iH:Addr
 pE:FuncData
 iI:Addr
 pF:FuncData
 eJ:Addr
 kz:FuncData
 iJ:Addr
 pG:FuncData
 gy:Addr
 nA:FuncData
 iK:Addr
 pH:FuncData
 dE:Addr
 je:FuncData
 iL:Addr
 pI:FuncData
 gz:Addr
 nB:FuncData
 jm:Addr
 Sz:FuncData
 Kb:Tok
 qd:Tok
 oA:Tok
 qe:Tok
 qf:Tok
 qg:Tok
 mU:Tok
structure Txt(K:W.Frag)(mg:Str->Option Value)(D:Ad):Prop where
 h:∃ cd,jL K D.aM cd
 mH:mg "HeapError" = some (.ref D.aM)
 pJ:mg "BadCount" = some (.ref D.cU)
 sM:OY K D.cU
 pK:MkX K D.cU D.au
 aan:PySem.W.kitOne K (.ref D.cU) 3e5=some true
 Nf:∃ cd,jL K D.cU cd/\cd.mro.contains (.ref D.aM)=true
 PJ:Meth K D.cU "called" D.cw
 Bs:mg "BadHand" = some (.ref D.bM)
 lL:OY K D.bM
 Bu:MkX K D.bM D.au
 aaR:PySem.W.kitOne K (.ref D.bM) 3e5=some true
 PL:∃ cd,jL K D.bM cd/\cd.mro.contains (.ref D.aM)=true
 SA:Meth K D.bM "called" D.cV
 SD:mg "BadName" = some (.ref D.eT)
 Bv:OY K D.eT
 SE:MkX K D.eT D.au
 aaS:PySem.W.kitOne K (.ref D.eT) 3e5=some true
 PM:∃ cd,jL K D.eT cd/\cd.mro.contains (.ref D.aM)=true
 SF:Meth K D.eT "called" D.cW
 PN:mg "BadField" = some (.ref D.fu)
 xW:OY K D.fu
 PQ:MkX K D.fu D.au
 aao:PySem.W.kitOne K (.ref D.fu) 3e5=some true
 Ng:∃ cd,jL K D.fu cd/\cd.mro.contains (.ref D.aM)=true
 PR:Meth K D.fu "called" D.cv
 oB:mg "BadAddress" = some (.ref D.bj)
 jX:OY K D.bj
 tq:MkX K D.bj D.au
 X6:PySem.W.kitOne K (.ref D.bj) 3e5=some true
 Wy:∃ cd,jL K D.bj cd/\cd.mro.contains (.ref D.aM)=true
 X7:Meth K D.bj "called" D.di
 VI:mg "NoRoom" = some (.ref D.j7)
 ML:OY K D.j7
 VJ:MkX K D.j7 D.au
 ab6:PySem.W.kitOne K (.ref D.j7) 3e5=some true
 SG:∃ cd,jL K D.j7 cd/\cd.mro.contains (.ref D.aM)=true
 VL:Meth K D.j7 "called" D.dH
 G7:mg "TooManyWords" = some (.ref D.bR)
 vx:OY K D.bR
 G8:MkX K D.bR D.au
 We:PySem.W.kitOne K (.ref D.bR) 3e5=some true
 Eo:∃ cd,jL K D.bR cd/\cd.mro.contains (.ref D.aM)=true
 G9:Meth K D.bR "called" D.bu
 SH:mg "BadView" = some (.ref D.hU)
 SI:OY K D.hU
 SJ:MkX K D.hU D.au
 aaT:PySem.W.kitOne K (.ref D.hU) 3e5=some true
 aap:∃ cd,jL K D.hU cd/\cd.mro.contains (.ref D.aM)=true
 aaU:Meth K D.hU "called" D.fg
 SK:mg "RoundOn" = some (.ref D.iM)
 Kc:OY K D.iM
 SM:MkX K D.iM D.au
 aaV:PySem.W.kitOne K (.ref D.iM) 3e5=some true
 PU:∃ cd,jL K D.iM cd/\cd.mro.contains (.ref D.aM)=true
 SN:Meth K D.iM "called" D.cX
 SO:mg "NoRound" = some (.ref D.iN)
 Kd:OY K D.iN
 SQ:MkX K D.iN D.au
 aaW:PySem.W.kitOne K (.ref D.iN) 3e5=some true
 PV:∃ cd,jL K D.iN cd/\cd.mro.contains (.ref D.aM)=true
 SR:Meth K D.iN "called" D.cY
 Xe:mg "Hands" = some (.ref D.bo)
 bc:Cls K D.bo
 KN:Mk K D.bo D.dS
 cJ:ft K D.bo "words_held"
 nY:Meth K D.bo "word_in" D.cO
 lD:Meth K D.bo "all_words" D.bT
 qh:Meth K D.bo "put" D.fQ
 K8:Meth K D.bo "copy" D.iD
 Ha:Meth K D.bo "number" D.fP
 tw:Meth K D.bo "kind" D.fM
 IA:Meth K D.bo "value" D.gL
 hG:Meth K D.bo "thing_due" D.bp
 Nh:mg "WordTable" = some (.ref D.aN)
 dG:Cls K D.aN
 u5:Mk K D.aN D.bX
 bP:ft K D.aN "words_borne"
 lT:ft K D.aN "words_said"
 BD:Meth K D.aN "bear" D.dU
 yw:Meth K D.aN "settle" D.cH
 Ni:mg "NameTable" = some (.ref D.aH)
 eE:Cls K D.aH
 u6:Mk K D.aH D.bY
 cn:ft K D.aH "things_named"
 BE:Meth K D.aH "name" D.dW
 zY:Meth K D.aH "named" D.dr
 uo:Meth K D.aH "all_named" D.bN
 yx:Meth K D.aH "settle" D.cI
 ZT:mg "Heap" = some (.ref D.ba)
 adY:Cls K D.ba
 UN:Mk K D.ba D.cP
 R6:ft K D.ba "makes_young"
 Wf:ft K D.ba "in_hands"
 TY:ft K D.ba "weak_names"
 T1:ft K D.ba "last_words"
 R7:ft K D.ba "fields_held"
 Rt:ft K D.ba "young_things"
 T2:ft K D.ba "next_thing"
 T3:Meth K D.ba "add_thing" D.cu
 Zd:Meth K D.ba "load" D.gW
 X8:Meth K D.ba "store" D.fN
 Ze:Meth K D.ba "copy" D.gX
 Zf:Meth K D.ba "drop" D.gY
 Wz:Meth K D.ba "number" D.eC
 Zg:Meth K D.ba "name" D.gZ
 R9:Meth K D.ba "read_thing" D.bU
 Zh:Meth K D.ba "word" D.g4
 Ru:Meth K D.ba "small_round" D.bK
 WA:Meth K D.ba "let_go" D.dF
 Pe:Meth K D.ba "look_at_held" D.bC
 Rw:Meth K D.ba "words_among" D.br
 T4:Meth K D.ba "led_among" D.bF
 ZU:aaN K D.ba "__init__" D.cP
 Nj:mg "IdealHeap" = some (.ref D.ab)
 ae:Cls K D.ab
 u7:Mk K D.ab D.bZ
 iW:ft K D.ab "makes_young"
 aC:ft K D.ab "in_hands"
 d9:ft K D.ab "weak_names"
 jo:ft K D.ab "last_words"
 aD:ft K D.ab "fields_held"
 bJ:ft K D.ab "young_things"
 jq:ft K D.ab "next_thing"
 lU:ft K D.ab "young_room"
 rT:ft K D.ab "limit"
 bD:ft K D.ab "doomed_things"
 dQ:ft K D.ab "in_round"
 uq:Meth K D.ab "add_thing" D.cu
 BF:Meth K D.ab "load" D.gW
 zZ:Meth K D.ab "store" D.fN
 BG:Meth K D.ab "copy" D.gX
 BH:Meth K D.ab "drop" D.gY
 yy:Meth K D.ab "number" D.eC
 BI:Meth K D.ab "name" D.gZ
 tO:Meth K D.ab "read_thing" D.bU
 BJ:Meth K D.ab "word" D.g4
 sj:Meth K D.ab "small_round" D.bK
 pW:Meth K D.ab "let_go" D.dF
 rE:Meth K D.ab "look_at_held" D.bC
 kX:Meth K D.ab "words_among" D.br
 jr:Meth K D.ab "led_among" D.bF
 BK:Meth K D.ab "make" D.dX
 BL:Meth K D.ab "read" D.dY
 T5:Meth K D.ab "kind" D.fq
 Sa:Meth K D.ab "value" D.eh
 Rx:Meth K D.ab "fields" D.dM
 rU:Meth K D.ab "held" D.c7
 lE:Meth K D.ab "small" D.bV
 qx:Meth K D.ab "begin" D.cy
 nZ:Meth K D.ab "end" D.dI
 nI:Meth K D.ab "round_on" D.bG
 qy:Meth K D.ab "hands" D.cz
 qz:Meth K D.ab "names" D.cA
 gn:Meth K D.ab "things" D.bL
 cR:Meth K D.ab "fields_of" D.aQ
 Aa:Meth K D.ab "spare" D.du
 MM:mg "Memory" = some (.ref D.bS)
 bE:Cls K D.bS
 zt:Mk K D.bS D.dw
 jf:ft K D.bS "cells"
 qQ:Meth K D.bS "size" D.eD
 jI:Meth K D.bS "at" D.eU
 lj:Meth K D.bS "put" D.fO
 kE:Meth K D.bS "look_at_address" D.aX
 IB:mg "number_value" = some (.ref D.eF)
 qR:PySem.W.keepIn K (.ref D.eF)=true
 oE:mg "thing_value" = some (.ref D.cQ)
 jY:PySem.W.keepIn K (.ref D.cQ)=true
 lV:mg "kind_of" = some (.ref D.d8)
 j9:PySem.W.keepIn K (.ref D.d8)=true
 Bw:mg "words_of" = some (.ref D.hW)
 rF:PySem.W.keepIn K (.ref D.hW)=true
 ud:mg "look_at_number" = some (.ref D.cq)
 kF:PySem.W.keepIn K (.ref D.cq)=true
 hJ:mg "look_at_hand" = some (.ref D.bB)
 eK:PySem.W.keepIn K (.ref D.bB)=true
 xv:mg "look_at_name" = some (.ref D.dB)
 mV:PySem.W.keepIn K (.ref D.dB)=true
 vz:mg "look_at_field" = some (.ref D.cN)
 lq:PySem.W.keepIn K (.ref D.cN)=true
 Ep:mg "look_at_limits" = some (.ref D.cZ)
 oe:PySem.W.keepIn K (.ref D.cZ)=true
 aeA:mg "lay" = some (.ref D.G6)
 Y3:PySem.W.keepIn K (.ref D.G6)=true
 SS:mg "thing_at" = some (.ref D.jN)
 Bx:PySem.W.keepIn K (.ref D.jN)=true
 SU:mg "resolved" = some (.ref D.jO)
 By:PySem.W.keepIn K (.ref D.jO)=true
 PX:mg "fields_at" = some (.ref D.iE)
 xX:PySem.W.keepIn K (.ref D.iE)=true
 K9:mg "fields_told" = some (.ref D.fz)
 tD:PySem.W.keepIn K (.ref D.fz)=true
 xw:mg "look_at_room" = some (.ref D.dC)
 mW:PySem.W.keepIn K (.ref D.dC)=true
 Xf:mg "copied" = some (.ref D.nJ)
 KO:PySem.W.keepIn K (.ref D.nJ)=true
 Nk:mg "things_met" = some (.ref D.gr)
 u9:PySem.W.keepIn K (.ref D.gr)=true
 xx:mg "address_told" = some (.ref D.dD)
 mX:PySem.W.keepIn K (.ref D.dD)=true
 La:mg "words_among" = some (.ref D.fA)
 tE:PySem.W.keepIn K (.ref D.fA)=true
 Lb:mg "places_from" = some (.ref D.fB)
 tF:PySem.W.keepIn K (.ref D.fB)=true
 GI:mg "told_anew" = some (.ref D.iF)
 sN:PySem.W.keepIn K (.ref D.iF)=true
 Nl:mg "last_steps" = some (.ref D.gu)
 va:PySem.W.keepIn K (.ref D.gu)=true
 zG:mg "thing_among" = some (.ref D.fF)
 oH:PySem.W.keepIn K (.ref D.fF)=true
 DP:mg "is_picture" = some (.ref D.gx)
 qi:PySem.W.keepIn K (.ref D.gx)=true
 IC:mg "first_unlike" = some (.ref D.eG)
 qS:PySem.W.keepIn K (.ref D.eG)=true
 BM:mg "first_misplaced" = some (.ref D.cB)
 mK:PySem.W.keepIn K (.ref D.cB)=true
 xy:mg "addresses_of" = some (.ref D.eI)
 mY:PySem.W.keepIn K (.ref D.eI)=true
 Es:mg "first_headless" = some (.ref D.c9)
 og:PySem.W.keepIn K (.ref D.c9)=true
 wA:mg "first_unlike_field" = some (.ref D.bH)
 kj:PySem.W.keepIn K (.ref D.bH)=true
 pX:mg "first_unlike_word" = some (.ref D.bO)
 iT:PySem.W.keepIn K (.ref D.bO)=true
 MN:mg "is_like" = some (.ref D.j8)
 zu:PySem.W.keepIn K (.ref D.j8)=true
 PY:mg "place_met" = some (.ref D.iH)
 xY:PySem.W.keepIn K (.ref D.iH)=true
 PZ:mg "_law_cell" = some (.ref D.iI)
 xZ:PySem.W.keepIn K (.ref D.iI)=true
 ID:mg "_law_numbers" = some (.ref D.eJ)
 qT:PySem.W.keepIn K (.ref D.eJ)=true
 P0:mg "_law_deed" = some (.ref D.iJ)
 x8:PySem.W.keepIn K (.ref D.iJ)=true
 Nm:mg "_law_plain" = some (.ref D.gy)
 vc:PySem.W.keepIn K (.ref D.gy)=true
 P1:mg "_law_done" = some (.ref D.iK)
 x9:PySem.W.keepIn K (.ref D.iK)=true
 xA:mg "_law_word_of" = some (.ref D.dE)
 mZ:PySem.W.keepIn K (.ref D.dE)=true
 P8:mg "_law_laid" = some (.ref D.iL)
 ya:PySem.W.keepIn K (.ref D.iL)=true
 DQ:mg "_law_names" = some (.ref D.gz)
 qj:PySem.W.keepIn K (.ref D.gz)=true
 apM:mg "law" = some (.ref D.jm)
 aaX:PySem.W.keepIn K (.ref D.jm)=true
 lM:mg "len" = none
 zH:mg "range" = none
 wB:mg "list" = none
 D5:mg "sorted" = none
 SV:mg "sum" = none
 Y4:mg "abs" = none
 jC:mg "enumerate" = none
 ve:mg "ValueError" = none
 Lc:mg "dict" = none
 Ke:mg "HANDS" = some (.int 8 D.Kb)
 qk:mg "WEAK_NAMES" = some (.int 8 D.qd)
 tG:mg "MOST_FIELDS" = some (.int 6 D.oA)
 ql:mg "LEAST_ROOM" = some (.int 7 D.qe)
 vg:mg "MOST_YOUNG" = some (.int 64 D.qf)
 vh:mg "MOST_LIMIT" = some (.int 400 D.qg)
 m7:mg "MOST_BEARERS" = some (.int 12 D.mU)
structure Ok(P:Program)(w:World)(K:W.Frag)(mg:Str->Option Value)(base:Heap)(n:Nat)(f:Addr)(fd:FuncData)(ps:List Str)(sp:Sp):Prop where
 g:Ej P w K mg base (CXE P w) n f fd ps sp
 b:Binds K fd ps []
section
variable{X:Cx}{n k:Nat}{f C:Addr}{fd:FuncData}{ps:List Str}{sp:Sp}{EK:St->XK}{x mn:Str}{p apos pos:Pos}{ex o:Expr}{es:List Expr}{t:TA}{ta:TE}
theorem Ok.c(G:Ok X.prog X.w X.K X.mg X.base n f fd ps sp)(hr:lO k X.A)(hm:X.mg x=some (.ref f))(hk:PySem.W.keepIn X.K (.ref f)=true)(hx:gC (CXE X.prog X.w) X EK)(ha:PA X (ex::es) t)(hn:n<=k:=by decide)(hg:Gl X x:=by exact rfl)(hdb:(x == ("__debug__" : Str))=false:=by decide)(he:starEach (ex::es) X.env=(false,eval ex X.env)::starEach es X.env:=by rfl)(hpl:(backTo pos (starEach es X.env)).any (·.1)=false:=by rfl):PE X (.Call (.Name x p) (ex::es) [] pos) (YX sp [] EK t):=tX G.g (hr.mono hn) hg hm hk G.b .nil hx ha hdb he hpl
theorem Ok.m{pl:Sem Bool}(G:Ok X.prog X.w X.K X.mg X.base n f fd ps sp)(hr:lO k X.A)(he:PE X o ta)(c:Cls X.K C)(hm:Meth X.K C mn f)(hx:gC (CXE X.prog X.w) X EK)(ha:PA X (ex::es) t)(hn:n<=k:=by decide)(hst:starEach (ex::es) X.env=(false,eval ex X.env)::starEach es X.env:=by rfl)(hpl:(backTo pos (starEach es X.env)).any (·.1)=false:=by rfl)
  (ht:eval (.Call (.Attribute o mn apos) (ex::es) [] pos) X.env=(do let ov <-eval o X.env;standAt apos.atName;let (f,first) <-holding [ov] (getMethod ov mn pl);callWith pos f first (backTo pos (starEach (ex::es) X.env)) (backToKw pos (keywordEach [] X.env))):=by rfl):PE X (.Call (.Attribute o mn apos) (ex::es) [] pos) (Wb C mn sp [] EK ta t):=UD he c hm G.g (hr.mono hn) G.b .nil hx ha hst hpl ht
theorem Ok.m0{pl:Sem Bool}(G:Ok X.prog X.w X.K X.mg X.base n f fd ps sp)(hr:lO k X.A)(he:PE X o ta)(c:Cls X.K C)(hm:Meth X.K C mn f)(hx:gC (CXE X.prog X.w) X EK)(hn:n<=k:=by decide)
  (ht:eval (.Call (.Attribute o mn apos) [] [] pos) X.env=(do let ov <-eval o X.env;standAt apos.atName;let (f,first) <-holding [ov] (getMethod ov mn pl);callWith pos f first (backTo pos (starEach [] X.env)) (backToKw pos (keywordEach [] X.env))):=by rfl):PE X (.Call (.Attribute o mn apos) [] [] pos) (Wb C mn sp [] EK ta OV):=W0 he c hm G.g (hr.mono hn) G.b .nil hx ht
theorem Ok.e(G:Ok X.prog X.w X.K X.mg X.base n f fd ps sp)(hr:lO k X.A)(M:MkX X.K C f)(hm:X.mg x=some (.ref C))(hx:gC (CXE X.prog X.w) X EK)(ha:PA X (ex::es) t)(hn:n+1<=k:=by decide)(hg:Gl X x:=by exact rfl)(hps:ps.length<=1000:=by decide)(hdb:(x == ("__debug__" : Str))=false:=by decide)(he:starEach (ex::es) X.env=(false,eval ex X.env)::starEach es X.env:=by rfl)(hpl:(backTo pos (starEach es X.env)).any (·.1)=false:=by rfl):PE X (.Call (.Name x p) (ex::es) [] pos) (alg C sp EK t):=abF M G.g (hr.mono hn) hg hm G.b hx ha hps hdb he hpl
end
section
variable{P:Program}{w:World}{K:W.Frag}{mg:Str->Option Value}{base:Heap}{x qual:Str}{st:Stmt}{f:Addr}{fd:FuncData}{N ps:List Str}{k:Nat}{sp:Sp}
theorem _root_.L2.Fun.oa(F:Fun K x qual st f fd)(S:aw N ps (aq st))(B:Binds K fd ps [])
  (GZ:∀(cdv:Value) (A:Around) (outer:List Env) (s:Shared) (H:Hp) (vs:List V) (Q:VK) (E:XK),lO k (A.deeper (PyProof.Rows.envOfC qual (aq st) s.heap.objs.size f cdv))->sp vs H Q E->∃ t,PSs (cxE P w K mg base N qual (aq st) f cdv A outer s H E) (aE st) t/\t {nx:=λ_ H'=>Q .non H',rt:=Q} (start N vs) H)
  (len:∀ vs H Q E,sp vs H Q E->vs.length=ps.length:=by(intro vs H Q E h;repeat (first|(obtain⟨rfl,_⟩:=h;rfl)|obtain⟨_,h⟩:=h))):9e7 (k+1) f fd ps sp:=⟨F.okE S len GZ,B⟩
theorem fsc{N P:List Str}{sc:Scope}(h1:sc.kind=.function:=by exact rfl)(h2:sc.isCoroutine=false:=by exact rfl)(h3:sc.isGenerator=false:=by exact rfl)(h4:N.Nodup:=by decide +kernel)(h5:N.take P.length=P:=by exact rfl)(h6:∀ x∈P,sc.names.lookup x=some .local\/sc.names.lookup x=some .cell:=by decide +kernel)(h7:∀ y∈sc.names,y.2≠.free:=by decide +kernel):aw N P sc:=⟨h1,h2,h3,h4,h5,h6,h7⟩
theorem _root_.L2.Fun.b1{p0:Str}(F:Fun K x qual st f fd)(h:∀(kV doc pm:Value) (an:Option Addr) (cdv ct:Value) (u0:Value),bindArgs (PySem.W.fnOf x qual (lP st) (aE st) (aq st) .none kV doc pm an cdv ct) ⟨[u0],[]⟩=pure (([p0]:List Str).zip [u0]):=by intros;rfl):Binds K fd [p0] []:=F.binds (ps:=[p0]) λkV doc pm an cdv ct us hl=>match us,hl with|[u0],_=>h kV doc pm an cdv ct u0
theorem _root_.L2.Fun.b2{p0 p1:Str}(F:Fun K x qual st f fd)(h:∀(kV doc pm:Value) (an:Option Addr) (cdv ct:Value) (u0 u1:Value),bindArgs (PySem.W.fnOf x qual (lP st) (aE st) (aq st) .none kV doc pm an cdv ct) ⟨[u0,u1],[]⟩=pure (([p0,p1]:List Str).zip [u0,u1]):=by intros;rfl):Binds K fd [p0,p1] []:=F.binds (ps:=[p0,p1]) λkV doc pm an cdv ct us hl=>match us,hl with|[u0,u1],_=>h kV doc pm an cdv ct u0 u1
theorem _root_.L2.Fun.b3{p0 p1 p2:Str}(F:Fun K x qual st f fd)(h:∀(kV doc pm:Value) (an:Option Addr) (cdv ct:Value) (u0 u1 u2:Value),bindArgs (PySem.W.fnOf x qual (lP st) (aE st) (aq st) .none kV doc pm an cdv ct) ⟨[u0,u1,u2],[]⟩=pure (([p0,p1,p2]:List Str).zip [u0,u1,u2]):=by intros;rfl):Binds K fd [p0,p1,p2] []:=F.binds (ps:=[p0,p1,p2]) λkV doc pm an cdv ct us hl=>match us,hl with|[u0,u1,u2],_=>h kV doc pm an cdv ct u0 u1 u2
theorem _root_.L2.Fun.b4{p0 p1 p2 p3:Str}(F:Fun K x qual st f fd)(h:∀(kV doc pm:Value) (an:Option Addr) (cdv ct:Value) (u0 u1 u2 u3:Value),bindArgs (PySem.W.fnOf x qual (lP st) (aE st) (aq st) .none kV doc pm an cdv ct) ⟨[u0,u1,u2,u3],[]⟩=pure (([p0,p1,p2,p3]:List Str).zip [u0,u1,u2,u3]):=by intros;rfl):Binds K fd [p0,p1,p2,p3] []:=F.binds (ps:=[p0,p1,p2,p3]) λkV doc pm an cdv ct us hl=>match us,hl with|[u0,u1,u2,u3],_=>h kV doc pm an cdv ct u0 u1 u2 u3
theorem _root_.L2.Fun.b5{p0 p1 p2 p3 p4:Str}(F:Fun K x qual st f fd)(h:∀(kV doc pm:Value) (an:Option Addr) (cdv ct:Value) (u0 u1 u2 u3 u4:Value),bindArgs (PySem.W.fnOf x qual (lP st) (aE st) (aq st) .none kV doc pm an cdv ct) ⟨[u0,u1,u2,u3,u4],[]⟩=pure (([p0,p1,p2,p3,p4]:List Str).zip [u0,u1,u2,u3,u4]):=by intros;rfl):Binds K fd [p0,p1,p2,p3,p4] []:=F.binds (ps:=[p0,p1,p2,p3,p4]) λkV doc pm an cdv ct us hl=>match us,hl with|[u0,u1,u2,u3,u4],_=>h kV doc pm an cdv ct u0 u1 u2 u3 u4
end
theorem aeB{t1 t2 t3 t4 t5 t6 t7 t8 t9 t10 t11 t12 t13 t14 t15 t16 t17 t18 t19:TS}{D:Ends}{σ:St}{H:Hp}(h:let N19:St->Hp->Prop:=λσ H=>t19 D σ H;let N18:St->Hp->Prop:=λσ H=>t18 {D with nx:=N19} σ H;let N17:St->Hp->Prop:=λσ H=>t17 {D with nx:=N18} σ H;let N16:St->Hp->Prop:=λσ H=>t16 {D with nx:=N17} σ H;let N15:St->Hp->Prop:=λσ H=>t15 {D with nx:=N16} σ H;let N14:St->Hp->Prop:=λσ H=>t14 {D with nx:=N15} σ H;let N13:St->Hp->Prop:=λσ H=>t13 {D with nx:=N14} σ H;let N12:St->Hp->Prop:=λσ H=>t12 {D with nx:=N13} σ H;let N11:St->Hp->Prop:=λσ H=>t11 {D with nx:=N12} σ H;let N10:St->Hp->Prop:=λσ H=>t10 {D with nx:=N11} σ H;let N9:St->Hp->Prop:=λσ H=>t9 {D with nx:=N10} σ H;let N8:St->Hp->Prop:=λσ H=>t8 {D with nx:=N9} σ H;let N7:St->Hp->Prop:=λσ H=>t7 {D with nx:=N8} σ H;let N6:St->Hp->Prop:=λσ H=>t6 {D with nx:=N7} σ H;let N5:St->Hp->Prop:=λσ H=>t5 {D with nx:=N6} σ H;let N4:St->Hp->Prop:=λσ H=>t4 {D with nx:=N5} σ H;let N3:St->Hp->Prop:=λσ H=>t3 {D with nx:=N4} σ H;let N2:St->Hp->Prop:=λσ H=>t2 {D with nx:=N3} σ H;  t1 {D with nx:=N2} σ H):(rA t1 (rA t2 (rA t3 (rA t4 (rA t5 (rA t6 (rA t7 (rA t8 (rA t9 (rA t10 (rA t11 (rA t12 (rA t13 (rA t14 (rA t15 (rA t16 (rA t17 (rA t18 t19)))))))))))))))))) D σ H:=h
theorem px{P:Program}{w:World}{K:W.Frag}{mg:Str->Option Value}{base:Heap}{N:List Str}{qual:Str}{sc:Scope}{f:Addr}{cdv:Value}{A:Around}{outer:List Env}{s:Shared}{H:Hp}{E:XK}:gC (CXE P w) (cxE P w K mg base N qual sc f cdv A outer s H E) (λ_=>E):=Passes.x (Wa λ_ _ _ q=>q)
inductive Wd where
 | no
 | num (x:Int)
 | th (t:Int)
 deriving DecidableEq
noncomputable def Wd.kind:Wd->Str
 | .no => "none"
 | .num _ => "number"
 | .th _ => "thing"
noncomputable def WV(H:Hp)(v:V):Wd->Prop
 | .no=>v=.non
 | .num x=>∃ t,v=.ref t/\H t=some (.tup [.str "number",.int x])
 | .th x=>∃ t,v=.ref t/\H t=some (.tup [.str "thing",.int x])
noncomputable def bI(H H':Hp):Prop:=∀ t us,H t=some (.tup us)->H' t=some (.tup us)
theorem bI.of{H H':Hp}(s:az H H'):bI H H':=λt us q=>s _ _ q
theorem bI.trans{H H1 H2:Hp}(a:bI H H1)(b:bI H1 H2):bI H H2:=λt us q=>b t us (a t us q)
theorem bI.set{H:Hp}{c:Addr}{u o:HO}(h:H c=some u)(n:∀ xs,u≠.tup xs):bI H (upd H c o):=λt us q=>by
 rw[ah λe=>by rw[e,h]at q;exact n us (aqh q)];exact q
theorem WV.keep{H H':Hp}{v:V}{w:Wd}(h:WV H v w)(s:bI H H'):WV H' v w:=by
 cases w with
 | no=>exact h
 | num n=>obtain⟨t,e,q⟩:=h;exact⟨t,e,s _ _ q⟩
 | th n=>obtain⟨t,e,q⟩:=h;exact⟨t,e,s _ _ q⟩
noncomputable def Rel(H:Hp)(xs:List V)(ws:List Wd):Prop:=xs.length=ws.length/\∀(i:Nat) (v:V) (w:Wd),xs[i]?=some v->ws[i]?=some w->WV H v w
theorem Rel.keep{H H':Hp}{xs:List V}{ws:List Wd}(h:Rel H xs ws)(s:bI H H'):Rel H' xs ws:=⟨h.1,λi v w a b=>(h.2 i v w a b).keep s⟩
theorem Rel.get{H:Hp}{xs:List V}{ws:List Wd}(h:Rel H xs ws){i:Nat}(hi:i<ws.length):∃ v,xs[i]?=some v/\WV H v ws[i] :=
 ⟨_,apT (by rw[h.1];exact hi),h.2 i _ _ (apT (by rw[h.1];exact hi)) (apT hi)⟩
theorem Rel.set{H:Hp}{xs:List V}{ws:List Wd}{i:Nat}{v:V}{w:Wd}(h:Rel H xs ws)(hv:WV H v w):Rel H (xs.set i v) (ws.set i w):=by
 refine⟨by rw[aqp,aqp];exact h.1,λj u y a b=>?_⟩;rw[arM]at a b;by_cases e:i=j
 ·subst e
  simp only[if_true]at a b;split at a
  ·split at b
   ·cases a;cases b;exact hv
   ·cases b
  ·cases a
 ·rw[if_neg e]at a b
  exact h.2 j u y a b
theorem Rel.nil{H:Hp}{n:Nat}:Rel H (List.replicate n .non) (List.replicate n .no):=⟨by simp,λi v w a b=>by
 rw[aqq (apW a),aqq (apW b)];rfl⟩
noncomputable def nmV:Option Int->V
 | none=>.non
 | some t=>.int t
structure HS where
 my:Bool
 aZ:List Wd
 names:List (Option Int)
 cC:List (Int×Int)
 xB:List Int
 aJ:List (Int×List Wd)
 yng:List Int
 nxt:Int
 room:Int
 limit:Int
 eL:List Int
 rnd:Bool
structure HA where
 dx:Addr
 hd:Addr
 hdx:Addr
 hl:Addr
 hx:List V
 nt:Addr
 ntx:Addr
 nl:Addr
 wt:Addr
 wtx:Addr
 wb:Addr
 wl:Addr
 fh:Addr
 fa:Int->Addr
 fx:Int->List V
 yg:Addr
 dm:Addr
noncomputable def atts(A:HA)(s:HS):List (Str×V):=[("makes_young",.bl s.my),("in_hands",.ref A.hd),("weak_names",.ref A.nt),("last_words",.ref A.wt),("fields_held",.ref A.fh),("young_things",.ref A.yg),("next_thing",.int s.nxt),("young_room",.int s.room),("limit",.int s.limit),("doomed_things",.ref A.dm),("in_round",.bl s.rnd)]
theorem aaY{A:HA}{s:HS}:(atts A s).lookup ("makes_young" : Str)=some (.bl s.my):=by kernel_rfl
theorem qm{A:HA}{s:HS}:(atts A s).lookup ("in_hands" : Str)=some (.ref A.hd):=by kernel_rfl
theorem Wg{A:HA}{s:HS}:(atts A s).lookup ("weak_names" : Str)=some (.ref A.nt):=by kernel_rfl
theorem aaZ{A:HA}{s:HS}:(atts A s).lookup ("last_words" : Str)=some (.ref A.wt):=by kernel_rfl
theorem uj{A:HA}{s:HS}:(atts A s).lookup ("fields_held" : Str)=some (.ref A.fh):=by kernel_rfl
theorem SW{A:HA}{s:HS}:(atts A s).lookup ("young_things" : Str)=some (.ref A.yg):=by kernel_rfl
theorem aeC{A:HA}{s:HS}:(atts A s).lookup ("next_thing" : Str)=some (.int s.nxt):=by kernel_rfl
theorem aeD{A:HA}{s:HS}:(atts A s).lookup ("young_room" : Str)=some (.int s.room):=by kernel_rfl
theorem aeE{A:HA}{s:HS}:(atts A s).lookup ("limit" : Str)=some (.int s.limit):=by kernel_rfl
theorem SX{A:HA}{s:HS}:(atts A s).lookup ("doomed_things" : Str)=some (.ref A.dm):=by kernel_rfl
theorem Y5{A:HA}{s:HS}:(atts A s).lookup ("in_round" : Str)=some (.bl s.rnd):=by kernel_rfl
theorem aeF{A:HA}{s:HS}{n:Int}:jJ "next_thing" (.int n) 6e8=atts A {s with nxt:=n}:=by kernel_rfl
theorem aeG{A:HA}{s:HS}{b:Bool}:jJ "in_round" (.bl b) 6e8=atts A {s with rnd:=b}:=by kernel_rfl
theorem aeH{A:HA}{s:HS}{a:Addr}:jJ "young_things" 8e5 6e8=atts {A with yg:=a} s:=by kernel_rfl
theorem aeI{A:HA}{s:HS}{a:Addr}:jJ "doomed_things" 8e5 6e8=atts {A with dm:=a} s:=by kernel_rfl
noncomputable def bkv(p:Int×Int):Key×V:=(Sum.inl p.1,.int p.2)
noncomputable def tkv(t:Int):Key×V:=(Sum.inl t,.bl true)
noncomputable def fkv(A:HA)(p:Int×List Wd):Key×V:=(Sum.inl p.1,.ref (A.fa p.1))
structure IH(D:Ad)(H:Hp)(x:Addr)(A:HA)(s:HS):Prop where
 ax:H x=some (.ins D.ab A.dx 6e8)
 ahd:H A.hd=some (.ins D.bo A.hdx [("words_held",.ref A.hl)])
 ahl:H A.hl=some (.lst A.hx)
 rhl:Rel H A.hx s.aZ
 ant:H A.nt=some (.ins D.aH A.ntx [("things_named",.ref A.nl)])
 anl:H A.nl=some (.lst (s.names.map nmV))
 awt:H A.wt=some (.ins D.aN A.wtx [("words_borne",.ref A.wb),("words_said",.ref A.wl)])
 awb:H A.wb=some (.dK (s.cC.map bkv))
 awl:H A.wl=some (.lst (s.xB.map V.int))
 afh:H A.fh=some (.dK 9e2)
 afl:∀ t ws,(t,ws)∈s.aJ->H (A.fa t)=some (.lst (A.fx t))/\Rel H (A.fx t) ws
 ayg:H A.yg=some (.dK (s.yng.map tkv))
 adm:H A.dm=some (.dK (s.eL.map tkv))
 nhn:A.hd≠A.nt
 l1:A.hl≠A.nl
 l2:A.hl≠A.wl
 l3:A.nl≠A.wl
 l4:∀ t ws,(t,ws)∈s.aJ->A.fa t≠A.hl/\A.fa t≠A.nl/\A.fa t≠A.wl
 l5:∀ t ws t' ws',(t,ws)∈s.aJ->(t',ws')∈s.aJ->A.fa t=A.fa t'->t=t'
 d1:A.wb≠A.fh
 d2:A.wb≠A.yg
 d3:A.wb≠A.dm
 d4:A.fh≠A.yg
 d5:A.fh≠A.dm
 d6:A.yg≠A.dm
inductive cL(x:Addr)(A:HA)(s:HS):Addr->Prop where
 | x:cL x A s x
 | hd:cL x A s A.hd
 | hl:cL x A s A.hl
 | nt:cL x A s A.nt
 | nl:cL x A s A.nl
 | wt:cL x A s A.wt
 | wb:cL x A s A.wb
 | wl:cL x A s A.wl
 | fh:cL x A s A.fh
 | yg:cL x A s A.yg
 | dm:cL x A s A.dm
 | fl {t:Int} {ws:List Wd}:(t,ws)∈s.aJ->cL x A s (A.fa t)
theorem oJ{C d C' d':Addr}{fs gs:List (Str×V)}(h:fs.length≠gs.length):HO.ins C d fs≠HO.ins C' d' gs:=λe=>by
 injection e with _ _ e;exact h (congrArg List.length e)
section
variable{D:Ad}{H H' H1 H2:Hp}{x:Addr}{A A':HA}{s s':HS}
theorem IH.is(J:IH D H x A s){b:Addr}(f:cL x A s b):∃ u,H b=some u/\∀ xs,u≠.tup xs:=by
 cases f with
 | x=>exact⟨_,J.ax,λ_ z=>nomatch z⟩
 | hd=>exact⟨_,J.ahd,λ_ z=>nomatch z⟩
 | hl=>exact⟨_,J.ahl,λ_ z=>nomatch z⟩
 | nt=>exact⟨_,J.ant,λ_ z=>nomatch z⟩
 | nl=>exact⟨_,J.anl,λ_ z=>nomatch z⟩
 | wt=>exact⟨_,J.awt,λ_ z=>nomatch z⟩
 | wb=>exact⟨_,J.awb,λ_ z=>nomatch z⟩
 | wl=>exact⟨_,J.awl,λ_ z=>nomatch z⟩
 | fh=>exact⟨_,J.afh,λ_ z=>nomatch z⟩
 | yg=>exact⟨_,J.ayg,λ_ z=>nomatch z⟩
 | dm=>exact⟨_,J.adm,λ_ z=>nomatch z⟩
 | fl m=>exact⟨_,(J.afl _ _ m).1,λ_ z=>nomatch z⟩
theorem IH.keep(J:IH D H x A s)(k:∀ b u,cL x A s b->H b=some u->H' b=some u)(t:bI H H'):IH D H' x A s :=
 ⟨k _ _ .x J.ax,k _ _ .hd J.ahd,k _ _ .hl J.ahl,J.rhl.keep t,k _ _ .nt J.ant,k _ _ .nl J.anl,k _ _ .wt J.awt,k _ _ .wb J.awb,k _ _ .wl J.awl,k _ _ .fh J.afh,λu ws m=>⟨k _ _ (.fl m) (J.afl _ _ m).1,(J.afl _ _ m).2.keep t⟩,k _ _ .yg J.ayg,k _ _ .dm J.adm,
  J.nhn,J.l1,J.l2,J.l3,J.l4,J.l5,J.d1,J.d2,J.d3,J.d4,J.d5,J.d6⟩
theorem IH.same(J:IH D H x A s)(k:az H H'):IH D H' x A s:=J.keep (λ_ _ _ q=>k _ _ q) (bI.of k)
structure Fr(F:Addr->Prop)(H:Hp)(F':Addr->Prop)(H':Hp):Prop where
 ext:∀ b u,¬F b->H b=some u->H' b=some u
 grow:∀ b,F' b->F b\/H b=none
 all:∀ b u,H b=some u->∃ u',H' b=some u'
 tup:bI H H'
variable{F F' F1 F2:Addr->Prop}
theorem Fr.trans(a:Fr F H F1 H1)(b:Fr F1 H1 F2 H2):Fr F H F2 H2 where
 ext:=λc u n q=>b.ext c u (λf=>(a.grow c f).elim n λe=>by rw[e]at q;cases q) (a.ext c u n q)
 grow:=λc f=>(b.grow c f).elim (λf1=>a.grow c f1) λe=>by
  cases q:H c with
  | none=>exact .inr rfl
  | some u=>obtain⟨u',q'⟩:=a.all c u q;rw[e]at q';cases q'
 all:=λc u q=>by obtain⟨u',q'⟩:=a.all c u q;exact b.all c u' q'
 tup:=a.tup.trans b.tup
theorem Fr.same(k:az H H'):Fr F H F H':=⟨λ_ _ _ q=>k _ _ q,λ_ f=>.inl f,λb u q=>⟨u,k _ _ q⟩,bI.of k⟩
theorem Fr.refl:Fr F H F H:=Fr.same λ_ _ q=>q
theorem Fr.none(a:Fr F H F' H'){b:Addr}(h:H' b=none):H b=none:=by
 cases q:H b with
 | none=>rfl
 | some u=>obtain⟨u',q'⟩:=a.all b u q;rw[h]at q';cases q'
theorem Fr.set{b:Addr}{u o:HO}(f:F b)(hb:H b=some u)(n:∀ xs,u≠.tup xs)(g:∀ c,F' c->F c):Fr F H F' (upd H b o) where
 ext:=λc v nf q=>by rw[ah λe=>nf (by rw[e];exact f)];exact q
 grow:=λc f=>.inl (g c f)
 all:=λc v q=>by
  by_cases e:c=b
  ·exact⟨o,by rw[e];exact ag⟩
  ·exact⟨v,by rw[ah e];exact q⟩
 tup:=bI.set hb n
theorem Fr.out(a:Fr F H F' H'){b:Addr}{u:HO}(n:¬F b)(q:H b=some u):H' b=some u/\¬F' b:=⟨a.ext b u n q,λf=>(a.grow b f).elim n λe=>by rw[e]at q;cases q⟩
theorem IH.Ws(J:IH D H x A s){xs:List V}{ws:List Wd}(r:Rel H xs ws):IH D (upd H A.hl 5e6) x {A with hx:=xs} {s with aZ:=ws}/\Fr 4e1 H (cL x {A with hx:=xs} {s with aZ:=ws}) (upd H A.hl 5e6):=by
 have tk:bI H (upd H A.hl 5e6):=bI.set J.ahl 2e8;refine⟨⟨(by rw[ah (ay J.ax J.ahl 1e0)];exact J.ax),(by rw[ah (ay J.ahd J.ahl 1e0)];exact J.ahd),ag,r.keep tk,(by rw[ah (ay J.ant J.ahl 1e0)];exact J.ant),(by rw[ah (aqe J.l1)];exact J.anl),(by rw[ah (ay J.awt J.ahl 1e0)];exact J.awt),(by rw[ah (ay J.awb J.ahl 1e0)];exact J.awb),(by rw[ah (aqe J.l2)];exact J.awl),(by rw[ah (ay J.afh J.ahl 1e0)];exact J.afh),(λt ws m=>⟨by rw[ah (J.l4 _ _ m).1];exact(J.afl _ _ m).1,(J.afl _ _ m).2.keep tk⟩),(by rw[ah (ay J.ayg J.ahl 1e0)];exact J.ayg),(by rw[ah (ay J.adm J.ahl 1e0)];exact J.adm),J.nhn,J.l1,J.l2,J.l3,J.l4,J.l5,J.d1,J.d2,J.d3,J.d4,J.d5,J.d6⟩,Fr.set .hl J.ahl 2e8 (λc f=>?_)⟩;cases f with
 | x=>exact .x
 | hd=>exact .hd
 | hl=>exact .hl
 | nt=>exact .nt
 | nl=>exact .nl
 | wt=>exact .wt
 | wb=>exact .wb
 | wl=>exact .wl
 | fh=>exact .fh
 | yg=>exact .yg
 | dm=>exact .dm
 | fl m=>exact .fl m
theorem IH.apj(J:IH D H x A s){ns:List (Option Int)}:IH D (upd H A.nl 8e3) x A {s with names:=ns}/\Fr 4e1 H (cL x A {s with names:=ns}) (upd H A.nl 8e3):=by
 have tk:bI H (upd H A.nl 8e3):=bI.set J.anl 2e8;refine⟨⟨(by rw[ah (ay J.ax J.anl 1e0)];exact J.ax),(by rw[ah (ay J.ahd J.anl 1e0)];exact J.ahd),(by rw[ah J.l1];exact J.ahl),J.rhl.keep tk,(by rw[ah (ay J.ant J.anl 1e0)];exact J.ant),ag,(by rw[ah (ay J.awt J.anl 1e0)];exact J.awt),(by rw[ah (ay J.awb J.anl 1e0)];exact J.awb),(by rw[ah (aqe J.l3)];exact J.awl),(by rw[ah (ay J.afh J.anl 1e0)];exact J.afh),(λt ws m=>⟨by rw[ah (J.l4 _ _ m).2.1];exact(J.afl _ _ m).1,(J.afl _ _ m).2.keep tk⟩),(by rw[ah (ay J.ayg J.anl 1e0)];exact J.ayg),(by rw[ah (ay J.adm J.anl 1e0)];exact J.adm),J.nhn,J.l1,J.l2,J.l3,J.l4,J.l5,J.d1,J.d2,J.d3,J.d4,J.d5,J.d6⟩,Fr.set .nl J.anl 2e8 (λc f=>?_)⟩;cases f with
 | x=>exact .x
 | hd=>exact .hd
 | hl=>exact .hl
 | nt=>exact .nt
 | nl=>exact .nl
 | wt=>exact .wt
 | wb=>exact .wb
 | wl=>exact .wl
 | fh=>exact .fh
 | yg=>exact .yg
 | dm=>exact .dm
 | fl m=>exact .fl m
theorem IH.alh(J:IH D H x A s){bs:List (Int×Int)}:IH D (upd H A.wb (.dK (bs.map bkv))) x A {s with cC:=bs}/\Fr 4e1 H (cL x A {s with cC:=bs}) (upd H A.wb (.dK (bs.map bkv))):=by
 have tk:bI H (upd H A.wb (.dK (bs.map bkv))):=bI.set J.awb 2e8;refine⟨⟨(by rw[ah (ay J.ax J.awb 1e0)];exact J.ax),(by rw[ah (ay J.ahd J.awb 1e0)];exact J.ahd),(by rw[ah (ay J.ahl J.awb 1e0)];exact J.ahl),J.rhl.keep tk,(by rw[ah (ay J.ant J.awb 1e0)];exact J.ant),(by rw[ah (ay J.anl J.awb 1e0)];exact J.anl),(by rw[ah (ay J.awt J.awb 1e0)];exact J.awt),ag,(by rw[ah (ay J.awl J.awb 1e0)];exact J.awl),(by rw[ah (aqe J.d1)];exact J.afh),(λt ws m=>⟨by rw[ah (ay (J.afl _ _ m).1 J.awb 1e0)];exact(J.afl _ _ m).1,(J.afl _ _ m).2.keep tk⟩),(by rw[ah (aqe J.d2)];exact J.ayg),(by rw[ah (aqe J.d3)];exact J.adm),J.nhn,J.l1,J.l2,J.l3,J.l4,J.l5,J.d1,J.d2,J.d3,J.d4,J.d5,J.d6⟩,Fr.set .wb J.awb 2e8 (λc f=>?_)⟩;cases f with
 | x=>exact .x
 | hd=>exact .hd
 | hl=>exact .hl
 | nt=>exact .nt
 | nl=>exact .nl
 | wt=>exact .wt
 | wb=>exact .wb
 | wl=>exact .wl
 | fh=>exact .fh
 | yg=>exact .yg
 | dm=>exact .dm
 | fl m=>exact .fl m
theorem IH.apk(J:IH D H x A s){zs:List Int}:IH D (upd H A.wl 1e13) x A {s with xB:=zs}/\Fr 4e1 H (cL x A {s with xB:=zs}) (upd H A.wl 1e13):=by
 have tk:bI H (upd H A.wl 1e13):=bI.set J.awl 2e8;refine⟨⟨(by rw[ah (ay J.ax J.awl 1e0)];exact J.ax),(by rw[ah (ay J.ahd J.awl 1e0)];exact J.ahd),(by rw[ah J.l2];exact J.ahl),J.rhl.keep tk,(by rw[ah (ay J.ant J.awl 1e0)];exact J.ant),(by rw[ah J.l3];exact J.anl),(by rw[ah (ay J.awt J.awl 1e0)];exact J.awt),(by rw[ah (ay J.awb J.awl 1e0)];exact J.awb),ag,(by rw[ah (ay J.afh J.awl 1e0)];exact J.afh),(λt ws m=>⟨by rw[ah (J.l4 _ _ m).2.2];exact(J.afl _ _ m).1,(J.afl _ _ m).2.keep tk⟩),(by rw[ah (ay J.ayg J.awl 1e0)];exact J.ayg),(by rw[ah (ay J.adm J.awl 1e0)];exact J.adm),J.nhn,J.l1,J.l2,J.l3,J.l4,J.l5,J.d1,J.d2,J.d3,J.d4,J.d5,J.d6⟩,Fr.set .wl J.awl 2e8 (λc f=>?_)⟩;cases f with
 | x=>exact .x
 | hd=>exact .hd
 | hl=>exact .hl
 | nt=>exact .nt
 | nl=>exact .nl
 | wt=>exact .wt
 | wb=>exact .wb
 | wl=>exact .wl
 | fh=>exact .fh
 | yg=>exact .yg
 | dm=>exact .dm
 | fl m=>exact .fl m
theorem IH.apl(J:IH D H x A s){ts:List Int}:IH D (upd H A.yg (.dK (ts.map tkv))) x A {s with yng:=ts}/\Fr 4e1 H (cL x A {s with yng:=ts}) (upd H A.yg (.dK (ts.map tkv))):=by
 have tk:bI H (upd H A.yg (.dK (ts.map tkv))):=bI.set J.ayg 2e8;refine⟨⟨(by rw[ah (ay J.ax J.ayg 1e0)];exact J.ax),(by rw[ah (ay J.ahd J.ayg 1e0)];exact J.ahd),(by rw[ah (ay J.ahl J.ayg 1e0)];exact J.ahl),J.rhl.keep tk,(by rw[ah (ay J.ant J.ayg 1e0)];exact J.ant),(by rw[ah (ay J.anl J.ayg 1e0)];exact J.anl),(by rw[ah (ay J.awt J.ayg 1e0)];exact J.awt),(by rw[ah J.d2];exact J.awb),(by rw[ah (ay J.awl J.ayg 1e0)];exact J.awl),(by rw[ah J.d4];exact J.afh),(λt ws m=>⟨by rw[ah (ay (J.afl _ _ m).1 J.ayg 1e0)];exact(J.afl _ _ m).1,(J.afl _ _ m).2.keep tk⟩),ag,(by rw[ah (aqe J.d6)];exact J.adm),J.nhn,J.l1,J.l2,J.l3,J.l4,J.l5,J.d1,J.d2,J.d3,J.d4,J.d5,J.d6⟩,Fr.set .yg J.ayg 2e8 (λc f=>?_)⟩;cases f with
 | x=>exact .x
 | hd=>exact .hd
 | hl=>exact .hl
 | nt=>exact .nt
 | nl=>exact .nl
 | wt=>exact .wt
 | wb=>exact .wb
 | wl=>exact .wl
 | fh=>exact .fh
 | yg=>exact .yg
 | dm=>exact .dm
 | fl m=>exact .fl m
theorem IH.ali(J:IH D H x A s){ts:List Int}:IH D (upd H A.dm (.dK (ts.map tkv))) x A {s with eL:=ts}/\Fr 4e1 H (cL x A {s with eL:=ts}) (upd H A.dm (.dK (ts.map tkv))):=by
 have tk:bI H (upd H A.dm (.dK (ts.map tkv))):=bI.set J.adm 2e8;refine⟨⟨(by rw[ah (ay J.ax J.adm 1e0)];exact J.ax),(by rw[ah (ay J.ahd J.adm 1e0)];exact J.ahd),(by rw[ah (ay J.ahl J.adm 1e0)];exact J.ahl),J.rhl.keep tk,(by rw[ah (ay J.ant J.adm 1e0)];exact J.ant),(by rw[ah (ay J.anl J.adm 1e0)];exact J.anl),(by rw[ah (ay J.awt J.adm 1e0)];exact J.awt),(by rw[ah J.d3];exact J.awb),(by rw[ah (ay J.awl J.adm 1e0)];exact J.awl),(by rw[ah J.d5];exact J.afh),(λt ws m=>⟨by rw[ah (ay (J.afl _ _ m).1 J.adm 1e0)];exact(J.afl _ _ m).1,(J.afl _ _ m).2.keep tk⟩),(by rw[ah J.d6];exact J.ayg),ag,J.nhn,J.l1,J.l2,J.l3,J.l4,J.l5,J.d1,J.d2,J.d3,J.d4,J.d5,J.d6⟩,Fr.set .dm J.adm 2e8 (λc f=>?_)⟩;cases f with
 | x=>exact .x
 | hd=>exact .hd
 | hl=>exact .hl
 | nt=>exact .nt
 | nl=>exact .nl
 | wt=>exact .wt
 | wb=>exact .wb
 | wl=>exact .wl
 | fh=>exact .fh
 | yg=>exact .yg
 | dm=>exact .dm
 | fl m=>exact .fl m
theorem IH.apm(J:IH D H x A s){n:Int}:IH D (upd H x (.ins D.ab A.dx (jJ "next_thing" (.int n) 6e8))) x A {s with nxt:=n}/\Fr 4e1 H (cL x A {s with nxt:=n}) (upd H x (.ins D.ab A.dx (jJ "next_thing" (.int n) 6e8))):=by
 have tk:bI H (upd H x (.ins D.ab A.dx (jJ "next_thing" (.int n) 6e8))):=bI.set J.ax 2e8;refine⟨⟨(by rw[ag,aeF]),(by rw[ah (ay J.ahd J.ax 5e5)];exact J.ahd),(by rw[ah (ay J.ahl J.ax 1e0)];exact J.ahl),J.rhl.keep tk,(by rw[ah (ay J.ant J.ax 5e5)];exact J.ant),(by rw[ah (ay J.anl J.ax 1e0)];exact J.anl),(by rw[ah (ay J.awt J.ax (oJ (show(2:Nat)≠11 by decide)))];exact J.awt),(by rw[ah (ay J.awb J.ax 1e0)];exact J.awb),(by rw[ah (ay J.awl J.ax 1e0)];exact J.awl),(by rw[ah (ay J.afh J.ax 1e0)];exact J.afh),9e5,(by rw[ah (ay J.ayg J.ax 1e0)];exact J.ayg),(by rw[ah (ay J.adm J.ax 1e0)];exact J.adm),J.nhn,J.l1,J.l2,J.l3,J.l4,J.l5,J.d1,J.d2,J.d3,J.d4,J.d5,J.d6⟩,Fr.set .x J.ax 2e8 (λc f=>?_)⟩;cases f with
 | x=>exact .x
 | hd=>exact .hd
 | hl=>exact .hl
 | nt=>exact .nt
 | nl=>exact .nl
 | wt=>exact .wt
 | wb=>exact .wb
 | wl=>exact .wl
 | fh=>exact .fh
 | yg=>exact .yg
 | dm=>exact .dm
 | fl m=>exact .fl m
theorem IH.alj(J:IH D H x A s){n:Bool}:IH D (upd H x (.ins D.ab A.dx (jJ "in_round" (.bl n) 6e8))) x A {s with rnd:=n}/\Fr 4e1 H (cL x A {s with rnd:=n}) (upd H x (.ins D.ab A.dx (jJ "in_round" (.bl n) 6e8))):=by
 have tk:bI H (upd H x (.ins D.ab A.dx (jJ "in_round" (.bl n) 6e8))):=bI.set J.ax 2e8;refine⟨⟨(by rw[ag,aeG]),(by rw[ah (ay J.ahd J.ax 5e5)];exact J.ahd),(by rw[ah (ay J.ahl J.ax 1e0)];exact J.ahl),J.rhl.keep tk,(by rw[ah (ay J.ant J.ax 5e5)];exact J.ant),(by rw[ah (ay J.anl J.ax 1e0)];exact J.anl),(by rw[ah (ay J.awt J.ax (oJ (show(2:Nat)≠11 by decide)))];exact J.awt),(by rw[ah (ay J.awb J.ax 1e0)];exact J.awb),(by rw[ah (ay J.awl J.ax 1e0)];exact J.awl),(by rw[ah (ay J.afh J.ax 1e0)];exact J.afh),9e5,(by rw[ah (ay J.ayg J.ax 1e0)];exact J.ayg),(by rw[ah (ay J.adm J.ax 1e0)];exact J.adm),J.nhn,J.l1,J.l2,J.l3,J.l4,J.l5,J.d1,J.d2,J.d3,J.d4,J.d5,J.d6⟩,Fr.set .x J.ax 2e8 (λc f=>?_)⟩;cases f with
 | x=>exact .x
 | hd=>exact .hd
 | hl=>exact .hl
 | nt=>exact .nt
 | nl=>exact .nl
 | wt=>exact .wt
 | wb=>exact .wb
 | wl=>exact .wl
 | fh=>exact .fh
 | yg=>exact .yg
 | dm=>exact .dm
 | fl m=>exact .fl m
noncomputable def ur(fs:List (Int×List Wd))(t:Int)(ws:List Wd):List (Int×List Wd):=fs.map λp=>if p.1=t then(t,ws) else p
theorem D6{fs:List (Int×List Wd)}{t t':Int}{ws ws':List Wd}(m:(t',ws')∈ur fs t ws):∃ w0,(t',w0)∈fs/\t'=t':=by
 obtain⟨q,mq,e⟩:=aqf.mp m;by_cases c:q.1=t
 ·rw[if_pos c]at e
  cases e;exact⟨q.2,by rw[<-c];exact mq,rfl⟩
 ·rw[if_neg c]at e
  subst e;exact⟨_,mq,rfl⟩
theorem Xg{A:HA}{fs:List (Int×List Wd)}{t:Int}{ws:List Wd}{xs:Int->List V}:(ur fs t ws).map (fkv {A with fx:=xs})=fs.map (fkv A):=by
 unfold ur;rw[aqv];refine aqD λp hp=>?_;show fkv {A with fx:=xs} (if p.1=t then(t,ws) else p)=fkv A p;by_cases c:p.1=t
 ·rw[if_pos c];unfold fkv;rw[c]
 ·rw[if_neg c];rfl
theorem IH.apn(J:IH D H x A s){t:Int}{w0:List Wd}(m:(t,w0)∈s.aJ){xs:List V}{ws:List Wd}(r:Rel H xs ws):IH D (upd H (A.fa t) 5e6) x {A with fx:=λu=>if u=t then xs else A.fx u} {s with aJ:=ur s.aJ t ws}/\Fr 4e1 H (cL x {A with fx:=λu=>if u=t then xs else A.fx u} {s with aJ:=ur s.aJ t ws}) (upd H (A.fa t) 5e6):=by
 have tk:bI H (upd H (A.fa t) 5e6):=bI.set (J.afl _ _ m).1 2e8;refine⟨⟨(by rw[ah (aqe (ay (J.afl _ _ m).1 J.ax 1e0))];exact J.ax),(by rw[ah (aqe (ay (J.afl _ _ m).1 J.ahd 1e0))];exact J.ahd),(by rw[ah (aqe (J.l4 _ _ m).1)];exact J.ahl),J.rhl.keep tk,(by rw[ah (aqe (ay (J.afl _ _ m).1 J.ant 1e0))];exact J.ant),(by rw[ah (aqe (J.l4 _ _ m).2.1)];exact J.anl),(by rw[ah (aqe (ay (J.afl _ _ m).1 J.awt 1e0))];exact J.awt),(by rw[ah (aqe (ay (J.afl _ _ m).1 J.awb 1e0))];exact J.awb),(by rw[ah (aqe (J.l4 _ _ m).2.2)];exact J.awl),(by rw[ah (aqe (ay (J.afl _ _ m).1 J.afh 1e0)),Xg];exact J.afh),(λt' ws' m'=>by
  obtain⟨q,mq,e⟩:=aqf.mp m';by_cases c:q.1=t
  ·rw[if_pos c]at e
   cases e;dsimp only;rw[if_pos rfl];exact⟨ag,r.keep tk⟩
  ·rw[if_neg c]at e
   subst e;dsimp only;rw[if_neg c];exact⟨by rw[ah λz=>c (J.l5 _ _ _ _ mq m z)];exact(J.afl _ _ mq).1,(J.afl _ _ mq).2.keep tk⟩),(by rw[ah (aqe (ay (J.afl _ _ m).1 J.ayg 1e0))];exact J.ayg),(by rw[ah (aqe (ay (J.afl _ _ m).1 J.adm 1e0))];exact J.adm),J.nhn,J.l1,J.l2,J.l3,(λt' ws' m'=>by obtain⟨q,mq,e1⟩:=D6 m';rw[<-e1];exact J.l4 _ _ mq),(λt1 w1 t2 w2 m1 m2 z=>by obtain⟨q1,mq1,e1⟩:=D6 m1;obtain⟨q2,mq2,e2⟩:=D6 m2;rw[<-e1,<-e2]at z ⊢;exact J.l5 _ _ _ _ mq1 mq2 z),J.d1,J.d2,J.d3,J.d4,J.d5,J.d6⟩,Fr.set (.fl m) (J.afl _ _ m).1 2e8 (λc f=>?_)⟩
 cases f with
 | x=>exact .x
 | hd=>exact .hd
 | hl=>exact .hl
 | nt=>exact .nt
 | nl=>exact .nl
 | wt=>exact .wt
 | wb=>exact .wb
 | wl=>exact .wl
 | fh=>exact .fh
 | yg=>exact .yg
 | dm=>exact .dm
 | fl m'=>obtain⟨w0,m0,_⟩:=D6 m';exact .fl m0
theorem IH.fresh(J:IH D H x A s){b:Addr}(h:H b=none):¬cL x A s b:=λf=>by
 obtain⟨u,q,_⟩:=J.is f;rw[h]at q;cases q
theorem IH.aeJ(J:IH D H x A s){t:Int}{b:Addr}{xs:List V}{ws:List Wd}(hb:H b=none)(hn:∀ w,(t,w)∉s.aJ)(r:Rel H xs ws) :
  IH D (upd (upd H b 5e6) A.fh (.dK (s.aJ.map (fkv A)++[(Sum.inl t,.ref b)]))) x {A with fa:=λu=>if u=t then b else A.fa u,fx:=λu=>if u=t then xs else A.fx u} {s with aJ:=s.aJ++[(t,ws)]} /\
  Fr 4e1 H (cL x {A with fa:=λu=>if u=t then b else A.fa u,fx:=λu=>if u=t then xs else A.fx u} {s with aJ:=s.aJ++[(t,ws)]}) (upd (upd H b 5e6) A.fh (.dK (s.aJ.map (fkv A)++[(Sum.inl t,.ref b)]))):=by
 have s1:az H (upd H b 5e6):=az.upd hb;have nb:∀ {c:Addr} {u:HO},H c=some u->c≠b:=λq=>ar q hb;have J1:=J.same s1;have tk:bI (upd H b 5e6) (upd (upd H b 5e6) A.fh (.dK (s.aJ.map (fkv A)++[(Sum.inl t,.ref b)]))):=bI.set J1.afh 2e8;have tk0:bI H (upd (upd H b 5e6) A.fh (.dK (s.aJ.map (fkv A)++[(Sum.inl t,.ref b)]))):=(bI.of s1).trans tk;have kt:∀ {t':Int} {w:List Wd},(t',w)∈s.aJ->t'≠t:=λm e=>hn _ (by rw[<-e];exact m);have mm:∀ {t':Int} {w:List Wd},(t',w)∈s.aJ++[(t,ws)]->(t',w)∈s.aJ\/(t'=t/\w=ws):=λm=>by
  rcases aqc.mp m with m|m
  ·exact .inl m
  ·cases apU.mp m;exact .inr ⟨rfl,rfl⟩
 have bf:b≠A.fh:=aqe (nb J.afh);have fk:(s.aJ++[(t,ws)]).map (fkv {A with fa:=λu=>if u=t then b else A.fa u,fx:=λu=>if u=t then xs else A.fx u})=s.aJ.map (fkv A)++[(Sum.inl t,.ref b)]:=by
  rw[ap3];congr 1
  ·refine aqD λp hp=>?_
   unfold fkv;simp only;rw[if_neg (kt (t':=p.1) (w:=p.2) hp)]
  ·simp only[aqd,aq9,fkv,if_true]
 refine⟨⟨(by rw[ah (ay J.ax J.afh 1e0)];exact J1.ax),(by rw[ah (ay J.ahd J.afh 1e0)];exact J1.ahd),(by rw[ah (ay J.ahl J.afh 1e0)];exact J1.ahl),J.rhl.keep tk0,(by rw[ah (ay J.ant J.afh 1e0)];exact J1.ant),(by rw[ah (ay J.anl J.afh 1e0)];exact J1.anl),(by rw[ah (ay J.awt J.afh 1e0)];exact J1.awt),(by rw[ah J.d1];exact J1.awb),(by rw[ah (ay J.awl J.afh 1e0)];exact J1.awl),(by rw[fk];exact ag),(λt' w m=>by
  rcases mm m with m|⟨e1,e2⟩
  ·show _=_/\_
   simp only[if_neg (kt m)];exact⟨by rw[ah (ay (J.afl _ _ m).1 J.afh 1e0)];exact s1 _ _ (J.afl _ _ m).1,(J.afl _ _ m).2.keep tk0⟩
  ·subst e1 e2
   simp only[if_true];exact⟨by rw[ah bf];exact ag,r.keep tk0⟩),(by rw[ah (aqe J.d4)];exact J1.ayg),(by rw[ah (aqe J.d5)];exact J1.adm),J.nhn,J.l1,J.l2,J.l3,(λt' w m=>by
  rcases mm m with m|⟨e1,e2⟩
  ·simp only[if_neg (kt m)]
   exact J.l4 _ _ m
  ·subst e1
   simp only[if_true];exact⟨aqe (nb J.ahl),aqe (nb J.anl),aqe (nb J.awl)⟩),(λt1 w1 t2 w2 m1 m2 z=>by
  simp only at z;rcases mm m1 with m1|⟨e1,_⟩
  ·rw[if_neg (kt m1)]at z
   rcases mm m2 with m2|⟨e2,_⟩
   ·rw[if_neg (kt m2)]at z
    exact J.l5 _ _ _ _ m1 m2 z
   ·rw[if_pos e2]at z
    exact absurd z (nb (J.afl _ _ m1).1)
  ·rw[if_pos e1]at z
   rcases mm m2 with m2|⟨e2,_⟩
   ·rw[if_neg (kt m2)]at z
    exact absurd z.symm (nb (J.afl _ _ m2).1)
   ·rw[e1,e2]),J.d1,J.d2,J.d3,J.d4,J.d5,J.d6⟩,?_⟩
 refine⟨λc u nf q=>?_,λc f=>?_,λc u q=>?_,tk0⟩
 ·rw[ah λe=>nf (by rw[e];exact .fh)]
  exact s1 _ _ q
 ·cases f with
  | x=>exact .inl .x
  | hd=>exact .inl .hd
  | hl=>exact .inl .hl
  | nt=>exact .inl .nt
  | nl=>exact .inl .nl
  | wt=>exact .inl .wt
  | wb=>exact .inl .wb
  | wl=>exact .inl .wl
  | fh=>exact .inl .fh
  | yg=>exact .inl .yg
  | dm=>exact .inl .dm
  | @fl t' w m =>
   rcases mm m with m|⟨e,_⟩
   ·refine .inl ?_
    show cL x A s (if t'=t then b else A.fa t');rw[if_neg (kt m)];exact .fl m
   ·refine .inr ?_
    show H (if t'=t then b else A.fa t')=none;rw[if_pos e];exact hb
 ·by_cases e:c=A.fh
  ·exact⟨_,by rw[e];exact ag⟩
  ·exact⟨u,by rw[ah e];exact s1 _ _ q⟩
end
section
variable{P:Program}{w:World}{K:W.Frag}{mg:Str->Option Value}{base:Heap}{D:Ad}
theorem Et{t u:TS}{D:Ends}{σ:St}{H:Hp}(h:∀ N:St->Hp->Prop,(∀ σ' H',u D σ' H'->N σ' H')->t {D with nx:=N} σ H):rA t u D σ H:=h (u D) (λ_ _ q=>q)
theorem abT{t:TT}{b e:TS}{D:Ends}{σ:St}{H:Hp}(h:∀ B:St->Hp->Prop,(∀ σ' H',b D σ' H'->B σ' H')->t σ H λc H1=>if c=true then B σ H1 else e D σ H1):ae1 t b e D σ H:=h (b D) (λ_ _ q=>q)
structure Ok0(P:Program)(w:World)(K:W.Frag)(mg:Str->Option Value)(base:Heap)(n:Nat)(f:Addr)(fd:FuncData)(ps:List Str)(sp:Sp):Prop where
 g:Sw P w K mg base (CXE P w) n f fd ps sp
 b:Binds K fd ps []
theorem Uk{P:Program}{w:World}{X:Cx}:Passes (CXE P w) X (λ_ _ _=>False):=λ_ _ _ _ _ _ _ ⟨_,_,_,_,_,_,_,_,_,q⟩=>q.elim
theorem b9{H0 H:Hp}{K:W.Frag}{E E2:XK}{C:Addr}{y:Str}(ec:OY K C)(h0:∀ b,H b=none->H0 b=none)(k:∀ H',az H H'->E (.ref C) none H')(ea:Addr)(hea:H ea=none) :
  Bm K [.ref ea,.str y] (upd H ea (exo true C ea none)) (λv H2=>v=.non/\(λ(v:V) (H1:Hp)=>∃ ea C od,v=.ref ea/\H1 ea=some (exo true C ea od)/\(∃ cd,jL K C cd)/\H0 ea=none/\E 4e2 od (del H1 ea)) (.ref ea) H2) E2:=by
 refine⟨ea,C,none,.str y,rfl,ag,ec.cls,rfl,ea,C,none,rfl,ag,ec.cls,h0 _ hea,k _ λb o q=>?_⟩;have nb:b≠ea:=λe=>by rw[e,hea]at q;cases q
 rw[zE nb,ah nb];exact q
noncomputable def Bad(C:Addr)(H:Hp)(E:XK):Prop:=∀ H',az H H'->E 4e2 none H'
theorem Bad.same{C:Addr}{H H1:Hp}{E:XK}(k:Bad C H E)(s:az H H1):Bad C H1 E:=λH' s'=>k H' (s.trans s')
noncomputable def Sm(n:Int):Prop:=n.natAbs.log2<1920
theorem Sm.of{n:Int}(h0:-1000000<=n)(h1:n<=1000000):Sm n:=VC (Nat.lt_trans (show n.natAbs<2000000 by omega) 2e6)
noncomputable def wat(ws:List Wd)(h:Int):Option Wd:=if 0<=h/\h<8 then ws[h.toNat]? else none
theorem uM{ws:List Wd}{h:Int}{wd:Wd}(e:wat ws h=some wd):0<=h/\h<8/\ws[h.toNat]?=some wd:=by
 unfold wat at e;by_cases g:0<=h/\h<8
 ·rw[if_pos g]at e;exact⟨g.1,g.2,e⟩
 ·rw[if_neg g]at e;cases e
theorem Xh{ws:List Wd}{h:Int}(l:ws.length=8)(e:wat ws h=none):¬(0<=h/\h<8):=λg=>by
 unfold wat at e;rw[if_pos g,apT 1e1]at e;cases e
theorem zI{xs:List V}{a:Int}{v:V}(h0:0<=a)(h:xs[a.toNat]?=some v):atI xs a=some v:=by
 have e:a=(a.toNat:Int):=by omega
 rw[e];exact Ek h
theorem Wh{n:Nat}{a:Int}(h0:0<=a)(h1:a<n):ixN n a=some a.toNat:=by
 unfold ixN;rw[if_pos h0,if_pos h1]
structure Hn(D:Ad)(H:Hp)(hd hdx hl:Addr)(xs:List V)(ws:List Wd):Prop where
 i:H hd=some (.ins D.bo hdx [("words_held",.ref hl)])
 l:H hl=some 5e6
 r:Rel H xs ws
 n:ws.length=8
theorem Hn.same{D:Ad}{H H':Hp}{hd hdx hl:Addr}{xs:List V}{ws:List Wd}(h:Hn D H hd hdx hl xs ws)(s:az H H'):Hn D H' hd hdx hl xs ws:=⟨s _ _ h.i,s _ _ h.l,h.r.keep (bI.of s),h.n⟩
theorem Hn.at_{D:Ad}{H:Hp}{hd hdx hl:Addr}{xs:List V}{ws:List Wd}(N:Hn D H hd hdx hl xs ws){h:Int}{wd:Wd}(e:wat ws h=some wd):∃ v,xs[h.toNat]?=some v/\WV H v wd:=by
 obtain⟨h0,h1,e⟩:=uM e;have hi:h.toNat<ws.length:=by rw[N.n];omega
 obtain⟨v,e1,e2⟩:=N.r.get hi;rw[apT hi]at e;cases e;exact⟨v,e1,e2⟩
theorem Hn.ix{D:Ad}{H:Hp}{hd hdx hl:Addr}{xs:List V}{ws:List Wd}(N:Hn D H hd hdx hl xs ws){h:Int}(g:0<=h/\h<8):ixN xs.length h=some h.toNat:=Wh g.1 (by rw[N.r.1,N.n];exact g.2)
noncomputable abbrev wC:List Str:=["self","text"]
theorem vH:aw wC ["self","text"] (aq ka):=fsc
theorem vI(F:Fun K "__init__" "HeapError.__init__" ka D.au D.aA)(T:Txt K mg D):9e7 1 D.au D.aA ["self","text"] (Bm K):=by
 refine F.oa vH F.b2 λcdv A' outer s' H vs Q E hr h=>?_;obtain⟨ea,C,od,x,rfl,h1,hc,k⟩:=h;refine⟨_,(ai (aG (aem rfl T.ve (aa (pv 0) 2e4)))),?_⟩;exact⟨_,rfl,_,rfl,ea,C,od,[x],rfl,(by show 1<=1000;decide),h1,hc,k⟩
noncomputable def bW(n:Str):Sp:=λvs H Q _=>∃ x,vs=[x]/\Q (.str n) H
theorem Ab(F:Fun K "called" "BadCount.called" rS D.cw D.fS)(T:Txt K mg D):Ok0 P w K mg base 1 D.cw D.fS ["self"] (bW "BadCount") :=
 ⟨F.ok0 (N:=["self"]) fsc 3e4 2e0,F.binds (ps:=["self"]) λ_ _ _ _ _ _ us hl=>match us,hl with|[_],_=>rfl⟩
theorem BN(F:Fun K "called" "BadHand.called" tY D.cV D.gF)(T:Txt K mg D):Ok0 P w K mg base 1 D.cV D.gF ["self"] (bW "BadHand") :=
 ⟨F.ok0 (N:=["self"]) fsc 3e4 2e0,F.binds (ps:=["self"]) λ_ _ _ _ _ _ us hl=>match us,hl with|[_],_=>rfl⟩
theorem BO(F:Fun K "called" "BadName.called" tZ D.cW D.gG)(T:Txt K mg D):Ok0 P w K mg base 1 D.cW D.gG ["self"] (bW "BadName") :=
 ⟨F.ok0 (N:=["self"]) fsc 3e4 2e0,F.binds (ps:=["self"]) λ_ _ _ _ _ _ us hl=>match us,hl with|[_],_=>rfl⟩
theorem Ac(F:Fun K "called" "BadField.called" rR D.cv D.fR)(T:Txt K mg D):Ok0 P w K mg base 1 D.cv D.fR ["self"] (bW "BadField") :=
 ⟨F.ok0 (N:=["self"]) fsc 3e4 2e0,F.binds (ps:=["self"]) λ_ _ _ _ _ _ us hl=>match us,hl with|[_],_=>rfl⟩
theorem wD(F:Fun K "called" "BadAddress.called" pV D.di D.iS)(T:Txt K mg D):Ok0 P w K mg base 1 D.di D.iS ["self"] (bW "BadAddress") :=
 ⟨F.ok0 (N:=["self"]) fsc 3e4 2e0,F.binds (ps:=["self"]) λ_ _ _ _ _ _ us hl=>match us,hl with|[_],_=>rfl⟩
theorem Eu(F:Fun K "called" "NoRoom.called" vv D.dH D.hX)(T:Txt K mg D):Ok0 P w K mg base 1 D.dH D.hX ["self"] (bW "NoRoom") :=
 ⟨F.ok0 (N:=["self"]) fsc 3e4 2e0,F.binds (ps:=["self"]) λ_ _ _ _ _ _ us hl=>match us,hl with|[_],_=>rfl⟩
theorem uu(F:Fun K "called" "TooManyWords.called" nG D.bu D.dz)(T:Txt K mg D):Ok0 P w K mg base 1 D.bu D.dz ["self"] (bW "TooManyWords") :=
 ⟨F.ok0 (N:=["self"]) fsc 3e4 2e0,F.binds (ps:=["self"]) λ_ _ _ _ _ _ us hl=>match us,hl with|[_],_=>rfl⟩
theorem BP(F:Fun K "called" "BadView.called" uc D.fg D.kC)(T:Txt K mg D):Ok0 P w K mg base 1 D.fg D.kC ["self"] (bW "BadView") :=
 ⟨F.ok0 (N:=["self"]) fsc 3e4 2e0,F.binds (ps:=["self"]) λ_ _ _ _ _ _ us hl=>match us,hl with|[_],_=>rfl⟩
theorem BQ(F:Fun K "called" "RoundOn.called" ua D.cX D.gH)(T:Txt K mg D):Ok0 P w K mg base 1 D.cX D.gH ["self"] (bW "RoundOn") :=
 ⟨F.ok0 (N:=["self"]) fsc 3e4 2e0,F.binds (ps:=["self"]) λ_ _ _ _ _ _ us hl=>match us,hl with|[_],_=>rfl⟩
theorem BR(F:Fun K "called" "NoRound.called" ub D.cY D.gI)(T:Txt K mg D):Ok0 P w K mg base 1 D.cY D.gI ["self"] (bW "NoRound") :=
 ⟨F.ok0 (N:=["self"]) fsc 3e4 2e0,F.binds (ps:=["self"]) λ_ _ _ _ _ _ us hl=>match us,hl with|[_],_=>rfl⟩
noncomputable def Pf:Sp:=λvs H Q _=>∃ v wd,vs=[v]/\WV H v wd/\Q (.str wd.kind) H
noncomputable abbrev VM:List Str:=["value"]
theorem Kf:aw VM ["value"] (aq zr):=fsc
theorem SY(F:Fun K "kind_of" "kind_of" zr D.d8 D.hV)(T:Txt K mg D):9e7 1 D.d8 D.hV ["value"] (Pf):=by
 refine F.oa Kf F.b1 λcdv A' outer s' H vs Q E hr h=>?_;obtain⟨v,wd,rfl,hv,k⟩:=h;refine⟨_,(ai (aI (rN (aK sT (pv 0) d7 (aW _)) aP 6e9))),?_⟩;cases wd with
 | no =>
  obtain rfl:v=.non:=hv;exact⟨_,rfl,rfl,_,rfl,a9 (λ_=>k) (λh=>absurd 2e5 h)⟩
 | num n =>
  obtain⟨t,rfl,ht⟩:=hv;exact⟨_,rfl,rfl,_,rfl,a9 (λh=>by simp at h) (λ_=>⟨_,rfl,t,_,0,_,rfl,rfl,SqT.of ht,rfl,k⟩)⟩
 | th n =>
  obtain⟨t,rfl,ht⟩:=hv;exact⟨_,rfl,rfl,_,rfl,a9 (λh=>by simp at h) (λ_=>⟨_,rfl,t,_,0,_,rfl,rfl,SqT.of ht,rfl,k⟩)⟩
noncomputable def eN(D:Ad):Sp:=λvs H Q E=>∃ n:Int,vs=[.int n]/\Sm n/\(if 0<=n/\n<8 then Q .non H else Bad D.bM H E)
noncomputable abbrev IE:List Str:=["h"]
theorem Hb:aw IE ["h"] (aq qJ):=fsc
theorem Hg(F:Fun K "look_at_hand" "look_at_hand" qJ D.bB D.cK)(T:Txt K mg D)
  (ao:9e7 1 D.au D.aA ["self","text"] (Bm K)):9e7 3 D.bB D.cK ["h"] (eN D):=by
 refine F.oa Hb F.b1 λcdv A' outer s' H vs Q E hr h=>?_;obtain⟨n,rfl,hb,k⟩:=h;refine⟨_,(ai (bQ (sR (pS Bk vt av (pv 0) (nK (v:=.int 8) rfl T.Ke ⟨_,rfl⟩)))
   (ai (fL rfl kN (ao.e hr T.Bu T.Bs px 8e8)))
   aR)),?_⟩
 by_cases g:0<=n/\n<8
 ·rw[if_pos g]at k
  refine⟨_,rfl,0,n,rfl,rfl,_,rfl,a9 (λ_=>⟨n,8,rfl,rfl,_,rfl,a9 (λh2=>absurd h2 (by rw[decide_eq_true g.2];decide)) (λ_=>k)⟩) (λh1=>absurd (decide_eq_true g.1) h1)⟩
 ·rw[if_neg g]at k
  by_cases g0:0<=n
  ·have g1:¬n<8:=λz=>g ⟨g0,z⟩
   refine⟨_,rfl,0,n,rfl,rfl,_,rfl,a9 (λ_=>⟨n,8,rfl,rfl,_,rfl,a9 (λ_=>⟨_,rfl,n,rfl,hb,λy hy ea hea=>b9 T.lL 6e7 k ea hea⟩) (λh2=>absurd (by rw[decide_eq_false g1];rfl) h2)⟩) (λh1=>absurd (decide_eq_true g0) h1)⟩
  ·refine⟨_,rfl,0,n,rfl,rfl,_,rfl,a9 (λh1=>absurd (of_decide_eq_true h1) g0) (λ_=>⟨_,rfl,yt ⟨_,rfl,n,rfl,hb,λy hy ea hea=>b9 T.lL 6e7 k ea hea⟩⟩)⟩
noncomputable def pQ(D:Ad):Sp:=λvs H Q E=>∃ n:Int,vs=[.int n]/\Sm n/\(if 0<=n/\n<8 then Q .non H else Bad D.eT H E)
noncomputable abbrev IF:List Str:=["w"]
theorem Hh:aw IF ["w"] (aq qK):=fsc
theorem Hi(F:Fun K "look_at_name" "look_at_name" qK D.dB D.jb)(T:Txt K mg D)
  (ao:9e7 1 D.au D.aA ["self","text"] (Bm K)):9e7 3 D.dB D.jb ["w"] (pQ D):=by
 refine F.oa Hh F.b1 λcdv A' outer s' H vs Q E hr h=>?_;obtain⟨n,rfl,hb,k⟩:=h;refine⟨_,(ai (bQ (sR (pS Bk vt av (pv 0) (nK (v:=.int 8) rfl T.qk ⟨_,rfl⟩)))
   (ai (fL rfl kN (ao.e hr T.SE T.SD px 8e8)))
   aR)),?_⟩
 by_cases g:0<=n/\n<8
 ·rw[if_pos g]at k
  refine⟨_,rfl,0,n,rfl,rfl,_,rfl,a9 (λ_=>⟨n,8,rfl,rfl,_,rfl,a9 (λh2=>absurd h2 (by rw[decide_eq_true g.2];decide)) (λ_=>k)⟩) (λh1=>absurd (decide_eq_true g.1) h1)⟩
 ·rw[if_neg g]at k
  by_cases g0:0<=n
  ·have g1:¬n<8:=λz=>g ⟨g0,z⟩
   refine⟨_,rfl,0,n,rfl,rfl,_,rfl,a9 (λ_=>⟨n,8,rfl,rfl,_,rfl,a9 (λ_=>⟨_,rfl,n,rfl,hb,λy hy ea hea=>b9 T.Bv 6e7 k ea hea⟩) (λh2=>absurd (by rw[decide_eq_false g1];rfl) h2)⟩) (λh1=>absurd (decide_eq_true g0) h1)⟩
  ·refine⟨_,rfl,0,n,rfl,rfl,_,rfl,a9 (λh1=>absurd (of_decide_eq_true h1) g0) (λ_=>⟨_,rfl,yt ⟨_,rfl,n,rfl,hb,λy hy ea hea=>b9 T.Bv 6e7 k ea hea⟩⟩)⟩
noncomputable def sO(D:Ad):Sp:=λvs H Q E=>∃ n:Int,vs=[.int n]/\Sm n/\(if 0<=n/\n<=6 then Q (.int (n+1)) H else Bad D.cU H E)
noncomputable abbrev Ta:List Str:=["fields"]
theorem P9:aw Ta ["fields"] (aq Bq):=fsc
theorem Qa(F:Fun K "words_of" "words_of" Bq D.hW D.lK)(T:Txt K mg D)
  (ao:9e7 1 D.au D.aA ["self","text"] (Bm K)):9e7 3 D.hW D.lK ["fields"] (sO D):=by
 refine F.oa P9 F.b1 λcdv A' outer s' H vs Q E hr h=>?_;obtain⟨n,rfl,hb,k⟩:=h;refine⟨_,(aj (bQ (sR (pS Bk Bk av (pv 0) (nK (v:=.int 6) rfl T.tG ⟨_,rfl⟩)))
   (ai (fL rfl kN (ao.e hr T.pK T.pJ px 8e8)))
   aR)
  (ai (aI (cM iO (pv 0) av)))),?_⟩
 by_cases g:0<=n/\n<=6
 ·rw[if_pos g]at k
  refine⟨_,rfl,0,n,rfl,rfl,_,rfl,a9 (λ_=>⟨n,6,rfl,rfl,_,rfl,a9 (λh2=>absurd h2 (by rw[decide_eq_true g.2];decide)) (λ_=>⟨_,rfl,n,1,rfl,rfl,k⟩)⟩) (λh1=>absurd (decide_eq_true g.1) h1)⟩
 ·rw[if_neg g]at k
  by_cases g0:0<=n
  ·have g1:¬n<=6:=λz=>g ⟨g0,z⟩
   refine⟨_,rfl,0,n,rfl,rfl,_,rfl,a9 (λ_=>⟨n,6,rfl,rfl,_,rfl,a9 (λ_=>⟨_,rfl,n,rfl,hb,λy hy ea hea=>b9 T.sM 6e7 k ea hea⟩) (λh2=>absurd (by rw[decide_eq_false g1];rfl) h2)⟩) (λh1=>absurd (decide_eq_true g0) h1)⟩
  ·refine⟨_,rfl,0,n,rfl,rfl,_,rfl,a9 (λh1=>absurd (of_decide_eq_true h1) g0) (λ_=>⟨_,rfl,yt ⟨_,rfl,n,rfl,hb,λy hy ea hea=>b9 T.sM 6e7 k ea hea⟩⟩)⟩
noncomputable def oh(D:Ad):Sp:=λvs H Q E=>∃ n m:Int,vs=[.int n,.int m]/\Sm n/\Sm m/\(if 0<=n/\n<m then Q .non H else Bad D.fu H E)
noncomputable abbrev Hj:List Str:=["k","fields"]
theorem Ew:aw Hj ["k","fields"] (aq pM):=fsc
theorem Ex(F:Fun K "look_at_field" "look_at_field" pM D.cN D.hZ)(T:Txt K mg D)
  (ao:9e7 1 D.au D.aA ["self","text"] (Bm K)):9e7 3 D.cN D.hZ ["k","fields"] (oh D):=by
 refine F.oa Ew F.b2 λcdv A' outer s' H vs Q E hr h=>?_;obtain⟨n,m,rfl,hb,hm,k⟩:=h;refine⟨_,(ai (bQ (sR (pS Bk vt av (pv 0) (pv 1)))
   (ai (fL rfl kN (ao.e hr T.PQ T.PN px (aa (jA (aY gE (aY (kO (pv 1)) (aY gE (aY (kO (pv 0)) jz))))) ak))))
   aR)),?_⟩
 by_cases g:0<=n/\n<m
 ·rw[if_pos g]at k
  refine⟨_,rfl,0,n,rfl,rfl,_,rfl,a9 (λ_=>⟨_,rfl,n,m,rfl,rfl,_,rfl,a9 (λh2=>absurd h2 (by rw[decide_eq_true g.2];decide)) (λ_=>k)⟩) (λh1=>absurd (decide_eq_true g.1) h1)⟩
 ·rw[if_neg g]at k
  by_cases g0:0<=n
  ·have g1:¬n<m:=λz=>g ⟨g0,z⟩
   refine⟨_,rfl,0,n,rfl,rfl,_,rfl,a9 (λ_=>⟨_,rfl,n,m,rfl,rfl,_,rfl,a9 (λ_=>⟨_,rfl,m,rfl,hm,_,rfl,n,rfl,hb,λy hy ea hea=>b9 T.xW 6e7 k ea hea⟩) (λh2=>absurd (by rw[decide_eq_false g1];rfl) h2)⟩) (λh1=>absurd (decide_eq_true g0) h1)⟩
  ·refine⟨_,rfl,0,n,rfl,rfl,_,rfl,a9 (λh1=>absurd (of_decide_eq_true h1) g0) (λ_=>⟨_,rfl,yt ⟨_,rfl,m,rfl,hm,_,rfl,n,rfl,hb,λy hy ea hea=>b9 T.xW 6e7 k ea hea⟩⟩)⟩
noncomputable def Num(x:Int):Prop:=-(10 ^ 60)<=x/\x<=10 ^ 60
noncomputable instance {x:Int}:Decidable (Num x):=inferInstanceAs (Decidable (_/\_))
noncomputable def mL(D:Ad):Sp:=λvs H Q E=>∃ x:Int,vs=[.int x]/\Sm x/\(if Num x then Q .non H else Bad D.cU H E)
noncomputable abbrev Ey:List Str:=["x"]
theorem BS:aw Ey ["x"] (aq nM):=fsc
theorem BU(F:Fun K "look_at_number" "look_at_number" nM D.cq D.gK)(T:Txt K mg D)
  (ao:9e7 1 D.au D.aA ["self","text"] (Bm K)):9e7 3 D.cq D.gK ["x"] (mL D):=by
 refine F.oa BS F.b1 λcdv A' outer s' H vs Q E hr h=>?_;obtain⟨x,rfl,hb,k⟩:=h;refine⟨_,(ai (bQ (aK JT (cc WN rfl T.Y4 PyProof.Rows.Boot.«abs» 7e3) (cM abn av av) (aW _))
   (ai (fL rfl kN (ao.e hr T.pK T.pJ px 8e8)))
   aR)),?_⟩
 have e60:((10:Int) ^ (60:Int).toNat)=10 ^ 60:=rfl;by_cases g:Num x
 ·rw[if_pos g]at k
  refine⟨_,rfl,x,rfl,10,60,rfl,rfl,⟨by decide,by decide,by decide⟩,_,_,rfl,rfl,_,rfl,a9 (λh=>absurd (of_decide_eq_true h) ?_) (λ_=>k)⟩
  have:=g.1
  have:=g.2
  rw[e60];split<;>omega
 ·rw[if_neg g]at k
  refine⟨_,rfl,x,rfl,10,60,rfl,rfl,⟨by decide,by decide,by decide⟩,_,_,rfl,rfl,_,rfl,a9 (λ_=>⟨_,rfl,x,rfl,hb,λy hy ea hea=>b9 T.sM 6e7 k ea hea⟩) (λh=>absurd (decide_eq_true ?_) h)⟩;unfold Num at g;rw[e60];split<;>omega
noncomputable def vA(D:Ad):Sp:=λvs H Q E=>∃ x:Int,vs=[.int x]/\Sm x/\(if Num x then ∀ t H',az H H'->H' t=some (.tup [.str "number",.int x])->Q (.ref t) H' else Bad D.cU H E)
noncomputable abbrev IG:List Str:=["x"]
theorem Hk:aw IG ["x"] (aq qI):=fsc
theorem Hl(F:Fun K "number_value" "number_value" qI D.eF D.ko)(T:Txt K mg D)
  (gN:9e7 3 D.cq D.gK ["x"] (mL D)):9e7 4 D.eF D.ko ["x"] (vA D):=by
 refine F.oa Hk F.b1 λcdv A' outer s' H vs Q E hr h=>?_;obtain⟨x,rfl,hb,k⟩:=h;refine⟨_,(aj (aG (gN.c hr T.ud T.kF px 7e3))
  (ai (aI (cg (aa aP 7e3))))),?_⟩
 refine⟨_,rfl,x,rfl,hb,?_⟩;by_cases g:Num x
 ·rw[if_pos g]at k ⊢
  exact⟨_,rfl,by show 2<=sizeLine;decide,λt ht=>k t _ (az.upd ht) ag⟩
 ·rw[if_neg g]at k ⊢
  exact k
noncomputable def kA:Sp:=λvs H Q E=>∃ x:Int,vs=[.int x]/\0<=x/\∀ t H',az H H'->H' t=some (.tup [.str "thing",.int x])->Q (.ref t) H'
noncomputable abbrev Ld:List Str:=["t"]
theorem II:aw Ld ["t"] (aq sV):=fsc
theorem IJ(F:Fun K "thing_value" "thing_value" sV D.cQ D.gJ)(T:Txt K mg D)
  (ao:9e7 1 D.au D.aA ["self","text"] (Bm K)):9e7 3 D.cQ D.gJ ["t"] (kA):=by
 refine F.oa II F.b1 λcdv A' outer s' H vs Q E hr h=>?_;obtain⟨x,rfl,h0,k⟩:=h;refine⟨_,(aj (bQ (aK vt (pv 0) av (aW _))
   (ai (fL rfl kN (ao.e hr T.pK T.pJ px 8e8)))
   aR)
  (ai (aI (cg (aa aP 7e3))))),?_⟩
 exact⟨_,rfl,x,0,rfl,rfl,_,rfl,a9 (λh=>absurd (of_decide_eq_true h) 1e1) (λ_=>⟨_,rfl,by show 2<=sizeLine;decide,λt ht=>k t _ (az.upd ht) ag⟩)⟩
noncomputable def rV:Sp:=λvs H Q E=>∃ y l:Int,vs=[.int y,.int l]/\(y=0\/(7<=y/\y<=64))/\7<=l/\l<=400/\Q .non H
noncomputable abbrev Ez:List Str:=["young","limit"]
theorem BV:aw Ez ["young","limit"] (aq nN):=fsc
theorem BW(F:Fun K "look_at_limits" "look_at_limits" nN D.cZ D.iZ)(T:Txt K mg D)
  (ao:9e7 1 D.au D.aA ["self","text"] (Bm K)):9e7 3 D.cZ D.iZ ["young","limit"] (rV):=by
 refine F.oa BV F.b2 λcdv A' outer s' H vs Q E hr h=>?_;obtain⟨y,l,rfl,hy,l0,l1,k⟩:=h;refine⟨_,(aj (bQ (PW.pt (pw_and (aK O7 (pv 0) av (aW _)) (pw_and1 (sR (pS Bk Bk (nK (v:=.int 7) rfl T.ql ⟨_,rfl⟩) (pv 0) (nK (v:=.int 64) rfl T.vg ⟨_,rfl⟩))))))
   (ai (fL rfl kN (ao.e hr T.pK T.pJ px 8e8)))
   aR)
  (ai (bQ (sR (pS Bk Bk (nK (v:=.int 7) rfl T.ql ⟨_,rfl⟩) (pv 1) (nK (v:=.int 400) rfl T.vh ⟨_,rfl⟩)))
   (ai (fL rfl kN (ao.e hr T.pK T.pJ px (aa (jA (aY (kO (pv 1)) (aY gE jz))) ak))))
   aR))),?_⟩
 refine Et λN hN=>?_;have rest:N [some (.int y),some (.int l)] H:=by
  refine hN _ _ ?_;exact⟨_,rfl,7,l,rfl,rfl,_,rfl,a9 (λ_=>⟨l,400,rfl,rfl,_,rfl,a9 (λh2=>absurd h2 (by rw[decide_eq_true l1];decide)) (λ_=>k)⟩) (λh1=>absurd (decide_eq_true l0) h1)⟩
 rcases hy with rfl|⟨y0,y1⟩
 ·exact⟨_,rfl,rfl,_,rfl,a9 (λh=>absurd h 2e6) (λ_=>xt rest)⟩
 ·refine⟨_,rfl,rfl,_,rfl,a9 2e7 (λh=>absurd (show(!decide (V.int y=V.int 0))=true from ?_) h)⟩
  ·exact⟨_,rfl,7,y,rfl,rfl,_,rfl,a9 (λ_=>⟨y,64,rfl,rfl,_,rfl,a9 (λh2=>absurd h2 (by rw[decide_eq_true y1];decide)) (λ_=>rest)⟩) (λh1=>absurd (decide_eq_true y0) h1)⟩
  ·rw[decide_eq_false (by intro z;injection z with z;omega)];rfl
noncomputable def But(m:Addr)(H H':Hp):Prop:=∀ b u,b≠m->H b=some u->H' b=some u
theorem But.upd{m a:Addr}{H:Hp}{o:HO}(h:H a=none):But m H (L2.upd H a o):=λb u _ q=>by rw[ah (ar q h)];exact q
theorem But.self{m:Addr}{H:Hp}{o:HO}:But m H (L2.upd H m o):=λb u n q=>by rw[ah n];exact q
theorem But.trans{m:Addr}{H H1 H2:Hp}(a:But m H H1)(b:But m H1 H2):But m H H2:=λc u n q=>b c u n (a c u n q)
theorem az.none{H H':Hp}(s:az H H'){b:Addr}(h:H' b=none):H b=none:=by
 cases q:H b with
 | none=>rfl
 | some u=>rw[s _ _ q]at h;cases h
theorem alk:(List.replicate (8:Int).toNat [V.non]).flatten=List.replicate 8 .non:=rfl
theorem lookup_some{α:Type}{bs:List (Int×α)}{t:Int}{v:α}(h:bs.lookup t=some v):(t,v)∈bs:=by
 induction bs with
 | nil=>cases h
 | cons p r ih =>
  obtain⟨a,b⟩:=p;rw[aqS]at h;by_cases e:t == a
  ·rw[e]at h
   rw[beq_iff_eq]at e;subst e;cases h;exact ap7
  ·rw[Bool.not_eq_true]at e
   rw[e]at h;exact ap8 _ (ih h)
theorem lookup_none{α:Type}{bs:List (Int×α)}{t:Int}(h:bs.lookup t=none):∀ p∈bs,p.1≠t:=by
 induction bs with
 | nil=>intro p hp;cases hp
 | cons p r ih =>
  obtain⟨a,b⟩:=p;rw[aqS]at h;by_cases e:t == a
  ·rw[e]at h;cases h
  ·rw[Bool.not_eq_true]at e
   rw[e]at h;intro q hq;rcases aqi.mp hq with rfl|hq
   ·exact λz=>by rw[beq_eq_false_iff_ne]at e;exact e z.symm
   ·exact ih h q hq
theorem Kg{α:Type}{f:Int×α->Key×V}{bs:List (Int×α)}{t:Int}(hf:∀ p,(f p).1=Sum.inl p.1):iX (bs.map f) 4e4=(bs.lookup t).map λv=>(f (t,v)).2:=by
 induction bs with
 | nil=>rfl
 | cons p r ih =>
  obtain⟨a,b⟩:=p;rw[aqd,aqS];by_cases e:t=a
  ·subst e
   rw[gi (hf (t,b)),beq_self_eq_true];rfl
  ·rw[fK (by rw[hf (a,b)];exact λz=>e (Sum.inl.inj z).symm),beq_eq_false_iff_ne.mpr e,ih]
theorem adW{bs:List (Int×Int)}{t:Int}:iX (bs.map bkv) 4e4=(bs.lookup t).map V.int:=Kg λ_=>rfl
noncomputable def MO(bs:List (Int×Int))(t x:Int):List (Int×Int):=if(bs.lookup t).isSome=true then bs.map (λp=>if p.1=t then(t,x) else p) else bs++[(t,x)]
theorem Ry{bs:List (Int×Int)}{t x:Int}:(MO bs t x).map bkv=putK (bs.map bkv) 4e4 (.int x):=by
 unfold MO putK;rw[uI,adW,aq0];by_cases e:(bs.lookup t).isSome=true
 ·rw[if_pos e,if_pos e,aqv,aqv]
  refine aqD λp hp=>?_;show bkv (if p.1=t then(t,x) else p)=if(bkv p).1=Sum.inl t then((bkv p).1,V.int x) else bkv p;by_cases c:p.1=t
  ·rw[if_pos c,if_pos (by show Sum.inl p.1=Sum.inl t;rw[c])];unfold bkv;rw[c]
  ·rw[if_neg c,if_neg (show ¬(bkv p).1=Sum.inl t from λz=>c (Sum.inl.inj (show(Sum.inl p.1:Key)=Sum.inl t from z)))]
 ·rw[if_neg e,if_neg e,ap3]
  rfl
structure Nt(D:Ad)(H:Hp)(nt ntx nl:Addr)(xs:List V):Prop where
 i:H nt=some (.ins D.aH ntx [("things_named",.ref nl)])
 l:H nl=some 5e6
 n:xs.length=8
structure Wt(D:Ad)(H:Hp)(wt wtx wb wl:Addr)(bs:List (Int×Int))(zs:List Int):Prop where
 i:H wt=some (.ins D.aN wtx [("words_borne",.ref wb),("words_said",.ref wl)])
 b:H wb=some (.dK (bs.map bkv))
 l:H wl=some 1e13
noncomputable def zJ(D:Ad):Sp:=λvs H Q _=>∃ m dx,vs=[.ref m]/\H m=some (.ins D.bo dx [])/\∀ c H',But m H H'->H c=none->H' c=some (.lst (List.replicate 8 .non))->H' m=some (.ins D.bo dx [("words_held",.ref c)])->Q .non H'
noncomputable abbrev EA:List Str:=["self"]
theorem BX:aw EA ["self"] (aq nO):=fsc
theorem BY(F:Fun K "__init__" "Hands.__init__" nO D.dS D.i0)(T:Txt K mg D):9e7 1 D.dS D.i0 ["self"] (zJ D):=by
 refine F.oa BX F.b1 λcdv A' outer s' H vs Q E hr h=>?_;obtain⟨m,dx,rfl,hm,k⟩:=h;refine⟨_,(ai (ja (pv 0) (cM Pa (qa (aa d7 ak)) (nK (v:=.int 8) rfl T.Ke ⟨_,rfl⟩)) rfl)),?_⟩;refine⟨by show 1<=sizeLine;decide,λp hp=>⟨p,8,_,rfl,rfl,ag,by decide,by decide,by show 1*8<=sizeLine;decide,λq hq=>?_⟩⟩;have np:m≠p:=ar hm hp;have hm1:upd H p (.lst [.non]) m=some (.ins D.bo dx []):=by rw[ah np];exact hm
 have nq:m≠q:=ar hm1 hq;have qp:q≠p:=λe=>by rw[e,ag]at hq;cases hq
 have hq0:H q=none:=by rw[ah qp]at hq;exact hq
 refine⟨_,rfl,m,D.bo,dx,[],rfl,(by rw[ah nq];exact hm1),T.bc,T.cJ,by decide,?_⟩;refine k q _ (((But.upd hp).trans (But.upd hq)).trans But.self) hq0 ?_ ag;rw[ah (aqe nq),ag,alk]
noncomputable def rW(D:Ad):Sp:=λvs H Q _=>∃ m dx,vs=[.ref m]/\H m=some (.ins D.aH dx [])/\∀ c H',But m H H'->H c=none->H' c=some (.lst (List.replicate 8 .non))->H' m=some (.ins D.aH dx [("things_named",.ref c)])->Q .non H'
noncomputable abbrev wF:List Str:=["self"]
theorem vJ:aw wF ["self"] (aq ke):=fsc
theorem vK(F:Fun K "__init__" "NameTable.__init__" ke D.bY D.fE)(T:Txt K mg D):9e7 1 D.bY D.fE ["self"] (rW D):=by
 refine F.oa vJ F.b1 λcdv A' outer s' H vs Q E hr h=>?_;obtain⟨m,dx,rfl,hm,k⟩:=h;refine⟨_,(ai (ja (pv 0) (cM Pa (qa (aa d7 ak)) (nK (v:=.int 8) rfl T.qk ⟨_,rfl⟩)) rfl)),?_⟩;refine⟨by show 1<=sizeLine;decide,λp hp=>⟨p,8,_,rfl,rfl,ag,by decide,by decide,by show 1*8<=sizeLine;decide,λq hq=>?_⟩⟩;have np:m≠p:=ar hm hp;have hm1:upd H p (.lst [.non]) m=some (.ins D.aH dx []):=by rw[ah np];exact hm
 have nq:m≠q:=ar hm1 hq;have qp:q≠p:=λe=>by rw[e,ag]at hq;cases hq
 have hq0:H q=none:=by rw[ah qp]at hq;exact hq
 refine⟨_,rfl,m,D.aH,dx,[],rfl,(by rw[ah nq];exact hm1),T.eE,T.cn,by decide,?_⟩;refine k q _ (((But.upd hp).trans (But.upd hq)).trans But.self) hq0 ?_ ag;rw[ah (aqe nq),ag,alk]
noncomputable def vB(D:Ad):Sp:=λvs H Q E=>∃ hd hdx hl xs ws,∃ h:Int,vs=[.ref hd,.int h]/\Hn D H hd hdx hl xs ws/\Sm h/\(match wat ws h with|some wd=>∀ v,xs[h.toNat]?=some v->WV H v wd->Q v H|none=>Bad D.bM H E)
noncomputable abbrev Hm:List Str:=["self","h"]
theorem EB:aw Hm ["self","h"] (aq pN):=fsc
theorem EC(F:Fun K "word_in" "Hands.word_in" pN D.cO D.gb)(T:Txt K mg D)
  (aO:9e7 3 D.bB D.cK ["h"] (eN D)):9e7 4 D.cO D.gb ["self","h"] (vB D):=by
 refine F.oa EB F.b2 λcdv A' outer s' H vs Q E hr h=>?_;obtain⟨hd,hdx,hl,xs,ws,h,rfl,N,hb,k⟩:=h;refine⟨_,(aj 8e6
  (ai (aI (a8 jy 1e8 (pv 1) 1e6)))),?_⟩
 refine⟨_,rfl,h,rfl,hb,?_⟩;cases e:wat ws h with
 | none =>
  rw[if_neg (Xh N.n e)];rw[e]at k;exact k
 | some wd =>
  obtain⟨h0,h1,_⟩:=uM e;obtain⟨v,hv,wv⟩:=N.at_ e;rw[if_pos ⟨h0,h1⟩];rw[e]at k;exact⟨_,rfl,hd,D.bo,hdx,_,.ref hl,rfl,N.i,T.bc,T.cJ,rfl,_,rfl,hl,xs,h,v,rfl,rfl,SqL.of N.l,zI h0 hv,k v hv wv⟩
noncomputable def zK(D:Ad):Sp:=λvs H Q E=>∃ hd hdx hl xs ws v,∃ h:Int,vs=[.ref hd,.int h,v]/\Hn D H hd hdx hl xs ws/\Sm h/\(if 0<=h/\h<8 then Q .non (upd H hl (.lst (xs.set h.toNat v))) else Bad D.bM H E)
noncomputable abbrev Qb:List Str:=["self","h","word"]
theorem Nn:aw Qb ["self","h","word"] (aq xI):=fsc
theorem Np(F:Fun K "put" "Hands.put" xI D.fQ D.jB)(T:Txt K mg D)
  (aO:9e7 3 D.bB D.cK ["h"] (eN D)):9e7 4 D.fQ D.jB ["self","h","word"] (zK D):=by
 refine F.oa Nn F.b3 λcdv A' outer s' H vs Q E hr h=>?_;obtain⟨hd,hdx,hl,xs,ws,v,h,rfl,N,hb,k⟩:=h;refine⟨_,(aj 8e6
  (ai (D1 (pv 2) (Ik 1e8 (pv 1) set_list)))),?_⟩
 refine⟨_,rfl,h,rfl,hb,?_⟩;by_cases g:0<=h/\h<8
 ·rw[if_pos g]at k ⊢
  exact⟨_,rfl,_,rfl,hd,D.bo,hdx,_,.ref hl,rfl,N.i,T.bc,T.cJ,rfl,_,rfl,hl,xs,h,h.toNat,rfl,rfl,N.l,N.ix g,k⟩
 ·rw[if_neg g]at k ⊢
  exact k
noncomputable def Rz(D:Ad):Sp:=λvs H Q E=>∃ hd hdx hl xs ws,∃ h g:Int,vs=[.ref hd,.int h,.int g]/\Hn D H hd hdx hl xs ws/\Sm h/\Sm g/\(if 0<=h/\h<8 then(match wat ws g with|some wd=>∀ v,WV H v wd->Q .non (upd H hl (.lst (xs.set h.toNat v)))|none=>Bad D.bM H E) else Bad D.bM H E)
noncomputable abbrev Nq:List Str:=["self","h","g"]
theorem Le:aw Nq ["self","h","g"] (aq uS):=fsc
theorem Lf(F:Fun K "copy" "Hands.copy" uS D.iD D.nr)(T:Txt K mg D)
  (aO:9e7 3 D.bB D.cK ["h"] (eN D))
  (dJ:9e7 4 D.cO D.gb ["self","h"] (vB D)):9e7 5 D.iD D.nr ["self","h","g"] (Rz D):=by
 refine F.oa Le F.b3 λcdv A' outer s' H vs Q E hr h=>?_;obtain⟨hd,hdx,hl,xs,ws,h,g,rfl,N,hb,hg,k⟩:=h;refine⟨_,(aj 8e6
  (ai (D1 (dJ.m hr (pv 0) T.bc T.nY px 3e9) (Ik 1e8 (pv 1) set_list)))),?_⟩
 refine⟨_,rfl,h,rfl,hb,?_⟩;by_cases c:0<=h/\h<8
 ·rw[if_pos c]at k ⊢
  refine⟨_,rfl,hd,hdx,_,rfl,N.i,rfl,_,rfl,hd,hdx,hl,xs,ws,g,rfl,N,hg,?_⟩;cases e:wat ws g with
  | none =>
   rw[e]at k;exact k
  | some wd =>
   rw[e]at k;exact λv hv wv=>⟨_,rfl,hd,D.bo,hdx,_,.ref hl,rfl,N.i,T.bc,T.cJ,rfl,_,rfl,hl,xs,h,h.toNat,rfl,rfl,N.l,N.ix c,k v wv⟩
 ·rw[if_neg c]at k ⊢
  exact k
noncomputable def Kh(D:Ad):Sp:=λvs H Q E=>∃ hd hdx hl xs ws,∃ h x:Int,vs=[.ref hd,.int h,.int x]/\Hn D H hd hdx hl xs ws/\Sm h/\Sm x/\(if 0<=h/\h<8 then(if Num x then ∀ t H',az H H'->H' t=some (.tup [.str "number",.int x])->Q .non (upd H' hl (.lst (xs.set h.toNat (.ref t)))) else Bad D.cU H E) else Bad D.bM H E)
noncomputable abbrev IK:List Str:=["self","h","x"]
theorem Ho:aw IK ["self","h","x"] (aq qN):=fsc
theorem Hq(F:Fun K "number" "Hands.number" qN D.fP D.kq)(T:Txt K mg D)
  (aO:9e7 3 D.bB D.cK ["h"] (eN D))
  (qU:9e7 4 D.eF D.ko ["x"] (vA D)):9e7 5 D.fP D.kq ["self","h","x"] (Kh D):=by
 refine F.oa Ho F.b3 λcdv A' outer s' H vs Q E hr h=>?_;obtain⟨hd,hdx,hl,xs,ws,h,x,rfl,N,hb,hx,k⟩:=h;refine⟨_,(aj 8e6
  (ai (D1 (qU.c hr T.IB T.qR px 3e9) (Ik 1e8 (pv 1) set_list)))),?_⟩
 refine⟨_,rfl,h,rfl,hb,?_⟩;by_cases c:0<=h/\h<8
 ·rw[if_pos c]at k ⊢
  refine⟨_,rfl,x,rfl,hx,?_⟩;by_cases g:Num x
  ·rw[if_pos g]at k ⊢
   intro t H' sH ht;have N':=N.same sH;exact⟨_,rfl,hd,D.bo,hdx,_,.ref hl,rfl,N'.i,T.bc,T.cJ,rfl,_,rfl,hl,xs,h,h.toNat,rfl,rfl,N'.l,N'.ix c,k t H' sH ht⟩
  ·rw[if_neg g]at k ⊢
   exact k
 ·rw[if_neg c]at k ⊢
  exact k
noncomputable def D7(D:Ad):Sp:=λvs H Q E=>∃ hd hdx hl xs ws,∃ h:Int,vs=[.ref hd,.int h]/\Hn D H hd hdx hl xs ws/\Sm h/\(match wat ws h with|some wd=>∀ H',az H H'->Q (.str wd.kind) H'|none=>Bad D.bM H E)
noncomputable abbrev Nr:List Str:=["self","h","kind"]
theorem zM:aw Nr ["self","h"] (aq uT):=fsc
theorem Lg(F:Fun K "kind" "Hands.kind" uT D.fM D.jG)(T:Txt K mg D)
  (kW:9e7 1 D.d8 D.hV ["value"] (Pf))
  (dJ:9e7 4 D.cO D.gb ["self","h"] (vB D)):9e7 5 D.fM D.jG ["self","h"] (D7 D):=by
 refine F.oa zM F.b2 λcdv A' outer s' H vs Q E hr h=>?_;obtain⟨hd,hdx,hl,xs,ws,h,rfl,N,hb,k⟩:=h;refine⟨_,(aj (aS (i:=2) zM.nd rfl 1e9 (kW.c hr T.lV T.j9 px (aa (dJ.m hr (pv 0) T.bc T.nY px 2e4) ak)))
  (ai (aI (rN (aK Gh (pv 2) (cg (aa aP (aa aP ak))) 3e1) (pv 2) aP)))),?_⟩
 refine⟨_,rfl,hd,hdx,_,rfl,N.i,rfl,_,rfl,hd,hdx,hl,xs,ws,h,rfl,N,hb,?_⟩;cases e:wat ws h with
 | none =>
  rw[e]at k;exact k
 | some wd =>
  rw[e]at k;intro v hv wv;refine⟨v,wd,rfl,wv,?_⟩;cases wd with
  | no=>exact⟨_,rfl,by show 2<=sizeLine;decide,λt ht=>⟨t,_,rfl,.inr (SqT.of ag),rfl,rfl,_,rfl,a9 (λ_=>⟨_,rfl,k _ (az.upd ht)⟩) (λh=>absurd 1e4 h)⟩⟩
  | num n=>exact⟨_,rfl,by show 2<=sizeLine;decide,λt ht=>⟨t,_,rfl,.inr (SqT.of ag),rfl,rfl,_,rfl,a9 (λ_=>⟨_,rfl,k _ (az.upd ht)⟩) (λh=>absurd 1e4 h)⟩⟩
  | th n=>exact⟨_,rfl,by show 2<=sizeLine;decide,λt ht=>⟨t,_,rfl,.inr (SqT.of ag),rfl,rfl,_,rfl,a9 (λh=>absurd h (aqt.mp 1e4)) (λ_=>k _ (az.upd ht))⟩⟩
noncomputable def RA(D:Ad):Sp:=λvs H Q E=>∃ hd hdx hl xs ws,∃ h:Int,vs=[.ref hd,.int h]/\Hn D H hd hdx hl xs ws/\Sm h/\(match wat ws h with|some (.num x)=>∀ H',az H H'->Q (.int x) H'|_=>Bad D.bM H E)
noncomputable abbrev Lh:List Str:=["self","h"]
theorem IL:aw Lh ["self","h"] (aq sY):=fsc
theorem IM(F:Fun K "value" "Hands.value" sY D.gL D.k9)(T:Txt K mg D)
  (ao:9e7 1 D.au D.aA ["self","text"] (Bm K))
  (gA:9e7 5 D.fM D.jG ["self","h"] (D7 D)):9e7 6 D.gL D.k9 ["self","h"] (RA D):=by
 refine F.oa IL F.b2 λcdv A' outer s' H vs Q E hr h=>?_;obtain⟨hd,hdx,hl,xs,ws,h,rfl,N,hb,k⟩:=h;refine⟨_,(aj (bQ (aK O7 (gA.m hr (pv 0) T.bc T.tw px 2e4) aP (aW _))
   (ai (fL rfl kN (ao.e hr T.Bu T.Bs px (aa (jA (aY gE (aY (kO (pv 1)) (aY gE jz)))) ak))))
   aR)
  (ai (aI (a8 aV (a8 jy 1e8 (pv 1) 1e6) av 1e6)))),?_⟩
 refine⟨_,rfl,hd,hdx,_,rfl,N.i,rfl,_,rfl,hd,hdx,hl,xs,ws,h,rfl,N,hb,?_⟩;cases e:wat ws h with
 | none =>
  rw[e]at k;exact k
 | some wd =>
  rw[e]at k;cases wd with
  | no=>exact λH1 s1=>⟨rfl,_,rfl,a9 9e6 (λh=>absurd 1e4 h)⟩
  | num n =>
   intro H1 s1;have N1:=N.same s1;obtain⟨v,hv,wv⟩:=N1.at_ e;obtain⟨h0,h1,_⟩:=uM e;obtain⟨t,rfl,ht⟩:=wv;exact⟨rfl,_,rfl,a9 (λh=>absurd h (aqt.mp 1e4)) (λ_=>⟨_,rfl,hd,D.bo,hdx,_,.ref hl,rfl,N1.i,T.bc,T.cJ,rfl,_,rfl,hl,xs,h,.ref t,rfl,rfl,SqL.of N1.l,zI h0 hv,t,_,1,.int n,rfl,rfl,SqT.of ht,rfl,k H1 s1⟩)⟩
  | th n =>
   exact λH1 s1=>⟨rfl,_,rfl,a9 9e6 (λh=>absurd 1e4 h)⟩
noncomputable def kP(D:Ad):Sp:=λvs H Q E=>∃ hd hdx hl xs ws,∃ h:Int,vs=[.ref hd,.int h]/\Hn D H hd hdx hl xs ws/\Sm h/\(match wat ws h with|some (.th x)=>∀ H',az H H'->Q (.int x) H'|_=>Bad D.bM H E)
noncomputable abbrev BZ:List Str:=["self","h"]
theorem Ae:aw BZ ["self","h"] (aq mh):=fsc
theorem Af(F:Fun K "thing_due" "Hands.thing_due" mh D.bp D.cx)(T:Txt K mg D)
  (ao:9e7 1 D.au D.aA ["self","text"] (Bm K))
  (gA:9e7 5 D.fM D.jG ["self","h"] (D7 D)):9e7 6 D.bp D.cx ["self","h"] (kP D):=by
 refine F.oa Ae F.b2 λcdv A' outer s' H vs Q E hr h=>?_;obtain⟨hd,hdx,hl,xs,ws,h,rfl,N,hb,k⟩:=h;refine⟨_,(aj (bQ (aK O7 (gA.m hr (pv 0) T.bc T.tw px 2e4) aP (aW _))
   (ai (fL rfl kN (ao.e hr T.Bu T.Bs px (aa (jA (aY gE (aY (kO (pv 1)) (aY gE jz)))) ak))))
   aR)
  (ai (aI (a8 aV (a8 jy 1e8 (pv 1) 1e6) av 1e6)))),?_⟩
 refine⟨_,rfl,hd,hdx,_,rfl,N.i,rfl,_,rfl,hd,hdx,hl,xs,ws,h,rfl,N,hb,?_⟩;cases e:wat ws h with
 | none =>
  rw[e]at k;exact k
 | some wd =>
  rw[e]at k;cases wd with
  | no=>exact λH1 s1=>⟨rfl,_,rfl,a9 9e6 (λh=>absurd 1e4 h)⟩
  | num n =>
   exact λH1 s1=>⟨rfl,_,rfl,a9 9e6 (λh=>absurd 1e4 h)⟩
  | th n =>
   intro H1 s1;have N1:=N.same s1;obtain⟨v,hv,wv⟩:=N1.at_ e;obtain⟨h0,h1,_⟩:=uM e;obtain⟨t,rfl,ht⟩:=wv;exact⟨rfl,_,rfl,a9 (λh=>absurd h (aqt.mp 1e4)) (λ_=>⟨_,rfl,hd,D.bo,hdx,_,.ref hl,rfl,N1.i,T.bc,T.cJ,rfl,_,rfl,hl,xs,h,.ref t,rfl,rfl,SqL.of N1.l,zI h0 hv,t,_,1,.int n,rfl,rfl,SqT.of ht,rfl,k H1 s1⟩)⟩
noncomputable def qo(D:Ad):Sp:=λvs H Q E=>∃ hd hdx hl xs ws,vs=[.ref hd]/\Hn D H hd hdx hl xs ws/\∀ p H',az H H'->H p=none->H' p=some 5e6->Q 4e7 H'
noncomputable abbrev B7:List Str:=["self"]
theorem Ag:aw B7 ["self"] (aq me):=fsc
theorem Ah(F:Fun K "all_words" "Hands.all_words" me D.bT D.ed)(T:Txt K mg D):9e7 1 D.bT D.ed ["self"] (qo D):=by
 refine F.oa Ag F.b1 λcdv A' outer s' H vs Q E hr h=>?_;obtain⟨hd,hdx,hl,xs,ws,rfl,N,k⟩:=h;refine⟨_,(ai (aI (j6 ng rfl T.wB PyProof.Rows.Boot.«list» (aa 1e8 ak)))),?_⟩;exact⟨_,rfl,hd,D.bo,hdx,_,.ref hl,rfl,N.i,T.bc,T.cJ,rfl,hl,xs,rfl,.inl (SqL.of N.l),λp hp=>k p _ (az.upd hp) hp ag⟩
noncomputable def RB(D:Ad):Sp:=λvs H Q E=>∃ nt ntx nl xs v,∃ w:Int,vs=[.ref nt,.int w,v]/\Nt D H nt ntx nl xs/\Sm w/\(if 0<=w/\w<8 then Q .non (upd H nl (.lst (xs.set w.toNat v))) else Bad D.eT H E)
noncomputable abbrev ED:List Str:=["self","w","t"]
theorem B8:aw ED ["self","w","t"] (aq nQ):=fsc
theorem B9(F:Fun K "name" "NameTable.name" nQ D.dW D.i4)(T:Txt K mg D)
  (jg:9e7 3 D.dB D.jb ["w"] (pQ D)):9e7 4 D.dW D.i4 ["self","w","t"] (RB D):=by
 refine F.oa B8 F.b3 λcdv A' outer s' H vs Q E hr h=>?_;obtain⟨nt,ntx,nl,xs,v,w,rfl,N,hb,k⟩:=h;refine⟨_,(aj (aG (jg.c hr T.xv T.mV px 2e4))
  (ai (D1 (pv 2) (Ik 1e8 (pv 1) set_list)))),?_⟩
 refine⟨_,rfl,w,rfl,hb,?_⟩;by_cases g:0<=w/\w<8
 ·rw[if_pos g]at k ⊢
  exact⟨_,rfl,_,rfl,nt,D.aH,ntx,_,.ref nl,rfl,N.i,T.eE,T.cn,rfl,_,rfl,nl,xs,w,w.toNat,rfl,rfl,N.l,Wh g.1 (by rw[N.n];exact g.2),k⟩
 ·rw[if_neg g]at k ⊢
  exact k
noncomputable def RC(D:Ad):Sp:=λvs H Q E=>∃ nt ntx nl xs,∃ w:Int,vs=[.ref nt,.int w]/\Nt D H nt ntx nl xs/\Sm w/\(if 0<=w/\w<8 then ∀ v,xs[w.toNat]?=some v->Q v H else Bad D.eT H E)
noncomputable abbrev Ca:List Str:=["self","w"]
theorem Ai:aw Ca ["self","w"] (aq mj):=fsc
theorem Aj(F:Fun K "named" "NameTable.named" mj D.dr D.ir)(T:Txt K mg D)
  (jg:9e7 3 D.dB D.jb ["w"] (pQ D)):9e7 4 D.dr D.ir ["self","w"] (RC D):=by
 refine F.oa Ai F.b2 λcdv A' outer s' H vs Q E hr h=>?_;obtain⟨nt,ntx,nl,xs,w,rfl,N,hb,k⟩:=h;refine⟨_,(aj (aG (jg.c hr T.xv T.mV px 2e4))
  (ai (aI (a8 jy 1e8 (pv 1) 1e6)))),?_⟩
 refine⟨_,rfl,w,rfl,hb,?_⟩;by_cases g:0<=w/\w<8
 ·rw[if_pos g]at k ⊢
  have hv:xs[w.toNat]?=some (xs[w.toNat]'(by rw[N.n];omega)):=apT _;exact⟨_,rfl,nt,D.aH,ntx,_,.ref nl,rfl,N.i,T.eE,T.cn,rfl,_,rfl,nl,xs,w,_,rfl,rfl,SqL.of N.l,zI g.1 hv,k _ hv⟩
 ·rw[if_neg g]at k ⊢
  exact k
noncomputable def rX(D:Ad):Sp:=λvs H Q _=>∃ m dx,vs=[.ref m]/\H m=some (.ins D.aN dx [])/\∀ b c H',But m H H'->H b=none->H c=none->Wt D H' m dx b c [] []->Q .non H'
noncomputable abbrev wG:List Str:=["self"]
theorem vL:aw wG ["self"] (aq kc):=fsc
theorem vM(F:Fun K "__init__" "WordTable.__init__" kc D.bX D.fD)(T:Txt K mg D):9e7 1 D.bX D.fD ["self"] (rX D):=by
 refine F.oa vL F.b1 λcdv A' outer s' H vs Q E hr h=>?_;obtain⟨m,dx,rfl,hm,k⟩:=h;refine⟨_,(aj (ja (pv 0) jx rfl)
  (ai (ja (pv 0) (qa ak) rfl))),?_⟩
 intro p hp;have np:m≠p:=ar hm hp;refine⟨_,rfl,m,D.aN,dx,[],rfl,(by rw[ah np];exact hm),T.dG,T.bP,by decide,?_⟩;refine⟨by show 0<=sizeLine;decide,λq hq=>?_⟩;have nq:m≠q:=ar ag hq;have qp:q≠p:=λe=>by rw[e,ah (aqe np),ag]at hq;cases hq
 have hq0:H q=none:=by rw[ah (aqe nq),ah qp]at hq;exact hq
 refine⟨_,rfl,m,D.aN,dx,_,rfl,(by rw[ah nq];exact ag),T.dG,T.lT,by show 1<1000;decide,?_⟩;refine k p q _ ((((But.upd hp).trans But.self).trans (λb u n h=>by rw[ah λe=>by rw[e]at h;rw[h]at hq;cases hq];exact h)).trans But.self) hp hq0 ⟨ag,?_,?_⟩
 ·rw[ah (aqe np),ah (aqe qp),ah (aqe np),ag]
  rfl
 ·rw[ah (aqe nq),ag]
  rfl
noncomputable def UO(D:Ad):Sp:=λvs H Q E=>∃ wt wtx wb wl bs zs,∃ t x:Int,vs=[.ref wt,.int t,.int x]/\Wt D H wt wtx wb wl bs zs/\bs.length<=12/\(if bs.lookup t=none/\12<=bs.length then Bad D.bR H E else Q .non (upd H wb (.dK ((MO bs t x).map bkv))))
noncomputable abbrev EE:List Str:=["self","t","x"]
theorem Cb:aw EE ["self","t","x"] (aq nP):=fsc
theorem Cc(F:Fun K "bear" "WordTable.bear" nP D.dU D.i3)(T:Txt K mg D)
  (ao:9e7 1 D.au D.aA ["self","text"] (Bm K)):9e7 3 D.dU D.i3 ["self","t","x"] (UO D):=by
 refine F.oa Cb F.b3 λcdv A' outer s' H vs Q E hr h=>?_;obtain⟨wt,wtx,wb,wl,bs,zs,t,x,rfl,N,hn,k⟩:=h;have hu:=jK hr;refine⟨_,(aj (bQ (PW.pt (pw_and (rf (kU hu (pv 1) 1e8) 3e1) (pw_and1 (aK aaA (cc Vy rfl T.lM PyProof.Rows.Boot.«len» (aa 1e8 ak)) (nK (v:=.int 12) rfl T.m7 ⟨_,rfl⟩) (aW _)))))
   (ai (fL rfl kN (ao.e hr T.G8 T.G7 px (aa (jA (aY (kO (nK (v:=.int 12) rfl T.m7 ⟨_,rfl⟩)) (aY gE jz))) ak))))
   aR)
  (ai (lQ hu 1e8 (pv 1) (pv 2) rfl))),?_⟩
 have hu:=jK hr;refine⟨_,rfl,_,rfl,wt,D.aN,wtx,_,.ref wb,rfl,N.i,T.dG,T.bP,rfl,wb,_,rfl,um.k (k:=Sum.inl t) N.b,_,rfl,?_⟩;rw[adW,aq0];cases e:bs.lookup t with
 | some v =>
  rw[if_neg (λz=>by rw[e]at z;cases z.1)]at k;exact xt ⟨_,rfl,_,rfl,wt,D.aN,wtx,_,.ref wb,rfl,N.i,T.dG,T.bP,rfl,_,rfl,wb,_,rfl,Em.k (k:=Sum.inl t) N.b (by rw[apR];exact aqL hn 2e6),by rw[Ry]at k;exact k⟩
 | none =>
  refine yt ⟨_,rfl,wt,D.aN,wtx,_,.ref wb,rfl,N.i,T.dG,T.bP,rfl,wb,_,rfl,N.b,_,_,rfl,rfl,_,rfl,a9 (λh=>?_) (λh=>?_)⟩
  ·rw[apR]at h
   have h:=of_decide_eq_true h;rw[if_pos ⟨e,by omega⟩]at k;exact⟨12,rfl,Sm.of 2e6 2e6,λy hy ea hea=>b9 T.vx 6e7 k ea hea⟩
  ·rw[apR]at h
   have h:¬((12:Int)<=(bs.length:Int)):=λz=>h (decide_eq_true z);rw[if_neg (λz=>h (by have:=z.2;omega))]at k;exact⟨_,rfl,_,rfl,wt,D.aN,wtx,_,.ref wb,rfl,N.i,T.dG,T.bP,rfl,_,rfl,wb,_,rfl,Em.k (k:=Sum.inl t) N.b (by rw[apR];exact aqL hn 2e6),by rw[Ry]at k;exact k⟩
noncomputable def fld(s:HS)(t:Int):List Wd:=(s.aJ.lookup t).getD []
structure Good(s:HS):Prop where
 h8:s.aZ.length=8
 n8:s.names.length=8
 asc:(s.aJ.map (·.1)).Pairwise (·< ·)
 lt:∀ t ws,(t,ws)∈s.aJ->0<=t/\t<s.nxt
 f6:∀ t ws,(t,ws)∈s.aJ->ws.length<=6
 hh:∀ t,Wd.th t∈s.aZ->∃ ws,(t,ws)∈s.aJ
 ff:∀ u ws t,(u,ws)∈s.aJ->Wd.th t∈ws->∃ ws',(t,ws')∈s.aJ
 nn:∀ t,some t∈s.names->∃ ws,(t,ws)∈s.aJ
 b12:s.cC.length<=12
 bk:∀ t x,(t,x)∈s.cC->∃ ws,(t,ws)∈s.aJ
 bnd:(s.cC.map (·.1)).Nodup
 n0:0<=s.nxt
 nx:s.nxt<=10000
 sd:(s.xB.length:Int)+s.aJ.length<=s.nxt
 yk:∀ t∈s.yng,∃ ws,(t,ws)∈s.aJ
 Iv:s.yng.Pairwise (·< ·)
 dk:∀ t∈s.eL,∃ ws,(t,ws)∈s.aJ
 Ki:s.eL.Pairwise (·< ·)
theorem mem_lookup{α:Type}{fs:List (Int×α)}{t:Int}{w:α}(asc:(fs.map (·.1)).Nodup)(m:(t,w)∈fs):fs.lookup t=some w:=by
 induction fs with
 | nil=>cases m
 | cons p r ih =>
  obtain⟨a,b⟩:=p;rw[aqd,aqP]at asc;rw[aqS];rcases aqi.mp m with e|m
  ·cases e
   rw[beq_self_eq_true]
  ·have ne:t≠a:=λe=>asc.1 (by rw[<-e];exact aqf.mpr ⟨_,m,rfl⟩)
   rw[beq_eq_false_iff_ne.mpr ne];exact ih asc.2 m
theorem uv{l:List Int}(h:l.Pairwise (·< ·)):l.Nodup:=h.imp λh=>Int.ne_of_lt h
theorem Good.get{s:HS}(g:Good s){t:Int}{ws:List Wd}(m:(t,ws)∈s.aJ):s.aJ.lookup t=some ws:=mem_lookup (uv g.asc) m
theorem Good.fld{s:HS}(g:Good s){t:Int}{ws:List Wd}(m:(t,ws)∈s.aJ):fld s t=ws:=by unfold K44.fld;rw[g.get m];rfl
theorem Good.hand{s:HS}(g:Good s){h t:Int}(e:wat s.aZ h=some (.th t)):(t,K44.fld s t)∈s.aJ:=by
 obtain⟨_,_,e⟩:=uM e;obtain⟨ws,m⟩:=g.hh t (apW e);rw[g.fld m];exact m
theorem Good.few{s:HS}(g:Good s):s.aJ.length<=10000:=by
 have:=g.sd
 have:=g.nx
 omega
theorem oK{n:Nat}(h:n<=20000):n<sizeLine:=aqL h 2e6
theorem lN{n:Nat}(h:n<=20000):n<=sizeLine:=arI (oK h)
inductive Er where
 | hand|name|field|count|room|words|on|no
noncomputable def Ad.er(D:Ad):Er->Addr
 | .hand=>D.bM
 | .name=>D.eT
 | .field=>D.fu
 | .count=>D.cU
 | .room=>D.j7
 | .words=>D.bR
 | .on=>D.iM
 | .no=>D.iN
noncomputable abbrev Re:=Option Er×HS
noncomputable def Fin(D:Ad)(x:Addr)(A:HA)(s:HS)(H:Hp)(r:Re)(Q:VK)(E:XK):Prop:=∀ A' H',IH D H' x A' r.2->Fr 4e1 H (cL x A' r.2) H'->(match r.1 with|none=>Q .non H'|some e=>E (.ref (D.er e)) none H')
theorem Fin.bad{D:Ad}{x:Addr}{A:HA}{s:HS}{H:Hp}{e:Er}{Q:VK}{E:XK}(k:Fin D x A s H (some e,s) Q E)(J:IH D H x A s):Bad (D.er e) H E:=λH' s'=>k A H' (J.same s') (Fr.same s')
noncomputable abbrev ok8(h:Int):Prop:=0<=h/\h<8
noncomputable def uw(s:HS)(h:Int)(w:Wd):HS:={s with aZ:=s.aZ.set h.toNat w}
noncomputable def oO(s:HS)(h g k:Int):Re:=if ok8 h then(match wat s.aZ g with|some (.th t)=>if 0<=k/\k<((fld s t).length:Int) then(none,uw s h ((fld s t).getD k.toNat .no)) else(some .field,s)|_=>3e3) else 3e3
noncomputable def jZ(s:HS)(g k h:Int):Re:=match wat s.aZ g with|some (.th t)=>(match wat s.aZ h with|some w=>if 0<=k/\k<((fld s t).length:Int) then(none,{s with aJ:=ur s.aJ t ((fld s t).set k.toNat w)}) else(some .field,s)|none=>3e3)|_=>3e3
noncomputable def vC(s:HS)(h g:Int):Re:=if ok8 h then(match wat s.aZ g with|some w=>(none,uw s h w)|none=>3e3) else 3e3
noncomputable def zw(s:HS)(h:Int):Re:=if ok8 h then(none,uw s h .no) else 3e3
noncomputable def kG(s:HS)(h x:Int):Re:=if ok8 h then(if Num x then(none,uw s h (.num x)) else(some .count,s)) else 3e3
noncomputable def qq(s:HS)(w h:Int):Re:=match wat s.aZ h with|some (.th t)=>if ok8 w then(none,{s with names:=s.names.set w.toNat (some t)}) else(some .name,s)|_=>3e3
noncomputable def nmW:Option Int->Wd
 | none=>.no
 | some t=>.th t
noncomputable def oQ(s:HS)(h x:Int):Re:=match wat s.aZ h with|some (.th t)=>(if Num x then(if s.cC.lookup t=none/\12<=s.cC.length then(some .words,s) else(none,{s with cC:=MO s.cC t x})) else(some .count,s))|_=>3e3
noncomputable def Tb(s:HS)(h n:Int):HS:={s with nxt:=s.nxt+1,aJ:=s.aJ++[7e2],yng:=if s.my=true then s.yng++[s.nxt] else s.yng,aZ:=s.aZ.set h.toNat (.th s.nxt)}
noncomputable def wsum(s:HS)(ts:List Int):Int:=(ts.map λt=>((fld s t).length:Int)+1).sum
section
variable{D:Ad}{H:Hp}{x:Addr}{A:HA}{s:HS}
theorem IH.hn(J:IH D H x A s)(g:Good s):Hn D H A.hd A.hdx A.hl A.hx s.aZ:=⟨J.ahd,J.ahl,J.rhl,g.h8⟩
theorem IH.ntb(J:IH D H x A s)(g:Good s):Nt D H A.nt A.ntx A.nl (s.names.map nmV):=⟨J.ant,J.anl,by rw[apR];exact g.n8⟩
theorem IH.wtb(J:IH D H x A s):Wt D H A.wt A.wtx A.wb A.wl s.cC s.xB:=⟨J.awt,J.awb,J.awl⟩
theorem X9{A:HA}{fs:List (Int×List Wd)}{t:Int}:iX (fs.map (fkv A)) 4e4=(fs.lookup t).map λ_=>V.ref (A.fa t):=Kg λ_=>rfl
theorem IH.aa0(J:IH D H x A s)(g:Good s){t:Int}{ws:List Wd}(m:(t,ws)∈s.aJ):um H A.fh (.int t) (some (.ref (A.fa t))):=by
 have:=um.k (k:=Sum.inl t) J.afh
 rw[X9,g.get m]at this;exact this
end
noncomputable def UP(D:Ad):Sp:=λvs H Q E=>∃ x A s,∃ h g:Int,vs=[.ref x,.int h,.int g]/\IH D H x A s/\Good s/\Sm h/\Sm g/\Fin D x A s H (vC s h g) Q E
noncomputable abbrev Qc:List Str:=["self","h","g"]
theorem Nu:aw Qc ["self","h","g"] (aq xK):=fsc
theorem Nv(F:Fun K "copy" "Heap.copy" xK D.gX D.pw)(T:Txt K mg D)
  (vi:9e7 5 D.iD D.nr ["self","h","g"] (Rz D)):9e7 6 D.gX D.pw ["self","h","g"] (UP D):=by
 refine F.oa Nu F.b3 λcdv A' outer s' H vs Q E hr h=>?_;obtain⟨x,A,s,h,g,rfl,J,G,hh,hg,k⟩:=h;refine⟨_,(ai (aG (vi.m hr 1e8 T.bc T.K8 px (aa (pv 1) 3e9)))),?_⟩;refine⟨_,rfl,x,D.ab,_,_,.ref A.hd,rfl,J.ax,T.ae,T.aC,qm,A.hd,A.hdx,_,rfl,J.ahd,rfl,_,rfl,_,rfl,A.hd,A.hdx,A.hl,A.hx,s.aZ,h,g,rfl,J.hn G,hh,hg,?_⟩;by_cases c:ok8 h
 ·rw[if_pos c]
  cases e:wat s.aZ g with
  | none =>
   rw[show vC s h g=3e3 by simp only[vC,if_pos c,e]]at k;exact k.bad J
  | some wd =>
   rw[show vC s h g=(none,uw s h wd) by simp only[vC,if_pos c,e]]at k;exact λv wv=>let w:=J.Ws (J.rhl.set (i:=h.toNat) wv);k _ _ w.1 w.2
 ·rw[if_neg c]
  rw[show vC s h g=3e3 by simp only[vC,if_neg c]]at k;exact k.bad J
noncomputable def UQ(D:Ad):Sp:=λvs H Q E=>∃ x A s,∃ h:Int,vs=[.ref x,.int h]/\IH D H x A s/\Good s/\Sm h/\Fin D x A s H (zw s h) Q E
noncomputable abbrev Qd:List Str:=["self","h"]
theorem Nw:aw Qd ["self","h"] (aq xM):=fsc
theorem Nx(F:Fun K "drop" "Heap.drop" xM D.gY D.pA)(T:Txt K mg D)
  (eV:9e7 4 D.fQ D.jB ["self","h","word"] (zK D)):9e7 5 D.gY D.pA ["self","h"] (UQ D):=by
 refine F.oa Nw F.b2 λcdv A' outer s' H vs Q E hr h=>?_;obtain⟨x,A,s,h,rfl,J,G,hh,k⟩:=h;refine⟨_,(ai (aG (eV.m hr 1e8 T.bc T.qh px (aa (pv 1) (aa d7 ak))))),?_⟩;refine⟨_,rfl,x,D.ab,_,_,.ref A.hd,rfl,J.ax,T.ae,T.aC,qm,A.hd,A.hdx,_,rfl,J.ahd,rfl,_,rfl,A.hd,A.hdx,A.hl,A.hx,s.aZ,.non,h,rfl,J.hn G,hh,?_⟩;by_cases c:ok8 h
 ·rw[if_pos c]
  rw[show zw s h=(none,uw s h .no) by simp only[zw,if_pos c]]at k;exact let w:=J.Ws (J.rhl.set (i:=h.toNat) (show WV H .non .no from rfl));k _ _ w.1 w.2
 ·rw[if_neg c]
  rw[show zw s h=3e3 by simp only[zw,if_neg c]]at k;exact k.bad J
noncomputable def MP(D:Ad):Sp:=λvs H Q E=>∃ x A s,∃ h z:Int,vs=[.ref x,.int h,.int z]/\IH D H x A s/\Good s/\Sm h/\Sm z/\Fin D x A s H (kG s h z) Q E
noncomputable abbrev Li:List Str:=["self","h","x"]
theorem IP:aw Li ["self","h","x"] (aq sZ):=fsc
theorem IQ(F:Fun K "number" "Heap.number" sZ D.eC D.lg)(T:Txt K mg D)
  (qV:9e7 5 D.fP D.kq ["self","h","x"] (Kh D)):9e7 6 D.eC D.lg ["self","h","x"] (MP D):=by
 refine F.oa IP F.b3 λcdv A' outer s' H vs Q E hr h=>?_;obtain⟨x,A,s,h,z,rfl,J,G,hh,hz,k⟩:=h;refine⟨_,(ai (aG (qV.m hr 1e8 T.bc T.Ha px (aa (pv 1) 3e9)))),?_⟩;refine⟨_,rfl,x,D.ab,_,_,.ref A.hd,rfl,J.ax,T.ae,T.aC,qm,A.hd,A.hdx,_,rfl,J.ahd,rfl,_,rfl,_,rfl,A.hd,A.hdx,A.hl,A.hx,s.aZ,h,z,rfl,J.hn G,hh,hz,?_⟩;by_cases c:ok8 h
 ·rw[if_pos c]
  by_cases g:Num z
  ·rw[if_pos g]
   rw[show kG s h z=(none,uw s h (.num z)) by simp only[kG,if_pos c,if_pos g]]at k;exact λt H1 s1 ht=>let J1:=J.same s1;let w:=J1.Ws (J1.rhl.set (i:=h.toNat) (show WV H1 (.ref t) (.num z) from⟨t,rfl,ht⟩));k _ _ w.1 ((Fr.same s1).trans w.2)
  ·rw[if_neg g]
   rw[show kG s h z=(some .count,s) by simp only[kG,if_pos c,if_neg g]]at k;exact k.bad J
 ·rw[if_neg c]
  rw[show kG s h z=3e3 by simp only[kG,if_neg c]]at k;exact k.bad J
noncomputable def UR(D:Ad):Sp:=λvs H Q E=>∃ x A s,∃ w h:Int,vs=[.ref x,.int w,.int h]/\IH D H x A s/\Good s/\Sm w/\Sm h/\Fin D x A s H (qq s w h) Q E
noncomputable abbrev Qe:List Str:=["self","w","h","t"]
theorem DR:aw Qe ["self","w","h"] (aq xN):=fsc
theorem Ny(F:Fun K "name" "Heap.name" xN D.gZ D.pB)(T:Txt K mg D)
  (aT:9e7 6 D.bp D.cx ["self","h"] (kP D))
  (oi:9e7 4 D.dW D.i4 ["self","w","t"] (RB D)):9e7 7 D.gZ D.pB ["self","w","h"] (UR D):=by
 refine F.oa DR F.b3 λcdv A' outer s' H vs Q E hr h=>?_;obtain⟨x,A,s,w,h,rfl,J,G,hw,hh,k⟩:=h;refine⟨_,(aj (aS (i:=3) DR.nd rfl 1e9 (aT.m hr 1e8 T.bc T.hG px 3e9))
  (ai (aG (oi.m hr 1e8 T.eE T.BE px (aa (pv 1) 6e5))))),?_⟩
 refine⟨_,rfl,x,D.ab,_,_,.ref A.hd,rfl,J.ax,T.ae,T.aC,qm,A.hd,A.hdx,_,rfl,J.ahd,rfl,_,rfl,A.hd,A.hdx,A.hl,A.hx,s.aZ,h,rfl,J.hn G,hh,?_⟩;cases e:wat s.aZ h with
 | none =>
  rw[show qq s w h=3e3 by simp only[qq,e]]at k;exact k.bad J
 | some wd =>
  cases wd with
  | no =>
   rw[show qq s w h=3e3 by simp only[qq,e]]at k;exact k.bad J
  | num n =>
   rw[show qq s w h=3e3 by simp only[qq,e]]at k;exact k.bad J
  | th t =>
   intro H1 s1;have J1:=J.same s1;refine⟨_,rfl,x,D.ab,_,_,.ref A.nt,rfl,J1.ax,T.ae,T.d9,Wg,A.nt,A.ntx,_,rfl,J1.ant,rfl,_,rfl,_,rfl,A.nt,A.ntx,A.nl,_,.int t,w,rfl,J1.ntb G,hw,?_⟩;by_cases c:ok8 w
   ·rw[if_pos c]
    rw[show qq s w h=(none,{s with names:=s.names.set w.toNat (some t)}) by simp only[qq,e,if_pos c]]at k;have w1:=J1.apj (ns:=s.names.set w.toNat (some t));rw[List.map_set]at w1;exact k _ _ w1.1 ((Fr.same s1).trans w1.2)
   ·rw[if_neg c]
    rw[show qq s w h=(some .name,s) by simp only[qq,e,if_neg c]]at k;exact Bad.same (k.bad J) s1
noncomputable def US(D:Ad):Sp:=λvs H Q E=>∃ x A s,∃ h z:Int,vs=[.ref x,.int h,.int z]/\IH D H x A s/\Good s/\Sm h/\Sm z/\Fin D x A s H (oQ s h z) Q E
noncomputable abbrev Qf:List Str:=["self","h","x","t"]
theorem DS:aw Qf ["self","h","x"] (aq xO):=fsc
theorem Nz(F:Fun K "word" "Heap.word" xO D.g4 D.pD)(T:Txt K mg D)
  (aT:9e7 6 D.bp D.cx ["self","h"] (kP D))
  (gN:9e7 3 D.cq D.gK ["x"] (mL D))
  (oj:9e7 3 D.dU D.i3 ["self","t","x"] (UO D)):9e7 7 D.g4 D.pD ["self","h","x"] (US D):=by
 refine F.oa DS F.b3 λcdv A' outer s' H vs Q E hr h=>?_;obtain⟨x,A,s,h,z,rfl,J,G,hh,hz,k⟩:=h;refine⟨_,(aj (aS (i:=3) DS.nd rfl 1e9 (aT.m hr 1e8 T.bc T.hG px 2e4))
  (aj (aG (gN.c hr T.ud T.kF px 3e9))
  (ai (aG (oj.m hr 1e8 T.dG T.BD px (aa (pv 3) 3e9)))))),?_⟩
 refine⟨_,rfl,x,D.ab,_,_,.ref A.hd,rfl,J.ax,T.ae,T.aC,qm,A.hd,A.hdx,_,rfl,J.ahd,rfl,_,rfl,A.hd,A.hdx,A.hl,A.hx,s.aZ,h,rfl,J.hn G,hh,?_⟩;cases e:wat s.aZ h with
 | none =>
  rw[show oQ s h z=3e3 by simp only[oQ,e]]at k;exact k.bad J
 | some wd =>
  cases wd with
  | no =>
   rw[show oQ s h z=3e3 by simp only[oQ,e]]at k;exact k.bad J
  | num n =>
   rw[show oQ s h z=3e3 by simp only[oQ,e]]at k;exact k.bad J
  | th t =>
   intro H1 s1;have J1:=J.same s1;refine⟨_,rfl,z,rfl,hz,?_⟩;by_cases g:Num z
   ·rw[if_pos g]
    refine⟨_,rfl,x,D.ab,_,_,.ref A.wt,rfl,J1.ax,T.ae,T.jo,aaZ,A.wt,A.wtx,_,rfl,J1.awt,rfl,_,rfl,_,rfl,A.wt,A.wtx,A.wb,A.wl,s.cC,s.xB,t,z,rfl,J1.wtb,G.b12,?_⟩;by_cases c:s.cC.lookup t=none/\12<=s.cC.length
    ·rw[if_pos c]
     rw[show oQ s h z=(some .words,s) by simp only[oQ,e,if_pos g,if_pos c]]at k;exact Bad.same (k.bad J) s1
    ·rw[if_neg c]
     rw[show oQ s h z=(none,{s with cC:=MO s.cC t z}) by simp only[oQ,e,if_pos g,if_neg c]]at k;have w1:=J1.alh (bs:=MO s.cC t z);exact k _ _ w1.1 ((Fr.same s1).trans w1.2)
   ·rw[if_neg g]
    rw[show oQ s h z=(some .count,s) by simp only[oQ,e,if_neg g]]at k;exact Bad.same (k.bad J) s1
noncomputable def UT(D:Ad):Sp:=λvs H Q E=>∃ x A s,∃ h g kk:Int,vs=[.ref x,.int h,.int g,.int kk]/\IH D H x A s/\Good s/\Sm h/\Sm g/\Sm kk/\Fin D x A s H (oO s h g kk) Q E
noncomputable abbrev Qg:List Str:=["self","h","g","k","fields"]
theorem DT:aw Qg ["self","h","g","k"] (aq xJ):=fsc
theorem NA(F:Fun K "load" "Heap.load" xJ D.gW D.pk)(T:Txt K mg D)
  (aO:9e7 3 D.bB D.cK ["h"] (eN D))
  (aT:9e7 6 D.bp D.cx ["self","h"] (kP D))
  (ib:9e7 3 D.cN D.hZ ["k","fields"] (oh D))
  (eV:9e7 4 D.fQ D.jB ["self","h","word"] (zK D)):9e7 7 D.gW D.pk ["self","h","g","k"] (UT D):=by
 refine F.oa DT F.b4 λcdv A' outer s' H vs Q E hr h=>?_;obtain⟨x,A,s,h,g,kk,rfl,J,G,hh,hg,hk,k⟩:=h;have hu:=jK hr;refine⟨_,(aj 8e6
  (aj (aS (i:=4) DT.nd rfl 1e9 (dq hu 1e8 (aT.m hr 1e8 T.bc T.hG px 3e9) 1e6))
  (aj (aG (ib.c hr T.vz T.lq px (aa (pv 3) (aa (cc bh rfl T.lM PyProof.Rows.Boot.«len» 5e4) ak))))
  (ai (aG (eV.m hr 1e8 T.bc T.qh px (aa (pv 1) (aa (a8 jy (pv 4) (pv 3) 1e6) ak)))))))),?_⟩
 refine⟨_,rfl,h,rfl,hh,?_⟩;by_cases c:ok8 h
 ·rw[if_pos c]
  refine⟨_,rfl,x,D.ab,_,_,.ref A.fh,rfl,J.ax,T.ae,T.aD,uj,_,rfl,x,D.ab,_,_,.ref A.hd,rfl,J.ax,T.ae,T.aC,qm,A.hd,A.hdx,_,rfl,J.ahd,rfl,_,rfl,A.hd,A.hdx,A.hl,A.hx,s.aZ,g,rfl,J.hn G,hg,?_⟩;cases e:wat s.aZ g with
  | none =>
   rw[show oO s h g kk=3e3 by simp only[oO,e,if_pos c]]at k;exact k.bad J
  | some wd =>
   cases wd with
   | no =>
    rw[show oO s h g kk=3e3 by simp only[oO,e,if_pos c]]at k;exact k.bad J
   | num n =>
    rw[show oO s h g kk=3e3 by simp only[oO,e,if_pos c]]at k;exact k.bad J
   | th t =>
    intro H1 s1;have J1:=J.same s1;have m:=G.hand e;obtain⟨hl,rl⟩:=J1.afl _ _ m;refine⟨A.fh,_,rfl,J1.aa0 G m,?_⟩;have f6:=G.f6 _ _ m;have ln:((A.fx t).length:Int)=(fld s t).length:=(by rw[rl.1]);refine⟨_,rfl,_,rfl,A.fa t,_,rfl,.inl (SqL.of hl),kk,_,rfl,hk,Sm.of 1e1 1e1,?_⟩;rw[ln];by_cases c2:0<=kk/\kk<((fld s t).length:Int)
    ·rw[if_pos c2]
     rw[show oO s h g kk=(none,uw s h ((fld s t).getD kk.toNat .no)) by simp only[oO,if_pos c,e,if_pos c2]]at k;have hi:kk.toNat<(fld s t).length:=1e1;obtain⟨v,hv,wv⟩:=rl.get hi;have gd:(fld s t).getD kk.toNat .no=(fld s t)[kk.toNat]:=(by simp[List.getD,hi]);rw[gd]at k;refine⟨_,rfl,x,D.ab,_,_,.ref A.hd,rfl,J1.ax,T.ae,T.aC,qm,A.hd,A.hdx,_,rfl,J1.ahd,rfl,_,rfl,_,rfl,_,rfl,A.fa t,_,kk,v,rfl,rfl,SqL.of hl,zI c2.1 hv,A.hd,A.hdx,A.hl,A.hx,s.aZ,v,h,rfl,J1.hn G,hh,?_⟩;rw[if_pos c];exact let w:=J1.Ws (J1.rhl.set (i:=h.toNat) wv);k _ _ w.1 ((Fr.same s1).trans w.2)
    ·rw[if_neg c2]
     rw[show oO s h g kk=(some .field,s) by simp only[oO,if_pos c,e,if_neg c2]]at k;exact Bad.same (k.bad J) s1
 ·rw[if_neg c]
  rw[show oO s h g kk=3e3 by simp only[oO,if_neg c]]at k;exact k.bad J
noncomputable def RD(D:Ad):Sp:=λvs H Q E=>∃ x A s,∃ g kk h:Int,vs=[.ref x,.int g,.int kk,.int h]/\IH D H x A s/\Good s/\Sm g/\Sm kk/\Sm h/\Fin D x A s H (jZ s g kk h) Q E
noncomputable abbrev NB:List Str:=["self","g","k","h","fields","value"]
theorem tH:aw NB ["self","g","k","h"] (aq uV):=fsc
theorem Lj(F:Fun K "store" "Heap.store" uV D.fN D.ny)(T:Txt K mg D)
  (aT:9e7 6 D.bp D.cx ["self","h"] (kP D))
  (dJ:9e7 4 D.cO D.gb ["self","h"] (vB D))
  (ib:9e7 3 D.cN D.hZ ["k","fields"] (oh D)):9e7 7 D.fN D.ny ["self","g","k","h"] (RD D):=by
 refine F.oa tH F.b4 λcdv A' outer s' H vs Q E hr h=>?_;obtain⟨x,A,s,g,kk,h,rfl,J,G,hg,hk,hh,k⟩:=h;have hu:=jK hr;refine⟨_,(aj (aS (i:=4) tH.nd rfl 1e9 (dq hu 1e8 (aT.m hr 1e8 T.bc T.hG px 2e4) 1e6))
  (aj (aS (i:=5) tH.nd rfl 1e9 (dJ.m hr 1e8 T.bc T.nY px 6e5))
  (aj (aG (ib.c hr T.vz T.lq px (aa (pv 2) (aa (cc bh rfl T.lM PyProof.Rows.Boot.«len» 5e4) ak))))
  (ai (D1 (pv 5) (Ik (pv 4) (pv 2) set_list)))))),?_⟩
 refine⟨_,rfl,x,D.ab,_,_,.ref A.fh,rfl,J.ax,T.ae,T.aD,uj,_,rfl,x,D.ab,_,_,.ref A.hd,rfl,J.ax,T.ae,T.aC,qm,A.hd,A.hdx,_,rfl,J.ahd,rfl,_,rfl,A.hd,A.hdx,A.hl,A.hx,s.aZ,g,rfl,J.hn G,hg,?_⟩;cases e:wat s.aZ g with
 | none =>
  rw[show jZ s g kk h=3e3 by simp only[jZ,e]]at k;exact k.bad J
 | some wd =>
  cases wd with
  | no =>
   rw[show jZ s g kk h=3e3 by simp only[jZ,e]]at k;exact k.bad J
  | num n =>
   rw[show jZ s g kk h=3e3 by simp only[jZ,e]]at k;exact k.bad J
  | th t =>
   intro H1 s1;have J1:=J.same s1;have m:=G.hand e;obtain⟨hl,rl⟩:=J1.afl _ _ m;refine⟨A.fh,_,rfl,J1.aa0 G m,?_⟩;refine⟨_,rfl,x,D.ab,_,_,.ref A.hd,rfl,J1.ax,T.ae,T.aC,qm,A.hd,A.hdx,_,rfl,J1.ahd,rfl,_,rfl,A.hd,A.hdx,A.hl,A.hx,s.aZ,h,rfl,J1.hn G,hh,?_⟩;cases e2:wat s.aZ h with
   | none =>
    rw[show jZ s g kk h=3e3 by simp only[jZ,e,e2]]at k;exact Bad.same (k.bad J) s1
   | some wd =>
    intro v hv wv;have f6:=G.f6 _ _ m;have ln:((A.fx t).length:Int)=(fld s t).length:=(by rw[rl.1]);refine⟨_,rfl,_,rfl,A.fa t,_,rfl,.inl (SqL.of hl),kk,_,rfl,hk,Sm.of 1e1 1e1,?_⟩;rw[ln];by_cases c2:0<=kk/\kk<((fld s t).length:Int)
    ·rw[if_pos c2]
     rw[show jZ s g kk h=(none,{s with aJ:=ur s.aJ t ((fld s t).set kk.toNat wd)}) by simp only[jZ,e,e2,if_pos c2]]at k;refine⟨_,rfl,_,rfl,_,rfl,A.fa t,_,kk,kk.toNat,rfl,rfl,hl,Wh c2.1 1e1,?_⟩;exact let w:=J1.apn m (rl.set (i:=kk.toNat) wv);k _ _ w.1 ((Fr.same s1).trans w.2)
    ·rw[if_neg c2]
     rw[show jZ s g kk h=(some .field,s) by simp only[jZ,e,e2,if_neg c2]]at k;exact Bad.same (k.bad J) s1
theorem iU{b:Bool}{A B:Prop}(h:b=false)(k:B):if b=true then A else B:=by rw[h];exact k
theorem jQ{b:Bool}{A B:Prop}(h:b=true)(k:A):if b=true then A else B:=by rw[h];exact k
theorem ZV(k:Nat):(List.replicate k [V.non]).flatten=List.replicate k .non:=by
 induction k with
 | zero=>rfl
 | succ k ih=>rw[aqB,aqZ,ih,aqB];rfl
noncomputable def keys(s:HS):List Int:=s.aJ.map (·.1)
noncomputable def held(s:HS):Int:=wsum s 9e1
structure Raw(D:Ad)(H:Hp)(x dx:Addr)(my:Bool)(hd hdx hl nt ntx nl wt wtx wb wl fh yg:Addr):Prop where
 ax:H x=some (.ins D.ab dx [3e8,5e3,6e4,("last_words",.ref wt),("fields_held",.ref fh),("young_things",.ref yg),("next_thing",.int 0)])
 ahd:H hd=some (.ins D.bo hdx [("words_held",.ref hl)])
 ahl:H hl=some (.lst (List.replicate 8 .non))
 ant:H nt=some (.ins D.aH ntx [("things_named",.ref nl)])
 anl:H nl=some (.lst (List.replicate 8 .non))
 awt:Wt D H wt wtx wb wl [] []
 afh:H fh=some 6e1
 ayg:H yg=some 6e1
 n1:hd≠nt
 n2:hl≠nl
 n3:hl≠wl
 n4:nl≠wl
 n5:wb≠fh
 n6:wb≠yg
 n7:fh≠yg
noncomputable def s0(my:Bool)(room limit:Int):HS:=⟨my,List.replicate 8 .no,List.replicate 8 none,[],[],[],[],0,room,limit,[],false⟩
theorem good0{my:Bool}{room limit:Int}:Good (s0 my room limit) :=
 ⟨rfl,rfl,List.Pairwise.nil,(λ_ _ m=>by cases m),(λ_ _ m=>by cases m),(λt m=>by have:=aqq m;cases this),(λ_ _ _ m=>by cases m),(λt m=>by have:=aqq m;cases this),by show 0<=12;decide,(λ_ _ m=>by cases m),arx,by show(0:Int)<=0;decide,by show(0:Int)<=10000;decide,by show((0:Nat):Int)+((0:Nat):Int)<=0;decide,(λ_ m=>by cases m),List.Pairwise.nil,(λ_ m=>by cases m),List.Pairwise.nil⟩
noncomputable def DU(D:Ad):Sp:=λvs H Q E=>∃ x dx,∃ my:Bool,vs=[.ref x,.bl my]/\H x=some (.ins D.ab dx [])/\∀ hd hdx hl nt ntx nl wt wtx wb wl fh yg H',Raw D H' x dx my hd hdx hl nt ntx nl wt wtx wb wl fh yg->But x H H'->(∀ b,b=hd\/b=hl\/b=nt\/b=nl\/b=wt\/b=wb\/b=wl\/b=fh\/b=yg->H b=none)->Q .non H'
noncomputable abbrev Hr:List Str:=["self","makes_young"]
theorem EF:aw Hr ["self","makes_young"] (aq pO):=fsc
theorem EG(F:Fun K "__init__" "Heap.__init__" pO D.cP D.jP)(T:Txt K mg D)
  (kH:9e7 1 D.dS D.i0 ["self"] (zJ D))
  (ic:9e7 1 D.bY D.fE ["self"] (rW D))
  (ie:9e7 1 D.bX D.fD ["self"] (rX D)):9e7 3 D.cP D.jP ["self","makes_young"] (DU D):=by
 refine F.oa EF F.b2 λcdv A' outer s' H vs Q E hr h=>?_;obtain⟨x,dx,my,rfl,hx,k⟩:=h;refine⟨_,(aj (ja (pv 0) (pv 1) rfl)
  (aj (ja (pv 0) (KD T.KN kH.g 7e7 rfl T.Xe kH.b .nil (Wa λ_ _ _ q=>q)) rfl)
  (aj (ja (pv 0) (KD T.u6 ic.g 7e7 rfl T.Ni ic.b .nil (Wa λ_ _ _ q=>q)) rfl)
  (aj (ja (pv 0) (KD T.u5 ie.g 7e7 rfl T.Nh ie.b .nil (Wa λ_ _ _ q=>q)) rfl)
  (aj (ja (pv 0) jx rfl)
  (aj (ja (pv 0) jx rfl)
  (ai (ja (pv 0) av rfl)))))))),?_⟩
 have bk:∀ {H':Hp} {b:Addr} {u:HO},H' x=some u->But x H H'->H' b=none->H b=none:=λ{H' b u} hx' B h=>by
  cases q:H b with
  | none=>rfl
  | some v =>
   by_cases e:b=x
   ·rw[e,hx']at h;cases h
   ·rw[B b v e q]at h;cases h
 have mk:∀ {H1 H2:Hp} {m mdx C:Addr},H1 m=none->H1 mdx=none->But m (upd (upd H1 mdx (.own m)) m (.ins C mdx [])) H2->az H1 H2:=λh1 h2 B b u q=>B b u (ar q h1) (by rw[ah (ar q h1),ah (ar q h2)];exact q);have fr:∀ {H1:Hp} {m mdx C c:Addr},H1 m=none->H1 mdx=none->upd (upd H1 mdx (.own m)) m (.ins C mdx []) c=none->H1 c=none:=λ{H1 m mdx C c} h1 h2 h=>by
  cases q:H1 c with
  | none=>rfl
  | some v=>rw[ah (ar q h1),ah (ar q h2),q]at h;cases h
 refine⟨_,rfl,_,rfl,x,D.ab,dx,_,rfl,hx,T.ae,T.iW,by show 0<1000;decide,?_⟩;obtain⟨H1,e1⟩:∃ H1,upd H x (.ins D.ab dx (jJ "makes_young" (.bl my) []))=H1:=⟨_,rfl⟩;have x1:H1 x=some (.ins D.ab dx [3e8]):=by rw[<-e1];exact ag
 have B1:But x H H1:=by rw[<-e1];exact But.self
 show rA _ _ _ _ (upd H x (.ins D.ab dx (jJ "makes_young" (.bl my) [])));rw[e1];clear e1;intro hd hdx hm1 hm2 hm3;refine⟨hd,hdx,rfl,ag,λhl G1 b1 hc hcl hci=>⟨rfl,?_⟩⟩;have S1:=mk hm1 hm2 b1;have hl1:=fr hm1 hm2 hc;refine⟨_,rfl,x,D.ab,dx,_,rfl,S1 _ _ x1,T.ae,T.aC,by show 1<1000;decide,?_⟩;obtain⟨H2,e2⟩:∃ H2,upd G1 x (.ins D.ab dx (jJ "in_hands" (.ref hd) [3e8]))=H2:=⟨_,rfl⟩;have x2:H2 x=some (.ins D.ab dx [3e8,5e3]):=by rw[<-e2];exact ag
 have P2:But x G1 H2:=by rw[<-e2];exact But.self
 have B2:But x H H2:=(B1.trans λb u _ q=>S1 b u q).trans P2;show rA _ _ _ _ (upd G1 x (.ins D.ab dx (jJ "in_hands" (.ref hd) [3e8])));rw[e2];clear e2;have nhd:hd≠x:=aqe (ar x1 hm1);have nhl:hl≠x:=aqe (ar x1 hl1);have a2:=P2 _ _ nhd hci;have l2:=P2 _ _ nhl hcl;intro nt ntx nm1 nm2 nm3;refine⟨nt,ntx,rfl,ag,λnl G2 b2 nc ncl nci=>⟨rfl,?_⟩⟩;have S2:=mk nm1 nm2 b2;have nl2:=fr nm1 nm2 nc;refine⟨_,rfl,x,D.ab,dx,_,rfl,S2 _ _ x2,T.ae,T.d9,by show 2<1000;decide,?_⟩;obtain⟨H3,e3⟩:∃ H3,upd G2 x (.ins D.ab dx (jJ "weak_names" (.ref nt) [3e8,5e3]))=H3:=⟨_,rfl⟩;have x3:H3 x=some (.ins D.ab dx [3e8,5e3,6e4]):=by rw[<-e3];exact ag
 have P3:But x G2 H3:=by rw[<-e3];exact But.self
 have B3:But x H H3:=(B2.trans λb u _ q=>S2 b u q).trans P3;show rA _ _ _ _ (upd G2 x (.ins D.ab dx (jJ "weak_names" (.ref nt) [3e8,5e3])));rw[e3];clear e3;have nnt:nt≠x:=aqe (ar x2 nm1);have nnl:nl≠x:=aqe (ar x2 nl2);have a3:=P3 _ _ nhd (S2 _ _ a2);have l3:=P3 _ _ nhl (S2 _ _ l2);have t3:=P3 _ _ nnt nci;have m3:=P3 _ _ nnl ncl;intro wt wtx wm1 wm2 wm3;refine⟨wt,wtx,rfl,ag,λwb wl G3 b3 wc1 wc2 W=>⟨rfl,?_⟩⟩;have S3:=mk wm1 wm2 b3;have wb3:=fr wm1 wm2 wc1;have wl3:=fr wm1 wm2 wc2;refine⟨_,rfl,x,D.ab,dx,_,rfl,S3 _ _ x3,T.ae,T.jo,by show 3<1000;decide,?_⟩;obtain⟨H4,e4⟩:∃ H4,upd G3 x (.ins D.ab dx (jJ "last_words" (.ref wt) [3e8,5e3,6e4]))=H4:=⟨_,rfl⟩;have x4:H4 x=some (.ins D.ab dx [3e8,5e3,6e4,("last_words",.ref wt)]):=by rw[<-e4];exact ag
 have P4:But x G3 H4:=by rw[<-e4];exact But.self
 have B4:But x H H4:=(B3.trans λb u _ q=>S3 b u q).trans P4;show rA _ _ _ _ (upd G3 x (.ins D.ab dx (jJ "last_words" (.ref wt) [3e8,5e3,6e4])));rw[e4];clear e4;have nwt:wt≠x:=aqe (ar x3 wm1);have nwb:wb≠x:=aqe (ar x3 wb3);have nwl:wl≠x:=aqe (ar x3 wl3);have W4:Wt D H4 wt wtx wb wl [] []:=⟨P4 _ _ nwt W.i,P4 _ _ nwb W.b,P4 _ _ nwl W.l⟩;have a4:=P4 _ _ nhd (S3 _ _ a3);have l4:=P4 _ _ nhl (S3 _ _ l3);have t4:=P4 _ _ nnt (S3 _ _ t3);have m4:=P4 _ _ nnl (S3 _ _ m3);intro fh hfh;have nfh:fh≠x:=aqe (ar x4 hfh);refine⟨_,rfl,x,D.ab,dx,_,rfl,az.upd hfh _ _ x4,T.ae,T.aD,by show 4<1000;decide,?_⟩;obtain⟨H5,e5⟩:∃ H5,upd (upd H4 fh 6e1) x (.ins D.ab dx (jJ "fields_held" (.ref fh) [3e8,5e3,6e4,("last_words",.ref wt)]))=H5:=⟨_,rfl⟩;have x5:H5 x=some (.ins D.ab dx [3e8,5e3,6e4,("last_words",.ref wt),("fields_held",.ref fh)]):=by rw[<-e5];exact ag
 have P5:But x H4 H5:=by rw[<-e5];exact(But.upd hfh).trans But.self
 have f5:H5 fh=some 6e1:=by rw[<-e5,ah nfh];exact ag
 show rA _ _ _ _ (upd (upd H4 fh 6e1) x (.ins D.ab dx (jJ "fields_held" (.ref fh) [3e8,5e3,6e4,("last_words",.ref wt)])));rw[e5];clear e5;intro yg hyg;have nyg:yg≠x:=aqe (ar x5 hyg);refine⟨_,rfl,x,D.ab,dx,_,rfl,az.upd hyg _ _ x5,T.ae,T.bJ,by show 5<1000;decide,?_⟩;obtain⟨H6,e6⟩:∃ H6,upd (upd H5 yg 6e1) x (.ins D.ab dx (jJ "young_things" (.ref yg) [3e8,5e3,6e4,("last_words",.ref wt),("fields_held",.ref fh)]))=H6:=⟨_,rfl⟩;have x6:H6 x=some (.ins D.ab dx [3e8,5e3,6e4,("last_words",.ref wt),("fields_held",.ref fh),("young_things",.ref yg)]):=by rw[<-e6];exact ag
 have P6:But x H5 H6:=by rw[<-e6];exact(But.upd hyg).trans But.self
 have y6:H6 yg=some 6e1:=by rw[<-e6,ah nyg];exact ag
 skip
 rw[e6];clear e6;have B5:But x H H5:=B4.trans P5;have B6:But x H H6:=B5.trans P6;have P7:∀ {o:HO},But x H6 (upd H6 x o):=But.self;have P47:∀ {o:HO} {b:Addr} {u:HO},b≠x->H4 b=some u->upd H6 x o b=some u:=λn q=>P7 _ _ n (P6 _ _ n (P5 _ _ n q));refine⟨_,rfl,x,D.ab,dx,_,rfl,x6,T.ae,T.jq,by show 6<1000;decide,k hd hdx hl nt ntx nl wt wtx wb wl fh yg _ ⟨ag,P47 nhd a4,P47 nhl l4,P47 nnt t4,P47 nnl m4,⟨P47 nwt W4.i,P47 nwb W4.b,P47 nwl W4.l⟩,P7 _ _ nfh (P6 _ _ nfh f5),P7 _ _ nyg y6,ar a2 nm1,ar l2 nl2,ar l3 wl3,ar m3 wl3,ar W4.b hfh,ar (P5 _ _ nwb W4.b) hyg,ar f5 hyg⟩ (B6.trans But.self) (λb hb=>?_)⟩;rcases hb with rfl|rfl|rfl|rfl|rfl|rfl|rfl|rfl|rfl
 ·exact bk x1 B1 hm1
 ·exact bk x1 B1 hl1
 ·exact bk x2 B2 nm1
 ·exact bk x2 B2 nl2
 ·exact bk x3 B3 wm1
 ·exact bk x3 B3 wb3
 ·exact bk x3 B3 wl3
 ·exact bk x4 B4 hfh
 ·exact bk x5 B5 hyg
noncomputable def zN(D:Ad):Sp:=λvs H Q E=>∃ x dx,∃ y l:Int,vs=[.ref x,.int y,.int l]/\H x=some (.ins D.ab dx [])/\(y=0\/(7<=y/\y<=64))/\7<=l/\l<=400/\∀ A H',IH D H' x A (s0 (decide (y>0)) y l)->But x H H'->(∀ b,cL x A (s0 (decide (y>0)) y l) b->b=x\/H b=none)->Q .non H'
noncomputable abbrev wH:List Str:=["self","young","limit"]
theorem vN:aw wH ["self","young","limit"] (aq kf):=fsc
theorem vO(F:Fun K "__init__" "IdealHeap.__init__" kf D.bZ D.fG)(T:Txt K mg D)
  (om:9e7 3 D.cZ D.iZ ["young","limit"] (rV))
  (lr:9e7 3 D.cP D.jP ["self","makes_young"] (DU D)):9e7 4 D.bZ D.fG ["self","young","limit"] (zN D):=by
 refine F.oa vN F.b3 λcdv A' outer s' H vs Q E hr h=>?_;obtain⟨x,dx,y,l,rfl,hx,hy,l0,l1,k⟩:=h;refine⟨_,(aj (aG (om.c hr T.Ep T.oe px (aa (pv 1) 3e9)))
  (aj (aG (abI rfl T.ZT T.ZU lr.g 7e7 lr.b px (aa (pv 0) (aa (zC JT (pv 1) av (aW _)) ak))))
  (aj (ja (pv 0) (pv 1) rfl)
  (aj (ja (pv 0) (pv 2) rfl)
  (aj (ja (pv 0) jx rfl)
  (ai (ja (pv 0) D4 rfl))))))),?_⟩
 refine⟨_,rfl,_,rfl,y,l,rfl,hy,l0,l1,?_⟩;refine⟨_,rfl,_,rfl,y,0,rfl,rfl,x,dx,_,rfl,hx,λhd hdx hl nt ntx nl wt wtx wb wl fh yg H1 R B1 fr=>?_⟩;obtain⟨my,emy⟩:∃ my:Bool,decide (y>0)=my:=⟨_,rfl⟩;rw[emy]at R k;have nx:∀ b,H b=none->b≠x:=λb h e=>by rw[e,hx]at h;cases h
 refine⟨_,rfl,_,rfl,x,D.ab,dx,_,rfl,R.ax,T.ae,T.lU,by show 7<1000;decide,?_⟩;refine⟨_,rfl,_,rfl,x,D.ab,dx,_,rfl,ag,T.ae,T.rT,by show 8<1000;decide,?_⟩;intro dm hdm;have ndm:dm≠x:=λe=>by rw[e,ag]at hdm;cases hdm
 have Yb:H1 dm=none:=by rw[ah ndm,ah ndm]at hdm;exact hdm
 refine⟨_,rfl,x,D.ab,dx,_,rfl,(by rw[ah (aqe ndm)];exact ag),T.ae,T.bD,by show 9<1000;decide,?_⟩;refine⟨_,rfl,x,D.ab,dx,_,rfl,ag,T.ae,T.dQ,by show 10<1000;decide,?_⟩;have apo:H dm=none:=by
  cases q:H dm with
  | none=>rfl
  | some u=>rw[B1 _ _ ndm q]at Yb;cases Yb
 have P:∀ {o1 o2 o3 o4:HO},But x H1 (upd (upd (upd (upd (upd H1 x o1) x o2) dm 6e1) x o3) x o4):=λ{o1 o2 o3 o4}=>(((But.self.trans But.self).trans (But.upd (by rw[ah ndm,ah ndm];exact Yb))).trans But.self).trans But.self;have d2:∀ {o1 o2 o3 o4:HO},upd (upd (upd (upd (upd H1 x o1) x o2) dm 6e1) x o3) x o4 dm=some 6e1:=λ{o1 o2 o3 o4}=>by rw[ah ndm,ah ndm];exact ag
 have f:=λ(b:Addr) (h:b=hd\/b=hl\/b=nt\/b=nl\/b=wt\/b=wb\/b=wl\/b=fh\/b=yg)=>nx b (fr b h);have n1:=f hd 3e6;have n2:=f hl (.inr 3e6);have n3:=f nt (.inr (.inr 3e6));have n4:=f nl 5e8;have n5:=f wt (.inr 5e8);have n6:=f wb (.inr (.inr 5e8));have n7:=f wl (.inr (.inr (.inr 5e8)));have n8:=f fh (.inr (.inr (.inr (.inr 5e8))));have n9:=f yg (.inr (.inr (.inr (.inr (.inr (.inr (.inr (.inr rfl))))))));refine k ⟨dx,hd,hdx,hl,List.replicate 8 .non,nt,ntx,nl,wt,wtx,wb,wl,fh,λ_=>0,λ_=>[],yg,dm⟩ _ ⟨ag,P _ _ n1 R.ahd,P _ _ n2 R.ahl,Rel.nil,P _ _ n3 R.ant,P _ _ n4 R.anl,P _ _ n5 R.awt.i,P _ _ n6 R.awt.b,P _ _ n7 R.awt.l,P _ _ n8 R.afh,(λ_ _ m=>by cases m),P _ _ n9 R.ayg,d2,R.n1,R.n2,R.n3,R.n4,(λ_ _ m=>by cases m),(λ_ _ _ _ m=>by cases m),R.n5,R.n6,ar R.awt.b Yb,R.n7,ar R.afh Yb,ar R.ayg Yb⟩ (B1.trans P) (λb hb=>?_);cases hb with
 | x=>exact .inl rfl
 | hd=>exact .inr (fr hd 3e6)
 | hl=>exact .inr (fr hl (.inr 3e6))
 | nt=>exact .inr (fr nt (.inr (.inr 3e6)))
 | nl=>exact .inr (fr nl 5e8)
 | wt=>exact .inr (fr wt (.inr 5e8))
 | wb=>exact .inr (fr wb (.inr (.inr 5e8)))
 | wl=>exact .inr (fr wl (.inr (.inr (.inr 5e8))))
 | fh=>exact .inr (fr fh (.inr (.inr (.inr (.inr 5e8)))))
 | yg=>exact .inr (fr yg (.inr (.inr (.inr (.inr (.inr (.inr (.inr (.inr rfl)))))))))
 | dm=>exact .inr apo
 | fl m=>cases m
theorem Yc{fs:List (Key×V)}{t:Int}{v:V}(h:iX fs (Sum.inl t)=none):putK fs 4e4 v=fs++[(Sum.inl t,v)]:=pT v h
theorem alm{ts:List Int}{t:Int}:(iX (ts.map tkv) 4e4).isSome=decide (t∈ts):=by
 induction ts with
 | nil=>rfl
 | cons a r ih =>
  rw[aqd];by_cases e:a=t
  ·subst e
   rw[gi (p:=tkv a) (k:=Sum.inl a) rfl];simp
  ·rw[fK (p:=tkv a) (λz=>e (Sum.inl.inj z)),ih]
   have:(t∈a::r)↔t∈r:=by
    rw[aqi];exact⟨λh=>h.elim (λz=>absurd z.symm e) id,.inr⟩
   simp only[this]
theorem Good.Y6{s:HS}(g:Good s):∀ w,(s.nxt,w)∉s.aJ:=λw m=>by have:=(g.lt _ _ m).2;omega
noncomputable def Yd(D:Ad):Sp:=λvs H Q E=>∃ x A s,∃ h n:Int,vs=[.ref x,.int h,.int n]/\IH D H x A s/\Good s/\ok8 h/\0<=n/\n<=6/\∀ A' H',IH D H' x A' (Tb s h n)->Fr 4e1 H (cL x A' (Tb s h n)) H'->Q .non H'
theorem Ul:∀(n:Nat) (l:List Int) (a:Int),l.Pairwise (·< ·)->(∀ t∈l,a<=t/\t<a+n)->l.length<=n
 | _,[],_,_,_=>aqu _
 | 0,b::r,a,_,h=>by have:=h b ap7;omega
 | n+1,b::r,a,p,h=>by
  have hb:=h b ap7
  have:=Ul n r (a+1) (List.pairwise_cons.mp p).2 λt m=>by
   have h1:=(List.pairwise_cons.mp p).1 t m;have h2:=h t (ap8 _ m);omega
  rw[aqo];omega
theorem Ll{s:HS}(g:Good s):s.yng.length<=10000:=by
 refine Ul 10000 s.yng 0 g.Iv λt m=>?_;obtain⟨ws,m⟩:=g.yk t m
 have:=g.lt _ _ m
 have:=g.nx
 omega
theorem UU{s:HS}(g:Good s):s.eL.length<=10000:=by
 refine Ul 10000 s.eL 0 g.Ki λt m=>?_;obtain⟨ws,m⟩:=g.dk t m
 have:=g.lt _ _ m
 have:=g.nx
 omega
noncomputable abbrev EH:List Str:=["self","h","n","t"]
theorem rY:aw EH ["self","h","n"] (aq nR):=fsc
theorem Cd(F:Fun K "add_thing" "Heap.add_thing" nR D.cu D.i6)(T:Txt K mg D)
  (cS:9e7 3 D.cQ D.gJ ["t"] (kA))
  (eV:9e7 4 D.fQ D.jB ["self","h","word"] (zK D)):9e7 5 D.cu D.i6 ["self","h","n"] (Yd D):=by
 refine F.oa rY F.b3 λcdv A' outer s' H vs Q E hr h=>?_;obtain⟨x,A,s,h,n,rfl,J,G,c,n0,n6,k⟩:=h;have hu:=jK hr;refine⟨_,(aj (aS (i:=3) rY.nd rfl 1e9 1e8)
  (aj (ja (pv 0) (cM iO (pv 3) av) rfl)
  (aj (lQ hu 1e8 (pv 3) (cM Pa (qa (aa d7 ak)) (pv 2)) rfl)
  (aj (bQ (zA 1e8)
   (ai (lQ hu 1e8 (pv 3) D4 rfl))
   aR)
  (ai (aG (eV.m hr 1e8 T.bc T.qh px (aa (pv 1) (aa (cS.c hr T.oE T.jY px 6e5) ak))))))))),?_⟩
 refine⟨_,rfl,x,D.ab,_,_,.int s.nxt,rfl,J.ax,T.ae,T.jq,aeC,?_⟩;refine⟨_,rfl,s.nxt,1,rfl,rfl,_,rfl,x,D.ab,A.dx,_,rfl,J.ax,T.ae,T.jq,by show 11<1000;decide,?_⟩;have w1:=J.apm (n:=s.nxt+1);obtain⟨H1,e1⟩:∃ H1,upd H x (.ins D.ab A.dx (jJ "next_thing" (.int (s.nxt+1)) 6e8))=H1:=⟨_,rfl⟩;rw[e1]at w1;show rA _ _ _ _ (upd H x (.ins D.ab A.dx (jJ "next_thing" (.int (s.nxt+1)) 6e8)));rw[e1];clear e1;obtain⟨J1,F1⟩:=w1;refine⟨by show 1<=sizeLine;decide,λp hp=>⟨_,rfl,p,n,_,rfl,rfl,ag,by omega,by omega,lN (by show 1*n.toNat<=20000;omega),λq hq=>?_⟩⟩;rw[ZV];have s2:az H1 (upd H1 p (.lst [.non])):=az.upd hp;have J2:=J1.same s2;have w2:=J2.aeJ (t:=s.nxt) (xs:=List.replicate n.toNat .non) (ws:=List.replicate n.toNat .no) hq G.Y6 Rel.nil;obtain⟨J3,F3⟩:=w2;have J2':=J2.same (az.upd (o:=.lst (List.replicate n.toNat .non)) hq);have vn:iX 9e2 (Sum.inl s.nxt)=none:=by
  rw[X9];cases e:s.aJ.lookup s.nxt with
  | none=>rfl
  | some w=>exact absurd (lookup_some e) (G.Y6 w)
 have dp:=Em.k (k:=Sum.inl s.nxt) (v:=.ref q) J2'.afh (by rw[apR];exact oK (aqk G.few 2e6));rw[show putK ((({s with nxt:=s.nxt+1}:HS).aJ).map (fkv A)) (Sum.inl s.nxt) (.ref q)=s.aJ.map (fkv A)++[(Sum.inl s.nxt,.ref q)] from Yc vn]at dp;refine⟨_,rfl,x,D.ab,_,_,.ref A.fh,rfl,J2'.ax,T.ae,T.aD,uj,_,rfl,A.fh,_,rfl,dp,?_⟩;have F03:=(F1.trans (Fr.same s2)).trans F3;obtain⟨A3,eA⟩:∃ A3:HA,{A with fa:=λu=>if u=s.nxt then q else A.fa u,fx:=λu=>if u=s.nxt then List.replicate n.toNat V.non else A.fx u}=A3:=⟨_,rfl⟩;obtain⟨H3,e3⟩:∃ H3,upd (upd (upd H1 p (.lst [.non])) q (.lst (List.replicate n.toNat .non))) A.fh (.dK (s.aJ.map (fkv A)++[(Sum.inl s.nxt,.ref q)]))=H3:=⟨_,rfl⟩;have J3:IH D H3 x A3 {s with nxt:=s.nxt+1,aJ:=s.aJ++[7e2]}:=by rw[<-e3,<-eA];exact J3
 have F03:Fr 4e1 H (cL x A3 {s with nxt:=s.nxt+1,aJ:=s.aJ++[7e2]}) H3:=by rw[<-e3,<-eA];exact F03
 show rA _ _ _ _ (upd (upd (upd H1 p (.lst [.non])) q (.lst (List.replicate n.toNat .non))) A.fh (.dK (s.aJ.map (fkv A)++[(Sum.inl s.nxt,.ref q)])));rw[e3];clear e3 eA dp J2';have fin:∀(A4:HA) (H4:Hp) (ys:List Int),IH D H4 x A4 {s with nxt:=s.nxt+1,aJ:=s.aJ++[7e2],yng:=ys}->Fr 4e1 H (cL x A4 {s with nxt:=s.nxt+1,aJ:=s.aJ++[7e2],yng:=ys}) H4->(if s.my=true then s.yng++[s.nxt] else s.yng)=ys->∀(t:Addr) (H5:Hp),az H4 H5->H5 t=some (.tup [.str "thing",.int s.nxt])->zK D [.ref A4.hd,.int h,.ref t] H5 (λ_ H'=>Q .non H') E:=by
  intro A4 H4 ys J4 F4 ey t H5 s5 ht;have J5:=J4.same s5;refine⟨A4.hd,A4.hdx,A4.hl,A4.hx,s.aZ,.ref t,h,rfl,⟨J5.ahd,J5.ahl,J5.rhl,G.h8⟩,Sm.of 1e1 1e1,?_⟩;rw[if_pos c];have w:=J5.Ws (J5.rhl.set (i:=h.toNat) (show WV H5 (.ref t) (.th s.nxt) from⟨t,rfl,ht⟩));have e:Tb s h n={s with nxt:=s.nxt+1,aJ:=s.aJ++[7e2],yng:=ys,aZ:=s.aZ.set h.toNat (.th s.nxt)}:=by unfold Tb;rw[ey]
  rw[e]at k;exact k _ _ w.1 ((F4.trans (Fr.same s5)).trans w.2)
 refine⟨_,rfl,x,D.ab,_,_,_,rfl,J3.ax,T.ae,T.iW,aaY,_,rfl,?_⟩;by_cases my:s.my=true
 ·refine jQ my ⟨_,rfl,x,D.ab,_,_,_,rfl,J3.ax,T.ae,T.bJ,SW,_,rfl,A3.yg,_,rfl,Em.k (k:=Sum.inl s.nxt) J3.ayg (by rw[apR];exact oK (aqk (show s.yng.length<=10000 from Ll G) 2e6)),?_⟩
  have vy:iX (s.yng.map tkv) (Sum.inl s.nxt)=none:=by
   have:=alm (ts:=s.yng) (t:=s.nxt)
   rw[decide_eq_false (λm=>by obtain⟨ws,m⟩:=G.yk _ m;exact G.Y6 ws m)]at this;cases q:iX (s.yng.map tkv) (Sum.inl s.nxt) with
   | none=>rfl
   | some v=>rw[q]at this;cases this
  have w4:=J3.apl (ts:=s.yng++[s.nxt]);rw[ap3]at w4;rw[show putK ((({s with nxt:=s.nxt+1,aJ:=s.aJ++[7e2]}:HS).yng).map tkv) (Sum.inl s.nxt) (.bl true)=s.yng.map tkv++[s.nxt].map tkv from Yc vy];obtain⟨J4,F4⟩:=w4;refine⟨_,rfl,x,D.ab,_,_,_,rfl,J4.ax,T.ae,T.aC,qm,A3.hd,A3.hdx,_,rfl,J4.ahd,rfl,_,rfl,_,rfl,s.nxt,rfl,G.n0,λt H5 s5 ht=>?_⟩;exact fin _ _ _ J4 (F03.trans F4) (by rw[if_pos my]) t H5 s5 ht
 ·refine iU (aqt.mpr my) ?_
  refine⟨_,rfl,x,D.ab,_,_,_,rfl,J3.ax,T.ae,T.aC,qm,A3.hd,A3.hdx,_,rfl,J3.ahd,rfl,_,rfl,_,rfl,s.nxt,rfl,G.n0,λt H5 s5 ht=>?_⟩;exact fin _ _ _ J3 F03 (by rw[if_neg my]) t H5 s5 ht
noncomputable def RE(D:Ad):Sp:=λvs H Q E=>∃ x A s,∃ h w:Int,vs=[.ref x,.int h,.int w]/\IH D H x A s/\Good s/\Sm h/\Sm w/\(if ok8 h then(if ok8 w then ∀ A' H',IH D H' x A' (uw s h (nmW 1e10))->Fr 4e1 H (cL x A' (uw s h (nmW 1e10))) H'->Q (nmV 1e10) H' else Bad D.eT H E) else Bad D.bM H E)
noncomputable abbrev Ce:List Str:=["self","h","w","t"]
theorem qA:aw Ce ["self","h","w"] (aq mz):=fsc
theorem Ak(F:Fun K "read_thing" "Heap.read_thing" mz D.bU D.iu)(T:Txt K mg D)
  (aO:9e7 3 D.bB D.cK ["h"] (eN D))
  (mM:9e7 4 D.dr D.ir ["self","w"] (RC D))
  (eV:9e7 4 D.fQ D.jB ["self","h","word"] (zK D))
  (cS:9e7 3 D.cQ D.gJ ["t"] (kA)):9e7 5 D.bU D.iu ["self","h","w"] (RE D):=by
 refine F.oa qA F.b3 λcdv A' outer s' H vs Q E hr h=>?_;obtain⟨x,A,s,h,w,rfl,J,G,hh,hw,k⟩:=h;refine⟨_,(aj 8e6
  (aj (aS (i:=3) qA.nd rfl 1e9 (mM.m hr 1e8 T.eE T.zY px 3e9))
  (aj (aG (eV.m hr 1e8 T.bc T.qh px (aa (pv 1) (aa (rN (aK sT (pv 3) d7 (aW _)) d7 (cS.c hr T.oE T.jY px 6e5)) ak))))
  (ai (aI (pv 3)))))),?_⟩
 refine⟨_,rfl,h,rfl,hh,?_⟩;by_cases c:ok8 h
 ·rw[if_pos c]at k ⊢
  refine⟨_,rfl,x,D.ab,_,_,.ref A.nt,rfl,J.ax,T.ae,T.d9,Wg,A.nt,A.ntx,_,rfl,J.ant,rfl,_,rfl,A.nt,A.ntx,A.nl,_,w,rfl,J.ntb G,hw,?_⟩;by_cases c2:ok8 w
  ·rw[if_pos c2]at k ⊢
   intro v hv;have hi:w.toNat<s.names.length:=(by rw[G.n8];omega);rw[apZ,apT hi]at hv;obtain rfl:nmV s.names[w.toNat]=v:=aqh hv;have gd:s.names.getD w.toNat none=s.names[w.toNat]:=(by simp[List.getD,hi]);rw[gd]at k;have mm:s.names[w.toNat]∈s.names:=aqI hi;obtain⟨z,ez⟩:∃ z,s.names[w.toNat]=z:=⟨_,rfl⟩;rw[ez]at k mm ⊢;refine⟨_,rfl,x,D.ab,_,_,.ref A.hd,rfl,J.ax,T.ae,T.aC,qm,A.hd,A.hdx,_,rfl,J.ahd,rfl,_,rfl,?_⟩;cases z with
   | none =>
    refine⟨_,rfl,rfl,_,rfl,a9 2e7 (λh=>absurd (by simp[nmV]) h)⟩;refine⟨A.hd,A.hdx,A.hl,A.hx,s.aZ,.non,h,rfl,J.hn G,hh,?_⟩;rw[if_pos c];exact⟨_,rfl,let w:=J.Ws (J.rhl.set (i:=h.toNat) (show WV H .non .no from rfl));k _ _ w.1 w.2⟩
   | some t =>
    obtain⟨ws,m⟩:=G.nn t mm;refine⟨_,rfl,rfl,_,rfl,a9 (λh=>by simp[nmV]at h) 2e7⟩;refine⟨_,rfl,t,rfl,(G.lt _ _ m).1,λp H1 s1 hp=>?_⟩;have J1:=J.same s1;refine⟨A.hd,A.hdx,A.hl,A.hx,s.aZ,.ref p,h,rfl,J1.hn G,hh,?_⟩;rw[if_pos c];exact⟨_,rfl,let w:=J1.Ws (J1.rhl.set (i:=h.toNat) (show WV H1 4e7 (.th t) from⟨p,rfl,hp⟩));k _ _ w.1 ((Fr.same s1).trans w.2)⟩
  ·rw[if_neg c2]at k ⊢
   exact k
 ·rw[if_neg c]at k ⊢
  exact k
noncomputable def KP(D:Ad):Sp:=λvs H Q E=>∃ x A s d kvs ts,vs=[.ref x,.ref d]/\IH D H x A s/\Good s/\H d=some 3e0/\kvs.map (·.1)=ts.map Sum.inl/\(∀ t∈ts,∃ ws,(t,ws)∈s.aJ)/\ts.length<=10000/\∀ H',az H H'->Q (.int (wsum s ts)) H'
noncomputable abbrev qB:List Str:=["self","things"]
theorem yz:aw qB ["self","things"] (aq ju):=fsc
theorem yA(F:Fun K "words_among" "Heap.words_among" ju D.br D.eX)(T:Txt K mg D)
  (jR:9e7 3 D.hW D.lK ["fields"] (sO D)):9e7 4 D.br D.eX ["self","things"] (KP D):=by
 refine F.oa yz F.b2 λcdv A' outer s' H vs Q E hr h=>?_;obtain⟨x,A,s,d,kvs,ts,rfl,J,G,hd,hk,ht,hz,k⟩:=h;have hu:=jK hr;refine⟨_,(ai (aI (X3 (cc (Gi rfl) rfl T.SV PyProof.Rows.Boot.«sum» (aa (kY (cl:=[("self",s'.heap.objs.size+1)]) (x := "t") (idx:=[0]) (NC:=["t","self"]) ?co1 rfl (lS (uK (pv 1))) (λC fp s₀ H₀=>(jR.c hr T.Bw T.rF Bo (aa (cc (MJ rfl) rfl T.lM PyProof.Rows.Boot.«len» (aa (dq hu (ZO rfl (pv 1) rfl) (pv 0) 1e6) ak)) ak)))) ak))))),?_⟩
 case co1 =>
  exact iC (sc:=aq ju) (N:=qB) (ns:=["self"]) rfl rfl rfl 2e2 rfl rfl (by
   intro q hq;rw[apU.mp hq];rfl)
 have lk:kvs.length=ts.length:=by have:=congrArg List.length hk;simpa using this
 refine⟨_,rfl,d,kvs,hd,λo=>?_⟩;refine⟨d,o,kvs,rfl,ag,λL hL=>?_⟩;obtain⟨Hf,ef⟩:∃ Hf,upd H d 6e0=Hf:=⟨_,rfl⟩;rw[ef]at hL ⊢;have fd:Hf d=some 6e0:=by rw[<-ef];exact ag
 have fo:∀ b u,b≠d->H b=some u->Hf b=some u:=λb u n q=>by rw[<-ef,ah n];exact q
 have xd:x≠d:=ay J.ax hd 1e0;have dg:∀ {Hc:Hp},az Hf Hc->∀ {t:Int} {ws:List Wd},(t,ws)∈s.aJ->um Hc A.fh (.int t) (some (.ref (A.fa t))):=λ{Hc} sc {t ws} m=>by
  have e:iX 9e2 4e4=some (.ref (A.fa t)):=by rw[X9,G.get m];rfl
  by_cases c:A.fh=d
  ·have ek:kvs=s.aJ.map (fkv A):=by
    have:=J.afh
    rw[c,hd]at this;injection this with this;injection this
   exact .inl ⟨kvs,Sum.inl t,.inr ⟨o,by rw[c];exact sc _ _ fd⟩,rfl,by rw[ek,e]⟩
  ·exact .inl ⟨_,Sum.inl t,.inl (sc _ _ (fo _ _ c J.afh)),rfl,e.symm⟩
 refine zq (d:=d) (o:=o) (kvs:=kvs) (λi ys Hc=>ys=((ts.take i).map λt=>V.int (((fld s t).length:Int)+1))/\az Hf Hc/\Hc L=some 5e0) ⟨rfl,az.upd hL,ag⟩ (λi ys Hc hi ⟨e,_,z⟩=>⟨z,by rw[e,apR,ap6];omega⟩) (λi ys Hc _ ⟨_,sc,_⟩=>sc _ _ fd) (lN 1e1) (λi p ys Hc hi ⟨e,sc,z⟩=>?_) (λys Hc ⟨e,sc,z⟩=>?_)
 ·have hik:i<kvs.length:=(apS.mp hi).1
  have hit:i<ts.length:=by omega
  have ep:p.1=Sum.inl ts[i]:=by
   have h1:=congrArg (λl=>l[i]?) hk;simp only[apZ,hi,apT hit,aqQ,Option.some.injEq]at h1;exact h1
  have hkv:kV p.1=.int ts[i]:=by rw[ep];rfl
  obtain⟨t,et⟩:∃ t,ts[i]=t:=⟨_,rfl⟩;obtain⟨ws,m⟩:=ht t (by rw[<-et];exact aqI hit);have fm:=G.fld m;obtain⟨hl,rl⟩:=J.afl _ _ m;have f6:=G.f6 _ _ m;have ln:=rl.1;have nld:A.fa t≠d:=ay hl hd 1e0;have hlc:=sc _ _ (fo _ _ nld hl);refine⟨_,rfl,x,D.ab,_,_,.ref A.fh,rfl,sc _ _ (fo _ _ xd J.ax),T.ae,T.aD,uj,_,rfl,A.fh,.ref (A.fa t),rfl,(by rw[hkv,et];exact dg sc m),A.fa t,_,rfl,.inl (SqL.of hlc),((A.fx t).length:Int),rfl,Sm.of 1e1 1e1,?_⟩;rw[if_pos ⟨by omega,by omega⟩];refine⟨z,?_,λb u q=>by rw[ah (ar q hL)];exact sc b u q,ag⟩;rw[e,aql hit,ap3,et];simp only[aqd,aq9];rw[fm,ln]
 ·rw[lk,apX (apV _)]at e
  refine⟨L,ts.map λt=>((fld s t).length:Int)+1,rfl,SqL.of (by rw[z,e,aqv];rfl),d,o,kvs,sc _ _ fd,(λo' u' z=>by have z:H d=some (.frz o' u'):=z;rw[hd]at z;cases z),?_⟩;refine k _ λb u q=>?_;by_cases c:b=d
  ·subst c
   rw[hd]at q;cases q;exact ag
  ·rw[ah c]
   exact sc _ _ (fo _ _ c q)
noncomputable def OZ(D:Ad):Sp:=λvs H Q E=>∃ x A s,vs=[.ref x]/\IH D H x A s/\Good s/\∀ H',az H H'->Q (.int (held s)) H'
noncomputable abbrev EI:List Str:=["self"]
theorem Cf:aw EI ["self"] (aq nW):=fsc
theorem Cg(F:Fun K "held" "IdealHeap.held" nW D.c7 D.gM)(T:Txt K mg D)
  (eY:9e7 4 D.br D.eX ["self","things"] (KP D)):9e7 5 D.c7 D.gM ["self"] (OZ D):=by
 refine F.oa Cf F.b1 λcdv A' outer s' H vs Q E hr h=>?_;obtain⟨x,A,s,rfl,J,G,k⟩:=h;refine⟨_,(ai (aI (eY.m hr (pv 0) T.ae T.kX px (aa 1e8 ak)))),?_⟩;exact⟨_,rfl,x,_,_,rfl,J.ax,1e4,_,rfl,x,D.ab,_,_,.ref A.fh,rfl,J.ax,T.ae,T.aD,uj,x,A,s,A.fh,_,keys s,rfl,J,G,J.afh,by rw[aqv];unfold keys;rw[aqv];rfl,(λt m=>by obtain⟨p,hp,rfl⟩:=aqf.mp m;exact⟨p.2,hp⟩),by unfold keys;rw[apR];exact G.few,k⟩
noncomputable def Xi(D:Ad):Sp:=λvs H Q E=>∃ x A s,∃ h:Int,vs=[.ref x,.int h]/\IH D H x A s/\Good s/\Sm h/\(match wat s.aZ h with|some wd=>∀ H',az H H'->Q (.str wd.kind) H'|none=>Bad D.bM H E)
noncomputable abbrev EJ:List Str:=["self","h"]
theorem Ci:aw EJ ["self","h"] (aq nV):=fsc
theorem Cj(F:Fun K "kind" "IdealHeap.kind" nV D.fq D.kD)(T:Txt K mg D)
  (gA:9e7 5 D.fM D.jG ["self","h"] (D7 D)):9e7 6 D.fq D.kD ["self","h"] (Xi D):=by
 refine F.oa Ci F.b2 λcdv A' outer s' H vs Q E hr h=>?_;obtain⟨x,A,s,h,rfl,J,G,hh,k⟩:=h;have hu:=jK hr;refine⟨_,(ai (aI (gA.m hr 1e8 T.bc T.tw px 2e4))),?_⟩;exact⟨_,rfl,x,D.ab,_,_,.ref A.hd,rfl,J.ax,T.ae,T.aC,qm,A.hd,A.hdx,_,rfl,J.ahd,rfl,_,rfl,A.hd,A.hdx,A.hl,A.hx,s.aZ,h,rfl,J.hn G,hh,k⟩
noncomputable def VN(D:Ad):Sp:=λvs H Q E=>∃ x A s,∃ h:Int,vs=[.ref x,.int h]/\IH D H x A s/\Good s/\Sm h/\(match wat s.aZ h with|some (.num x)=>∀ H',az H H'->Q (.int x) H'|_=>Bad D.bM H E)
noncomputable abbrev Ck:List Str:=["self","h"]
theorem Al:aw Ck ["self","h"] (aq mB):=fsc
theorem Am(F:Fun K "value" "IdealHeap.value" mB D.eh D.j4)(T:Txt K mg D)
  (tI:9e7 6 D.gL D.k9 ["self","h"] (RA D)):9e7 7 D.eh D.j4 ["self","h"] (VN D):=by
 refine F.oa Al F.b2 λcdv A' outer s' H vs Q E hr h=>?_;obtain⟨x,A,s,h,rfl,J,G,hh,k⟩:=h;have hu:=jK hr;refine⟨_,(ai (aI (tI.m hr 1e8 T.bc T.IA px 2e4))),?_⟩;exact⟨_,rfl,x,D.ab,_,_,.ref A.hd,rfl,J.ax,T.ae,T.aC,qm,A.hd,A.hdx,_,rfl,J.ahd,rfl,_,rfl,A.hd,A.hdx,A.hl,A.hx,s.aZ,h,rfl,J.hn G,hh,k⟩
noncomputable def Tc(D:Ad):Sp:=λvs H Q E=>∃ x A s,∃ h:Int,vs=[.ref x,.int h]/\IH D H x A s/\Good s/\Sm h/\(match wat s.aZ h with|some (.th t)=>∀ H',az H H'->Q (.int (fld s t).length) H'|_=>Bad D.bM H E)
noncomputable abbrev An:List Str:=["self","h"]
theorem yB:aw An ["self","h"] (aq lB):=fsc
theorem yC(F:Fun K "fields" "IdealHeap.fields" lB D.dM D.jv)(T:Txt K mg D)
  (aT:9e7 6 D.bp D.cx ["self","h"] (kP D)):9e7 7 D.dM D.jv ["self","h"] (Tc D):=by
 refine F.oa yB F.b2 λcdv A' outer s' H vs Q E hr h=>?_;obtain⟨x,A,s,h,rfl,J,G,hh,k⟩:=h;have hu:=jK hr;refine⟨_,(ai (aI (cc bh rfl T.lM PyProof.Rows.Boot.«len» (aa (dq hu 1e8 (aT.m hr 1e8 T.bc T.hG px 2e4) 1e6) ak)))),?_⟩;refine⟨_,rfl,x,D.ab,_,_,.ref A.fh,rfl,J.ax,T.ae,T.aD,uj,_,rfl,x,D.ab,_,_,.ref A.hd,rfl,J.ax,T.ae,T.aC,qm,A.hd,A.hdx,_,rfl,J.ahd,rfl,_,rfl,A.hd,A.hdx,A.hl,A.hx,s.aZ,h,rfl,J.hn G,hh,?_⟩;cases e:wat s.aZ h with
 | none=>rw[e]at k;exact k
 | some wd =>
  rw[e]at k;cases wd with
  | no=>exact k
  | num n=>exact k
  | th t =>
   intro H1 s1;have J1:=J.same s1;have m:=G.hand e;obtain⟨hl,rl⟩:=J1.afl _ _ m;refine⟨A.fh,_,rfl,J1.aa0 G m,A.fa t,_,rfl,.inl (SqL.of hl),?_⟩;rw[rl.1];exact k H1 s1
theorem Gk{F F':Addr->Prop}{H:Hp}{p b:Addr}{u o o':HO}(hp:H p=none)(f:F b)(hb:H b=some u)(n:∀ xs,u≠.tup xs)(g:∀ c,F' c->F c\/c=p):Fr F H F' (upd (upd H p o) b o') where
 ext:=λc v nf q=>by rw[ah λe=>nf (by rw[e];exact f),ah (ar q hp)];exact q
 grow:=λc f'=>(g c f').imp id λe=>by rw[e];exact hp
 all:=λc v q=>by
  by_cases e:c=b
  ·exact⟨o',by rw[e];exact ag⟩
  ·exact⟨v,by rw[ah e,ah (ar q hp)];exact q⟩
 tup:=(bI.of (az.upd hp)).trans (bI.set (az.upd hp _ _ hb) n)
section
variable{D:Ad}{H H':Hp}{x:Addr}{A A':HA}{s s':HS}
theorem IH.apq(J:IH D H x A s){p:Addr}(hp:H p=none):IH D (upd (upd H p 6e1) x (.ins D.ab A.dx (jJ "young_things" 4e7 6e8))) x {A with yg:=p} {s with yng:=[]}/\Fr 4e1 H (cL x {A with yg:=p} {s with yng:=[]}) (upd (upd H p 6e1) x (.ins D.ab A.dx (jJ "young_things" 4e7 6e8))):=by
 have s1:az H (upd H p 6e1):=az.upd hp;have nf:¬cL x A s p:=J.fresh hp;have pp:upd H p 6e1 p=some 6e1:=ag;refine⟨?_,Gk hp (.x) J.ax 2e8 (λc f=>?_)⟩
 ·have J:=J.same s1
  have tk:bI (upd H p 6e1) (upd (upd H p 6e1) x (.ins D.ab A.dx (jJ "young_things" 4e7 6e8))):=bI.set J.ax 2e8;exact⟨(by rw[ag,aeH];rfl),(by rw[ah (ay J.ahd J.ax 5e5)];exact J.ahd),(by rw[ah (ay J.ahl J.ax 1e0)];exact J.ahl),J.rhl.keep tk,(by rw[ah (ay J.ant J.ax 5e5)];exact J.ant),(by rw[ah (ay J.anl J.ax 1e0)];exact J.anl),(by rw[ah (ay J.awt J.ax (oJ (show(2:Nat)≠11 by decide)))];exact J.awt),(by rw[ah (ay J.awb J.ax 1e0)];exact J.awb),(by rw[ah (ay J.awl J.ax 1e0)];exact J.awl),(by rw[ah (ay J.afh J.ax 1e0)];exact J.afh),9e5,(by show upd _ _ _ p=_;rw[ah λe=>nf (by rw[e];exact .x)];exact pp),(by rw[ah (ay J.adm J.ax 1e0)];exact J.adm),J.nhn,J.l1,J.l2,J.l3,J.l4,J.l5,J.d1,(λ(e:A.wb=p)=>nf (by rw[<-e];exact .wb)),J.d3,(λ(e:A.fh=p)=>nf (by rw[<-e];exact .fh)),J.d5,(λ(e:p=A.dm)=>nf (by rw[e];exact .dm))⟩
 ·cases f with
  | x=>exact .inl .x
  | hd=>exact .inl .hd
  | hl=>exact .inl .hl
  | nt=>exact .inl .nt
  | nl=>exact .inl .nl
  | wt=>exact .inl .wt
  | wb=>exact .inl .wb
  | wl=>exact .inl .wl
  | fh=>exact .inl .fh
  | yg=>exact .inr rfl
  | dm=>exact .inl .dm
  | fl m=>exact .inl (.fl m)
theorem IH.apr(J:IH D H x A s){p:Addr}(hp:H p=none):IH D (upd (upd H p 6e1) x (.ins D.ab A.dx (jJ "doomed_things" 4e7 6e8))) x {A with dm:=p} {s with eL:=[]}/\Fr 4e1 H (cL x {A with dm:=p} {s with eL:=[]}) (upd (upd H p 6e1) x (.ins D.ab A.dx (jJ "doomed_things" 4e7 6e8))):=by
 have s1:az H (upd H p 6e1):=az.upd hp;have nf:¬cL x A s p:=J.fresh hp;have pp:upd H p 6e1 p=some 6e1:=ag;refine⟨?_,Gk hp (.x) J.ax 2e8 (λc f=>?_)⟩
 ·have J:=J.same s1
  have tk:bI (upd H p 6e1) (upd (upd H p 6e1) x (.ins D.ab A.dx (jJ "doomed_things" 4e7 6e8))):=bI.set J.ax 2e8;exact⟨(by rw[ag,aeI];rfl),(by rw[ah (ay J.ahd J.ax 5e5)];exact J.ahd),(by rw[ah (ay J.ahl J.ax 1e0)];exact J.ahl),J.rhl.keep tk,(by rw[ah (ay J.ant J.ax 5e5)];exact J.ant),(by rw[ah (ay J.anl J.ax 1e0)];exact J.anl),(by rw[ah (ay J.awt J.ax (oJ (show(2:Nat)≠11 by decide)))];exact J.awt),(by rw[ah (ay J.awb J.ax 1e0)];exact J.awb),(by rw[ah (ay J.awl J.ax 1e0)];exact J.awl),(by rw[ah (ay J.afh J.ax 1e0)];exact J.afh),9e5,(by rw[ah (ay J.ayg J.ax 1e0)];exact J.ayg),(by show upd _ _ _ p=_;rw[ah λe=>nf (by rw[e];exact .x)];exact pp),J.nhn,J.l1,J.l2,J.l3,J.l4,J.l5,J.d1,J.d2,(λ(e:A.wb=p)=>nf (by rw[<-e];exact .wb)),J.d4,(λ(e:A.fh=p)=>nf (by rw[<-e];exact .fh)),(λ(e:A.yg=p)=>nf (by rw[<-e];exact .yg))⟩
 ·cases f with
  | x=>exact .inl .x
  | hd=>exact .inl .hd
  | hl=>exact .inl .hl
  | nt=>exact .inl .nt
  | nl=>exact .inl .nl
  | wt=>exact .inl .wt
  | wb=>exact .inl .wb
  | wl=>exact .inl .wl
  | fh=>exact .inl .fh
  | yg=>exact .inl .yg
  | dm=>exact .inr rfl
  | fl m=>exact .inl (.fl m)
theorem IH.aps(J:IH D H x A s){ns:List (Option Int)}{p:Addr}(hp:H p=none):IH D (upd (upd H p 8e3) A.nt (.ins D.aH A.ntx [("things_named",.ref p)])) x {A with nl:=p} {s with names:=ns}/\Fr 4e1 H (cL x {A with nl:=p} {s with names:=ns}) (upd (upd H p 8e3) A.nt (.ins D.aH A.ntx [("things_named",.ref p)])):=by
 have s1:az H (upd H p 8e3):=az.upd hp;have nf:¬cL x A s p:=J.fresh hp;have pp:upd H p 8e3 p=some 8e3:=ag;refine⟨?_,Gk hp (.nt) J.ant 2e8 (λc f=>?_)⟩
 ·have J:=J.same s1
  have tk:bI (upd H p 8e3) (upd (upd H p 8e3) A.nt (.ins D.aH A.ntx [("things_named",.ref p)])):=bI.set J.ant 2e8;exact⟨(by rw[ah (ay J.ax J.ant (oJ (show(11:Nat)≠1 by decide)))];exact J.ax),(by rw[ah J.nhn];exact J.ahd),(by rw[ah (ay J.ahl J.ant 1e0)];exact J.ahl),J.rhl.keep tk,ag,(by show upd _ _ _ p=_;rw[ah λe=>nf (by rw[e];exact .nt)];exact pp),(by rw[ah (ay J.awt J.ant (oJ (show(2:Nat)≠1 by decide)))];exact J.awt),(by rw[ah (ay J.awb J.ant 1e0)];exact J.awb),(by rw[ah (ay J.awl J.ant 1e0)];exact J.awl),(by rw[ah (ay J.afh J.ant 1e0)];exact J.afh),(λt ws m=>⟨by rw[ah (ay (J.afl _ _ m).1 J.ant 1e0)];exact(J.afl _ _ m).1,(J.afl _ _ m).2.keep tk⟩),(by rw[ah (ay J.ayg J.ant 1e0)];exact J.ayg),(by rw[ah (ay J.adm J.ant 1e0)];exact J.adm),J.nhn,(λ(e:A.hl=p)=>nf (by rw[<-e];exact .hl)),J.l2,(λ(e:p=A.wl)=>nf (by rw[e];exact .wl)),(λt ws m=>⟨(J.l4 _ _ m).1,(λ(e:A.fa t=p)=>nf (by rw[<-e];exact .fl m)),(J.l4 _ _ m).2.2⟩),J.l5,J.d1,J.d2,J.d3,J.d4,J.d5,J.d6⟩
 ·cases f with
  | x=>exact .inl .x
  | hd=>exact .inl .hd
  | hl=>exact .inl .hl
  | nt=>exact .inl .nt
  | nl=>exact .inr rfl
  | wt=>exact .inl .wt
  | wb=>exact .inl .wb
  | wl=>exact .inl .wl
  | fh=>exact .inl .fh
  | yg=>exact .inl .yg
  | dm=>exact .inl .dm
  | fl m=>exact .inl (.fl m)
noncomputable def Bz(fs:List (Int×List Wd))(t:Int):List (Int×List Wd):=fs.filter λp=>decide (p.1≠t)
theorem ux{fs:List (Int×List Wd)}{t t':Int}{ws:List Wd}:(t',ws)∈Bz fs t↔(t',ws)∈fs/\t'≠t:=by unfold Bz;rw[aqF];simp
theorem ZW{fs:List (Int×List Wd)}{A:HA}{t:Int}:wz (fs.map (fkv A)) 4e4=(Bz fs t).map (fkv A):=by
 unfold wz Bz;rw[arO];congr 1
 refine aqO λp _=>?_;show decide (Sum.inl p.1≠(Sum.inl t:Key))=decide (p.1≠t);simp
theorem IH.aeK(J:IH D H x A s){t:Int}:IH D (upd H A.fh (.dK ((Bz s.aJ t).map (fkv A)))) x A {s with aJ:=Bz s.aJ t}/\Fr 4e1 H (cL x A {s with aJ:=Bz s.aJ t}) (upd H A.fh (.dK ((Bz s.aJ t).map (fkv A)))):=by
 have tk:bI H (upd H A.fh (.dK ((Bz s.aJ t).map (fkv A)))):=bI.set J.afh 2e8;refine⟨⟨(by rw[ah (ay J.ax J.afh 1e0)];exact J.ax),(by rw[ah (ay J.ahd J.afh 1e0)];exact J.ahd),(by rw[ah (ay J.ahl J.afh 1e0)];exact J.ahl),J.rhl.keep tk,(by rw[ah (ay J.ant J.afh 1e0)];exact J.ant),(by rw[ah (ay J.anl J.afh 1e0)];exact J.anl),(by rw[ah (ay J.awt J.afh 1e0)];exact J.awt),(by rw[ah J.d1];exact J.awb),(by rw[ah (ay J.awl J.afh 1e0)];exact J.awl),ag,(λu ws m'=>by have m:=(ux.mp m').1;exact⟨by rw[ah (ay (J.afl _ _ m).1 J.afh 1e0)];exact(J.afl _ _ m).1,(J.afl _ _ m).2.keep tk⟩),(by rw[ah (aqe J.d4)];exact J.ayg),(by rw[ah (aqe J.d5)];exact J.adm),J.nhn,J.l1,J.l2,J.l3,(λu ws m=>J.l4 _ _ (ux.mp m).1),(λu ws v w m m' e=>J.l5 _ _ _ _ (ux.mp m).1 (ux.mp m').1 e),J.d1,J.d2,J.d3,J.d4,J.d5,J.d6⟩,Fr.set .fh J.afh 2e8 (λc f=>?_)⟩;cases f with
 | x=>exact .x
 | hd=>exact .hd
 | hl=>exact .hl
 | nt=>exact .nt
 | nl=>exact .nl
 | wt=>exact .wt
 | wb=>exact .wb
 | wl=>exact .wl
 | fh=>exact .fh
 | yg=>exact .yg
 | dm=>exact .dm
 | fl m=>exact .fl (ux.mp m).1
end
inductive Led(rs:List Wd)(F:Int->List Wd)(S:List Int):Int->Prop where
 | root {t:Int}:Wd.th t∈rs->t∈S->Led rs F S t
 | step {u t:Int}:Led rs F S u->Wd.th t∈F u->t∈S->Led rs F S t
theorem Led.mem{rs:List Wd}{F:Int->List Wd}{S:List Int}{t:Int}(h:Led rs F S t):t∈S:=by cases h<;>assumption
noncomputable def amg(S:List Int):Wd->Option Int
 | .th t=>if t∈S then some t else none
 | _=>none
theorem uN{S:List Int}{w:Wd}{t:Int}:amg S w=some t↔w=.th t/\t∈S:=by
 cases w with
 | no=>exact⟨(λh=>by cases h),(λh=>by cases h.1)⟩
 | num n=>exact⟨(λh=>by cases h),(λh=>by cases h.1)⟩
 | th u =>
  show(if u∈S then some u else none)=some t↔_;by_cases c:u∈S
  ·rw[if_pos c]
   exact⟨(λh=>by cases h;exact⟨rfl,c⟩),(λh=>by cases h.1;rfl)⟩
  ·rw[if_neg c]
   exact⟨(λh=>by cases h),(λh=>by cases h.1;exact absurd h.2 c)⟩
inductive Rc(rs:List (Option Int))(F:Int->List (Option Int)):Int->Prop where
 | root {t:Int}:some t∈rs->Rc rs F t
 | step {u t:Int}:Rc rs F u->some t∈F u->Rc rs F t
theorem abU{rs:List Wd}{F:Int->List Wd}{S:List Int}{t:Int}:Rc (rs.map (amg S)) (λu=>(F u).map (amg S)) t↔Led rs F S t:=by
 constructor
 ·intro h
  induction h with
  | root m =>
   obtain⟨w,mw,e⟩:=aqf.mp m;obtain⟨rfl,c⟩:=uN.mp e;exact .root mw c
  | step _ m ih =>
   obtain⟨w,mw,e⟩:=aqf.mp m;obtain⟨rfl,c⟩:=uN.mp e;exact .step ih mw c
 ·intro h
  induction h with
  | root m c=>exact .root (aqf.mpr ⟨_,m,uN.mpr ⟨rfl,c⟩⟩)
  | step _ m c ih=>exact .step ih (aqf.mpr ⟨_,m,uN.mpr ⟨rfl,c⟩⟩)
theorem uO:∀ {ms ks:List Int},ms.Nodup->(∀ m∈ms,m∈ks)->ms.length<=ks.length
 | [],_,_,_=>aqu _
 | a::r,ks,nd,h=>by
  rw[aqP]at nd;have ha:=h a ap7
  have:=uO (ms:=r) (ks:=ks.erase a) nd.2 λm hm=>(List.mem_erase_of_ne (λe=>nd.1 (by rw[<-e];exact hm))).mpr (h m (ap8 _ hm))
  rw[List.length_erase_of_mem ha]at this
  have:0<ks.length:=List.length_pos_of_mem ha
  rw[aqo];omega
noncomputable def Kys(kvs:List (Key×V))(ms:List Int):Prop:=kvs.map (·.1)=ms.map Sum.inl
theorem Kys.len{kvs:List (Key×V)}{ms:List Int}(k:Kys kvs ms):kvs.length=ms.length:=by have:=congrArg List.length k;simpa using this
theorem Kys.isS{kvs:List (Key×V)}{ms:List Int}(k:Kys kvs ms){t:Int}:(iX kvs 4e4).isSome=decide (t∈ms):=by
 induction kvs generalizing ms with
 | nil=>cases ms with
  | nil=>rfl
  | cons a r=>cases k
 | cons p r ih=>cases ms with
  | nil=>cases k
  | cons a ms =>
   unfold Kys at k;rw[aqd,aqd]at k;injection k with k1 k2;by_cases e:a=t
   ·subst e
    rw[gi k1];simp
   ·rw[fK (λz=>e (Sum.inl.inj (k1.symm.trans z))),ih k2]
    have:(t∈a::ms)↔t∈ms:=by
     rw[aqi];exact⟨λh=>h.elim (λz=>absurd z.symm e) id,.inr⟩
    simp only[this]
theorem Kys.non{kvs:List (Key×V)}{ms:List Int}(k:Kys kvs ms){t:Int}(h:t∉ms):iX kvs 4e4=none:=by
 have:=k.isS (t:=t)
 rw[decide_eq_false h]at this;cases q:iX kvs 4e4 with
 | none=>rfl
 | some v=>rw[q]at this;cases this
theorem Kys.snoc{kvs:List (Key×V)}{ms:List Int}(k:Kys kvs ms){t:Int}{v:V}(h:t∉ms):Kys (putK kvs 4e4 v) (ms++[t]):=by
 rw[pT v (k.non h)];unfold Kys at k ⊢;rw[ap3,ap3,k];rfl
theorem Kys.at_{kvs:List (Key×V)}{ms:List Int}(k:Kys kvs ms){i:Nat}{p:Key×V}(h:kvs[i]?=some p):∃ t,ms[i]?=some t/\kV p.1=.int t/\p.1=Sum.inl t:=by
 have h1:=congrArg (λl=>l[i]?) k;simp only[apZ,h,aqQ]at h1;obtain⟨t,e1,e2⟩:=aqa.mp h1.symm;exact⟨t,e1,by rw[<-e2];rfl,e2.symm⟩
theorem Kj(ts:List Int):Kys (ts.map tkv) ts:=by unfold Kys;rw[aqv];rfl
theorem Wi(s:HS)(A:HA):Kys 9e2 9e1:=by unfold Kys keys;rw[aqv,aqv];rfl
noncomputable def drG(fs:List (Int×List Wd))(gs:List Int):List (Int×List Wd):=fs.filter λp=>decide (p.1∉gs)
noncomputable def nmG(gs:List Int)(n:Option Int):Option Int:=match n with|none=>none|some t=>if t∈gs then none else some t
noncomputable def brG(bs:List (Int×Int))(gs:List Int):List (Int×Int):=bs.filter λp=>decide (p.1∉gs)
noncomputable def sdG(bs:List (Int×Int))(gs:List Int):List Int:=gs.filterMap λt=>bs.lookup t
noncomputable def letGo(s:HS)(gs:List Int):HS:={s with aJ:=drG s.aJ gs,names:=s.names.map (nmG gs),cC:=brG s.cC gs,xB:=s.xB++sdG s.cC gs}
theorem jD{fs:List (Int×List Wd)}{gs:List Int}{t:Int}{ws:List Wd}:(t,ws)∈drG fs gs↔(t,ws)∈fs/\t∉gs:=by unfold drG;rw[aqF];simp
theorem Xj{fs:List (Int×List Wd)}{gs:List Int}{t:Int}:drG fs (gs++[t])=Bz (drG fs gs) t:=by
 unfold drG Bz;rw[List.filter_filter];refine aqO λp _=>?_;simp[aqc,not_or,Bool.and_comm]
theorem UW{fs:List (Int×List Wd)}:drG fs []=fs:=by unfold drG;simp
theorem RF{bs:List (Int×Int)}{gs:List Int}{t:Int}:brG bs (gs++[t])=(brG bs gs).filter λp=>decide (p.1≠t):=by
 unfold brG;rw[List.filter_filter];refine aqO λp _=>?_;simp[aqc,not_or,Bool.and_comm]
theorem Td{bs:List (Int×Int)}{gs:List Int}{t:Int}(h:t∉gs):(brG bs gs).lookup t=bs.lookup t:=by
 unfold brG;induction bs with
 | nil=>rfl
 | cons p r ih =>
  obtain⟨a,b⟩:=p;rw[List.filter_cons];by_cases c:a∈gs
  ·rw[if_neg (by simpa using c),ih,aqS]
   rw[show(t == a)=false from beq_eq_false_iff_ne.mpr λe=>h (by rw[e];exact c)]
  ·rw[if_pos (by simpa using c),aqS,aqS,ih]
theorem ZX{bs:List (Int×Int)}{t:Int}:wz (bs.map bkv) 4e4=(bs.filter λp=>decide (p.1≠t)).map bkv:=by
 unfold wz;rw[arO];congr 1
 refine aqO λp _=>?_;show decide (Sum.inl p.1≠(Sum.inl t:Key))=decide (p.1≠t);simp
theorem filter_none{bs:List (Int×Int)}{t:Int}(h:bs.lookup t=none):(bs.filter λp=>decide (p.1≠t))=bs:=List.filter_eq_self.mpr λp hp=>by simpa using lookup_none h p hp
theorem RG{bs:List (Int×Int)}{gs:List Int}{t:Int}:sdG bs (gs++[t])=sdG bs gs++(match bs.lookup t with|some v=>[v]|none=>[]):=by
 unfold sdG;rw[List.filterMap_append];congr 1
 cases e:bs.lookup t with
 | none=>simp[e]
 | some v=>simp[e]
structure Wk(H H4:Hp)(st mt:Addr)(rs:List (Option Int))(F:Int->List (Option Int))(S:List Int)(kvs:List (Key×V))(ms:List Int):Prop where
 sm:az H H4
 hs:H4 st=some 3e0
 ky:Kys kvs ms
 nd:ms.Nodup
 sub:∀ m∈ms,m∈S
 snd:∀ m∈ms,Rc rs F m
 hm:H4 mt=some (.lst (ms.map V.int))
 rts:∀ t,some t∈rs->t∈ms
theorem Wk.same{H H4 H5:Hp}{st mt:Addr}{rs:List (Option Int)}{F:Int->List (Option Int)}{S:List Int}{kvs:List (Key×V)}{ms:List Int}(w:Wk H H4 st mt rs F S kvs ms)(k:az H4 H5):Wk H H5 st mt rs F S kvs ms :=
 ⟨w.sm.trans k,k _ _ w.hs,w.ky,w.nd,w.sub,w.snd,k _ _ w.hm,w.rts⟩
theorem Wk.put{H H4:Hp}{st mt:Addr}{rs:List (Option Int)}{F:Int->List (Option Int)}{S:List Int}{kvs:List (Key×V)}{ms:List Int}(w:Wk H H4 st mt rs F S kvs ms)(h1:H st=none)(h2:H mt=none){n:Int}{v:V}(hn:n∉ms)(hS:n∈S)(hr:Rc rs F n) :
  Wk H (upd (upd H4 st (.dK (putK kvs (Sum.inl n) v))) mt (.lst (ms.map V.int++[.int n]))) st mt rs F S (putK kvs (Sum.inl n) v) (ms++[n]):=by
 have ne:st≠mt:=ay w.hs w.hm 1e0;refine⟨λb u q=>?_,?_,w.ky.snoc hn,?_,λm h=>?_,λm h=>?_,?_,λt h=>aqm _ (w.rts t h)⟩
 ·rw[ah (ar q h2),ah (ar q h1)]
  exact w.sm b u q
 ·rw[ah ne]
  exact ag
 ·rw[aqz]
  exact⟨w.nd,by simp,λa ha b hb=>by rw[apU.mp hb];exact λe=>hn (by rw[<-e];exact ha)⟩
 ·rcases aqc.mp h with g|g
  ·exact w.sub m g
  ·rw[apU.mp g];exact hS
 ·rcases aqc.mp h with g|g
  ·exact w.snd m g
  ·rw[apU.mp g];exact hr
 ·rw[ap3]
  exact ag
theorem Xk{ms:List Int}{n:Int}(nd:ms.Nodup)(hn:n∉ms):(ms++[n]).Nodup:=by
 rw[aqz];exact⟨nd,by simp,λa ha b hb=>by rw[apU.mp hb];exact λe=>hn (by rw[<-e];exact ha)⟩
theorem abV{rs:List (Option Int)}{F:Int->List (Option Int)}{ms:List Int}(h0:∀ t,some t∈rs->t∈ms)(h1:∀ u∈ms,∀ t,some t∈F u->t∈ms){t:Int}(h:Rc rs F t):t∈ms:=by
 induction h with
 | root m=>exact h0 _ m
 | step _ m ih=>exact h1 _ ih _ m
noncomputable def RH:Sp:=λvs H Q _=>∃(v r d:Addr) (rs:List (Option Int)) (S:List Int) (F:Int->List (Option Int)) (ad:Int->Addr),vs=[.ref v]/\H v=some (.tup [.ref r,.ref d])/\H r=some (.lst (rs.map nmV))/\H d=some (.dK (S.map λt=>(Sum.inl t,.ref (ad t))))/\(∀ t∈S,H (ad t)=some (.lst ((F t).map nmV)))/\(∀ t,some t∈rs->t∈S)/\(∀ u∈S,∀ t,some t∈F u->t∈S)/\S.length<=10000/\∀ st kvs ms H',az H H'->H st=none->H' st=some 3e0->Kys kvs ms->ms.Nodup->(∀ t,t∈ms↔Rc rs F t)->Q (.ref st) H'
noncomputable abbrev ND:List Str:=["view","steps","place","thing","met","done"]
theorem fI:aw ND ["view"] (aq uU):=fsc
theorem Lm(F:Fun K "last_steps" "last_steps" uU D.gu D.nv)(T:Txt K mg D):9e7 1 D.gu D.nv ["view"] (RH):=by
 refine F.oa fI F.b1 λcdv A' outer s' H vs Q E hr h=>?_;obtain⟨v,r,d,rs,S,F,ad,rfl,ht,hrs,hd,Wu,hrt,hcl,Zv,k⟩:=h;have hu:=jK hr;refine⟨_,(PSs.nox (aj (aS (i:=1) fI.nd rfl 1e9 jx)
  (aj (gq aqg rfl (zF rfl T.jC (aa 6e9 ak)) (DZ rfl (iQ (bA (i:=2) fI.nd rfl 1e9) (iQ (bA (i:=3) fI.nd rfl 1e9) wx)))
   (ai (bQ (PW.pt (pw_and (aK JU (pv 3) d7 (aW _)) (pw_and1 (rf (kU hu (pv 3) (pv 1)) 3e1))))
    (ai (lQ hu (pv 1) (pv 3) (cg (aa d7 3e9)) rfl))
    aR)))
  (aj (aS (i:=4) fI.nd rfl 1e9 (j6 (Ka rfl) rfl T.wB PyProof.Rows.Boot.«list» 2e4))
  (aj (aS (i:=5) fI.nd rfl 1e9 av)
  (aj (KC aqg (aK vt (pv 5) (cc bh rfl T.lM PyProof.Rows.Boot.«len» 5e4) (aW _))
   (aj (gq aqg rfl (zF rfl T.jC (aa (dq hu 6e9 (a8 jy (pv 4) (pv 5) 1e6) 1e6) ak)) (DZ rfl (iQ (bA (i:=2) fI.nd rfl 1e9) (iQ (bA (i:=3) fI.nd rfl 1e9) wx)))
    (ai (bQ (PW.pt (pw_and (aK JU (pv 3) d7 (aW _)) (pw_and1 (rf (kU hu (pv 3) (pv 1)) 3e1))))
     (aj (lQ hu (pv 1) (pv 3) (cg (aa (a8 jy (pv 4) (pv 5) 1e6) 3e9)) rfl)
     (ai (aG (Mj PySem.F.plainAttrs_list PySem.F.slot_list_append PySem.F.type_list_append rh (pv 4) 6e5))))
     aR)))
   (ai (T9 (i:=5) fI.nd rfl 1e9 av Ua))))
  (ai (aI (pv 1))))))))),?_⟩
 refine λst hst=>?_;have s0:az H (upd H st 6e1):=az.upd hst;have kyS:Kys (S.map λt=>((Sum.inl t:Key),V.ref (ad t))) S:=by unfold Kys;rw[aqv];rfl
 have dgS:∀ {Hc:Hp},az H Hc->∀ {t:Int},t∈S->um Hc d (.int t) (some (.ref (ad t))):=λ{Hc} sc {t} m=>by
  have e:iX (S.map λt=>((Sum.inl t:Key),V.ref (ad t))) 4e4=some (.ref (ad t)):=by
   clear kyS Zv hcl hrt Wu hd;induction S with
   | nil=>cases m
   | cons a r ih =>
    rw[aqd];by_cases c:a=t
    ·rw[gi (by show Sum.inl a=Sum.inl t;rw[c]),c]
    ·rw[fK (λz=>c (Sum.inl.inj z))]
     exact ih ((aqi.mp m).resolve_left λz=>c z.symm)
  exact .inl ⟨_,Sum.inl t,.inl (sc _ _ hd),rfl,e.symm⟩
 have few:∀ {kvs:List (Key×V)} {ms:List Int},Kys kvs ms->ms.Nodup->(∀ m∈ms,m∈S)->kvs.length<sizeLine:=λk nd h=>by rw[k.len];exact oK (aqk (uO nd h) 1e1)
 refine⟨_,rfl,v,_,0,.ref r,rfl,rfl,SqT.of (s0 _ _ ht),rfl,r,rfl,⟨_,SqL.of (s0 _ _ hrs)⟩,uJ (K:=K) (a:=r) (xs:=rs.map nmV) (λi σ H2=>∃(v2 v3:Option V) (kvs:List (Key×V)) (ms:List Int),σ=[some (.ref v),some (.ref st),v2,v3,none,none]/\az H H2/\H2 st=some 3e0/\Kys kvs ms/\ms.Nodup/\(∀ m∈ms,m∈S)/\(∀ m∈ms,Rc rs F m)/\∀(j:Nat) t,j<i->rs[j]?=some (some t)->t∈ms)
  ⟨none,none,[],[],rfl,s0,ag,rfl,arx,(λt h=>nomatch h),(λt h=>nomatch h),(λj t h=>absurd h (arF _))⟩ (λi σ H2 _ ⟨_,_,_,_,_,s2,_⟩=>SqL.of (s2 _ _ hrs)) ?_ ?_⟩
 ·rintro i x σ H2 t hx ⟨v2,v3,kvs,ms,rfl,s2,hs,ky,nd,sub,snd,Iu⟩ htt
  have hi:i<rs.length:=by have:=(apS.mp hx).1;rwa[apR]at this
  have ri:rs[i]?=some rs[i]:=apT hi;have hxe:x=nmV rs[i]:=by
   rw[apZ,ri]at hx;exact(aqh hx).symm
  subst hxe;have s3:az H2 (upd H2 t (.tup [.int (i:Int),nmV rs[i]])):=az.upd htt;refine⟨t,_,rfl,SqT.of ag,rfl,_,_,rfl,_,_,rfl,rfl,?_⟩;cases hc:rs[i] with
  | none =>
   rw[hc]at s3 ri;refine⟨_,rfl,rfl,_,rfl,xt (xt ⟨_,_,kvs,ms,rfl,s2.trans s3,s3 _ _ hs,ky,nd,sub,snd,λj t hj e=>?_⟩)⟩;rcases arb j i with z|z
   ·exact Iu j t z e
   ·rw[show j=i by omega,ri]at e
    cases e
  | some n =>
   rw[hc]at s3 ri;have mr:=apW ri;refine⟨_,rfl,rfl,_,rfl,yt ⟨_,rfl,_,rfl,st,_,rfl,um.k (k:=Sum.inl n) (s3 _ _ hs),_,rfl,?_⟩⟩;rw[ky.isS];by_cases hin:n∈ms
   ·rw[decide_eq_true hin]
    refine xt ⟨_,_,kvs,ms,rfl,s2.trans s3,s3 _ _ hs,ky,nd,sub,snd,λj t hj e=>?_⟩;rcases arb j i with z|z
    ·exact Iu j t z e
    ·rw[show j=i by omega,ri]at e
     cases e;exact hin
   ·rw[decide_eq_false hin]
    refine yt ⟨_,rfl,by show 2<=sizeLine;decide,λu hu'=>?_⟩;have s4:=az.upd (o:=.tup [V.non,V.int (i:Int)]) hu';refine⟨_,rfl,_,rfl,st,_,rfl,Em.k (k:=Sum.inl n) (s4 _ _ (s3 _ _ hs)) (few ky nd sub),_,_,putK kvs (Sum.inl n) (.ref u),ms++[n],rfl,λc u' g=>by rw[ah (ar g hst)];exact s4 _ _ (s3 _ _ (s2 c u' g)),ag,ky.snoc hin,Xk nd hin,λm h=>?_,λm h=>?_,λj t hj e=>?_⟩
    ·rcases aqc.mp h with g|g
     ·exact sub m g
     ·rw[apU.mp g];exact hrt n mr
    ·rcases aqc.mp h with g|g
     ·exact snd m g
     ·rw[apU.mp g];exact .root mr
    ·rcases arb j i with z|z
     ·exact aqm _ (Iu j t z e)
     ·rw[show j=i by omega,ri]at e
      cases e;exact ap1 _ ap7
 ·rintro σ H2 ⟨v2,v3,kvs,ms,rfl,s2,hs,ky,nd,sub,snd,Iu⟩
  refine⟨_,rfl,st,_,ms,rfl,.inl hs,ky,λmt hmt=>?_⟩;have s3:=az.upd (o:=.lst (ms.map V.int)) hmt;have apt:H mt=none:=az.none s2 hmt;refine⟨λm σ H4=>∃(dn:Nat) (v2 v3:Option V) (kvs:List (Key×V)) (ms:List Int),m=S.length+1-dn/\σ=[some (.ref v),some (.ref st),v2,v3,some (.ref mt),some (.int (dn:Int))]/\Wk H H4 st mt rs F S kvs ms/\(∀ u∈ms.take dn,∀ t,some t∈F u->t∈ms)/\dn<=ms.length,⟨_,0,v2,v3,kvs,ms,rfl,rfl,⟨s2.trans s3,s3 _ _ hs,ky,nd,sub,snd,ag,λt h=>?_⟩,(λu h=>nomatch h),aqu _⟩,?_⟩
  ·obtain⟨j,hj⟩:=List.mem_iff_getElem?.mp h
   exact Iu j t (by rw[apR];exact(apS.mp hj).1) hj
  clear hs ky nd sub snd Iu s3 s2;rintro m σ H4 ⟨dn,v2,v3,kvs,ms,rfl,rfl,W,don,hdl⟩;have ml:=uO W.nd W.sub;refine⟨_,rfl,_,rfl,mt,_,rfl,.inl (SqL.of W.hm),_,_,rfl,rfl,_,rfl,a9 (λh=>?_) (λh=>?_)⟩
  ·have hd1:dn<ms.length:=by
    have h1:(dn:Int)<((ms.map V.int).length:Int):=(by simpa using h);rw[apR]at h1;omega
   refine⟨λσ' H'=>∃ m',m'<S.length+1-dn/\∃(dn:Nat) (v2 v3:Option V) (kvs:List (Key×V)) (ms:List Int),m'=S.length+1-dn/\σ'=[some (.ref v),some (.ref st),v2,v3,some (.ref mt),some (.int (dn:Int))]/\Wk H H' st mt rs F S kvs ms/\(∀ u∈ms.take dn,∀ t,some t∈F u->t∈ms)/\dn<=ms.length,λ_ _ h=>h,?_⟩;have tk:ms.take (dn+1)=ms.take dn++[ms[dn]]:=aql hd1;obtain⟨t,et⟩:∃ t,ms[dn]=t:=⟨_,rfl⟩;obtain⟨pre,ZY⟩:∃ pre,ms.take dn=pre:=⟨_,rfl⟩;rw[et,ZY]at tk;rw[ZY]at don;have apu:pre.length=dn:=(by rw[<-ZY,ap6];omega);have htm:t∈ms:=(by rw[<-et];exact aqI hd1);have hin:t∈S:=W.sub t htm;have at_:∀ {ns:List Int},ns.take (dn+1)=pre++[t]->ns[dn]?=some t:=λ{ns} e=>by
    have:(ns.take (dn+1))[dn]?=some t:=by rw[e,aqs 1e1,apu,arJ];rfl
    rwa[List.getElem?_take_of_lt (ary _)]at this
   have hat:∀ {ns:List Int},ns.take (dn+1)=pre++[t]->atI 4e6 (dn:Int)=some (.int t):=λe=>Ek (by rw[apZ,at_ e];rfl);have rw_:=Wu t hin;refine⟨_,rfl,v,_,1,.ref d,rfl,rfl,SqT.of (W.sm _ _ ht),rfl,_,rfl,_,rfl,mt,_,_,.int t,rfl,rfl,SqL.of W.hm,hat tk,d,_,rfl,dgS W.sm hin,ad t,rfl,⟨_,SqL.of (W.sm _ _ rw_)⟩,
    uJ (K:=K) (a:=ad t) (xs:=(F t).map nmV) (λj σ H6=>∃(v2 v3:Option V) (kvs:List (Key×V)) (ms:List Int),σ=[some (.ref v),some (.ref st),v2,v3,some (.ref mt),some (.int (dn:Int))]/\Wk H H6 st mt rs F S kvs ms/\ms.take (dn+1)=pre++[t]/\dn<ms.length/\(∀ u∈pre,∀ t,some t∈F u->t∈ms)/\∀(q:Nat) n,q<j->(F t)[q]?=some (some n)->n∈ms)
    ⟨v2,v3,kvs,ms,rfl,W,tk,hd1,don,(λq n h=>absurd h (arF _))⟩ (λj σ H6 _ ⟨_,_,_,_,_,w6,_⟩=>SqL.of (w6.sm _ _ rw_)) ?_ ?_⟩
   ·clear W don hdl ml hd1 tk et ZY htm
    rintro j x σ H6 u hx ⟨v2,v3,kvs,ms,rfl,W,tk,hd1,don,Iu⟩ hut;have hlj:j<(F t).length:=(by have:=(apS.mp hx).1;rwa[apR]at this);have fj:(F t)[j]?=some (F t)[j]:=apT hlj;have hxe:x=nmV (F t)[j]:=by
     rw[apZ,fj]at hx;exact(aqh hx).symm
    subst hxe;have htm:t∈ms:=apW (at_ tk);refine⟨u,_,rfl,SqT.of ag,rfl,_,_,rfl,_,_,rfl,rfl,?_⟩;cases hc:(F t)[j] with
    | none =>
     rw[hc]at fj;have s7:=az.upd (o:=.tup [.int (j:Int),nmV none]) hut;refine⟨_,rfl,rfl,_,rfl,xt (xt ⟨_,_,kvs,ms,rfl,W.same s7,tk,hd1,don,λq n hq e=>?_⟩)⟩;rcases arb q j with z|z
     ·exact Iu q n z e
     ·rw[show q=j by omega,fj]at e
      cases e
    | some n =>
     rw[hc]at fj;have mf:=apW fj;have hk:n∈S:=hcl t hin n mf;have s7:=az.upd (o:=.tup [.int (j:Int),nmV (some n)]) hut;have W7:=W.same s7;refine⟨_,rfl,rfl,_,rfl,yt ⟨_,rfl,_,rfl,st,_,rfl,um.k (k:=Sum.inl n) W7.hs,_,rfl,?_⟩⟩;rw[W7.ky.isS];by_cases hn6:n∈ms
     ·rw[decide_eq_true hn6]
      refine xt ⟨_,_,kvs,ms,rfl,W7,tk,hd1,don,λq n' hq e=>?_⟩;rcases arb q j with z|z
      ·exact Iu q n' z e
      ·rw[show q=j by omega,fj]at e
       cases e;exact hn6
     ·rw[decide_eq_false hn6]
      refine yt ⟨_,rfl,_,rfl,mt,_,_,.int t,rfl,rfl,SqL.of W7.hm,hat tk,_,rfl,by show 2<=sizeLine;decide,λu2 hu2=>?_⟩;have s8:=az.upd (o:=.tup [V.int t,V.int (j:Int)]) hu2;have W8:=W7.same s8;have W9:=W8.put (v:=.ref u2) hst apt hn6 hk (.step (W.snd t htm) mf);have nms:mt≠st:=ay W8.hm W8.hs 1e0;have zm9:upd (upd (upd H6 u (.tup [.int (j:Int),nmV (some n)])) u2 (.tup [V.int t,V.int (j:Int)])) st (.dK (putK kvs (Sum.inl n) (.ref u2))) mt=some (.lst (ms.map V.int)):=(by rw[ah nms];exact W8.hm);refine⟨_,rfl,_,rfl,st,_,rfl,Em.k (k:=Sum.inl n) W8.hs (few W8.ky W8.nd W8.sub),?_⟩;refine⟨_,rfl,.inl ⟨rfl,_,SqL.of zm9⟩,_,rfl,mt,_,_,rfl,rfl,zm9,by rw[apR];exact oK (aqk (uO W8.nd W8.sub) 1e1),?_⟩;refine⟨_,_,_,ms++[n],rfl,W9,by rw[aqM 1e1];exact tk,by rw[ap4];omega,λu h t' e=>aqm _ (don u h t' e),λq n' hq e=>?_⟩;rcases arb q j with z|z
      ·exact aqm _ (Iu q n' z e)
      ·rw[show q=j by omega,fj]at e
       cases e;exact ap1 _ ap7
   ·clear W don hdl ml hd1 tk et ZY htm
    rintro σ H6 ⟨v2,v3,kvs,ms,rfl,W,tk,hd1,don,Iu⟩;rw[apR]at Iu;have ml:=uO W.nd W.sub;refine⟨_,rfl,_,1,rfl,rfl,S.length+1-(dn+1),by omega,dn+1,v2,v3,kvs,ms,rfl,rfl,W,λu h t' e=>?_,hd1⟩;rw[tk]at h;rcases aqc.mp h with g|g
    ·exact don u g t' e
    ·rw[apU.mp g]at e
     obtain⟨q,hq⟩:=List.mem_iff_getElem?.mp e;exact Iu q t' (apS.mp hq).1 hq
  ·have hge:ms.length<=dn:=by
    have h1:¬(dn:Int)<((ms.map V.int).length:Int):=(by simpa using h);rw[apR]at h1;omega
   rw[apX hge]at don;exact⟨_,rfl,k st kvs ms H4 W.sm hst W.hs W.ky W.nd λt=>⟨W.snd t,abV W.rts don⟩⟩
end
end K44
end
section
namespace L2
open PySem PySem.Spec PyProof.Rows LX
section
variable{X:Cx}
noncomputable def apv(H₀:Hp)(t:TS):TS:=λD σ H=>t {D with nx:=λσ1 H1=>∃ d o kvs,H1 d=some 6e0/\(∀ o u,H₀ d≠some (.frz o u))/\D.nx σ1 (upd H1 d 3e0)} σ H
theorem ZZ{st:Stmt}{t:TS}(h:PS X st t):PS X st (apv X.H₀ t):=by
 intro pins s σ H D I q;refine thn (h pins s σ H _ I q) λf s1 z=>?_;cases f with
 | next =>
  obtain⟨σ1,H1,I1,d,o,kvs,hd,h0,q⟩:=z;exact⟨σ1,_,I1.adT hd h0 8e1 8e1 8e1,q⟩
 | ret v=>exact z
 | brk=>exact z
 | cont=>exact z
theorem aeL{n:Option Int}{zs:List Int}{f:Option Int->V}(hf:f none=.non)(hs:∀ t,f (some t)=.int t):inV (f n) (zs.map V.int)=(match n with|none=>false|some t=>decide (t∈zs)):=by
 unfold inV;cases n with
 | none =>
  rw[hf];show _=false;rw[List.any_map];refine List.any_eq_false.mpr λz _=>?_;simp[eqV]
 | some t =>
  rw[hs,List.any_map];show _=decide (t∈zs);induction zs with
  | nil=>rfl
  | cons a r ih =>
   rw[aro,ih];by_cases e:a=t
   ·subst e
    simp[eqV]
   ·have:(t∈a::r)↔t∈r:=by
     rw[aqi];exact⟨λh=>h.elim (λz=>absurd z.symm e) id,.inr⟩
    simp[eqV,e,this]
end
end L2
end
section
namespace K44
open PySem L2 LX
section
variable{P:Program}{w:World}{K:W.Frag}{mg:Str->Option Value}{base:Heap}{D:Ad}
theorem UX{H:Hp}{xs:List V}{ws:List Wd}(r:Rel H xs ws){i:Nat}{x:V}(h:xs[i]?=some x):∃ w,ws[i]?=some w/\WV H x w:=by
 have hi:=(apS.mp h).1;have hw:i<ws.length:=by rw[<-r.1];exact hi
 obtain⟨v,hv,wv⟩:=r.get hw;rw[hv]at h;cases h;exact⟨_,apT hw,wv⟩
noncomputable def aa1:Sp:=λvs H Q _=>∃ v w d kvs S,vs=[v,.ref d]/\WV H v w/\Rd H d 3e0/\Kys kvs S/\Q (nmV (amg S w)) H
noncomputable abbrev Ln:List Str:=["value","things"]
theorem IS:aw Ln ["value","things"] (aq tj):=fsc
theorem IT(F:Fun K "thing_among" "thing_among" tj D.fF D.lh)(T:Txt K mg D)
  (kW:9e7 1 D.d8 D.hV ["value"] (Pf)):9e7 2 D.fF D.lh ["value","things"] (aa1):=by
 refine F.oa IS F.b2 λcdv A' outer s' H vs Q E hr h=>?_;obtain⟨v,w,d,kvs,S,rfl,wv,hd,hk,k⟩:=h;have hu:=jK hr;refine⟨_,(PSs.nox (aj (bQ (PW.pt (pw_and (aK rB (kW.c hr T.lV T.j9 bq 7e3) aP (aW _)) (pw_and1 (rf (XW hu 6e9 (pv 1)) 3e1))))
   (ai (aI 6e9))
   aR)
  (ai (aI d7)))),?_⟩
 refine⟨_,rfl,v,w,rfl,wv,?_⟩;cases w with
 | no=>exact⟨rfl,_,rfl,a9 (λh=>absurd h (aqt.mp 1e4)) (λ_=>xt k)⟩
 | num n=>exact⟨rfl,_,rfl,a9 (λh=>absurd h (aqt.mp 1e4)) (λ_=>xt k)⟩
 | th t =>
  obtain⟨a,rfl,ht⟩:=wv;refine⟨rfl,_,rfl,a9 2e7 (λh=>absurd 1e4 h)⟩;refine⟨_,rfl,a,_,1,.int t,rfl,rfl,SqT.of ht,rfl,_,rfl,d,_,rfl,.inl ⟨kvs,Sum.inl t,hd,rfl,rfl⟩,_,rfl,?_⟩;rw[hk.isS];by_cases c:t∈S
  ·rw[decide_eq_true c]
   rw[show amg S (.th t)=some t from if_pos c]at k;exact yt ⟨_,rfl,a,_,1,.int t,rfl,rfl,SqT.of ht,rfl,k⟩
  ·rw[decide_eq_false c]
   rw[show amg S (.th t)=none from if_neg c]at k;exact xt k
noncomputable def Ph(D:Ad):Sp:=λvs H Q _=>∃ x A s l xs ws d kvs S,vs=[.ref x,.ref l,.ref d]/\IH D H x A s/\Good s/\H l=some 5e6/\Rel H xs ws/\ws.length<=100000/\H d=some 3e0/\Kys kvs S/\(∀ t∈S,∃ ws,(t,ws)∈s.aJ)/\S.Nodup/\S.length<=10000/\∀ st kv ms H',az H H'->H st=none->H' st=some (.dK kv)->Kys kv ms->ms.Nodup->(∀ t,t∈ms↔Led ws (fld s) S t)->Q (.ref st) H'
noncomputable abbrev oo:List Str:=["self","leads","things","fields","t"]
theorem mN:aw oo ["self","leads","things"] (aq iY):=fsc
theorem Cm(F:Fun K "led_among" "Heap.led_among" iY D.bF D.fi)(T:Txt K mg D)
  (oV:9e7 2 D.fF D.lh ["value","things"] (aa1))
  (vj:9e7 1 D.gu D.nv ["view"] (RH)):9e7 3 D.bF D.fi ["self","leads","things"] (Ph D):=by
 refine F.oa mN F.b3 λcdv A' outer s' H vs Q E hr h=>?_;obtain⟨x,A,s,l,xs,ws,d,kvs,S,rfl,J,G,hl,rx,hw,hd,hk,hin,hnd,Zv,k⟩:=h;have hu:=jK hr;refine⟨_,(PSs.nox (aj (aS (i:=3) mN.nd rfl 1e9 jx)
  (aj (gq aqg rfl (lS (uK (pv 2))) (bA (i:=4) mN.nd rfl 1e9)
   (ai (lQ hu (pv 3) (pv 4) (kY (cl:=[("things",s'.heap.objs.size+1)]) (x := "value") (idx:=[2]) (NC:=["value","things"]) ?co2 rfl (fe (dq hu 1e8 (pv 4) 1e6)) (λC fp s₀ H₀=>(oV.c hr T.zG T.oH Bo (aa (pv 0) 2e4)))) rfl)))
  (ai (aI (X3 (vj.c hr T.Nl T.va bq (aa (cg (aa (kY (cl:=[("things",s'.heap.objs.size+1)]) (x := "value") (idx:=[2]) (NC:=["value","things"]) ?co1 rfl (fe (pv 1)) (λC fp s₀ H₀=>(oV.c hr T.zG T.oH Bo (aa (pv 0) 2e4)))) 6e5)) ak)))))))),?_⟩
 case co1 =>
  exact iC (sc:=aq iY) (N:=oo) (ns:=["things"]) rfl rfl rfl 2e2 rfl rfl (by
   intro q hq;rw[apU.mp hq];rfl)
 case co2 =>
  exact iC (sc:=aq iY) (N:=oo) (ns:=["things"]) rfl rfl rfl 2e2 rfl rfl (by
   intro q hq;rw[apU.mp hq];rfl)
 intro fa hfa;have s1:=az.upd (o:=.dK []) hfa;refine⟨_,rfl,d,kvs,s1 _ _ hd,λo=>?_⟩;have nfd:fa≠d:=aqe (ar hd hfa);have xd:x≠d:=ay J.ax hd 1e0;have ld:l≠d:=ay hl hd 1e0;have okH:∀ Hc:Hp,((∀ b u,b≠d->H b=some u->Hc b=some u)/\Hc d=some 6e0)->bI H Hc:=λHc oc b us q=>oc.1 b _ (ay q hd 1e0) q;have dg:∀ {Hc:Hp},((∀ b u,b≠d->H b=some u->Hc b=some u)/\Hc d=some 6e0)->∀ {t:Int} {ws:List Wd},(t,ws)∈s.aJ->um Hc A.fh (.int t) (some (.ref (A.fa t))):=λ{Hc} oc {t ws} m=>by
  have e:iX 9e2 4e4=some (.ref (A.fa t)):=by rw[X9,G.get m];rfl
  by_cases c:A.fh=d
  ·have ek:kvs=s.aJ.map (fkv A):=by
    have:=J.afh
    rw[c,hd]at this;injection this with this;injection this
   exact .inl ⟨kvs,Sum.inl t,.inr ⟨o,by rw[c];exact oc.2⟩,rfl,by rw[ek,e]⟩
  ·exact .inl ⟨_,Sum.inl t,.inl (oc.1 _ _ c J.afh),rfl,e.symm⟩
 have lk:=hk.len;refine⟨d,o,kvs,rfl,ag,rP (d:=d) (o:=o) (kvs:=kvs) (λi σ Hc=>∃(v4:Option V) (ad:Int->Addr),σ=[some 7e5,some (.ref l),some (.ref d),some (.ref fa),v4]/\((∀ b u,b≠d->H b=some u->Hc b=some u)/\Hc d=some 6e0)/\Hc fa=some (.dK ((S.take i).map λt=>(Sum.inl t,.ref (ad t))))/\∀ t∈S.take i,Hc (ad t)=some (.lst (((fld s t).map (amg S)).map nmV)))
  ⟨none,λ_=>0,rfl,⟨λb u n q=>by rw[ah n];exact s1 b u q,ag⟩,by rw[ah nfd];exact ag,(λt h=>nomatch h)⟩ (λi σ Hc _ ⟨_,_,_,oc,_⟩=>oc.2) ?_ ?_⟩
 ·rintro i p σ Hc hi ⟨v4,ad,rfl,oc,hf,Wu⟩
  obtain⟨t,ht,ekv,ep⟩:=hk.at_ hi;have hlt:i<S.length:=(apS.mp ht).1;have et:S[i]=t:=(apS.mp ht).2;have mt:t∈S:=apW ht;obtain⟨w0,m⟩:=hin t mt;obtain⟨hl0,rl⟩:=J.afl _ _ m;have tc:=okH Hc oc;have fm:=G.fld m;rw[<-fm]at rl;have nl:A.fa t≠d:=ay hl0 hd 1e0;have hlc:=oc.1 _ _ nl hl0;have f6:=G.f6 _ _ m;rw[<-fm]at f6;have lz:(fld s t).length<=sizeLine:=lN 1e1;refine⟨_,rfl,x,D.ab,_,_,.ref A.fh,rfl,oc.1 _ _ xd J.ax,T.ae,T.aD,uj,_,rfl,A.fh,.ref (A.fa t),rfl,(by rw[ekv];exact dg oc m),A.fa t,rfl,⟨_,SqL.of hlc⟩,λL hL=>?_⟩;refine jn (K:=K) (a:=A.fa t) (xs:=A.fx t) (λi ys H2=>ys=((fld s t).take i).map (λw=>nmV (amg S w))/\az Hc H2/\H2 L=some 5e0) ⟨rfl,az.upd hL,ag⟩ (λi ys H2 hi ⟨e,_,z⟩=>⟨z,by rw[e,apR,ap6,<-rl.1];omega⟩) (λi ys H2 hi ⟨_,s2,_⟩=>SqL.of (s2 _ _ hlc)) (by rw[rl.1];exact lz) (λi y ys H2 hi ⟨e,s2,z⟩=>?_) (λys H2 ⟨e,s2,z⟩=>?_)
  ·obtain⟨wd,hw,wv⟩:=UX rl hi
   refine⟨_,rfl,_,rfl,y,wd,d,kvs,S,rfl,wv.keep (tc.trans (bI.of s2)),.inr ⟨o,s2 _ _ oc.2⟩,hk,z,?_,λb u q=>by rw[ah (ar q hL)];exact s2 b u q,ag⟩;have hlt:i<(fld s t).length:=(apS.mp hw).1;rw[aql hlt,ap3,e,(apS.mp hw).2];rfl
  ·rw[rl.1,apX (apV _)]at e
   have zf:H2 fa=some (.dK ((S.take i).map λt=>(Sum.inl t,.ref (ad t)))):=s2 _ _ hf;have kyf:Kys ((S.take i).map λt=>((Sum.inl t:Key),V.ref (ad t))) (S.take i):=(by unfold Kys;rw[aqv];rfl);have ni:t∉S.take i:=λz=>by
    have:=aqz.mp (show(S.take i++S.drop i).Nodup by rw[aqJ];exact hnd)
    exact this.2.2 t z t (by rw[aqV hlt,et];exact ap7) rfl
   have nLf:L≠fa:=aqe (ar hf hL);refine⟨_,rfl,_,rfl,fa,_,rfl,(by rw[ekv];exact Em.k (k:=Sum.inl t) zf (by rw[apR,ap6];exact oK 1e1)),?_⟩;rw[pT _ (kyf.non ni)];refine⟨_,λu=>if u=t then L else ad u,rfl,⟨λb u n q=>?_,?_⟩,?_,λu hu'=>?_⟩
   ·rw[ah (ar q hfa)]
    exact s2 _ _ (oc.1 b u n q)
   ·rw[ah (aqe nfd)]
    exact s2 _ _ oc.2
   ·rw[ag,aql hlt,ap3,et]
    congr 3
    ·refine aqD λu hu'=>?_
     dsimp only;rw[if_neg λz=>ni (by rw[<-z];exact hu')]
    ·simp only[aqd,aq9,if_true]
   ·rw[aql hlt,et]at hu'
    dsimp only;by_cases c:u=t
    ·subst c
     rw[if_pos rfl,ah nLf,z,e,aqv];rfl
    ·rw[if_neg c]
     have mu:u∈S.take i:=(aqc.mp hu').resolve_right λz=>c (apU.mp z);have q:=Wu u mu;rw[ah (λz=>by rw[z,hf]at q;cases q)];exact s2 _ _ q
 ·rintro σ Hc ⟨v4,ad,rfl,oc,hf,Wu⟩
  rw[lk,apX (apV _)]at hf Wu;have tc:=okH Hc oc;have hlc:=oc.1 _ _ ld hl;have lz:ws.length<=sizeLine:=aqk hw 2e6;have rl:=rx;refine⟨_,rfl,l,rfl,⟨_,SqL.of hlc⟩,λL hL=>?_⟩;refine jn (K:=K) (a:=l) (xs:=xs) (λi ys H2=>ys=(ws.take i).map (λw=>nmV (amg S w))/\az Hc H2/\H2 L=some 5e0) ⟨rfl,az.upd hL,ag⟩ (λi ys H2 hi ⟨e,_,z⟩=>⟨z,by rw[e,apR,ap6,<-rl.1];omega⟩) (λi ys H2 hi ⟨_,s2,_⟩=>SqL.of (s2 _ _ hlc)) (by rw[rl.1];exact lz) (λi y ys H2 hi ⟨e,s2,z⟩=>?_) (λys H2 ⟨e,s2,z⟩=>?_)
  ·obtain⟨wd,hw,wv⟩:=UX rl hi
   refine⟨_,rfl,_,rfl,y,wd,d,kvs,S,rfl,wv.keep (tc.trans (bI.of s2)),.inr ⟨o,s2 _ _ oc.2⟩,hk,z,?_,λb u q=>by rw[ah (ar q hL)];exact s2 b u q,ag⟩;have hlt:i<ws.length:=(apS.mp hw).1;rw[aql hlt,ap3,e,(apS.mp hw).2];rfl
  ·rw[rl.1,apX (apV _)]at e
   refine⟨_,rfl,by show 2<=sizeLine;decide,λv hv=>?_⟩;have s3:=az.upd (o:=.tup [V.ref L,V.ref fa]) hv;have s4:=s2.trans s3;have bk:∀ {b:Addr},upd H2 v (.tup [V.ref L,V.ref fa]) b=none->H b=none:=λ{b} q=>by
    cases z:H b with
    | none=>rfl
    | some u =>
     by_cases c:b=d
     ·rw[c,s4 _ _ oc.2]at q;cases q
     ·rw[s4 _ _ (oc.1 b u c z)]at q;cases q
   refine⟨v,L,fa,ws.map (amg S),S,λt=>(fld s t).map (amg S),ad,rfl,ag,by rw[s3 _ _ z,e,aqv];rfl,s4 _ _ hf,λt m=>s4 _ _ (Wu t m),λt m=>?_,λu _ t m=>?_,Zv,λst kv ms H5 s5 hst h5 k5 n5 m5=>?_⟩
   ·obtain⟨w,_,ew⟩:=aqf.mp m
    exact(uN.mp ew).2
   ·obtain⟨w,_,ew⟩:=aqf.mp m
    exact(uN.mp ew).2
   ·have fd5:=s5 _ _ (s4 _ _ oc.2)
    refine⟨d,o,kvs,fd5,(λo' u' q=>by have q:H d=some (.frz o' u'):=q;rw[hd]at q;cases q),?_⟩;have nst:st≠d:=λq=>by rw[q,fd5]at h5;cases h5
    refine k st kv ms _ (λb u q=>?_) (bk hst) (by rw[ah nst];exact h5) k5 n5 λt=>(m5 t).trans abU;by_cases c:b=d
    ·subst c
     rw[hd]at q;cases q;exact ag
    ·rw[ah c]
     exact s5 _ _ (s4 _ _ (oc.1 b u c q))
theorem lookup_mem{α:Type}{fs:List (Int×α)}{t:Int}{w:α}(m:(t,w)∈fs):∃ v,fs.lookup t=some v:=by
 cases e:fs.lookup t with
 | some v=>exact⟨v,rfl⟩
 | none=>exact absurd rfl (lookup_none e _ m)
theorem VO(gs:List Int):(gs.map V.int).all mS=true:=aq5.mpr λv hv=>by obtain⟨n,_,rfl⟩:=aqf.mp hv;rfl
theorem Z1(n:Option Int):mS (nmV n)=true:=by cases n<;>rfl
theorem Um{gs:List Int}(h:gs.Pairwise (·< ·)){i:Nat}{t:Int}(e:gs[i]?=some t):t∉gs.take i:=λm=>by
 have hlt:=(apS.mp e).1;have et:=(apS.mp e).2
 have:=arB.mp (show(gs.take i++gs.drop i).Pairwise (·< ·) by rw[aqJ];exact h)
 have:=this.2.2 t m t (by rw[aqV hlt,et];exact ap7)
 omega
theorem take_snoc{α:Type}{gs:List α}{i:Nat}{t:α}(e:gs[i]?=some t):gs.take (i+1)=gs.take i++[t]:=by rw[aql (apS.mp e).1,(apS.mp e).2]
theorem Ye(bs:List (Int×Int))(gs:List Int):(sdG bs gs).length<=gs.length:=List.length_filterMap_le _ _
noncomputable def UY(D:Ad):Sp:=λvs H Q _=>∃ x A s g gs,vs=[.ref A.nt,.ref g]/\IH D H x A s/\s.names.length=8/\H g=some (.lst (gs.map V.int))/\∀ A' H',IH D H' x A' {s with names:=s.names.map (nmG gs)}->Fr 4e1 H (cL x A' {s with names:=s.names.map (nmG gs)}) H'->Q .non H'
noncomputable abbrev qC:List Str:=["self","things"]
theorem yD:aw qC ["self","things"] (aq js):=fsc
theorem yE(F:Fun K "settle" "NameTable.settle" js D.cI D.g7)(T:Txt K mg D):9e7 1 D.cI D.g7 ["self","things"] (UY D):=by
 refine F.oa yD F.b2 λcdv A' outer s' H vs Q E hr h=>?_;obtain⟨x,A,s,g,gs,rfl,J,h8,hg,k⟩:=h;refine⟨_,(PSs.nox (ai (ja (pv 0) (kY (cl:=[("things",s'.heap.objs.size+1)]) (x := "t") (idx:=[1]) (NC:=["t","things"]) ?co1 rfl (fe 1e8) (λC fp s₀ H₀=>(rN (aK (r:=rIn K false) Gh (pv 0) (pv 1) 3e1) d7 (pv 0)))) rfl))),?_⟩
 case co1 =>
  exact iC (sc:=aq js) (N:=qC) (ns:=["things"]) rfl rfl rfl 2e2 rfl rfl (by
   intro q hq;rw[apU.mp hq];rfl)
 refine⟨_,rfl,A.nt,D.aH,A.ntx,_,.ref A.nl,rfl,J.ant,T.eE,T.cn,rfl,A.nl,rfl,⟨_,SqL.of J.anl⟩,λL hL=>?_⟩;refine jn (K:=K) (a:=A.nl) (xs:=s.names.map nmV) (λi zs H2=>zs=((s.names.take i).map (nmG gs)).map nmV/\az H H2/\H2 L=some (.lst zs)) ⟨rfl,az.upd hL,ag⟩ (λi zs H2 hi ⟨e,_,z⟩=>⟨z,by rw[apR]at hi;rw[e,apR,apR,ap6];omega⟩) (λi zs H2 hi ⟨_,s2,_⟩=>SqL.of (s2 _ _ J.anl)) (by rw[apR,h8];decide) (λi y zs H2 hi ⟨e,s2,z⟩=>?_) (λzs H2 ⟨e,s2,z⟩=>?_)
 ·rw[apZ]at hi
  obtain⟨n,hn,rfl⟩:=aqa.mp hi;have tk:=take_snoc hn;refine⟨_,rfl,_,rfl,g,_,rfl,.inl (SqL.of (s2 _ _ hg)),Z1 n,VO gs,_,rfl,?_⟩;have sm:∀ {o:HO},az H (upd H2 L o):=λb u q=>by rw[ah (ar q hL)];exact s2 b u q
  show if inV (nmV n) (gs.map V.int)=true then _ else _;rw[aeL (f:=nmV) rfl (λ_=>rfl),tk,e];cases n with
  | none =>
   refine xt ⟨_,rfl,z.trans (by rw[e]),?_,sm,ag⟩;rw[ap3,ap3];rfl
  | some t =>
   show if decide (t∈gs)=true then _ else _;by_cases c:t∈gs
   ·rw[decide_eq_true c]
    refine yt ⟨z.trans (by rw[e]),?_,sm,ag⟩;rw[ap3,ap3];simp[nmG,c,nmV]
   ·rw[decide_eq_false c]
    refine xt ⟨_,rfl,z.trans (by rw[e]),?_,sm,ag⟩;rw[ap3,ap3];simp[nmG,c,nmV]
 ·rw[apR,apX (apV _)]at e
  rw[e]at z;refine⟨_,rfl,A.nt,D.aH,A.ntx,_,rfl,s2 _ _ J.ant,T.eE,T.cn,by show 1<1000;decide,?_⟩;have w:=J.aps (ns:=s.names.map (nmG gs)) hL;have sm:az (upd (upd H L (.lst ((s.names.map (nmG gs)).map nmV))) A.nt (.ins D.aH A.ntx [("things_named",.ref L)])) (upd H2 A.nt (.ins D.aH A.ntx [("things_named",.ref L)])):=λb u q=>by
   by_cases c:b=A.nt
   ·rw[c,ag]at q ⊢;exact q
   ·rw[ah c]at q ⊢
    by_cases c2:b=L
    ·rw[c2,ag]at q;rw[c2,z];exact q
    ·rw[ah c2]at q;exact s2 b u q
  exact k _ _ (w.1.same sm) (w.2.trans (Fr.same sm))
noncomputable def wsF(s:HS)(gs:List Int):HS:={s with cC:=brG s.cC gs,xB:=s.xB++sdG s.cC gs}
theorem UZ{s:HS}:wsF s []=s:=by cases s;simp[wsF,brG,sdG]
noncomputable def U0(D:Ad):Sp:=λvs H Q _=>∃ x A s g gs,vs=[.ref A.wt,.ref g]/\IH D H x A s/\H g=some (.lst (gs.map V.int))/\gs.Pairwise (·< ·)/\gs.length<=10000/\s.xB.length<=10000/\∀ A' H',IH D H' x A' (wsF s gs)->Fr 4e1 H (cL x A' (wsF s gs)) H'->Q .non H'
noncomputable abbrev Ao:List Str:=["self","things","t"]
theorem pY:aw Ao ["self","things"] (aq lA):=fsc
theorem yF(F:Fun K "settle" "WordTable.settle" lA D.cH D.g5)(T:Txt K mg D):9e7 1 D.cH D.g5 ["self","things"] (U0 D):=by
 refine F.oa pY F.b2 λcdv A' outer s' H vs Q E hr h=>?_;obtain⟨x,A,s,g,gs,rfl,J,hg,asc,hn,hsd,k⟩:=h;have hu:=jK hr;refine⟨_,(PSs.nox (ai (gq aqg rfl (fe (cc PH rfl T.D5 PyProof.Rows.Boot.«sorted» 2e4)) (bA (i:=2) pY.nd rfl 1e9)
   (ai (bQ (rf (XW hu (pv 2) 1e8) 3e1)
    (ai (aG (Mj PySem.F.plainAttrs_list PySem.F.slot_list_append PySem.F.type_list_append rh 1e8 (aa (KG 1e8 (pv 2) ⟨rfl,rfl,rfl,rfl⟩) ak))))
    aR))))),?_⟩
 refine⟨_,rfl,g,gs,rfl,SqL.of hg,by omega,asc.imp λh=>Int.le_of_lt h,λp hp=>?_⟩;have s1:=az.upd (o:=.lst (gs.map V.int)) hp;have J1:=J.same s1;have nfp:¬cL x A s p:=J.fresh hp;refine⟨p,rfl,⟨_,SqL.of ag⟩,j5 (K:=K) (a:=p) (xs:=gs.map V.int) (λi σ H2=>∃ v2,σ=[some (.ref A.wt),some (.ref g),v2]/\IH D H2 x A (wsF s 7e6)/\Fr 4e1 (upd H p (.lst (gs.map V.int))) (cL x A (wsF s 7e6)) H2)
  ⟨none,rfl,(by rw[aqW,UZ];exact J1),(by rw[aqW,UZ];exact Fr.refl)⟩ (λi σ H2 _ ⟨_,_,_,fr⟩=>SqL.of (fr.out nfp ag).1) ?_ ?_⟩
 ·rintro i y σ H2 hi ⟨v2,rfl,J2,fr⟩
  rw[apZ]at hi;obtain⟨t,ht,rfl⟩:=aqa.mp hi;have ni:=Um asc ht;have tk:=take_snoc ht;have hi':=(apS.mp ht).1;have lk:(brG s.cC 7e6).lookup t=s.cC.lookup t:=Td ni;have vb:iX ((wsF s 7e6).cC.map bkv) 4e4=(s.cC.lookup t).map V.int:=by rw[adW];show((brG s.cC 7e6).lookup t).map V.int=_;rw[lk]
  refine⟨_,rfl,_,rfl,A.wt,D.aN,A.wtx,_,.ref A.wb,rfl,J2.awt,T.dG,T.bP,rfl,A.wb,_,rfl,um.k (k:=Sum.inl t) J2.awb,_,rfl,?_⟩;rw[vb,aq0];cases e:s.cC.lookup t with
  | none =>
   have es:wsF s (gs.take (i+1))=wsF s 7e6:=by
    unfold wsF;rw[tk,RF,RG,e,filter_none (by rw[lk];exact e)];simp
   rw[es];exact xt ⟨_,rfl,J2,fr⟩
  | some v =>
   have es:wsF s (gs.take (i+1))={wsF s 7e6 with cC:=(brG s.cC 7e6).filter λp=>decide (p.1≠t),xB:=(s.xB++sdG s.cC 7e6)++[v]}:=by
    unfold wsF;rw[tk,RF,RG,e];simp
   rw[es];rw[e]at vb;refine yt ⟨_,rfl,A.wt,D.aN,A.wtx,_,.ref A.wl,rfl,J2.awt,T.dG,T.lT,rfl,.inl ⟨rfl,_,SqL.of J2.awl⟩,?_⟩;refine⟨_,rfl,A.wt,D.aN,A.wtx,_,.ref A.wb,rfl,J2.awt,T.dG,T.bP,rfl,A.wb,rfl,.inl ⟨_,.inl J2.awb⟩,_,rfl,_,Sum.inl t,.int v,J2.awb,rfl,vb,?_⟩;rw[show wz ((wsF s 7e6).cC.map bkv) 4e4=((brG s.cC 7e6).filter λp=>decide (p.1≠t)).map bkv from ZX];have w1:=J2.alh (bs:=(brG s.cC 7e6).filter λp=>decide (p.1≠t));have w2:=w1.1.apk (zs:=(s.xB++sdG s.cC 7e6)++[v]);refine⟨A.wl,_,.int v,rfl,rfl,w1.1.awl,oK ?_,?_⟩
   ·have:=Ye s.cC 7e6
    rw[ap6]at this;show((s.xB++sdG s.cC 7e6).map V.int).length<=20000;rw[apR,ap4];omega
   ·rw[ap3]at w2
    exact⟨_,rfl,w2.1,(fr.trans w1.2).trans w2.2⟩
 ·rintro σ H2 ⟨v2,rfl,J2,fr⟩
  rw[apR,apX (apV _)]at J2 fr;exact k _ _ J2 ((Fr.same s1).trans fr)
noncomputable def KQ(D:Ad):Sp:=λvs H Q _=>∃ x A s g gs,vs=[.ref x,.ref g]/\IH D H x A s/\s.names.length=8/\¬cL x A s g/\H g=some (.lst (gs.map V.int))/\gs.Pairwise (·< ·)/\gs.length<=10000/\s.xB.length<=10000/\(∀ t∈gs,∃ ws,(t,ws)∈s.aJ)/\∀ A' H',IH D H' x A' (letGo s gs)->Fr 4e1 H (cL x A' (letGo s gs)) H'->Q .non H'
noncomputable abbrev Lo:List Str:=["self","gone","t"]
theorem xC:aw Lo ["self","gone"] (aq tf):=fsc
theorem IU(F:Fun K "let_go" "Heap.let_go" tf D.dF D.jW)(T:Txt K mg D)
  (lF:9e7 1 D.cI D.g7 ["self","things"] (UY D))
  (lG:9e7 1 D.cH D.g5 ["self","things"] (U0 D)):9e7 2 D.dF D.jW ["self","gone"] (KQ D):=by
 refine F.oa xC F.b2 λcdv A' outer s' H vs Q E hr h=>?_;obtain⟨x,A,s,g,gs,rfl,J,h8,nfg,hg,asc,hn,hsd,hin,k⟩:=h;refine⟨_,(PSs.nox (aj (gq aqg rfl (fe (pv 1)) (bA (i:=2) xC.nd rfl 1e9)
   (ai (aG (KG 1e8 (pv 2) ⟨rfl,rfl,rfl,rfl⟩))))
  (aj (aG (lF.m hr 1e8 T.eE T.yx bq 2e4))
  (ai (aG (lG.m hr 1e8 T.dG T.yw bq 2e4)))))),?_⟩
 refine⟨_,rfl,g,rfl,⟨_,SqL.of hg⟩,j5 (K:=K) (a:=g) (xs:=gs.map V.int) (λi σ H2=>∃ v2,σ=[some 7e5,some (.ref g),v2]/\IH D H2 x A {s with aJ:=drG s.aJ 7e6}/\Fr 4e1 H (cL x A {s with aJ:=drG s.aJ 7e6}) H2)
  ⟨none,rfl,(by rw[aqW,UW];exact J),(by rw[aqW,UW];exact Fr.refl)⟩ (λi σ H2 _ ⟨_,_,_,fr⟩=>SqL.of (fr.out nfg hg).1) ?_ ?_⟩
 ·rintro i y σ H2 hi ⟨v2,rfl,J2,fr⟩
  rw[apZ]at hi;obtain⟨t,ht,rfl⟩:=aqa.mp hi;have ni:=Um asc ht;have tk:=take_snoc ht;obtain⟨ws,m⟩:=hin t (apW ht);obtain⟨v,hv⟩:=lookup_mem (jD.mpr ⟨m,ni⟩);have vf:iX ((drG s.aJ 7e6).map (fkv A)) 4e4=some (.ref (A.fa t)):=by rw[X9,hv];rfl
  refine⟨_,rfl,x,D.ab,_,_,.ref A.fh,rfl,J2.ax,T.ae,T.aD,uj,A.fh,rfl,.inl ⟨_,.inl J2.afh⟩,_,rfl,_,Sum.inl t,_,J2.afh,rfl,vf,?_⟩;have w:=J2.aeK (t:=t);rw[ZW];rw[tk,Xj];exact⟨_,rfl,w.1,fr.trans w.2⟩
 ·rintro σ H2 ⟨v2,rfl,J2,fr⟩
  rw[apR,apX (apV _)]at J2 fr;obtain⟨hg2,nf2⟩:=fr.out nfg hg;refine⟨_,rfl,x,D.ab,_,_,.ref A.nt,rfl,J2.ax,T.ae,T.d9,Wg,A.nt,A.ntx,_,rfl,J2.ant,rfl,_,rfl,x,A,_,g,gs,rfl,J2,h8,hg2,λA3 H3 J3 fr3=>?_⟩;obtain⟨hg3,nf3⟩:=fr3.out nf2 hg2;refine⟨_,rfl,x,D.ab,_,_,.ref A3.wt,rfl,J3.ax,T.ae,T.jo,aaZ,A3.wt,A3.wtx,_,rfl,J3.awt,rfl,_,rfl,x,A3,_,g,gs,rfl,J3,hg3,asc,hn,hsd,λA4 H4 J4 fr4=>?_⟩;exact k A4 H4 J4 ((fr.trans fr3).trans fr4)
noncomputable def RI(fs:List (Int×List Wd))(yn:List Int):List Wd:=fs.flatMap λq=>if q.1∈yn then[] else q.2
noncomputable def Mn(s:HS):List Wd:=s.aZ++RI s.aJ s.yng
theorem MQ{fs:List (Int×List Wd)}{q:Int×List Wd}{yn:List Int}:RI (fs++[q]) yn=RI fs yn++(if q.1∈yn then[] else q.2):=by unfold RI;rw[arG];simp
theorem U1{fs:List (Int×List Wd)}{yn:List Int}(h:∀ t ws,(t,ws)∈fs->ws.length<=6):(RI fs yn).length<=6*fs.length:=by
 induction fs with
 | nil=>exact apV _
 | cons q r ih =>
  have i:=ih λt ws m=>h t ws (ap8 _ m)
  have:=h q.1 q.2 ap7
  show((if q.1∈yn then[] else q.2)++RI r yn).length<=6*(r.length+1);rw[ap4];by_cases c:q.1∈yn
  ·rw[if_pos c];simp;omega
  ·rw[if_neg c];omega
theorem Xl{fs:List (Int×List Wd)}{yn:List Int}{w:Wd}:w∈RI fs yn↔∃ t ws,(t,ws)∈fs/\t∉yn/\w∈ws:=by
 unfold RI;rw[arj];constructor
 ·rintro⟨q,mq,h⟩
  by_cases c:q.1∈yn
  ·rw[if_pos c]at h;cases h
  ·rw[if_neg c]at h;exact⟨q.1,q.2,mq,c,h⟩
 ·rintro⟨t,ws,m,c,h⟩
  exact⟨(t,ws),m,by rw[if_neg c];exact h⟩
open Classical in
noncomputable def qc(s:HS):List Int:=s.yng.filter λt=>decide (¬Led (Mn s) (fld s) s.yng t)
noncomputable def eZ(s:HS):HS:=letGo {s with yng:=[]} (qc s)
open Classical in
noncomputable def Mo(s:HS):List Int:=(keys s).filter λt=>decide (¬Led s.aZ (fld s) 9e1 t)
noncomputable def Lp(s:HS):HS:={s with rnd:=true,eL:=Mo s}
noncomputable def zO(s:HS):Re:=if s.rnd=true then(some .on,s) else(none,Lp (eZ s))
noncomputable def Iw(s:HS):HS:=letGo {s with rnd:=false,eL:=[]} s.eL
noncomputable def Tf(s:HS):Re:=if s.rnd=true then(none,Iw s) else(some .no,s)
open Classical in
noncomputable def uP(s:HS)(t:Int):HS:={s with eL:=s.eL.filter λu=>decide (¬Led [.th t] (fld s) s.eL u)}
noncomputable def rdR(s:HS)(n:Option Int):HS:=match n with|some t=>if t∈s.eL then uP s t else s|none=>s
noncomputable def oW(s:HS)(h w:Int):Re:=if ok8 h then(if ok8 w then(none,rdR (uw s h (nmW 1e10)) 1e10) else(some .name,s)) else 3e3
noncomputable def mkR(s:HS)(n:Int):HS:=if s.my=true/\wsum s s.yng+(n+1)>s.room then eZ s else s
noncomputable def oZ(s:HS)(h n:Int):Re:=if ok8 h then(if 0<=n/\n<=6 then(if held (mkR s n)+(n+1)>s.limit then(some .room,mkR s n) else(none,Tb (mkR s n) h n)) else(some .count,s)) else 3e3
theorem qW{l ms:List Int}{p:Int->Bool}(h:∀ t∈l,(p t=true↔t∉ms)):l.filter p=l.filter λt=>decide (t∉ms):=aqO λt m=>by
 have:=h t m
 by_cases c:t∈ms
 ·simp only[c,not_true,decide_false]
  cases e:p t with
  | false=>rfl
  | true=>exact absurd (this.mp e) (by simp[c])
 ·simp only[c,not_false_eq_true,decide_true]
  exact this.mpr c
open Classical in
theorem VP{s:HS}{ms:List Int}(h:∀ t,t∈ms↔Led (Mn s) (fld s) s.yng t):(s.yng.filter λt=>decide (t∉ms))=qc s:=by
 unfold qc;refine(qW λt _=>?_).symm;rw[decide_eq_true_iff,h]
open Classical in
theorem Xm{s:HS}{ms:List Int}(h:∀ t,t∈ms↔Led s.aZ (fld s) (keys s) t):((keys s).filter λt=>decide (t∉ms))=Mo s:=by
 unfold Mo;refine(qW λt _=>?_).symm;rw[decide_eq_true_iff,h]
open Classical in
theorem Xn{s:HS}{t:Int}{ms:List Int}(h:∀ u,u∈ms↔Led [.th t] (fld s) s.eL u):{s with eL:=s.eL.filter λu=>decide (u∉ms)}=uP s t:=by
 unfold uP;congr 1
 refine(qW λu _=>?_).symm;rw[decide_eq_true_iff,h]
theorem Z2{H:Hp}{xs ys:List V}{ws zs:List Wd}(a:Rel H xs ws)(b:Rel H ys zs):Rel H (xs++ys) (ws++zs):=by
 refine⟨by rw[ap4,ap4,a.1,b.1],λi v w h1 h2=>?_⟩;by_cases c:i<xs.length
 ·rw[aqw c]at h1
  rw[aqw (by rw[<-a.1];exact c)]at h2;exact a.2 i v w h1 h2
 ·rw[aqs 1e1]at h1
  rw[aqs (by rw[<-a.1];omega),<-a.1]at h2;exact b.2 _ v w h1 h2
structure Gd(s:HS):Prop where
 g:Good s
 dy:∀ t∈s.eL,t∉s.yng
 dh:∀ t,Wd.th t∈s.aZ->t∉s.eL
 df:∀ u ws t,(u,ws)∈s.aJ->u∉s.eL->Wd.th t∈ws->t∉s.eL
 rd:s.rnd=false->s.eL=[]
theorem mem_keys{s:HS}{t:Int}:t∈keys s↔∃ ws,(t,ws)∈s.aJ:=by
 unfold keys;rw[aqf];exact⟨λ⟨p,m,e⟩=>⟨p.2,by rw[<-e];exact m⟩,λ⟨ws,m⟩=>⟨_,m,rfl⟩⟩
theorem Z3{fs:List (Int×List Wd)}{gs:List Int}(nd:gs.Nodup)(h:∀ t∈gs,∃ ws,(t,ws)∈fs):(drG fs gs).length+gs.length<=fs.length:=by
 have e:fs.length=(fs.filter λp=>decide (p.1∉gs)).length+(fs.filter λp=>!decide (p.1∉gs)).length:=by
  clear h;induction fs with
  | nil=>rfl
  | cons p r ih =>
   rw[List.filter_cons,List.filter_cons];by_cases c:p.1∈gs
   ·simp[c]at ih ⊢;omega
   ·simp[c]at ih ⊢;omega
 have le:gs.length<=((fs.filter λp=>!decide (p.1∉gs)).map (·.1)).length:=uO nd λt m=>by
  obtain⟨ws,mw⟩:=h t m;exact aqf.mpr ⟨(t,ws),aqF.mpr ⟨mw,by simp[m]⟩,rfl⟩
 rw[apR]at le;unfold drG;omega
theorem Good.letGo{s:HS}(g:Good s){gs:List Int}(asc:gs.Pairwise (·< ·))(hin:∀ t∈gs,∃ ws,(t,ws)∈s.aJ)(hh:∀ t,Wd.th t∈s.aZ->t∉gs)(hf:∀ u ws t,(u,ws)∈s.aJ->u∉gs->Wd.th t∈ws->t∉gs)(hy:∀ t∈s.yng,t∉gs)(hd:∀ t∈s.eL,t∉gs):Good (letGo s gs) where
 h8:=g.h8
 n8:=by show(s.names.map (nmG gs)).length=8;rw[apR];exact g.n8
 asc:=arc (List.Sublist.map _ aqE) g.asc
 lt:=λt ws m=>g.lt t ws (jD.mp m).1
 f6:=λt ws m=>g.f6 t ws (jD.mp m).1
 hh:=λt m=>by obtain⟨ws,q⟩:=g.hh t m;exact⟨ws,jD.mpr ⟨q,hh t m⟩⟩
 ff:=λu ws t m h=>by obtain⟨w',q⟩:=g.ff u ws t (jD.mp m).1 h;exact⟨w',jD.mpr ⟨q,hf u ws t (jD.mp m).1 (jD.mp m).2 h⟩⟩
 nn:=λt m=>by
  obtain⟨n,mn,e⟩:=aqf.mp (show some t∈s.names.map (nmG gs) from m);cases n with
  | none=>cases e
  | some u =>
   have e:(if u∈gs then none else some u)=some t:=e;by_cases c:u∈gs
   ·rw[if_pos c]at e;cases e
   ·rw[if_neg c]at e
    cases e;obtain⟨ws,q⟩:=g.nn t mn;exact⟨ws,jD.mpr ⟨q,c⟩⟩
 b12:=aqk (aqT _ _) g.b12
 bk:=λt z m=>by
  have m:=aqF.mp (show(t,z)∈brG s.cC gs from m);obtain⟨ws,q⟩:=g.bk t z m.1;exact⟨ws,jD.mpr ⟨q,by simpa using m.2⟩⟩
 bnd:=arc (List.Sublist.map _ aqE) g.bnd
 n0:=g.n0
 nx:=g.nx
 sd:=by
  have h1:=g.sd;have h2:=Z3 (uv asc) hin;have h3:=Ye s.cC gs;show((s.xB++sdG s.cC gs).length:Int)+(drG s.aJ gs).length<=s.nxt;rw[ap4];omega
 yk:=λt m=>by obtain⟨ws,q⟩:=g.yk t m;exact⟨ws,jD.mpr ⟨q,hy t m⟩⟩
 Iv:=g.Iv
 dk:=λt m=>by obtain⟨ws,q⟩:=g.dk t m;exact⟨ws,jD.mpr ⟨q,hd t m⟩⟩
 Ki:=g.Ki
theorem Good.noY{s:HS}(g:Good s):Good {s with yng:=[]}:=⟨g.h8,g.n8,g.asc,g.lt,g.f6,g.hh,g.ff,g.nn,g.b12,g.bk,g.bnd,g.n0,g.nx,g.sd,(λt m=>nomatch m),List.Pairwise.nil,g.dk,g.Ki⟩
theorem Good.noD{s:HS}(g:Good s){b:Bool}:Good {s with rnd:=b,eL:=[]}:=⟨g.h8,g.n8,g.asc,g.lt,g.f6,g.hh,g.ff,g.nn,g.b12,g.bk,g.bnd,g.n0,g.nx,g.sd,g.yk,g.Iv,(λt m=>nomatch m),List.Pairwise.nil⟩
theorem Good.apw{s:HS}(g:Good s){b:Bool}{ds:List Int}(h:∀ t∈ds,∃ ws,(t,ws)∈s.aJ)(a:ds.Pairwise (·< ·)):Good {s with rnd:=b,eL:=ds}:=⟨g.h8,g.n8,g.asc,g.lt,g.f6,g.hh,g.ff,g.nn,g.b12,g.bk,g.bnd,g.n0,g.nx,g.sd,g.yk,g.Iv,h,a⟩
theorem jS{s:HS}{t:Int}:t∈qc s↔t∈s.yng/\¬Led (Mn s) (fld s) s.yng t:=by unfold qc;rw[aqF];simp
theorem Kk{s:HS}(g:Good s):(qc s).Pairwise (·< ·):=arc aqE g.Iv
theorem MS{s:HS}(g:Good s):∀ t∈qc s,∃ ws,(t,ws)∈s.aJ:=λt m=>g.yk t (jS.mp m).1
theorem Z4{s:HS}{t:Int}(h:Wd.th t∈s.aZ):t∉qc s:=λm=>(jS.mp m).2 (.root (aqm _ h) (jS.mp m).1)
theorem abW{s:HS}(g:Good s){u t:Int}{ws:List Wd}(m:(u,ws)∈s.aJ)(hu:u∉qc s)(h:Wd.th t∈ws):t∉qc s:=λmt=>by
 by_cases c:u∈s.yng
 ·have lu:Led (Mn s) (fld s) s.yng u:=aqX λz=>hu (jS.mpr ⟨c,z⟩)
  exact(jS.mp mt).2 (.step lu (by rw[g.fld m];exact h) (jS.mp mt).1)
 ·exact(jS.mp mt).2 (.root (ap1 _ (Xl.mpr ⟨u,ws,m,c,h⟩)) (jS.mp mt).1)
theorem Gd.small{s:HS}(d:Gd s):Gd (eZ s) where
 g:=d.g.noY.letGo (Kk d.g) (MS d.g) (λt h=>Z4 h) (λu ws t m hu h=>abW d.g m hu h) (λt m=>nomatch m) (λt m z=>d.dy t m (jS.mp z).1)
 dy:=λt _ m=>nomatch m
 dh:=d.dh
 df:=λu ws t m hu h=>d.df u ws t (jD.mp m).1 hu h
 rd:=d.rd
theorem lX{s:HS}{t:Int}:t∈Mo s↔t∈keys s/\¬Led s.aZ (fld s) 9e1 t:=by unfold Mo;rw[aqF];simp
theorem Gd.beg{s:HS}(d:Gd s)(hy:s.yng=[]):Gd (Lp s) where
 g:=d.g.apw (λt m=>mem_keys.mp (lX.mp m).1) (arc aqE d.g.asc)
 dy:=λt _ m=>by rw[show(Lp s).yng=[] from hy]at m;cases m
 dh:=λt h m=>(lX.mp m).2 (.root h (lX.mp m).1)
 df:=λu ws t m hu h mt=>by
  have lu:Led s.aZ (fld s) 9e1 u:=aqX λz=>hu (lX.mpr ⟨mem_keys.mpr ⟨ws,m⟩,z⟩);exact(lX.mp mt).2 (.step lu (by rw[d.g.fld m];exact h) (lX.mp mt).1)
 rd:=λh=>by cases h
theorem Gd.fin{s:HS}(d:Gd s):Gd (Iw s) where
 g:=d.g.noD.letGo d.g.Ki d.g.dk (λt h=>d.dh t h) (λu ws t m hu h=>d.df u ws t m hu h) (λt m z=>d.dy t z m) (λt m=>nomatch m)
 dy:=λt m=>nomatch m
 dh:=λt _ m=>nomatch m
 df:=λu ws t _ _ _ m=>nomatch m
 rd:=λ_=>rfl
theorem uy{s:HS}{t u:Int}:u∈(uP s t).eL↔u∈s.eL/\¬Led [.th t] (fld s) s.eL u:=by unfold uP;rw[aqF];simp
structure GdN(s:HS):Prop where
 g:Good s
 dy:∀ t∈s.eL,t∉s.yng
 df:∀ u ws t,(u,ws)∈s.aJ->u∉s.eL->Wd.th t∈ws->t∉s.eL
 rd:s.rnd=false->s.eL=[]
theorem Good.aeM{s:HS}(g:Good s){ds:List Int}(h:ds.Sublist s.eL):Good {s with eL:=ds}:=⟨g.h8,g.n8,g.asc,g.lt,g.f6,g.hh,g.ff,g.nn,g.b12,g.bk,g.bnd,g.n0,g.nx,g.sd,g.yk,g.Iv,(λt m=>g.dk t (h.subset m)),g.Ki.sublist h⟩
theorem Gd.aeN{s:HS}(d:GdN s){t:Int}(ht:t∈s.eL)(hh:∀ u,Wd.th u∈s.aZ->u=t\/u∉s.eL):Gd (uP s t) where
 g:=d.g.aeM aqE
 dy:=λu m=>d.dy u (uy.mp m).1
 dh:=λu h m=>by
  rcases hh u h with e|e
  ·exact(uy.mp m).2 (by rw[e];exact .root ap7 ht)
  ·exact e (uy.mp m).1
 df:=λu ws v m hu h mv=>by
  obtain⟨v1,v2⟩:=uy.mp mv;by_cases c:u∈s.eL
  ·have lu:Led [.th t] (fld s) s.eL u:=aqX λz=>hu (uy.mpr ⟨c,z⟩)
   exact v2 (.step lu (by rw[d.g.fld m];exact h) v1)
  ·exact d.df u ws v m c h v1
 rd:=λh=>by
  have:=d.rd h
  show s.eL.filter _=[];rw[this];rfl
theorem O0{s:HS}{n:Int}:(mkR s n).limit=s.limit:=by unfold mkR;split<;>rfl
theorem EL{s:HS}{n:Int}:(mkR s n).nxt=s.nxt:=by unfold mkR;split<;>rfl
theorem Gd.mkd{s:HS}(d:Gd s){n:Int}:Gd (mkR s n):=by
 unfold mkR;split
 ·exact d.small
 ·exact d
noncomputable def MT(D:Ad):Sp:=λvs H Q _=>∃ x A s,vs=[.ref x]/\IH D H x A s/\Good s/\∀ v A' H',IH D H' x A' (eZ s)->Fr 4e1 H (cL x A' (eZ s)) H'->Q v H'
noncomputable abbrev qD:List Str:=["self","leads","t","kept","gone"]
theorem gp:aw qD ["self"] (aq jt):=fsc
theorem yG(F:Fun K "small_round" "Heap.small_round" jt D.bK D.g9)(T:Txt K mg D)
  (cD:9e7 1 D.bT D.ed ["self"] (qo D))
  (da:9e7 3 D.bF D.fi ["self","leads","things"] (Ph D))
  (j1:9e7 2 D.dF D.jW ["self","gone"] (KQ D)):9e7 4 D.bK D.g9 ["self"] (MT D):=by
 refine F.oa gp F.b1 λcdv A' outer s' H vs Q E hr h=>?_;obtain⟨x,A,s,rfl,J,G,k⟩:=h;have hu:=jK hr;refine⟨_,(PSs.nox (aj (aS (i:=1) gp.nd rfl 1e9 (cD.m0 hr 1e8 T.bc T.lD bq))
  (aj (gq aqg rfl (lS (uK 1e8)) (bA (i:=2) gp.nd rfl 1e9)
   (ai (bQ (rf (kU hu (pv 2) 1e8) 3e1)
    (ai (aG (Mj PySem.F.plainAttrs_list PySem.F.slot_list_extend PySem.F.type_list_extend MB (pv 1) (aa (dq hu 1e8 (pv 2) 1e6) ak))))
    aR)))
  (aj (X4 (aS (i:=3) gp.nd rfl (Or.inr rfl) (da.m hr (pv 0) T.ae T.jr bq (aa (pv 1) (aa 1e8 ak)))))
  (aj (W6 (cl:=[("kept",s'.heap.objs.size+1)]) (x := "t") (idx:=[3]) (NC:=["t","kept"]) (i:=4) gp.nd rfl rfl ?co1 rfl (lS (uK 1e8)) (λC fp s₀ H₀=>(rf (kU hu (pv 0) (pv 1)) 3e1)) (λC fp s₀ H₀=>(pv 0)))
  (aj (X4 (ja (pv 0) jx rfl))
  (aj (aG (j1.m hr (pv 0) T.ae T.pW bq 5e4))
  (ai (aI (pv 4)))))))))),?_⟩
 case co1 =>
  exact iC (sc:=aq jt) (N:=qD) (ns:=["kept"]) rfl rfl rfl 2e2 rfl rfl (by
   intro q hq;rw[apU.mp hq];rfl)
 refine⟨_,rfl,x,D.ab,_,_,.ref A.hd,rfl,J.ax,T.ae,T.aC,qm,A.hd,A.hdx,_,rfl,J.ahd,rfl,A.hd,A.hdx,A.hl,A.hx,s.aZ,rfl,J.hn G,λp H1 s1 hp z1=>?_⟩;have J1:=J.same s1;have nfp:¬cL x A s p:=J.fresh hp;refine⟨_,rfl,x,D.ab,_,_,.ref A.fh,rfl,J1.ax,T.ae,T.aD,uj,A.fh,_,J1.afh,λo=>?_⟩;have yf:A.yg≠A.fh:=aqe J.d4;have pf:p≠A.fh:=λe=>nfp (by rw[e];exact .fh);have py:p≠A.yg:=λe=>nfp (by rw[e];exact .yg);have lk:(s.aJ.map (fkv A)).length=s.aJ.length:=apR _;refine⟨A.fh,o,_,rfl,ag,rP (d:=A.fh) (o:=o) (kvs:=s.aJ.map (fkv A)) (λi σ Hc=>∃ v2,σ=[some 7e5,some 4e7,v2,none,none]/\((∀ b u,b≠A.fh->b≠p->H1 b=some u->Hc b=some u)/\Hc A.fh=some (.frz o (.dK 9e2)))/\∃ ys,Hc p=some 5e0/\Rel Hc ys (s.aZ++RI (s.aJ.take i) s.yng))
  ⟨none,rfl,⟨λb u n _ q=>by rw[ah n];exact q,ag⟩,A.hx,by rw[ah pf];exact z1,by rw[aqW,show RI [] s.yng=[] from rfl,aq8];exact J1.rhl.keep (bI.set J1.afh 2e8)⟩ (λi σ Hc _ ⟨_,_,oc,_⟩=>oc.2) ?_ ?_⟩
 ·rintro i q σ Hc hi ⟨v2,rfl,oc,ys,hy,ry⟩
  rw[apZ]at hi;obtain⟨⟨t,ws⟩,ht,rfl⟩:=aqa.mp hi;have m:=apW ht;have tk:=take_snoc ht;obtain⟨hl,rl⟩:=J1.afl _ _ m;have nlf:A.fa t≠A.fh:=ay hl J1.afh 1e0;have nlp:A.fa t≠p:=λe=>nfp (by rw[<-e];exact .fl m);have hlc:=oc.1 _ _ nlf nlp hl;have tc:bI H1 Hc:=λb us q=>oc.1 b _ (ay q J1.afh 1e0) (ay q z1 1e0) q;have xf:x≠A.fh:=ay J1.ax J1.afh 1e0;have xp:x≠p:=λe=>nfp (by rw[<-e];exact .x);have axc:=oc.1 _ _ xf xp J1.ax;have ygc:=oc.1 _ _ yf (aqe py) J1.ayg;refine⟨_,rfl,_,rfl,x,D.ab,_,_,.ref A.yg,rfl,axc,T.ae,T.bJ,SW,A.yg,_,rfl,um.k (k:=Sum.inl t) ygc,_,rfl,?_⟩;rw[(Kj s.yng).isS];by_cases c:t∈s.yng
  ·rw[decide_eq_true c]
   refine xt ⟨_,rfl,oc,ys,hy,?_⟩;rw[tk,MQ,if_pos c,aq8];exact ry
  ·rw[decide_eq_false c]
   have fl:=U1 (fs:=s.aJ.take i) (yn:=s.yng) λt ws m=>G.f6 t ws (aqY m);have f6:=G.f6 _ _ m;have fw:=G.few;have ly:ys.length<=60100:=(by rw[ry.1,ap4,G.h8];rw[ap6]at fl;omega);refine yt ⟨_,rfl,.inl ⟨rfl,_,SqL.of hy⟩,_,rfl,x,D.ab,_,_,.ref A.fh,rfl,axc,T.ae,T.aD,uj,_,rfl,A.fh,.ref (A.fa t),rfl,.inl ⟨_,Sum.inl t,.inr ⟨o,oc.2⟩,rfl,by rw[X9,G.get m];rfl⟩,p,A.fa t,ys,A.fx t,rfl,rfl,hy,hlc,?_,?_⟩
   ·have:=rl.1
    exact aqk (show ys.length+(A.fx t).length<=70000 by omega) 2e6
   ·refine⟨_,rfl,⟨λb u n1 n2 q=>by rw[ah n2];exact oc.1 b u n1 n2 q,by rw[ah (aqe pf)];exact oc.2⟩,_,ag,?_⟩
    rw[tk,MQ,if_neg c,<-arv];exact((Z2 ry (rl.keep tc)).keep (bI.set hy 2e8))
 ·rintro σ Hc ⟨v2,rfl,oc,ys,hy,ry⟩
  rw[lk,apX (apV _)]at ry;refine⟨A.fh,o,_,oc.2,(λo' u' q=>by have q:H A.fh=some (.frz o' u'):=q;rw[J.afh]at q;cases q),?_⟩;have kp:∀ b u,b≠p->H1 b=some u->upd Hc A.fh (.dK 9e2) b=some u:=λb u n q=>by
   by_cases c:b=A.fh
   ·subst c
    rw[J1.afh]at q;cases q;exact ag
   ·rw[ah c];exact oc.1 b u c n q
  have hy2:upd Hc A.fh (.dK 9e2) p=some 5e0:=by rw[ah pf];exact hy
  have ry2:Rel (upd Hc A.fh (.dK 9e2)) ys (Mn s):=ry.keep (λb us q=>by rw[ah λe=>by rw[e,oc.2]at q;cases q];exact q);obtain⟨H2,e2⟩:∃ H2,upd Hc A.fh (.dK 9e2)=H2:=⟨_,rfl⟩;rw[e2]at kp hy2 ry2 ⊢;clear e2 ry hy oc;have t2:bI H1 H2:=λb us q=>kp b _ (ay q z1 1e0) q;have J2:IH D H2 x A s:=J1.keep (λb u f q=>kp b u (λe=>nfp (by rw[<-e];exact f)) q) t2;have fr2:Fr 4e1 H 4e1 H2:=⟨λb u n q=>kp b u (ar q hp) (s1 _ _ q),λ_ f=>.inl f,λb u q=>⟨u,kp b u (ar q hp) (s1 _ _ q)⟩,(bI.of s1).trans t2⟩;have fl:=U1 (fs:=s.aJ) (yn:=s.yng) G.f6;have fw:=G.few;refine⟨_,rfl,x,_,_,rfl,J2.ax,1e4,_,rfl,_,rfl,x,D.ab,_,_,.ref A.yg,rfl,J2.ax,T.ae,T.bJ,SW,x,A,s,p,ys,Mn s,A.yg,_,s.yng,rfl,J2,G,hy2,ry2,by unfold Mn;rw[ap4,G.h8];omega,J2.ayg,Kj _,G.yk,uv G.Iv,Ll G,λst kv ms H3 s3 hst h3 k3 n3 m3=>?_⟩;have J3:=J2.same s3;refine⟨_,rfl,x,D.ab,_,_,.ref A.yg,rfl,J3.ax,T.ae,T.bJ,SW,A.yg,_,J3.ayg,λo2=>?_⟩;refine⟨A.yg,o2,_,rfl,ag,λL hL=>?_⟩;have nsy:st≠A.yg:=λe=>by rw[e,J2.ayg]at hst;cases hst
  have st3:upd H3 A.yg (.frz o2 (.dK (s.yng.map tkv))) st=some (.dK kv):=by rw[ah nsy];exact h3
  refine Ss (d:=A.yg) (o:=o2) (kvs:=s.yng.map tkv) (λi zs Hc=>zs=((s.yng.take i).filter λt=>decide (t∉ms)).map V.int/\az (upd H3 A.yg (.frz o2 (.dK (s.yng.map tkv)))) Hc/\Hc L=some (.lst zs)) ⟨rfl,az.upd hL,ag⟩ (λi zs Hc hi ⟨e,_,z⟩=>⟨z,by rw[e,apR];exact aqk (aqT _ _) (by rw[ap6];omega)⟩) (λi zs Hc _ ⟨_,sc,_⟩=>sc _ _ ag) (by rw[apR];exact lN (aqk (Ll G) 2e6)) (λi q zs Hc hi ⟨e,sc,z⟩=>?_) (λzs Hc ⟨e,sc,z⟩=>?_)
  ·obtain⟨t,ht,ekv,ep⟩:=(Kj s.yng).at_ hi
   have tk:=take_snoc ht;rw[ekv];refine⟨_,rfl,_,rfl,st,_,rfl,um.k (k:=Sum.inl t) (sc _ _ st3),_,rfl,?_⟩;rw[k3.isS];by_cases c:t∈ms
   ·rw[decide_eq_true c]
    refine xt ⟨?_,sc,z⟩;rw[tk,arp,e];simp[c]
   ·rw[decide_eq_false c]
    refine yt ⟨_,rfl,z,?_,λb u q=>by rw[ah (ar q hL)];exact sc b u q,ag⟩;rw[tk,arp,e];simp[c]
  ·rw[apR,apX (apV _)]at e
   have eg:(s.yng.filter λt=>decide (t∉ms))=qc s:=VP m3;rw[eg]at e;subst e;refine⟨A.yg,o2,_,sc _ _ ag,(λo' u' q=>by have q:H A.yg=some (.frz o' u'):=q;rw[J.ayg]at q;cases q),?_⟩;have sm:az H3 (upd Hc A.yg (.dK (s.yng.map tkv))):=λb u q=>by
    by_cases c:b=A.yg
    ·subst c
     rw[J3.ayg]at q;cases q;exact ag
    ·rw[ah c];exact sc b u (by rw[ah c];exact q)
   have nLy:L≠A.yg:=λe=>by rw[e,ag]at hL;cases hL
   have zL:upd Hc A.yg (.dK (s.yng.map tkv)) L=some (.lst ((qc s).map V.int)):=(by rw[ah nLy];exact z);have hL3:H3 L=none:=(by rw[ah nLy]at hL;exact hL);have apx:=J3.fresh hL3;obtain⟨H4,e4⟩:∃ H4,upd Hc A.yg (.dK (s.yng.map tkv))=H4:=⟨_,rfl⟩;rw[e4]at sm zL ⊢;clear e4;have J4:=J3.same sm;intro p2 hp2;have w:=J4.apq hp2;have xp2:x≠p2:=ar J4.ax hp2;refine⟨_,rfl,x,D.ab,A.dx,_,rfl,(by rw[ah xp2];exact J4.ax),T.ae,T.bJ,by show 11<1000;decide,?_⟩;obtain⟨J5,fr5⟩:=w;have oL:=fr5.out apx zL;refine⟨_,rfl,x,_,_,rfl,J5.ax,1e4,_,rfl,x,_,_,L,qc s,rfl,J5,G.n8,oL.2,oL.1,Kk G,aqk (aqT _ _) (Ll G),(by have:=G.sd;have:=G.nx;show s.xB.length<=10000;omega),MS G,λA6 H6 J6 fr6=>⟨_,rfl,k _ A6 H6 J6 ((((fr2.trans (Fr.same s3)).trans (Fr.same sm)).trans fr5).trans fr6)⟩⟩
noncomputable def D8(D:Ad):Sp:=λvs H Q _=>∃ x A s,vs=[.ref x]/\IH D H x A s/\Good s/\∀ A' H',IH D H' x A' (eZ s)->Fr 4e1 H (cL x A' (eZ s)) H'->Q .non H'
noncomputable abbrev Cn:List Str:=["self"]
theorem Ap:aw Cn ["self"] (aq mC):=fsc
theorem Aq(F:Fun K "small" "IdealHeap.small" mC D.bV D.eB)(T:Txt K mg D)
  (lH:9e7 4 D.bK D.g9 ["self"] (MT D)):9e7 5 D.bV D.eB ["self"] (D8 D):=by
 refine F.oa Ap F.b1 λcdv A' outer s' H vs Q E hr h=>?_;obtain⟨x,A,s,rfl,J,G,k⟩:=h;refine⟨_,(PSs.nox (ai (aG (lH.m0 hr (pv 0) T.ae T.sj bq)))),?_⟩;exact⟨_,rfl,x,_,_,rfl,J.ax,1e4,x,A,s,rfl,J,G,λv A' H' J' fr=>k A' H' J' fr⟩
noncomputable def Uo(D:Ad):Sp:=λvs H Q E=>∃ x A s,vs=[.ref x]/\IH D H x A s/\Gd s/\Fin D x A s H (zO s) Q E
theorem IH.apy{D:Ad}{H:Hp}{x:Addr}{A:HA}{s:HS}(J:IH D H x A s){b:Addr}(f:cL x A s b)(o:Obj)(u:HO):H b≠some (.frz o u):=by
 intro q;cases f with
 | x=>rw[J.ax]at q;cases q
 | hd=>rw[J.ahd]at q;cases q
 | hl=>rw[J.ahl]at q;cases q
 | nt=>rw[J.ant]at q;cases q
 | nl=>rw[J.anl]at q;cases q
 | wt=>rw[J.awt]at q;cases q
 | wb=>rw[J.awb]at q;cases q
 | wl=>rw[J.awl]at q;cases q
 | fh=>rw[J.afh]at q;cases q
 | yg=>rw[J.ayg]at q;cases q
 | dm=>rw[J.adm]at q;cases q
 | fl m=>rw[(J.afl _ _ m).1]at q;cases q
noncomputable abbrev Co:List Str:=["self","kept","t"]
theorem lI:aw Co ["self"] (aq mD):=fsc
theorem Ar(F:Fun K "begin" "IdealHeap.begin" mD D.cy D.fT)(T:Txt K mg D)
  (ao:9e7 1 D.au D.aA ["self","text"] (Bm K))
  (cE:9e7 5 D.bV D.eB ["self"] (D8 D))
  (cD:9e7 1 D.bT D.ed ["self"] (qo D))
  (da:9e7 3 D.bF D.fi ["self","leads","things"] (Ph D)):9e7 6 D.cy D.fT ["self"] (Uo D):=by
 refine F.oa lI F.b1 λcdv A' outer s' H vs Q E hr h=>?_;obtain⟨x,A,s,rfl,J,Gs,k⟩:=h;have hu:=jK hr;refine⟨_,(aj (bQ (zA 1e8)
   (ai (fL rfl kN (ao.e hr T.SM T.SK px (aa aP ak))))
   aR)
  (aj (aG (cE.m0 hr (pv 0) T.ae T.lE px))
  (aj (ja (pv 0) D4 rfl)
  (aj (aS (i:=1) lI.nd rfl 1e9 (da.m hr (pv 0) T.ae T.jr px (aa (cD.m0 hr 1e8 T.bc T.lD px) (aa 1e8 ak))))
  (ai (PS.nox (ZZ (gq aqg rfl (lS (uK 1e8)) (bA (i:=2) lI.nd rfl 1e9)
   (ai (bQ (rf (kU hu (pv 2) (pv 1)) 3e1)
    (ai (lQ hu 1e8 (pv 2) D4 rfl))
    aR)))))))))),?_⟩
 refine⟨_,rfl,x,D.ab,_,_,.bl s.rnd,rfl,J.ax,T.ae,T.dQ,Y5,_,rfl,?_⟩;by_cases c:s.rnd=true
 ·rw[show zO s=(some .on,s) from if_pos c]at k
  exact jQ c (λea hea=>b9 T.Kc 6e7 (k.bad J) ea hea)
 ·rw[show zO s=(none,Lp (eZ s)) from if_neg c]at k
  refine iU (aqt.mpr c) ?_;refine⟨_,rfl,x,_,_,rfl,J.ax,1e4,x,A,s,rfl,J,Gs.g,λA1 H1 J1 fr1=>?_⟩;have G1:=Gs.small;have d0:(eZ s).eL=[]:=Gs.rd (aqt.mpr c);obtain⟨s1,es⟩:∃ s1,eZ s=s1:=⟨_,rfl⟩;rw[es]at J1 fr1 G1 k d0;refine⟨_,rfl,x,D.ab,A1.dx,_,rfl,J1.ax,T.ae,T.dQ,by show 11<1000;decide,?_⟩;have w2:=J1.alj (n:=true);obtain⟨H2,e2⟩:∃ H2,upd H1 x (.ins D.ab A1.dx (jJ "in_round" (.bl true) (atts A1 s1)))=H2:=⟨_,rfl⟩;rw[e2]at w2;show rA _ _ _ _ (upd H1 x (.ins D.ab A1.dx (jJ "in_round" (.bl true) (atts A1 s1))));rw[e2];clear e2;obtain⟨J2,fr2⟩:=w2;have G2:Good {s1 with rnd:=true}:=⟨G1.g.h8,G1.g.n8,G1.g.asc,G1.g.lt,G1.g.f6,G1.g.hh,G1.g.ff,G1.g.nn,G1.g.b12,G1.g.bk,G1.g.bnd,G1.g.n0,G1.g.nx,G1.g.sd,G1.g.yk,G1.g.Iv,G1.g.dk,G1.g.Ki⟩;refine⟨_,rfl,x,_,_,rfl,J2.ax,1e4,_,rfl,x,D.ab,_,_,.ref A1.hd,rfl,J2.ax,T.ae,T.aC,qm,A1.hd,A1.hdx,_,rfl,J2.ahd,rfl,A1.hd,A1.hdx,A1.hl,A1.hx,s1.aZ,rfl,J2.hn G2,λp H3 s3 hp z3=>?_⟩;have J3:=J2.same s3;refine⟨_,rfl,x,D.ab,_,_,.ref A1.fh,rfl,J3.ax,T.ae,T.aD,uj,x,A1,_,p,A1.hx,s1.aZ,A1.fh,_,keys s1,rfl,J3,G2,z3,J3.rhl,by rw[G1.g.h8];decide,J3.afh,Wi s1 A1,(λt m=>mem_keys.mp m),uv G1.g.asc,by unfold keys;rw[apR];exact G1.g.few,λst kv ms H4 s4 hst h4 k4 n4 m4=>?_⟩;have J4:=J3.same s4;have fr4:=((fr1.trans fr2).trans (Fr.same s3)).trans (Fr.same s4);refine⟨_,rfl,x,D.ab,_,_,.ref A1.fh,rfl,J4.ax,T.ae,T.aD,uj,A1.fh,_,J4.afh,λo=>?_⟩;have df:A1.dm≠A1.fh:=aqe J4.d5;have sf:st≠A1.fh:=ar J3.afh hst |>.symm;have sd:st≠A1.dm:=ar J3.adm hst |>.symm;have xf:x≠A1.fh:=ay J4.ax J4.afh 1e0;have xd:x≠A1.dm:=ay J4.ax J4.adm 1e0;have apz:H4 A1.dm=some 6e1:=by have:=J4.adm;rw[show({s1 with rnd:=true}:HS).eL=[] from d0]at this;exact this
  refine⟨A1.fh,o,_,rfl,ag,rP (d:=A1.fh) (o:=o) (kvs:=s1.aJ.map (fkv A1)) (λi σ Hc=>∃ v2,σ=[some 7e5,some (.ref st),v2]/\((∀ b u,b≠A1.fh->b≠A1.dm->H4 b=some u->Hc b=some u)/\Hc A1.fh=some (.frz o (.dK (s1.aJ.map (fkv A1)))))/\Hc A1.dm=some (.dK ((((keys s1).take i).filter λt=>decide (t∉ms)).map tkv)))
   ⟨none,rfl,⟨λb u n _ q=>by rw[ah n];exact q,ag⟩,by rw[ah df];exact apz⟩ (λi σ Hc _ ⟨_,_,oc,_⟩=>oc.2) ?_ ?_⟩
  ·rintro i q σ Hc hi ⟨v2,rfl,oc,hdm⟩
   obtain⟨t,ht,ekv,ep⟩:=(Wi s1 A1).at_ hi;have tk:=take_snoc ht;rw[ekv];refine⟨_,rfl,_,rfl,st,_,rfl,um.k (k:=Sum.inl t) (oc.1 _ _ sf sd h4),_,rfl,?_⟩;rw[k4.isS];by_cases c2:t∈ms
   ·rw[decide_eq_true c2]
    refine xt ⟨_,rfl,oc,?_⟩;rw[tk,arp,hdm];simp[c2]
   ·rw[decide_eq_false c2]
    have ni:t∉((keys s1).take i).filter λt=>decide (t∉ms):=λz=>Um (show(keys s1).Pairwise (·< ·) from G1.g.asc) ht (aqF.mp z).1;have lz:((((keys s1).take i).filter λt=>decide (t∉ms)).map tkv).length<sizeLine:=by
     rw[apR];refine oK (aqk (aqT _ _) ?_)
     have:=G1.g.few
     rw[ap6];unfold keys;rw[apR];omega
    refine yt ⟨_,rfl,x,D.ab,_,_,.ref A1.dm,rfl,oc.1 _ _ xf xd J4.ax,T.ae,T.bD,SX,_,rfl,A1.dm,_,rfl,Em.k (k:=Sum.inl t) hdm lz,?_⟩;refine⟨_,rfl,⟨λb u n1 n2 q=>by rw[ah n2];exact oc.1 b u n1 n2 q,by rw[ah (aqe df)];exact oc.2⟩,?_⟩;rw[ag,pT _ ((Kj _).non ni),tk,arp,ap3];simp[c2,tkv]
  ·rintro σ Hc ⟨v2,rfl,oc,hdm⟩
   rw[apR,apX (by unfold keys;rw[apR];exact apV _),Xm (show ∀ t,t∈ms↔Led s1.aZ (fld s1) (keys s1) t from m4)]at hdm;refine⟨A1.fh,o,_,oc.2,(λo' u' q=>?_),?_⟩
   ·have q:H A1.fh=some (.frz o' u'):=q
    rcases(fr1.grow A1.fh .fh) with f|f
    ·obtain⟨u,hu1,_⟩:=J.is f
     rw[q]at hu1;cases hu1;obtain⟨u2,hu2,_⟩:=J.is f;exact absurd q (J.apy f o' u')
    ·rw[f]at q;cases q
   ·have w5:=J4.ali (ts:=Mo s1)
    have sm:az (upd H4 A1.dm (.dK ((Mo s1).map tkv))) (upd Hc A1.fh (.dK (s1.aJ.map (fkv A1)))):=λb u q=>by
     by_cases c3:b=A1.fh
     ·rw[c3,ah (aqe df)]at q
      rw[c3,ag];exact J4.afh.symm.trans q
     ·rw[ah c3]
      by_cases c4:b=A1.dm
      ·rw[c4,ag]at q
       rw[c4,hdm];exact q
      ·rw[ah c4]at q
       exact oc.1 b u c3 c4 q
    exact k A1 _ (w5.1.same sm) ((fr4.trans w5.2).trans (Fr.same sm))
noncomputable def Up(D:Ad):Sp:=λvs H Q E=>∃ x A s,vs=[.ref x]/\IH D H x A s/\Gd s/\Fin D x A s H (Tf s) Q E
noncomputable abbrev Ht:List Str:=["self","gone"]
theorem ue:aw Ht ["self"] (aq pP):=fsc
theorem EM(F:Fun K "end" "IdealHeap.end" pP D.dI D.ia)(T:Txt K mg D)
  (ao:9e7 1 D.au D.aA ["self","text"] (Bm K))
  (j1:9e7 2 D.dF D.jW ["self","gone"] (KQ D)):9e7 4 D.dI D.ia ["self"] (Up D):=by
 refine F.oa ue F.b1 λcdv A' outer s' H vs Q E hr h=>?_;obtain⟨x,A,s,rfl,J,Gs,k⟩:=h;refine⟨_,(aj (bQ (sR (zA 1e8))
   (ai (fL rfl kN (ao.e hr T.SQ T.SO px (aa aP ak))))
   aR)
  (aj (ja (pv 0) D4 rfl)
  (aj (aS (i:=1) ue.nd rfl 1e9 (j6 (Ka rfl) rfl T.wB PyProof.Rows.Boot.«list» (aa 1e8 ak)))
  (aj (ja (pv 0) jx rfl)
  (ai (aG (j1.m hr (pv 0) T.ae T.pW px 2e4))))))),?_⟩
 refine⟨_,rfl,x,D.ab,_,_,.bl s.rnd,rfl,J.ax,T.ae,T.dQ,Y5,_,rfl,?_⟩;by_cases c:s.rnd=true
 ·rw[show Tf s=(none,Iw s) from if_pos c]at k
  refine iU (by rw[c];rfl) ?_;refine⟨_,rfl,x,D.ab,A.dx,_,rfl,J.ax,T.ae,T.dQ,by show 11<1000;decide,?_⟩;have w2:=J.alj (n:=false);obtain⟨H2,e2⟩:∃ H2,upd H x (.ins D.ab A.dx (jJ "in_round" (.bl false) 6e8))=H2:=⟨_,rfl⟩;rw[e2]at w2;show rA _ _ _ _ (upd H x (.ins D.ab A.dx (jJ "in_round" (.bl false) 6e8)));rw[e2];clear e2;obtain⟨J2,fr2⟩:=w2;refine⟨_,rfl,x,D.ab,_,_,.ref A.dm,rfl,J2.ax,T.ae,T.bD,SX,A.dm,_,s.eL,rfl,.inl J2.adm,Kj _,λL hL=>?_⟩;have s3:=az.upd (o:=.lst (s.eL.map V.int)) hL;have J3:=J2.same s3;have nfL:=J2.fresh hL;intro p2 hp2;have w:=J3.apr hp2;have xp2:x≠p2:=ar J3.ax hp2;refine⟨_,rfl,x,D.ab,A.dx,_,rfl,(by rw[ah xp2];exact J3.ax),T.ae,T.bD,by show 11<1000;decide,?_⟩;obtain⟨J5,fr5⟩:=w;have oL:=fr5.out nfL ag;refine⟨_,rfl,x,_,_,rfl,J5.ax,1e4,_,rfl,x,_,_,L,s.eL,rfl,J5,Gs.g.n8,oL.2,oL.1,Gs.g.Ki,UU Gs.g,(by have:=Gs.g.sd;have:=Gs.g.nx;show s.xB.length<=10000;omega),Gs.g.dk,λA6 H6 J6 fr6=>k A6 H6 J6 (((fr2.trans (Fr.same s3)).trans fr5).trans fr6)⟩
 ·rw[show Tf s=(some .no,s) from if_neg c]at k
  refine jQ (by rw[aqt.mpr c];rfl) ?_;exact λea hea=>b9 T.Kd 6e7 (k.bad J) ea hea
noncomputable def Uq(D:Ad):Sp:=λvs H Q _=>∃ x A s,vs=[.ref x]/\IH D H x A s/\Q (.bl s.rnd) H
noncomputable abbrev wI:List Str:=["self"]
theorem vP:aw wI ["self"] (aq kg):=fsc
theorem vQ(F:Fun K "round_on" "IdealHeap.round_on" kg D.bG D.dP)(T:Txt K mg D):9e7 1 D.bG D.dP ["self"] (Uq D):=by
 refine F.oa vP F.b1 λcdv A' outer s' H vs Q E hr h=>?_;obtain⟨x,A,s,rfl,J,k⟩:=h;refine⟨_,(PSs.nox (ai (aI 1e8))),?_⟩;exact⟨_,rfl,x,D.ab,_,_,.bl s.rnd,rfl,J.ax,T.ae,T.dQ,Y5,k⟩
theorem aeO{ts:List Int}{n:Option Int}:inO (ts.map tkv) (n.map Sum.inl)=(match n with|some t=>decide (t∈ts)|none=>false):=by
 cases n with
 | none=>rfl
 | some t=>exact alm
theorem abX(z:Option Int):nmV z=adU (z.map Sum.inl):=by cases z<;>rfl
noncomputable def RJ(D:Ad):Sp:=λvs H Q _=>∃ x A s,∃ t:Int,vs=[.ref x,.int t]/\IH D H x A s/\Good s/\0<=t/\∀ A' H',IH D H' x A' (uP s t)->Fr 4e1 H (cL x A' (uP s t)) H'->Q .non H'
theorem Xo{ts:List Int}{t:Int}{v:V}(h:iX (ts.map tkv) (Sum.inl t)=some v):v=.bl true:=by
 unfold iX at h;obtain⟨p,hp,e⟩:=aqa.mp h;obtain⟨u,_,rfl⟩:=aqf.mp (List.mem_of_find?_eq_some hp);exact e.symm
theorem Z5{ts:List Int}{t:Int}:wz (ts.map tkv) 4e4=(ts.filter λp=>decide (p≠t)).map tkv:=by
 unfold wz;rw[arO];congr 1
 refine aqO λp _=>?_;show decide (Sum.inl p≠(Sum.inl t:Key))=decide (p≠t);simp
noncomputable abbrev Cp:List Str:=["self","t","spared","other"]
theorem lJ:aw Cp ["self","t"] (aq mG):=fsc
theorem As(F:Fun K "spare" "IdealHeap.spare" mG D.du D.iw)(T:Txt K mg D)
  (cS:9e7 3 D.cQ D.gJ ["t"] (kA))
  (da:9e7 3 D.bF D.fi ["self","leads","things"] (Ph D)):9e7 4 D.du D.iw ["self","t"] (RJ D):=by
 refine F.oa lJ F.b2 λcdv A' outer s' H vs Q E hr h=>?_;obtain⟨x,A,s,t,rfl,J,G,t0,k⟩:=h;refine⟨_,(PSs.nox (aj (aS (i:=2) lJ.nd rfl 1e9 (da.m hr (pv 0) T.ae T.jr bq (aa (qa (aa (cS.c hr T.oE T.jY bq 2e4) ak)) (aa 1e8 ak))))
  (ai (gq aqg rfl (lS (uK (pv 2))) (bA (i:=3) lJ.nd rfl 1e9)
   (ai (aG (KG 1e8 (pv 3) ⟨rfl,rfl,rfl,rfl⟩))))))),?_⟩
 refine⟨_,rfl,x,_,_,rfl,J.ax,1e4,_,rfl,t,rfl,t0,λtp H1 s1 hp=>⟨by show 1<=sizeLine;decide,λl hl=>?_⟩⟩;have s2:=az.upd (o:=.lst [V.ref tp]) hl;have J2:=(J.same s1).same s2;have rl:Rel (upd H1 l (.lst [V.ref tp])) [.ref tp] [.th t]:=⟨rfl,λi v w h1 h2=>by
  cases i with
  | zero=>cases h1;cases h2;exact⟨tp,rfl,s2 _ _ hp⟩
  | succ i=>cases h1⟩
 refine⟨_,rfl,x,D.ab,_,_,.ref A.dm,rfl,J2.ax,T.ae,T.bD,SX,x,A,s,l,_,[.th t],A.dm,_,s.eL,rfl,J2,G,ag,rl,by show 1<=100000;decide,J2.adm,Kj _,G.dk,uv G.Ki,UU G,λst kv ms H3 s3 hst h3 k3 n3 m3=>?_⟩;have J3:=J2.same s3;have fr3:=((Fr.same (F:=cL x A s) s1).trans (Fr.same s2)).trans (Fr.same s3);have nfs:=J2.fresh hst;refine⟨_,rfl,st,kv,h3,λo=>?_⟩;have sub:∀ u∈ms,u∈s.eL:=λu m=>((m3 u).mp m).mem;have H4s:∀ b u,b≠st->H3 b=some u->upd H3 st (.frz o (.dK kv)) b=some u:=λb u n q=>by rw[ah n];exact q
 have t4:bI H3 (upd H3 st (.frz o (.dK kv))):=bI.set h3 2e8;have J4:IH D (upd H3 st (.frz o (.dK kv))) x A s:=J3.keep (λb u f q=>H4s b u (λe=>nfs (by rw[<-e];exact f)) q) t4;have bk:H st=none:=az.none s1 (az.none s2 hst);have fr4:Fr 4e1 H 4e1 (upd H3 st (.frz o (.dK kv))):=⟨λb u n q=>H4s b u (ar q bk) (fr3.ext b u n q),λ_ f=>.inl f,λb u q=>by obtain⟨u',q'⟩:=fr3.all b u q;exact⟨u',H4s b u' (ar q bk) q'⟩,fr3.tup.trans t4⟩;refine⟨st,o,kv,rfl,ag,rP (d:=st) (o:=o) (kvs:=kv) (λi σ Hc=>∃ v3,σ=[some 7e5,some (.int t),some (.ref st),v3]/\IH D Hc x A {s with eL:=s.eL.filter λu=>decide (u∉ms.take i)}/\Fr 4e1 H (cL x A {s with eL:=s.eL.filter λu=>decide (u∉ms.take i)}) Hc/\Hc st=some (.frz o (.dK kv)))
  ⟨none,rfl,(by rw[aqW,show(s.eL.filter λu=>decide (u∉([]:List Int)))=s.eL by simp];exact J4),(by rw[aqW,show(s.eL.filter λu=>decide (u∉([]:List Int)))=s.eL by simp];exact fr4),ag⟩ (λi σ Hc _ ⟨_,_,_,_,z⟩=>z) ?_ ?_⟩
 ·rintro i q σ Hc hi ⟨v3,rfl,Jc,frc,z⟩
  obtain⟨u,hu',ekv,ep⟩:=k3.at_ hi;have tk:=take_snoc hu';have ni:u∉ms.take i:=λm=>by
   have:=aqz.mp (show(ms.take i++ms.drop i).Nodup by rw[aqJ];exact n3)
   have hlt:=(apS.mp hu').1;exact this.2.2 u m u (by rw[aqV hlt,(apS.mp hu').2];exact ap7) rfl
  have mu:u∈s.eL.filter λu=>decide (u∉ms.take i):=aqF.mpr ⟨sub u (apW hu'),by simpa using ni⟩;have vd:iX ((s.eL.filter λu=>decide (u∉ms.take i)).map tkv) (Sum.inl u)=some (.bl true):=by
   have h1:=(Kj (s.eL.filter λu=>decide (u∉ms.take i))).isS (t:=u);rw[decide_eq_true mu]at h1;obtain⟨v,hv⟩:=ark.mp h1;rw[hv,Xo hv]
  rw[ekv];refine⟨_,rfl,x,D.ab,_,_,.ref A.dm,rfl,Jc.ax,T.ae,T.bD,SX,A.dm,rfl,.inl ⟨_,.inl Jc.adm⟩,_,rfl,_,Sum.inl u,_,Jc.adm,rfl,vd,?_⟩;have w:=Jc.ali (ts:=(s.eL.filter λu=>decide (u∉ms.take i)).filter λv=>decide (v≠u));rw[show wz (({s with eL:=s.eL.filter λu=>decide (u∉ms.take i)}:HS).eL.map tkv) (Sum.inl u)=((s.eL.filter λu=>decide (u∉ms.take i)).filter λv=>decide (v≠u)).map tkv from Z5];have ef:((s.eL.filter λu=>decide (u∉ms.take i)).filter λv=>decide (v≠u))=s.eL.filter λv=>decide (v∉ms.take (i+1)):=by
   rw[List.filter_filter,tk];refine aqO λv _=>?_;simp[aqc,not_or,Bool.and_comm]
  rw[ef]at w ⊢;have nsd:st≠A.dm:=λe=>by rw[e,Jc.adm]at z;cases z
  exact⟨_,rfl,w.1,frc.trans w.2,by rw[ah nsd];exact z⟩
 ·rintro σ Hc ⟨v3,rfl,Jc,frc,z⟩
  rw[k3.len,apX (apV _),Xn m3]at Jc frc;exact k _ _ Jc frc
noncomputable def RK(D:Ad):Sp:=λvs H Q E=>∃ x A s,∃ h n:Int,vs=[.ref x,.int h,.int n]/\IH D H x A s/\Gd s/\s.nxt<10000/\Sm h/\Sm n/\Fin D x A s H (oZ s h n) Q E
noncomputable abbrev EN:List Str:=["self","h","n","size"]
theorem rZ:aw EN ["self","h","n"] (aq nS):=fsc
theorem Cq(F:Fun K "make" "IdealHeap.make" nS D.dX D.i7)(T:Txt K mg D)
  (ao:9e7 1 D.au D.aA ["self","text"] (Bm K))
  (aO:9e7 3 D.bB D.cK ["h"] (eN D))
  (jR:9e7 3 D.hW D.lK ["fields"] (sO D))
  (eY:9e7 4 D.br D.eX ["self","things"] (KP D))
  (cE:9e7 5 D.bV D.eB ["self"] (D8 D))
  (gO:9e7 5 D.c7 D.gM ["self"] (OZ D))
  (oq:9e7 5 D.cu D.i6 ["self","h","n"] (Yd D)):9e7 8 D.dX D.i7 ["self","h","n"] (RK D):=by
 refine F.oa rZ F.b3 λcdv A' outer s' H vs Q E hr h=>?_;obtain⟨x,A,s,h,n,rfl,J,Gs,hnx,hh,hn,k⟩:=h;refine⟨_,(aj 8e6
  (aj (aS (i:=3) rZ.nd rfl 1e9 (jR.c hr T.Bw T.rF px 3e9))
  (aj (bQ (PW.pt (pw_and (zA 1e8) (pw_and1 (aK JT (cM iO (eY.m hr (pv 0) T.ae T.kX px (aa 1e8 ak)) (pv 3)) 1e8 (aW _)))))
   (ai (aG (cE.m0 hr (pv 0) T.ae T.lE px)))
   aR)
  (aj (bQ (aK JT (cM iO (gO.m0 hr (pv 0) T.ae T.rU px) (pv 3)) 1e8 (aW _))
   (ai (fL rfl kN (ao.e hr T.VJ T.VI px (aa (jA (aY (kO (pv 3)) (aY gE jz))) ak))))
   aR)
  (ai (aG (oq.m hr (pv 0) T.ae T.uq px (aa (pv 1) 3e9)))))))),?_⟩
 refine⟨_,rfl,h,rfl,hh,?_⟩;by_cases c:ok8 h
 ·rw[if_pos c]
  refine⟨_,rfl,n,rfl,hn,?_⟩;by_cases c2:0<=n/\n<=6
  ·rw[if_pos c2]
   have G:=Gs.g;have kk:Fin D x A s H (if held (mkR s n)+(n+1)>s.limit then(some .room,mkR s n) else(none,Tb (mkR s n) h n)) Q E:=by
    rw[show oZ s h n=_ from by unfold oZ;rw[if_pos c,if_pos c2]]at k;exact k
   have G2:Gd (mkR s n):=Gs.mkd;simp only[sL];refine Et λN hN=>?_;have fin:∀(A2:HA) (H2:Hp),IH D H2 x A2 (mkR s n)->Fr 4e1 H (cL x A2 (mkR s n)) H2->N [some 7e5,some (.int h),some (.int n),some (.int (n+1))] H2:=by
    intro A2 H2 J2 fr2;refine hN _ _ ?_;refine⟨_,rfl,x,_,_,rfl,J2.ax,1e4,x,A2,_,rfl,J2,G2.g,λH3 s3=>?_⟩;have J3:=J2.same s3;have fr3:=fr2.trans (Fr.same s3);refine⟨_,rfl,held (mkR s n),n+1,rfl,rfl,_,rfl,x,D.ab,_,_,.int (mkR s n).limit,rfl,J3.ax,T.ae,T.rT,aeE,_,_,rfl,rfl,_,rfl,a9 (λg=>?_) (λg=>?_)⟩
    ·have g:=of_decide_eq_true g
     rw[O0]at g;rw[if_pos g]at kk;exact⟨_,rfl,n+1,rfl,Sm.of 1e1 1e1,λy hy ea hea=>b9 T.ML (λb q=>fr3.none q) (λH' s'=>kk A2 H' (J3.same s') (fr3.trans (Fr.same s'))) ea hea⟩
    ·have g:¬(held (mkR s n)+(n+1)>s.limit):=λz=>g (decide_eq_true (by rw[O0];exact z))
     rw[if_neg g]at kk;exact⟨_,rfl,x,_,_,rfl,J3.ax,1e4,_,rfl,_,rfl,x,A2,_,h,n,rfl,J3,G2.g,c,c2.1,c2.2,λA' H' J' fr=>kk A' H' J' (fr3.trans fr)⟩
   refine⟨_,rfl,x,D.ab,_,_,.bl s.my,rfl,J.ax,T.ae,T.iW,aaY,_,rfl,?_⟩;by_cases my:s.my=true
   ·refine jQ my ⟨_,rfl,x,_,_,rfl,J.ax,1e4,_,rfl,x,D.ab,_,_,.ref A.yg,rfl,J.ax,T.ae,T.bJ,SW,x,A,s,A.yg,_,s.yng,rfl,J,G,J.ayg,Kj _,G.yk,Ll G,λH1 s1=>?_⟩
    have J1:=J.same s1;refine⟨_,rfl,wsum s s.yng,n+1,rfl,rfl,_,rfl,x,D.ab,_,_,.int s.room,rfl,J1.ax,T.ae,T.lU,aeD,_,_,rfl,rfl,_,rfl,a9 (λg=>?_) (λg=>?_)⟩
    ·have g:=of_decide_eq_true g
     have em:mkR s n=eZ s:=if_pos ⟨my,g⟩;rw[em]at fin;exact⟨_,rfl,x,_,_,rfl,J1.ax,1e4,x,A,s,rfl,J1,G,λA2 H2 J2 fr2=>fin A2 H2 J2 ((Fr.same s1).trans fr2)⟩
    ·have em:mkR s n=s:=if_neg λz=>g (decide_eq_true z.2)
     rw[em]at fin;exact fin A H1 J1 (Fr.same s1)
   ·have em:mkR s n=s:=if_neg λz=>my z.1
    rw[em]at fin;exact iU (aqt.mpr my) (xt (fin A H J Fr.refl))
  ·rw[if_neg c2]
   rw[show oZ s h n=(some .count,s) by simp only[oZ,if_pos c,if_neg c2]]at k;exact k.bad J
 ·rw[if_neg c]
  rw[show oZ s h n=3e3 by simp only[oZ,if_neg c]]at k;exact k.bad J
noncomputable def RL(D:Ad):Sp:=λvs H Q E=>∃ x A s,∃ h w:Int,vs=[.ref x,.int h,.int w]/\IH D H x A s/\Good s/\Sm h/\Sm w/\Fin D x A s H (oW s h w) Q E
theorem rQ{α:Type}{l:List α}{i:Nat}{a b:α}(h:b∈l.set i a):b∈l\/b=a:=by
 rw[List.mem_iff_getElem]at h;obtain⟨j,hj,e⟩:=h;rw[List.getElem_set]at e;split at e
 ·exact .inr e.symm
 ·exact .inl (by rw[<-e];exact aqI _)
theorem Good.put{s:HS}(g:Good s){h:Int}{w:Wd}(c:∀ t,w=.th t->∃ ws,(t,ws)∈s.aJ):Good (uw s h w) :=
 ⟨by show(s.aZ.set _ _).length=8;rw[aqp];exact g.h8,g.n8,g.asc,g.lt,g.f6,(λt m=>(rQ m).elim (λq=>g.hh t q) λe=>c t e.symm),g.ff,g.nn,g.b12,g.bk,g.bnd,g.n0,g.nx,g.sd,g.yk,g.Iv,g.dk,g.Ki⟩
noncomputable abbrev EO:List Str:=["self","h","w","t"]
theorem se:aw EO ["self","h","w"] (aq nU):=fsc
theorem Cr(F:Fun K "read" "IdealHeap.read" nU D.dY D.i8)(T:Txt K mg D)
  (mO:9e7 5 D.bU D.iu ["self","h","w"] (RE D))
  (mP:9e7 4 D.du D.iw ["self","t"] (RJ D)):9e7 7 D.dY D.i8 ["self","h","w"] (RL D):=by
 refine F.oa se F.b3 λcdv A' outer s' H vs Q E hr h=>?_;obtain⟨x,A,s,h,w,rfl,J,G,hh,hw,k⟩:=h;refine⟨_,(aj (aS (i:=3) se.nd rfl 1e9 (mO.m hr (pv 0) T.ae T.tO px (aa (pv 1) 3e9)))
  (ai (bQ (rf (ZN (pv 3) 1e8) 3e1)
   (ai (aG (mP.m hr (pv 0) T.ae T.Aa px 6e5)))
   aR))),?_⟩
 refine⟨_,rfl,x,_,_,rfl,J.ax,1e4,_,rfl,_,rfl,x,A,s,h,w,rfl,J,G,hh,hw,?_⟩;by_cases c:ok8 h
 ·rw[if_pos c]
  by_cases c2:ok8 w
  ·rw[if_pos c2]
   rw[show oW s h w=(none,rdR (uw s h (nmW 1e10)) 1e10) by simp only[oW,if_pos c,if_pos c2]]at k;have hi:w.toNat<s.names.length:=(by rw[G.n8];omega);have gd:s.names.getD w.toNat none=s.names[w.toNat]:=(by simp[List.getD,hi]);have mm:s.names[w.toNat]∈s.names:=aqI hi;obtain⟨z,ez⟩:∃ z,s.names.getD w.toNat none=z:=⟨_,rfl⟩;rw[ez]at k ⊢;rw[<-gd,ez]at mm;intro A1 H1 J1 fr;refine⟨_,rfl,_,rfl,x,D.ab,_,_,_,rfl,J1.ax,T.ae,T.bD,SX,A1.dm,_,z.map Sum.inl,rfl,abX z,.inl J1.adm,_,rfl,?_⟩;rw[aeO];cases z with
   | none=>exact xt (k A1 H1 J1 fr)
   | some t =>
    show if decide (t∈s.eL)=true then _ else _;obtain⟨ws,m⟩:=G.nn t mm;by_cases c3:t∈s.eL
    ·rw[decide_eq_true c3]
     rw[show rdR (uw s h (nmW (some t))) (some t)=uP (uw s h (nmW (some t))) t from if_pos c3]at k;have G2:Good (uw s h (nmW (some t))):=G.put λu e=>by cases e;exact⟨ws,m⟩
     exact yt ⟨_,rfl,x,_,_,rfl,J1.ax,1e4,_,rfl,x,A1,_,t,rfl,J1,G2,(G.lt _ _ m).1,λA2 H2 J2 fr2=>k A2 H2 J2 (fr.trans fr2)⟩
    ·rw[decide_eq_false c3]
     rw[show rdR (uw s h (nmW (some t))) (some t)=uw s h (nmW (some t)) from if_neg c3]at k;exact xt (k A1 H1 J1 fr)
  ·rw[if_neg c2]
   rw[show oW s h w=(some .name,s) by simp only[oW,if_pos c,if_neg c2]]at k;exact k.bad J
 ·rw[if_neg c]
  rw[show oW s h w=3e3 by simp only[oW,if_neg c]]at k;exact k.bad J
inductive Dd where
 | make (h n:Int)|store (g k h:Int)|load (h g k:Int)|copy (h g:Int)|drop (h:Int)|number (h x:Int)|name (w h:Int)|read (h w:Int)|word (h x:Int)|small|turn
noncomputable def Dd.its:Dd->List V
 | .make h n=>[.str "make",.int h,.int n]
 | .store g k h=>[.str "store",.int g,.int k,.int h]
 | .load h g k=>[.str "load",.int h,.int g,.int k]
 | .copy h g=>[.str "copy",.int h,.int g]
 | .drop h=>[.str "drop",.int h]
 | .number h x=>[.str "number",.int h,.int x]
 | .name w h=>[.str "name",.int w,.int h]
 | .read h w=>[.str "read",.int h,.int w]
 | .word h x=>[.str "word",.int h,.int x]
 | .small=>[.str "small"]
 | .turn=>[.str "turn"]
noncomputable abbrev In8(h:Int):Prop:=0<=h/\h<8
noncomputable def Dd.ok:Dd->Prop
 | .make h n=>In8 h/\0<=n/\n<=6
 | .store g k h=>In8 g/\0<=k/\k<=6/\In8 h
 | .load h g k=>In8 h/\In8 g/\0<=k/\k<=6
 | .copy h g=>In8 h/\In8 g
 | .drop h=>In8 h
 | .number h x=>In8 h/\-100000<=x/\x<=100000
 | .name w h=>In8 w/\In8 h
 | .read h w=>In8 h/\In8 w
 | .word h x=>In8 h/\-100000<=x/\x<=100000
 | .small=>True
 | .turn=>True
theorem m8(n d:Int):0<=n/d%8/\n/d%8<8:=⟨aq1 _ 2e6,aqU _ 2e6⟩
noncomputable def Kl(K:W.Frag):Sp:=λvs H Q _=>∃(a:Addr) (ns:List Int) (m:Int),vs=[.ref a,.int m]/\SqL K H a 4e6/\ns.length<=63/\∀ p (zs:List Int) H',az H H'->H p=none->H' p=some 1e13->zs.length<=200/\(0<=m->zs.length<=m.toNat)->(∀ z∈zs,0<=z/\z<65536)->Q 4e7 H'
theorem Xp(ns:List Int)(lo hi:Option Int):∃ cs:List Int,XS 4e6 lo hi=cs.map V.int/\cs.length<=ns.length/\(∀ c∈cs,c∈ns)/\∀ m,hi=some m->0<=m->cs.length<=m.toNat:=by
 refine⟨(ns.drop (HT.sIx ns.length 0 lo)).take (HT.sIx ns.length ns.length hi-HT.sIx ns.length 0 lo),?_,?_,λc hc=>List.mem_of_mem_drop (aqY hc),λm e m0=>?_⟩
 ·unfold XS
  rw[apR,List.map_take,List.map_drop]
 ·rw[ap6,ari]
  omega
 ·subst e
  rw[ap6]
  have:HT.sIx ns.length ns.length (some m)<=m.toNat:=by
   show(if m<0 then(m+(ns.length:Int)).toNat else min m.toNat ns.length)<=_;rw[if_neg 1e1];omega
  omega
noncomputable abbrev IV:List Str:=["script","most","found","k","near","turn"]
theorem eO:aw IV ["script","most"] (aq qO):=fsc
theorem Hu(F:Fun K "_law_numbers" "_law_numbers" qO D.eJ D.kz)(T:Txt K mg D):9e7 2 D.eJ D.kz ["script","most"] (Kl K):=by
 refine F.oa eO F.b2 λcdv A' outer s' H vs Q E hr h=>?_;obtain⟨a,ns,m,rfl,hS,hlen,k⟩:=h;refine⟨_,(PSs.nox (aj (aS (i:=2) eO.nd rfl 1e9 (qa ak))
  (aj (gq aqg rfl (zj rfl T.zH (aa (cc bh rfl T.lM PyProof.Rows.Boot.«len» 7e3) ak)) (bA (i:=3) eO.nd rfl 1e9)
   (aj (aS (i:=4) eO.nd rfl 1e9 (cM rg (a8 jy (pv 0) (pv 3) 1e6) av))
   (aj (bQ (aK rB (cM rg (a8 jy (pv 0) av 1e6) av) av (aW _))
    (aj (aS (i:=4) eO.nd rfl 1e9 (cM rg (cM O6 (cM iO (cM iO (pv 4) (cM O6 av (pv 3))) av) av) av))
    (ai (aS (i:=4) eO.nd rfl 1e9 (cM rg (cM O6 (pv 4) (pv 4)) av))))
    aR)
   (ai (gq aqg rfl (zj rfl T.zH (aa av ak)) (bA (i:=5) eO.nd rfl 1e9)
    (aj (bQ (PW.pt (pw_or (aK rB (pv 5) av (aW _)) (pw_or1 (aK JT (pv 4) av (aW _)))))
     (ai (aG (Mj PySem.F.plainAttrs_list PySem.F.slot_list_append PySem.F.type_list_append rh (pv 2) (aa (cM rg (pv 4) av) ak))))
     aR)
    (ai (aS (i:=4) eO.nd rfl 1e9 (cM Ei (pv 4) av)))))))))
  (ai (aI (WR Zu (pv 2) Zr (Zs (pv 1)))))))),?_⟩
 refine⟨by show 0<=sizeLine;decide,λp hp=>?_⟩;have s1:=az.upd (o:=.lst []) hp;have z1:upd H p (.lst []) p=some (.lst (([]:List Int).map V.int)):=ag;obtain⟨H1,e1⟩:∃ H1,upd H p (.lst [])=H1:=⟨_,rfl⟩;show sL 2 (V.ref p) _ (upd H p (.lst [])) _;rw[e1]at s1 z1 ⊢;clear e1;have hpa:∀ {Hx:Hp},az H Hx->SqL K Hx a 4e6:=λs=>s.seq hS;refine⟨_,rfl,a,_,rfl,.inl (hpa s1),(ns.map V.int).length,rfl,by omega,by rw[apR];omega,Mq (lo:=0) (n:=(ns.map V.int).length) (λi σ Hx=>∃(v3 v4 v5:Option V) (zs:List Int),σ=[some 8e5,some (.int m),some 4e7,v3,v4,v5]/\az H Hx/\Hx p=some 1e13/\zs.length<=3*i/\∀ z∈zs,0<=z/\z<65536) ⟨none,none,none,[],rfl,s1,z1,apV _,λz hz=>by cases hz⟩ ?_ ?_⟩
 ·rintro i σ Hx hi ⟨v3,v4,v5,zs,rfl,sx,zx,lx,bx⟩
  rw[apR]at hi;have hk:atI 4e6 (0+(i:Int))=some (.int ns[i]):=by rw[arP];exact Ek (by rw[apZ,apT hi];rfl)
  have h0:atI 4e6 0=some (.int (ns[0]' 1e1)):=Ek (j:=0) (by rw[apZ,apT 1e1];rfl);have b0:=aq1 ns[i] (show(281474976710656:Int)≠0 by decide);have b1:=aqU ns[i] (show(0:Int)<281474976710656 by decide);refine⟨_,rfl,_,rfl,a,_,_,_,rfl,rfl,hpa sx,hk,_,281474976710656,rfl,rfl,(by show(0:Int)<281474976710656;decide),?_⟩;obtain⟨ne,ene⟩:∃ ne:Int,ns[i]%281474976710656=ne:=⟨_,rfl⟩;rw[ene]at b0 b1;simp only[ene,sL];refine Et λN hN=>?_;have rest:∀ near:Int,0<=near->N [some 8e5,some (.int m),some 4e7,some (.int (0+(i:Int))),some (.int near),v5] Hx:=by
   intro near n0;refine hN _ _ ?_;refine⟨3,rfl,by decide,by decide,Mq (lo:=0) (n:=3) (λj σ Hy=>∃(near:Int) (v5:Option V) (zs:List Int),σ=[some 8e5,some (.int m),some 4e7,some (.int (0+(i:Int))),some (.int near),v5]/\0<=near/\az H Hy/\Hy p=some 1e13/\zs.length<=3*i+j/\∀ z∈zs,0<=z/\z<65536) ⟨near,v5,zs,rfl,n0,sx,zx,by omega,bx⟩ ?_ ?_⟩
   ·rintro j σ Hy hj ⟨near,v5,zs,rfl,n0,sy,zy,ly,by_⟩
    refine Et λM hM=>?_;have tail:∀(zs:List Int) (Hy:Hp),az H Hy->Hy p=some 1e13->zs.length<=3*i+(j+1)->(∀ z∈zs,0<=z/\z<65536)->M [some 8e5,some (.int m),some 4e7,some (.int (0+(i:Int))),some (.int near),some (.int (0+(j:Int)))] Hy:=by
     intro zs Hy sy zy ly by_;exact hM _ _ ⟨_,rfl,near,65536,rfl,rfl,⟨by decide,by decide⟩,near/65536,_,zs,rfl,Int.ediv_nonneg n0 2e6,sy,zy,ly,by_⟩
    have app:M=M:=rfl;refine abT λB hB=>?_;have grow:B [some 8e5,some (.int m),some 4e7,some (.int (0+(i:Int))),some (.int near),some (.int (0+(j:Int)))] Hy:=by
     refine hB _ _ ?_;refine⟨_,rfl,.inl ⟨rfl,_,SqL.of zy⟩,_,rfl,near,65536,rfl,rfl,(by show(0:Int)<65536;decide),p,_,_,rfl,rfl,zy,aqL (show(zs.map V.int).length<=1000 by rw[apR];omega) 2e6,?_⟩;refine tail (zs++[near%65536]) _ (λb u g=>by rw[ah (ar g hp)];exact sy b u g) (by rw[ag,ap3];rfl) (by rw[ap4,aqC];omega) (λz hz=>?_);rcases aqc.mp hz with g|g
     ·exact by_ z g
     ·rw[apU.mp g]
      exact⟨aq1 _ 2e6,aqU _ 2e6⟩
    refine⟨_,rfl,rfl,_,rfl,a9 (λ_=>yt grow) (λ_=>⟨_,rfl,near,0,rfl,rfl,_,rfl,a9 (λ_=>grow) (λ_=>tail zs Hy sy zy 1e1 by_)⟩)⟩
   ·rintro σ Hy ⟨near,v5,zs,rfl,n0,sy,zy,ly,by_⟩
    exact⟨_,_,_,zs,rfl,sy,zy,by omega,by_⟩
  refine⟨_,rfl,a,_,0,_,rfl,rfl,hpa sx,h0,_,2,rfl,rfl,(by show(0:Int)<2;decide),rfl,_,rfl,a9 2e7 (λ_=>rest ne b0)⟩;have q0:=aq1 ((ne+7919*(0+(i:Int))+1)*48271) (show(2147483647:Int)≠0 by decide);have q1:=aqU ((ne+7919*(0+(i:Int))+1)*48271) (show(0:Int)<2147483647 by decide);refine⟨_,rfl,_,rfl,7919,0+(i:Int),rfl,rfl,.inl ⟨by decide,by decide⟩,ne,_,rfl,rfl,_,1,rfl,rfl,_,48271,rfl,rfl,.inr ⟨by decide,by decide⟩,_,2147483647,rfl,rfl,(by show(0:Int)<2147483647;decide),?_⟩;obtain⟨n2,en2⟩:∃ n2:Int,(ne+7919*(0+(i:Int))+1)*48271%2147483647=n2:=⟨_,rfl⟩;rw[en2]at q0 q1;simp only[en2,sL];refine⟨_,rfl,_,rfl,n2,n2,rfl,rfl,.inl ⟨by omega,by omega⟩,_,281474976710597,rfl,rfl,(by show(0:Int)<281474976710597;decide),?_⟩;exact rest _ (aq1 _ 2e6)
 ·rintro σ Hx ⟨v3,v4,v5,zs,rfl,sx,zx,lx,bx⟩
  rw[apR]at lx;obtain⟨cs,ec,cl,cm,cb⟩:=Xp zs none (some m);refine⟨_,rfl,_,rfl,_,rfl,p,_,rfl,SqL.of zx,λq hq=>?_⟩;rw[ec];have hq0:H q=none:=az.none sx hq;exact k q cs _ (sx.trans (az.upd hq)) hq0 ag ⟨by omega,λm0=>cb m rfl m0⟩ (λz hz=>bx z (cm z hz))
noncomputable def U2:Sp:=λvs H Q _=>∃ n:Int,vs=[.int n]/\0<=n/\n<65536/\∀ q dd H',az H H'->H q=none->H' q=some (.tup (Dd.its dd))->dd.ok->Q (.ref q) H'
noncomputable abbrev Qh:List Str:=["number","a","b","c","kind","some"]
theorem kQ:aw Qh ["number"] (aq xS):=fsc
theorem NG(F:Fun K "_law_deed" "_law_deed" xS D.iJ D.pG)(T:Txt K mg D):9e7 1 D.iJ D.pG ["number"] (U2):=by
 refine F.oa kQ F.b1 λcdv A' outer s' H vs Q E hr h=>?_;obtain⟨n,rfl,n0,n1,k⟩:=h;refine⟨_,(PSs.nox (aj (aS (i:=1) kQ.nd rfl 1e9 (cM rg (cM Ei (pv 0) av) av))
  (aj (aS (i:=2) kQ.nd rfl 1e9 (cM rg (cM Ei (pv 0) av) av))
  (aj (aS (i:=3) kQ.nd rfl 1e9 (cM rg (cM Ei (pv 0) av) av))
  (aj (aS (i:=4) kQ.nd rfl 1e9 (cM rg (pv 0) av))
  (aj (bQ (aK vt (pv 4) av (aW _))
   (ai (aI (cg (aa aP (aa (pv 1) (aa (a8 jy (qa (aa av (aa av (aa av (aa av (aa av (aa av (aa av (aa av ak))))))))) (pv 3) 1e6) ak))))))
   aR)
  (aj (bQ (aK vt (pv 4) av (aW _))
   (ai (aI (cg (aa aP (aa (pv 1) (aa (cM rg (pv 3) av) 3e9))))))
   aR)
  (aj (bQ (aK vt (pv 4) av (aW _))
   (ai (aI (cg (aa aP (aa (pv 1) (aa (pv 2) (aa (cM rg (pv 3) av) ak)))))))
   aR)
  (aj (aS (i:=5) kQ.nd rfl 1e9 (qa (dO (cg (aa aP (aa (pv 1) 3e9))) (dO (cg (aa aP 2e4)) (dO (cg (aa aP (aa (pv 1) (aa (cM Ub (cM O6 (pv 2) av) (pv 3)) ak)))) (dO (cg (aa aP (aa (pv 2) 2e4))) ak))))))
  (ai (aI (a8 jy (cM UG (pv 5) (qa (dO (cg (aa aP (aa (pv 1) 3e9))) (dO (cg (aa aP (aa (pv 1) (aa (cM Ub (pv 0) av) ak)))) (dO (cg (aa aP ak)) (dO (cg (aa aP ak)) ak)))))) (cM Ub (pv 4) av) 1e6)))))))))))),?_⟩
 obtain⟨a,ea⟩:∃ a:Int,n/16%8=a:=⟨_,rfl⟩;obtain⟨b,eb⟩:∃ b:Int,n/128%8=b:=⟨_,rfl⟩;obtain⟨c,ec⟩:∃ c:Int,n/1024%8=c:=⟨_,rfl⟩;obtain⟨kd,ek⟩:∃ kd:Int,n%16=kd:=⟨_,rfl⟩;have ha:In8 a:=by rw[<-ea];exact m8 n 16
 have hb:In8 b:=by rw[<-eb];exact m8 n 128
 have hc:In8 c:=by rw[<-ec];exact m8 n 1024
 have k0:0<=kd:=by rw[<-ek];exact aq1 _ 2e6
 have k1:kd<16:=by rw[<-ek];exact aqU _ 2e6
 refine⟨_,rfl,n,16,rfl,rfl,⟨by decide,by decide⟩,_,8,rfl,rfl,(by show(0:Int)<8;decide),?_⟩;simp only[ea,sL];refine⟨_,rfl,n,128,rfl,rfl,⟨by decide,by decide⟩,_,8,rfl,rfl,(by show(0:Int)<8;decide),?_⟩;simp only[eb,sL];refine⟨_,rfl,n,1024,rfl,rfl,⟨by decide,by decide⟩,_,8,rfl,rfl,(by show(0:Int)<8;decide),?_⟩;simp only[ec,sL];refine⟨_,rfl,n,16,rfl,rfl,(by show(0:Int)<16;decide),?_⟩;simp only[ek,sL];have c30:=aq1 c (show(3:Int)≠0 by decide);have c31:=aqU c (show(0:Int)<3 by decide);refine⟨_,rfl,kd,3,rfl,rfl,_,rfl,a9 2e7 (λg3=>?_)⟩
 ·obtain⟨m,hm,m0,m6⟩:∃ m:Int,atI [V.int 2,V.int 3,V.int 1,V.int 4,V.int 2,V.int 0,V.int 6,V.int 3] c=some (.int m)/\0<=m/\m<=6:=by
   obtain⟨c0,c8⟩:=hc;rcases(show c=0\/c=1\/c=2\/c=3\/c=4\/c=5\/c=6\/c=7 by omega) with rfl|rfl|rfl|rfl|rfl|rfl|rfl|rfl<;>exact⟨_,rfl,by decide,by decide⟩
  refine⟨_,rfl,by show 8<=sizeLine;decide,λl hl=>⟨_,rfl,l,_,c,_,rfl,rfl,SqL.of ag,hm,by show 3<=sizeLine;decide,λq hq=>?_⟩⟩;exact k q (.make a m) _ ((az.upd hl).trans (az.upd hq)) (az.none (az.upd hl) hq) ag ⟨ha,m0,m6⟩
 ·have g3:¬kd<3:=λz=>g3 (decide_eq_true z)
  refine⟨_,rfl,kd,6,rfl,rfl,_,rfl,a9 2e7 (λg6=>?_)⟩
  ·refine⟨_,rfl,_,rfl,c,3,rfl,rfl,(by show(0:Int)<3;decide),_,rfl,by show 4<=sizeLine;decide,λq hq=>?_⟩
   exact k q (.store a (c%3) b) _ (az.upd hq) hq ag ⟨ha,c30,by omega,hb⟩
  ·have g6:¬kd<6:=λz=>g6 (decide_eq_true z)
   refine⟨_,rfl,kd,8,rfl,rfl,_,rfl,a9 2e7 (λg8=>?_)⟩
   ·refine⟨_,rfl,_,rfl,_,rfl,c,3,rfl,rfl,(by show(0:Int)<3;decide),by show 4<=sizeLine;decide,λq hq=>?_⟩
    exact k q (.load a b (c%3)) _ (az.upd hq) hq ag ⟨ha,hb,c30,by omega⟩
   ·have g8:¬kd<8:=λz=>g8 (decide_eq_true z)
    refine⟨_,rfl,_,rfl,by show 3<=sizeLine;decide,λt1 h1=>⟨_,rfl,by show 2<=sizeLine;decide,λt2 h2=>⟨_,rfl,_,rfl,b,1000,rfl,rfl,.inr ⟨by decide,by decide⟩,_,rfl,_,c,rfl,rfl,by show 3<=sizeLine;decide,λt3 h3=>⟨_,rfl,_,rfl,by show 3<=sizeLine;decide,λt4 h4=>⟨by show 4<=sizeLine;decide,λl1 hl1=>?_⟩⟩⟩⟩⟩;have r1:=az.upd (o:=.tup (Dd.its (.copy a b))) h1;have r2:=az.upd (o:=.tup (Dd.its (.drop a))) h2;have r3:=az.upd (o:=.tup (Dd.its (.number a (b*1000-c)))) h3;have r4:=az.upd (o:=.tup (Dd.its (.name b a))) h4;have r5:=az.upd (o:=.lst [V.ref t1,V.ref t2,V.ref t3,V.ref t4]) hl1;refine⟨_,rfl,_,rfl,_,rfl,by show 3<=sizeLine;decide,λt5 h5=>⟨_,rfl,_,rfl,n,30000,rfl,rfl,by show 3<=sizeLine;decide,λt6 h6=>⟨by show 1<=sizeLine;decide,λt7 h7=>⟨by show 1<=sizeLine;decide,λt8 h8=>⟨by show 4<=sizeLine;decide,λl2 hl2=>?_⟩⟩⟩⟩⟩;have r6:=az.upd (o:=.tup (Dd.its (.read a b))) h5;have r7:=az.upd (o:=.tup (Dd.its (.word a (n-30000)))) h6;have r8:=az.upd (o:=.tup (Dd.its .small)) h7;have r9:=az.upd (o:=.tup (Dd.its .turn)) h8;have r10:=az.upd (o:=.lst [V.ref t5,V.ref t6,V.ref t7,V.ref t8]) hl2;refine⟨l1,l2,_,_,rfl,rfl,SqL.of ((r6.trans (r7.trans (r8.trans (r9.trans r10)))) _ _ ag),SqL.of ag,by show 8<=sizeLine;decide,λl3 hl3=>?_⟩;have r11:=az.upd (o:=.lst ([V.ref t1,V.ref t2,V.ref t3,V.ref t4]++[V.ref t5,V.ref t6,V.ref t7,V.ref t8])) hl3;have q10:=r10.trans r11;have q9:=r9.trans q10;have q8:=r8.trans q9;have q7:=r7.trans q8;have q6:=r6.trans q7;have q5:=r5.trans q6;have q4:=r4.trans q5;have q3:=r3.trans q4;have q2:=r2.trans q3;have q1:=r1.trans q2;have p4:=((r1.trans r2).trans r3).trans r4;have p5:=p4.trans r5;have p6:=p5.trans r6;have p7:=p6.trans r7;have p8:=p7.trans r8;refine⟨_,rfl,kd,8,rfl,rfl,?_⟩;have cs:kd=8\/kd=9\/kd=10\/kd=11\/kd=12\/kd=13\/kd=14\/kd=15:=1e1;have bb:-100000<=b*1000-c/\b*1000-c<=100000:=(by obtain⟨_,_⟩:=hb;obtain⟨_,_⟩:=hc;omega);rcases cs with rfl|rfl|rfl|rfl|rfl|rfl|rfl|rfl
    ·exact⟨l3,_,_,.ref t1,rfl,rfl,SqL.of ag,rfl,k t1 (.copy a b) _ q1 h1 (q2 _ _ ag) ⟨ha,hb⟩⟩
    ·exact⟨l3,_,_,.ref t2,rfl,rfl,SqL.of ag,rfl,k t2 (.drop a) _ q1 (az.none r1 h2) (q3 _ _ ag) ha⟩
    ·exact⟨l3,_,_,.ref t3,rfl,rfl,SqL.of ag,rfl,k t3 (.number a (b*1000-c)) _ q1 (az.none (r1.trans r2) h3) (q4 _ _ ag) ⟨ha,bb.1,bb.2⟩⟩
    ·exact⟨l3,_,_,.ref t4,rfl,rfl,SqL.of ag,rfl,k t4 (.name b a) _ q1 (az.none ((r1.trans r2).trans r3) h4) (q5 _ _ ag) ⟨hb,ha⟩⟩
    ·exact⟨l3,_,_,.ref t5,rfl,rfl,SqL.of ag,rfl,k t5 (.read a b) _ q1 (az.none p5 h5) (q7 _ _ ag) ⟨ha,hb⟩⟩
    ·exact⟨l3,_,_,.ref t6,rfl,rfl,SqL.of ag,rfl,k t6 (.word a (n-30000)) _ q1 (az.none p6 h6) (q8 _ _ ag) ⟨ha,by omega,by omega⟩⟩
    ·exact⟨l3,_,_,.ref t7,rfl,rfl,SqL.of ag,rfl,k t7 .small _ q1 (az.none p7 h7) (q9 _ _ ag) True.intro⟩
    ·exact⟨l3,_,_,.ref t8,rfl,rfl,SqL.of ag,rfl,k t8 .turn _ q1 (az.none p8 h8) (q10 _ _ ag) True.intro⟩
noncomputable def D9(s:HS):Re:=if s.rnd=true then Tf s else zO s
noncomputable def dDo(s:HS):Dd->Re
 | .make h n=>oZ s h n
 | .store g k h=>jZ s g k h
 | .load h g k=>oO s h g k
 | .copy h g=>vC s h g
 | .drop h=>zw s h
 | .number h x=>kG s h x
 | .name w h=>qq s w h
 | .read h w=>oW s h w
 | .word h x=>oQ s h x
 | .small=>(none,eZ s)
 | .turn=>D9 s
noncomputable def Ur:Er->Str
 | .hand => "BadHand"
 | .name => "BadName"
 | .field => "BadField"
 | .count => "BadCount"
 | .room => "NoRoom"
 | .words => "TooManyWords"
 | .on => "RoundOn"
 | .no => "NoRound"
noncomputable def wdV:Option Er->V
 | none=>.non
 | some e=>.str (Ur e)
noncomputable def RM(D:Ad):Sp:=λvs H Q E=>∃ x A s q dd,vs=[.ref x,.ref q]/\IH D H x A s/\Gd s/\s.nxt<10000/\H q=some (.tup (Dd.its dd))/\dd.ok/\Fin D x A s H (dDo s dd) Q E
noncomputable abbrev NH:List Str:=["hall","deed"]
theorem Lq:aw NH ["hall","deed"] (aq uY):=fsc
theorem Lr(F:Fun K "_law_plain" "_law_plain" uY D.gy D.nA)(T:Txt K mg D)
  (ot:9e7 8 D.dX D.i7 ["self","h","n"] (RK D))
  (vk:9e7 7 D.fN D.ny ["self","g","k","h"] (RD D))
  (yc:9e7 7 D.gW D.pk ["self","h","g","k"] (UT D))
  (yd:9e7 6 D.gX D.pw ["self","h","g"] (UP D))
  (ye:9e7 5 D.gY D.pA ["self","h"] (UQ D))
  (tJ:9e7 6 D.eC D.lg ["self","h","x"] (MP D))
  (yh:9e7 7 D.gZ D.pB ["self","w","h"] (UR D))
  (ou:9e7 7 D.dY D.i8 ["self","h","w"] (RL D))
  (yi:9e7 7 D.g4 D.pD ["self","h","x"] (US D))
  (cE:9e7 5 D.bV D.eB ["self"] (D8 D))
  (dR:9e7 1 D.bG D.dP ["self"] (Uq D))
  (gc:9e7 4 D.dI D.ia ["self"] (Up D))
  (fW:9e7 6 D.cy D.fT ["self"] (Uo D)):9e7 9 D.gy D.nA ["hall","deed"] (RM D):=by
 refine F.oa Lq F.b2 λcdv A' outer s' H vs Q E hr h=>?_;obtain⟨x,A,s,q,dd,rfl,J,Gs,hnx,hq,hok,k⟩:=h;refine⟨_,(ai (bQ 7e0
   (ai (aG (ot.m hr (pv 0) T.ae T.BK px (aa 2e3 (aa 2e3 ak)))))
   (ai (bQ 7e0
    (ai (aG (vk.m hr (pv 0) T.ae T.zZ px (aa 2e3 (aa 2e3 (aa 2e3 ak))))))
    (ai (bQ 7e0
     (ai (aG (yc.m hr (pv 0) T.ae T.BF px (aa 2e3 (aa 2e3 (aa 2e3 ak))))))
     (ai (bQ 7e0
      (ai (aG (yd.m hr (pv 0) T.ae T.BG px (aa 2e3 (aa 2e3 ak)))))
      (ai (bQ 7e0
       (ai (aG (ye.m hr (pv 0) T.ae T.BH px (aa 2e3 ak))))
       (ai (bQ 7e0
        (ai (aG (tJ.m hr (pv 0) T.ae T.yy px (aa 2e3 (aa 2e3 ak)))))
        (ai (bQ 7e0
         (ai (aG (yh.m hr (pv 0) T.ae T.BI px (aa 2e3 (aa 2e3 ak)))))
         (ai (bQ 7e0
          (ai (aG (ou.m hr (pv 0) T.ae T.BL px (aa 2e3 (aa 2e3 ak)))))
          (ai (bQ 7e0
           (ai (aG (yi.m hr (pv 0) T.ae T.BJ px (aa 2e3 (aa 2e3 ak)))))
           (ai (bQ 7e0
            (ai (aG (cE.m0 hr (pv 0) T.ae T.lE px)))
            (ai (bQ (zA (dR.m0 hr (pv 0) T.ae T.nI px))
             (ai (aG (gc.m0 hr (pv 0) T.ae T.nZ px)))
             (ai (aG (fW.m0 hr (pv 0) T.ae T.qx px))))))))))))))))))))))))),?_⟩
 have G:=Gs.g;cases dd with
 | make h n =>
  replace hq:H q=some (.tup [.str "make",.int h,.int n]):=hq;obtain⟨⟨h0,h1⟩,n0,n1⟩:=hok;refine⟨_,rfl,q,_,0,.str "make",rfl,rfl,SqT.of hq,rfl,rfl,_,rfl,a9 2e7 7e9⟩;exact⟨_,rfl,x,_,_,rfl,J.ax,1e4,_,rfl,q,_,1,.int h,rfl,rfl,SqT.of hq,rfl,_,rfl,q,_,2,.int n,rfl,rfl,SqT.of hq,rfl,x,A,s,h,n,rfl,J,Gs,hnx,Sm.of 1e1 1e1,Sm.of 1e1 1e1,k⟩
 | store g kk h =>
  replace hq:H q=some (.tup [.str "store",.int g,.int kk,.int h]):=hq;obtain⟨⟨g0,g1⟩,k0,k1,h0,h1⟩:=hok;refine⟨_,rfl,q,_,0,.str "store",rfl,rfl,SqT.of hq,rfl,rfl,_,rfl,a9 1e2 2e7⟩;refine⟨_,rfl,q,_,0,.str "store",rfl,rfl,SqT.of hq,rfl,rfl,_,rfl,a9 2e7 7e9⟩;exact⟨_,rfl,x,_,_,rfl,J.ax,1e4,_,rfl,q,_,1,.int g,rfl,rfl,SqT.of hq,rfl,_,rfl,q,_,2,.int kk,rfl,rfl,SqT.of hq,rfl,_,rfl,q,_,3,.int h,rfl,rfl,SqT.of hq,rfl,x,A,s,g,kk,h,rfl,J,G,Sm.of 1e1 1e1,Sm.of 1e1 1e1,Sm.of 1e1 1e1,k⟩
 | load h g kk =>
  replace hq:H q=some (.tup [.str "load",.int h,.int g,.int kk]):=hq;obtain⟨⟨h0,h1⟩,⟨g0,g1⟩,k0,k1⟩:=hok;refine⟨_,rfl,q,_,0,.str "load",rfl,rfl,SqT.of hq,rfl,rfl,_,rfl,a9 1e2 2e7⟩;refine⟨_,rfl,q,_,0,.str "load",rfl,rfl,SqT.of hq,rfl,rfl,_,rfl,a9 1e2 2e7⟩;refine⟨_,rfl,q,_,0,.str "load",rfl,rfl,SqT.of hq,rfl,rfl,_,rfl,a9 2e7 7e9⟩;exact⟨_,rfl,x,_,_,rfl,J.ax,1e4,_,rfl,q,_,1,.int h,rfl,rfl,SqT.of hq,rfl,_,rfl,q,_,2,.int g,rfl,rfl,SqT.of hq,rfl,_,rfl,q,_,3,.int kk,rfl,rfl,SqT.of hq,rfl,x,A,s,h,g,kk,rfl,J,G,Sm.of 1e1 1e1,Sm.of 1e1 1e1,Sm.of 1e1 1e1,k⟩
 | copy h g =>
  replace hq:H q=some (.tup [.str "copy",.int h,.int g]):=hq;obtain⟨⟨h0,h1⟩,g0,g1⟩:=hok;refine⟨_,rfl,q,_,0,.str "copy",rfl,rfl,SqT.of hq,rfl,rfl,_,rfl,a9 1e2 2e7⟩;refine⟨_,rfl,q,_,0,.str "copy",rfl,rfl,SqT.of hq,rfl,rfl,_,rfl,a9 1e2 2e7⟩;refine⟨_,rfl,q,_,0,.str "copy",rfl,rfl,SqT.of hq,rfl,rfl,_,rfl,a9 1e2 2e7⟩;refine⟨_,rfl,q,_,0,.str "copy",rfl,rfl,SqT.of hq,rfl,rfl,_,rfl,a9 2e7 7e9⟩;exact⟨_,rfl,x,_,_,rfl,J.ax,1e4,_,rfl,q,_,1,.int h,rfl,rfl,SqT.of hq,rfl,_,rfl,q,_,2,.int g,rfl,rfl,SqT.of hq,rfl,x,A,s,h,g,rfl,J,G,Sm.of 1e1 1e1,Sm.of 1e1 1e1,k⟩
 | drop h =>
  replace hq:H q=some (.tup [.str "drop",.int h]):=hq;obtain⟨h0,h1⟩:=hok;refine⟨_,rfl,q,_,0,.str "drop",rfl,rfl,SqT.of hq,rfl,rfl,_,rfl,a9 1e2 2e7⟩;refine⟨_,rfl,q,_,0,.str "drop",rfl,rfl,SqT.of hq,rfl,rfl,_,rfl,a9 1e2 2e7⟩;refine⟨_,rfl,q,_,0,.str "drop",rfl,rfl,SqT.of hq,rfl,rfl,_,rfl,a9 1e2 2e7⟩;refine⟨_,rfl,q,_,0,.str "drop",rfl,rfl,SqT.of hq,rfl,rfl,_,rfl,a9 1e2 2e7⟩;refine⟨_,rfl,q,_,0,.str "drop",rfl,rfl,SqT.of hq,rfl,rfl,_,rfl,a9 2e7 7e9⟩;exact⟨_,rfl,x,_,_,rfl,J.ax,1e4,_,rfl,q,_,1,.int h,rfl,rfl,SqT.of hq,rfl,x,A,s,h,rfl,J,G,Sm.of 1e1 1e1,k⟩
 | number h z =>
  replace hq:H q=some (.tup [.str "number",.int h,.int z]):=hq;obtain⟨⟨h0,h1⟩,z0,z1⟩:=hok;refine⟨_,rfl,q,_,0,.str "number",rfl,rfl,SqT.of hq,rfl,rfl,_,rfl,a9 1e2 2e7⟩;refine⟨_,rfl,q,_,0,.str "number",rfl,rfl,SqT.of hq,rfl,rfl,_,rfl,a9 1e2 2e7⟩;refine⟨_,rfl,q,_,0,.str "number",rfl,rfl,SqT.of hq,rfl,rfl,_,rfl,a9 1e2 2e7⟩;refine⟨_,rfl,q,_,0,.str "number",rfl,rfl,SqT.of hq,rfl,rfl,_,rfl,a9 1e2 2e7⟩;refine⟨_,rfl,q,_,0,.str "number",rfl,rfl,SqT.of hq,rfl,rfl,_,rfl,a9 1e2 2e7⟩;refine⟨_,rfl,q,_,0,.str "number",rfl,rfl,SqT.of hq,rfl,rfl,_,rfl,a9 2e7 7e9⟩;exact⟨_,rfl,x,_,_,rfl,J.ax,1e4,_,rfl,q,_,1,.int h,rfl,rfl,SqT.of hq,rfl,_,rfl,q,_,2,.int z,rfl,rfl,SqT.of hq,rfl,x,A,s,h,z,rfl,J,G,Sm.of 1e1 1e1,Sm.of 1e1 1e1,k⟩
 | name w h =>
  replace hq:H q=some (.tup [.str "name",.int w,.int h]):=hq;obtain⟨⟨w0,w1⟩,h0,h1⟩:=hok;refine⟨_,rfl,q,_,0,.str "name",rfl,rfl,SqT.of hq,rfl,rfl,_,rfl,a9 1e2 2e7⟩;refine⟨_,rfl,q,_,0,.str "name",rfl,rfl,SqT.of hq,rfl,rfl,_,rfl,a9 1e2 2e7⟩;refine⟨_,rfl,q,_,0,.str "name",rfl,rfl,SqT.of hq,rfl,rfl,_,rfl,a9 1e2 2e7⟩;refine⟨_,rfl,q,_,0,.str "name",rfl,rfl,SqT.of hq,rfl,rfl,_,rfl,a9 1e2 2e7⟩;refine⟨_,rfl,q,_,0,.str "name",rfl,rfl,SqT.of hq,rfl,rfl,_,rfl,a9 1e2 2e7⟩;refine⟨_,rfl,q,_,0,.str "name",rfl,rfl,SqT.of hq,rfl,rfl,_,rfl,a9 1e2 2e7⟩;refine⟨_,rfl,q,_,0,.str "name",rfl,rfl,SqT.of hq,rfl,rfl,_,rfl,a9 2e7 7e9⟩;exact⟨_,rfl,x,_,_,rfl,J.ax,1e4,_,rfl,q,_,1,.int w,rfl,rfl,SqT.of hq,rfl,_,rfl,q,_,2,.int h,rfl,rfl,SqT.of hq,rfl,x,A,s,w,h,rfl,J,G,Sm.of 1e1 1e1,Sm.of 1e1 1e1,k⟩
 | read h w =>
  replace hq:H q=some (.tup [.str "read",.int h,.int w]):=hq;obtain⟨⟨h0,h1⟩,w0,w1⟩:=hok;refine⟨_,rfl,q,_,0,.str "read",rfl,rfl,SqT.of hq,rfl,rfl,_,rfl,a9 1e2 2e7⟩;refine⟨_,rfl,q,_,0,.str "read",rfl,rfl,SqT.of hq,rfl,rfl,_,rfl,a9 1e2 2e7⟩;refine⟨_,rfl,q,_,0,.str "read",rfl,rfl,SqT.of hq,rfl,rfl,_,rfl,a9 1e2 2e7⟩;refine⟨_,rfl,q,_,0,.str "read",rfl,rfl,SqT.of hq,rfl,rfl,_,rfl,a9 1e2 2e7⟩;refine⟨_,rfl,q,_,0,.str "read",rfl,rfl,SqT.of hq,rfl,rfl,_,rfl,a9 1e2 2e7⟩;refine⟨_,rfl,q,_,0,.str "read",rfl,rfl,SqT.of hq,rfl,rfl,_,rfl,a9 1e2 2e7⟩;refine⟨_,rfl,q,_,0,.str "read",rfl,rfl,SqT.of hq,rfl,rfl,_,rfl,a9 1e2 2e7⟩;refine⟨_,rfl,q,_,0,.str "read",rfl,rfl,SqT.of hq,rfl,rfl,_,rfl,a9 2e7 7e9⟩;exact⟨_,rfl,x,_,_,rfl,J.ax,1e4,_,rfl,q,_,1,.int h,rfl,rfl,SqT.of hq,rfl,_,rfl,q,_,2,.int w,rfl,rfl,SqT.of hq,rfl,x,A,s,h,w,rfl,J,G,Sm.of 1e1 1e1,Sm.of 1e1 1e1,k⟩
 | word h z =>
  replace hq:H q=some (.tup [.str "word",.int h,.int z]):=hq;obtain⟨⟨h0,h1⟩,z0,z1⟩:=hok;refine⟨_,rfl,q,_,0,.str "word",rfl,rfl,SqT.of hq,rfl,rfl,_,rfl,a9 1e2 2e7⟩;refine⟨_,rfl,q,_,0,.str "word",rfl,rfl,SqT.of hq,rfl,rfl,_,rfl,a9 1e2 2e7⟩;refine⟨_,rfl,q,_,0,.str "word",rfl,rfl,SqT.of hq,rfl,rfl,_,rfl,a9 1e2 2e7⟩;refine⟨_,rfl,q,_,0,.str "word",rfl,rfl,SqT.of hq,rfl,rfl,_,rfl,a9 1e2 2e7⟩;refine⟨_,rfl,q,_,0,.str "word",rfl,rfl,SqT.of hq,rfl,rfl,_,rfl,a9 1e2 2e7⟩;refine⟨_,rfl,q,_,0,.str "word",rfl,rfl,SqT.of hq,rfl,rfl,_,rfl,a9 1e2 2e7⟩;refine⟨_,rfl,q,_,0,.str "word",rfl,rfl,SqT.of hq,rfl,rfl,_,rfl,a9 1e2 2e7⟩;refine⟨_,rfl,q,_,0,.str "word",rfl,rfl,SqT.of hq,rfl,rfl,_,rfl,a9 1e2 2e7⟩;refine⟨_,rfl,q,_,0,.str "word",rfl,rfl,SqT.of hq,rfl,rfl,_,rfl,a9 2e7 7e9⟩;exact⟨_,rfl,x,_,_,rfl,J.ax,1e4,_,rfl,q,_,1,.int h,rfl,rfl,SqT.of hq,rfl,_,rfl,q,_,2,.int z,rfl,rfl,SqT.of hq,rfl,x,A,s,h,z,rfl,J,G,Sm.of 1e1 1e1,Sm.of 1e1 1e1,k⟩
 | small =>
  replace hq:H q=some (.tup [.str "small"]):=hq;refine⟨_,rfl,q,_,0,.str "small",rfl,rfl,SqT.of hq,rfl,rfl,_,rfl,a9 1e2 2e7⟩;refine⟨_,rfl,q,_,0,.str "small",rfl,rfl,SqT.of hq,rfl,rfl,_,rfl,a9 1e2 2e7⟩;refine⟨_,rfl,q,_,0,.str "small",rfl,rfl,SqT.of hq,rfl,rfl,_,rfl,a9 1e2 2e7⟩;refine⟨_,rfl,q,_,0,.str "small",rfl,rfl,SqT.of hq,rfl,rfl,_,rfl,a9 1e2 2e7⟩;refine⟨_,rfl,q,_,0,.str "small",rfl,rfl,SqT.of hq,rfl,rfl,_,rfl,a9 1e2 2e7⟩;refine⟨_,rfl,q,_,0,.str "small",rfl,rfl,SqT.of hq,rfl,rfl,_,rfl,a9 1e2 2e7⟩;refine⟨_,rfl,q,_,0,.str "small",rfl,rfl,SqT.of hq,rfl,rfl,_,rfl,a9 1e2 2e7⟩;refine⟨_,rfl,q,_,0,.str "small",rfl,rfl,SqT.of hq,rfl,rfl,_,rfl,a9 1e2 2e7⟩;refine⟨_,rfl,q,_,0,.str "small",rfl,rfl,SqT.of hq,rfl,rfl,_,rfl,a9 1e2 2e7⟩;refine⟨_,rfl,q,_,0,.str "small",rfl,rfl,SqT.of hq,rfl,rfl,_,rfl,a9 2e7 7e9⟩;exact⟨_,rfl,x,_,_,rfl,J.ax,1e4,x,A,s,rfl,J,G,λA' H' J' fr=>k A' H' J' fr⟩
 | turn =>
  replace hq:H q=some (.tup [.str "turn"]):=hq;refine⟨_,rfl,q,_,0,.str "turn",rfl,rfl,SqT.of hq,rfl,rfl,_,rfl,a9 1e2 2e7⟩;refine⟨_,rfl,q,_,0,.str "turn",rfl,rfl,SqT.of hq,rfl,rfl,_,rfl,a9 1e2 2e7⟩;refine⟨_,rfl,q,_,0,.str "turn",rfl,rfl,SqT.of hq,rfl,rfl,_,rfl,a9 1e2 2e7⟩;refine⟨_,rfl,q,_,0,.str "turn",rfl,rfl,SqT.of hq,rfl,rfl,_,rfl,a9 1e2 2e7⟩;refine⟨_,rfl,q,_,0,.str "turn",rfl,rfl,SqT.of hq,rfl,rfl,_,rfl,a9 1e2 2e7⟩;refine⟨_,rfl,q,_,0,.str "turn",rfl,rfl,SqT.of hq,rfl,rfl,_,rfl,a9 1e2 2e7⟩;refine⟨_,rfl,q,_,0,.str "turn",rfl,rfl,SqT.of hq,rfl,rfl,_,rfl,a9 1e2 2e7⟩;refine⟨_,rfl,q,_,0,.str "turn",rfl,rfl,SqT.of hq,rfl,rfl,_,rfl,a9 1e2 2e7⟩;refine⟨_,rfl,q,_,0,.str "turn",rfl,rfl,SqT.of hq,rfl,rfl,_,rfl,a9 1e2 2e7⟩;refine⟨_,rfl,q,_,0,.str "turn",rfl,rfl,SqT.of hq,rfl,rfl,_,rfl,a9 1e2 2e7⟩;replace k:Fin D x A s H (D9 s) Q E:=k;refine⟨_,rfl,x,_,_,rfl,J.ax,1e4,x,A,s,rfl,J,_,rfl,?_⟩;by_cases c:s.rnd=true
  ·rw[show D9 s=Tf s from if_pos c]at k
   exact jQ c ⟨_,rfl,x,_,_,rfl,J.ax,1e4,x,A,s,rfl,J,Gs,k⟩
  ·rw[show D9 s=zO s from if_neg c]at k
   exact iU (aqt.mpr c) ⟨_,rfl,x,_,_,rfl,J.ax,1e4,x,A,s,rfl,J,Gs,k⟩
theorem Z6(T:Txt K mg D)(gQ:Ok0 P w K mg base 1 D.cV D.gF ["self"] (bW "BadHand"))(gR:Ok0 P w K mg base 1 D.cW D.gG ["self"] (bW "BadName"))(fX:Ok0 P w K mg base 1 D.cv D.fR ["self"] (bW "BadField"))(fY:Ok0 P w K mg base 1 D.cw D.fS ["self"] (bW "BadCount"))(ig:Ok0 P w K mg base 1 D.dH D.hX ["self"] (bW "NoRoom"))(dA:Ok0 P w K mg base 1 D.bu D.dz ["self"] (bW "TooManyWords"))(gS:Ok0 P w K mg base 1 D.cX D.gH ["self"] (bW "RoundOn"))(gT:Ok0 P w K mg base 1 D.cY D.gI ["self"] (bW "NoRound"))(e:Er):(∃ cd,jL K (D.er e) cd/\cd.mro.contains (.ref D.aM)=true)/\adR K (D.er e)/\X5 P w K mg base (CXE P w) 1 "called" (D.er e) (bW (Ur e)):=by
 cases e with
 | hand=>exact⟨T.PL,T.lL.get,⟨_,_,_,T.SA,gQ.g,gQ.b⟩⟩
 | name=>exact⟨T.PM,T.Bv.get,⟨_,_,_,T.SF,gR.g,gR.b⟩⟩
 | field=>exact⟨T.Ng,T.xW.get,⟨_,_,_,T.PR,fX.g,fX.b⟩⟩
 | count=>exact⟨T.Nf,T.sM.get,⟨_,_,_,T.PJ,fY.g,fY.b⟩⟩
 | room=>exact⟨T.SG,T.ML.get,⟨_,_,_,T.VL,ig.g,ig.b⟩⟩
 | words=>exact⟨T.Eo,T.vx.get,⟨_,_,_,T.G9,dA.g,dA.b⟩⟩
 | on=>exact⟨T.PU,T.Kc.get,⟨_,_,_,T.SN,gS.g,gS.b⟩⟩
 | no=>exact⟨T.PV,T.Kd.get,⟨_,_,_,T.SR,gT.g,gT.b⟩⟩
noncomputable def U3(D:Ad):Sp:=λvs H Q E=>∃ x A s q dd,vs=[.ref x,.ref q]/\IH D H x A s/\Gd s/\s.nxt<10000/\H q=some (.tup (Dd.its dd))/\dd.ok/\∀ A' H',IH D H' x A' (dDo s dd).2->Fr 4e1 H (cL x A' (dDo s dd).2) H'->Q (wdV (dDo s dd).1) H'
noncomputable abbrev Qi:List Str:=["hall","deed","word","e"]
theorem qr:aw Qi ["hall","deed"] (aq xU):=fsc
theorem NI(F:Fun K "_law_done" "_law_done" xU D.iK D.pH)(T:Txt K mg D)
  (qt:9e7 9 D.gy D.nA ["hall","deed"] (RM D))
  (gQ:Ok0 P w K mg base 1 D.cV D.gF ["self"] (bW "BadHand"))
  (gR:Ok0 P w K mg base 1 D.cW D.gG ["self"] (bW "BadName"))
  (fX:Ok0 P w K mg base 1 D.cv D.fR ["self"] (bW "BadField"))
  (fY:Ok0 P w K mg base 1 D.cw D.fS ["self"] (bW "BadCount"))
  (ig:Ok0 P w K mg base 1 D.dH D.hX ["self"] (bW "NoRoom"))
  (dA:Ok0 P w K mg base 1 D.bu D.dz ["self"] (bW "TooManyWords"))
  (gS:Ok0 P w K mg base 1 D.cX D.gH ["self"] (bW "RoundOn"))
  (gT:Ok0 P w K mg base 1 D.cY D.gI ["self"] (bW "NoRound")):9e7 10 D.iK D.pH ["hall","deed"] (U3 D):=by
 refine F.oa qr F.b2 λcdv A' outer s' H vs Q E hr h=>?_;obtain⟨x,A,s,q,dd,rfl,J,Gs,hnx,hq,hok,k⟩:=h;obtain⟨cdH,xH⟩:=T.h;refine⟨_,(aj (aS (i:=2) qr.nd rfl 1e9 d7)
  (aj (abH (i:=3) rfl rfl rfl rfl T.mH xH qr.nd rfl rfl (λpins E' EK hp=>ai (aG (tX qt.g 7e7 rfl T.Nm T.vc qt.b .nil hp (aa (pv 0) 2e4)))) (λea=>ai (aS (i:=2) qr.nd rfl 1e9 (show PE _ _ (UL P w K mg base (CXE P w) 1 "called" (λ_ _ _ _=>False) (acb 3)) from VH (k:=1) (CX:=CXE P w) (pv 3) ⟨(hr.r0 (show 1<=9 by decide)).dp,(hr.r0 (show 1<=9 by decide)).un⟩ Bo))))
  (ai (aI (pv 2))))),?_⟩
 refine⟨_,rfl,_,rfl,x,A,s,q,dd,rfl,J,Gs,hnx,hq,hok,λA1 H1 J1 fr=>?_⟩;cases e:(dDo s dd).1 with
 | none =>
  rw[e]at k;exact⟨_,rfl,k A1 H1 J1 fr⟩
 | some er =>
  rw[e]at k;obtain⟨⟨cd,xc,hm⟩,gt,md⟩:=Z6 (P:=P) (w:=w) (base:=base) T gQ gR fX fY ig dA gS gT er;refine⟨D.er er,cd,rfl,xc,hm,λea hea=>⟨.ref ea,rfl,false,ea,D.er er,bW (Ur er),rfl,ag,gt,md,_,rfl,?_⟩⟩;have s1:=az.upd (o:=exo false (D.er er) ea none) hea;exact⟨_,rfl,k A1 _ (J1.same s1) (fr.trans (Fr.same s1))⟩
theorem Good.names{s:HS}(g:Good s){w:Nat}{t:Int}{ws:List Wd}(m:(t,ws)∈s.aJ):Good {s with names:=s.names.set w (some t)} :=
 ⟨g.h8,by show(s.names.set _ _).length=8;rw[aqp];exact g.n8,g.asc,g.lt,g.f6,g.hh,g.ff,λu m'=>(rQ m').elim (g.nn u) (λe=>by injection e with e;rw[e];exact⟨ws,m⟩),g.b12,g.bk,g.bnd,g.n0,g.nx,g.sd,g.yk,g.Iv,g.dk,g.Ki⟩
theorem VQ{bs:List (Int×Int)}{t x:Int}:(MO bs t x).map (·.1)=if(bs.lookup t).isSome=true then bs.map (·.1) else bs.map (·.1)++[t]:=by
 unfold MO;by_cases c:(bs.lookup t).isSome=true
 ·rw[if_pos c,if_pos c,aqv]
  refine aqD λp hp=>?_;show(if p.1=t then(t,x) else p).1=p.1;by_cases e:p.1=t
  ·rw[if_pos e];exact e.symm
  ·rw[if_neg e]
 ·rw[if_neg c,if_neg c,ap3]
  rfl
theorem Good.cC{s:HS}(g:Good s){t x:Int}{ws:List Wd}(m:(t,ws)∈s.aJ)(c:¬(s.cC.lookup t=none/\12<=s.cC.length)):Good {s with cC:=MO s.cC t x}:=by
 have kl:=VQ (bs:=s.cC) (t:=t) (x:=x);have ln:=congrArg List.length kl;have mm:∀ u,u∈(MO s.cC t x).map (·.1)->u∈s.cC.map (·.1)\/u=t:=λu h=>by
  rw[kl]at h;split at h
  ·exact .inl h
  ·rcases aqc.mp h with h|h
   ·exact .inl h
   ·exact .inr (apU.mp h)
 refine⟨g.h8,g.n8,g.asc,g.lt,g.f6,g.hh,g.ff,g.nn,?_,λu y h=>?_,?_,g.n0,g.nx,g.sd,g.yk,g.Iv,g.dk,g.Ki⟩
 ·show(MO s.cC t x).length<=12
  rw[apR]at ln;rw[ln];by_cases q:(s.cC.lookup t).isSome=true
  ·rw[if_pos q,apR];exact g.b12
  ·rw[if_neg q,ap4,apR,aqC]
   have:s.cC.lookup t=none:=by
    cases e:s.cC.lookup t with
    | none=>rfl
    | some v=>rw[e]at q;exact absurd rfl q
   have:¬12<=s.cC.length:=λz=>c ⟨this,z⟩
   omega
 ·rcases mm u (aqf.mpr ⟨_,h,rfl⟩) with h|rfl
  ·obtain⟨p,hp,rfl⟩:=aqf.mp h
   exact g.bk p.1 p.2 hp
  ·exact⟨ws,m⟩
 ·show((MO s.cC t x).map (·.1)).Nodup
  rw[kl];by_cases q:(s.cC.lookup t).isSome=true
  ·rw[if_pos q];exact g.bnd
  ·rw[if_neg q,aqz]
   refine⟨g.bnd,arq _ _,λa ma b mb e=>?_⟩;rw[apU.mp mb]at e;subst e;obtain⟨p,hp,rfl⟩:=aqf.mp ma;refine q ?_;rw[mem_lookup (w:=p.2) g.bnd hp];rfl
theorem MU{fs:List (Int×List Wd)}{t:Int}{ws:List Wd}:(ur fs t ws).map (·.1)=fs.map (·.1):=by
 unfold ur;rw[aqv];refine aqD λp hp=>?_;show(if p.1=t then(t,ws) else p).1=p.1;by_cases e:p.1=t
 ·rw[if_pos e];exact e.symm
 ·rw[if_neg e]
theorem Xq{fs:List (Int×List Wd)}{t u:Int}{ws w:List Wd}(m:(u,w)∈fs):∃ w',(u,w')∈ur fs t ws:=by
 have:u∈(ur fs t ws).map (·.1):=by rw[MU];exact aqf.mpr ⟨_,m,rfl⟩
 obtain⟨p,hp,rfl⟩:=aqf.mp this;exact⟨p.2,hp⟩
theorem Ea{fs:List (Int×List Wd)}{t u:Int}{ws w:List Wd}(m:(u,w)∈ur fs t ws):(u,w)∈fs\/(w=ws/\∃ w0,(u,w0)∈fs):=by
 obtain⟨p,hp,e⟩:=aqf.mp m;by_cases c:p.1=t
 ·rw[if_pos c]at e
  cases e;exact .inr ⟨rfl,p.2,by rw[<-c];exact hp⟩
 ·rw[if_neg c]at e
  subst e;exact .inl hp
theorem Good.ur{s:HS}(g:Good s){t:Int}{ws:List Wd}(l6:ws.length<=6)(c:∀ u,Wd.th u∈ws->∃ w,(u,w)∈s.aJ):Good {s with aJ:=ur s.aJ t ws}:=by
 have hs:∀ u,(∃ w,(u,w)∈s.aJ)->∃ w,(u,w)∈K44.ur s.aJ t ws:=λu ⟨w,m⟩=>Xq m;refine⟨g.h8,g.n8,by show((K44.ur s.aJ t ws).map (·.1)).Pairwise _;rw[MU];exact g.asc,λu w m=>?_,λu w m=>?_,λu m=>hs u (g.hh u m),λu w v m mv=>?_,λu m=>hs u (g.nn u m),g.b12,λu y m=>hs u (g.bk u y m),g.bnd,g.n0,g.nx,?_,λu m=>hs u (g.yk u m),g.Iv,λu m=>hs u (g.dk u m),g.Ki⟩
 ·rcases Ea m with m|⟨_,w0,m⟩
  ·exact g.lt u w m
  ·exact g.lt u w0 m
 ·rcases Ea m with m|⟨rfl,w0,m⟩
  ·exact g.f6 u w m
  ·exact l6
 ·rcases Ea m with m|⟨rfl,w0,m⟩
  ·exact hs v (g.ff u w v m mv)
  ·exact hs v (c v mv)
 ·show(s.xB.length:Int)+((K44.ur s.aJ t ws).length:Int)<=s.nxt
  unfold K44.ur;rw[apR];exact g.sd
theorem Good.apA{s:HS}(g:Good s){h n:Int}(n6:n<=6)(few:s.nxt<10000):Good (Tb s h n):=by
 have hs:∀ u,(∃ w,(u,w)∈s.aJ)->∃ w,(u,w)∈s.aJ++[(s.nxt,List.replicate n.toNat Wd.no)]:=λu ⟨w,m⟩=>⟨w,aqm _ m⟩;have mm:∀ {u:Int} {w:List Wd},(u,w)∈s.aJ++[(s.nxt,List.replicate n.toNat Wd.no)]->(u,w)∈s.aJ\/(u=s.nxt/\w=List.replicate n.toNat Wd.no):=λm=>by
  rcases aqc.mp m with m|m
  ·exact .inl m
  ·cases apU.mp m;exact .inr ⟨rfl,rfl⟩
 have my:∀ u∈(Tb s h n).yng,u∈s.yng\/u=s.nxt:=λu m=>by
  have m:u∈(if s.my=true then s.yng++[s.nxt] else s.yng):=m;split at m
  ·exact(aqc.mp m).imp id λz=>apU.mp z
  ·exact .inl m
 refine⟨by show(s.aZ.set _ _).length=8;rw[aqp];exact g.h8,g.n8,?_,λu w m=>?_,λu w m=>?_,λu m=>?_,λu w v m mv=>?_,λu m=>hs u (g.nn u m),g.b12,λu y m=>hs u (g.bk u y m),g.bnd,by show 0<=s.nxt+1;have:=g.n0;omega,by show s.nxt+1<=10000;omega,?_,λu m=>?_,?_,λu m=>hs u (g.dk u m),g.Ki⟩
 ·show((s.aJ++[(s.nxt,List.replicate n.toNat Wd.no)]).map (·.1)).Pairwise _
  rw[ap3,arB];refine⟨g.asc,arq _ _,λa ma b mb=>?_⟩;obtain⟨p,hp,rfl⟩:=aqf.mp ma;obtain rfl:b=s.nxt:=by simpa using mb
  exact(g.lt p.1 p.2 hp).2
 ·show 0<=u/\u<s.nxt+1
  have:=g.n0
  rcases mm m with m|⟨e,_⟩
  ·have:=g.lt u w m;omega
  ·omega
 ·rcases mm m with m|⟨_,e⟩
  ·exact g.f6 u w m
  ·rw[e,aqn];omega
 ·rcases rQ m with m|e
  ·exact hs u (g.hh u m)
  ·injection e with e
   exact⟨_,ap1 _ (apU.mpr (by rw[e]))⟩
 ·rcases mm m with m|⟨_,e⟩
  ·exact hs v (g.ff u w v m mv)
  ·rw[e]at mv
   cases aqq mv
 ·show(s.xB.length:Int)+((s.aJ++[(s.nxt,List.replicate n.toNat Wd.no)]).length:Int)<=s.nxt+1
  rw[ap4,aqC]
  have:=g.sd
  omega
 ·rcases my u m with m|e
  ·exact hs u (g.yk u m)
  ·exact⟨_,ap1 _ (apU.mpr (by rw[e]))⟩
 ·show(if s.my=true then s.yng++[s.nxt] else s.yng).Pairwise _
  split
  ·rw[arB]
   refine⟨g.Iv,arq _ _,λa ma b mb=>?_⟩;obtain rfl:b=s.nxt:=(by simpa using mb);obtain⟨ws,m⟩:=g.yk a ma;exact(g.lt a ws m).2
  ·exact g.Iv
theorem Gd.put{s:HS}(d:Gd s){h:Int}{w:Wd}(c:∀ t,w=.th t->(∃ ws,(t,ws)∈s.aJ)/\t∉s.eL):Gd (uw s h w) :=
 ⟨d.g.put λt e=>(c t e).1,d.dy,λt m=>(rQ m).elim (d.dh t) (λe=>(c t e.symm).2),d.df,d.rd⟩
theorem Gd.add{s:HS}(d:Gd s){h n:Int}(n6:n<=6)(few:s.nxt<10000):Gd (Tb s h n) where
 g:=d.g.apA n6 few
 dy:=λt m=>by
  obtain⟨ws,mt⟩:=d.g.dk t m;have lt:=(d.g.lt t ws mt).2;show t∉(if s.my=true then s.yng++[s.nxt] else s.yng);split
  ·intro z
   rcases aqc.mp z with z|z
   ·exact d.dy t m z
   ·have:=apU.mp z;omega
  ·exact d.dy t m
 dh:=λt m=>(rQ m).elim (d.dh t) λe=>by
  injection e with e;intro z;obtain⟨ws,mt⟩:=d.g.dk t z
  have:=(d.g.lt t ws mt).2
  omega
 df:=λu ws t m hu h=>by
  rcases aqc.mp m with m|m
  ·exact d.df u ws t m hu h
  ·cases apU.mp m
   cases aqq h
 rd:=d.rd
theorem Gd.ur{s:HS}(d:Gd s){t:Int}{ws:List Wd}(l6:ws.length<=6)(c:∀ u,Wd.th u∈ws->(∃ w,(u,w)∈s.aJ)/\u∉s.eL):Gd {s with aJ:=ur s.aJ t ws} where
 g:=d.g.ur l6 λu m=>(c u m).1
 dy:=d.dy
 dh:=d.dh
 df:=λu w v m hu h=>by
  rcases Ea m with m|⟨e,_⟩
  ·exact d.df u w v m hu h
  ·rw[e]at h;exact(c v h).2
 rd:=d.rd
theorem Gd.hnd{s:HS}(d:Gd s){h:Int}{w:Wd}(e:wat s.aZ h=some w):∀ t,w=.th t->(∃ ws,(t,ws)∈s.aJ)/\t∉s.eL:=λt z=>by
 have m:=apW (uM e).2.2;rw[z]at m;exact⟨d.g.hh t m,d.dh t m⟩
theorem U4{s:HS}{n:Option Int}:(rdR s n).nxt=s.nxt:=by
 unfold rdR;split
 ·split<;>rfl
 ·rfl
theorem aeP{s:HS}(d:Gd s)(few:s.nxt<10000){dd:Dd}(ok:dd.ok):Gd (dDo s dd).2/\s.nxt<=(dDo s dd).2.nxt/\(dDo s dd).2.nxt<=s.nxt+1:=by
 have same:Gd s/\s.nxt<=s.nxt/\s.nxt<=s.nxt+1:=⟨d,aqH _,by omega⟩;cases dd with
 | make h n =>
  show Gd (oZ s h n).2/\s.nxt<=(oZ s h n).2.nxt/\(oZ s h n).2.nxt<=s.nxt+1;unfold oZ;split
  ·split
   ·split
    ·exact⟨d.mkd,by rw[EL];exact aqH _,by rw[EL];omega⟩
    ·exact⟨d.mkd.add ok.2.2 (by rw[EL];exact few),by show s.nxt<=(mkR s n).nxt+1;rw[EL];omega,by show(mkR s n).nxt+1<=s.nxt+1;rw[EL];exact aqH _⟩
   ·exact same
  ·exact same
 | store g k h =>
  show Gd (jZ s g k h).2/\s.nxt<=(jZ s g k h).2.nxt/\(jZ s g k h).2.nxt<=s.nxt+1;unfold jZ;split
  ·rename_i t e
   split
   ·rename_i w e2
    split
    ·rename_i c
     have m:=d.g.hand e;refine⟨d.ur (by rw[aqp];exact d.g.f6 _ _ m) (λu hu=>?_),aqH _,by show s.nxt<=s.nxt+1;omega⟩;rcases rQ hu with hu|hu
     ·exact⟨d.g.ff _ _ _ m hu,d.df _ _ _ m ((d.hnd e t rfl).2) hu⟩
     ·exact d.hnd e2 u hu.symm
    ·exact same
   ·exact same
  ·exact same
 | load h g k =>
  show Gd (oO s h g k).2/\s.nxt<=(oO s h g k).2.nxt/\(oO s h g k).2.nxt<=s.nxt+1;unfold oO;split
  ·split
   ·rename_i t e
    split
    ·rename_i c
     have m:=d.g.hand e;refine⟨d.put λu hu=>?_,aqH _,by show s.nxt<=s.nxt+1;omega⟩;have hi:k.toNat<(fld s t).length:=1e1;have hm:Wd.th u∈fld s t:=(by rw[<-hu,arf,apT hi];exact aqI hi);exact⟨d.g.ff _ _ _ m hm,d.df _ _ _ m ((d.hnd e t rfl).2) hm⟩
    ·exact same
   ·exact same
  ·exact same
 | copy h g =>
  show Gd (vC s h g).2/\s.nxt<=(vC s h g).2.nxt/\(vC s h g).2.nxt<=s.nxt+1;unfold vC;split
  ·split
   ·rename_i w e
    exact⟨d.put (d.hnd e),aqH _,by show s.nxt<=s.nxt+1;omega⟩
   ·exact same
  ·exact same
 | drop h =>
  show Gd (zw s h).2/\s.nxt<=(zw s h).2.nxt/\(zw s h).2.nxt<=s.nxt+1;unfold zw;split
  ·exact⟨d.put (λt e=>by cases e),aqH _,by show s.nxt<=s.nxt+1;omega⟩
  ·exact same
 | number h x =>
  show Gd (kG s h x).2/\s.nxt<=(kG s h x).2.nxt/\(kG s h x).2.nxt<=s.nxt+1;unfold kG;split
  ·split
   ·exact⟨d.put (λt e=>by cases e),aqH _,by show s.nxt<=s.nxt+1;omega⟩
   ·exact same
  ·exact same
 | name w h =>
  show Gd (qq s w h).2/\s.nxt<=(qq s w h).2.nxt/\(qq s w h).2.nxt<=s.nxt+1;unfold qq;split
  ·rename_i t e
   split
   ·exact⟨⟨d.g.names (d.g.hand e),d.dy,d.dh,d.df,d.rd⟩,aqH _,by show s.nxt<=s.nxt+1;omega⟩
   ·exact same
  ·exact same
 | read h w =>
  show Gd (oW s h w).2/\s.nxt<=(oW s h w).2.nxt/\(oW s h w).2.nxt<=s.nxt+1;unfold oW;split
  ·split
   ·rename_i c2
    refine⟨?_,by rw[U4];exact aqH _,by rw[U4];show s.nxt<=s.nxt+1;omega⟩;have hi:w.toNat<s.names.length:=(by rw[d.g.n8];omega);have gd:s.names.getD w.toNat none=s.names[w.toNat]:=(by simp[List.getD,hi]);have mm:s.names[w.toNat]∈s.names:=aqI hi;rw[<-gd]at mm;cases e:s.names.getD w.toNat none with
    | none=>exact d.put (λt e=>by cases e)
    | some t =>
     rw[e]at mm;obtain⟨ws,m⟩:=d.g.nn t mm;show Gd (if t∈(uw s h (.th t)).eL then uP (uw s h (.th t)) t else uw s h (.th t));have g2:Good (uw s h (.th t)):=d.g.put λu z=>by cases z;exact⟨ws,m⟩
     by_cases c:t∈s.eL
     ·rw[if_pos (show t∈(uw s h (.th t)).eL from c)]
      refine Gd.aeN ⟨g2,d.dy,d.df,d.rd⟩ c λu hu=>?_;rcases rQ hu with hu|hu
      ·exact .inr (d.dh u hu)
      ·injection hu with hu;exact .inl hu
     ·rw[if_neg (show ¬t∈(uw s h (.th t)).eL from c)]
      exact d.put λu z=>by cases z;exact⟨⟨ws,m⟩,c⟩
   ·exact same
  ·exact same
 | word h x =>
  show Gd (oQ s h x).2/\s.nxt<=(oQ s h x).2.nxt/\(oQ s h x).2.nxt<=s.nxt+1;unfold oQ;split
  ·rename_i t e
   split
   ·split
    ·exact same
    ·rename_i c
     exact⟨⟨d.g.cC (d.g.hand e) c,d.dy,d.dh,d.df,d.rd⟩,aqH _,by show s.nxt<=s.nxt+1;omega⟩
   ·exact same
  ·exact same
 | small=>exact⟨d.small,aqH _,by show s.nxt<=s.nxt+1;omega⟩
 | turn =>
  show Gd (D9 s).2/\s.nxt<=(D9 s).2.nxt/\(D9 s).2.nxt<=s.nxt+1;unfold D9;split
  ·rename_i c
   rw[show Tf s=(none,Iw s) from if_pos c];exact⟨d.fin,aqH _,by show s.nxt<=s.nxt+1;omega⟩
  ·rename_i c
   rw[show zO s=(none,Lp (eZ s)) from if_neg c];exact⟨d.small.beg rfl,aqH _,by show s.nxt<=s.nxt+1;omega⟩
theorem gd0{my:Bool}{room limit:Int}:Gd (s0 my room limit):=⟨good0,(λt m=>nomatch m),(λt _ m=>nomatch m),(λu ws t m=>nomatch m),λ_=>rfl⟩
noncomputable def Wj(K:W.Frag):Sp:=λvs H Q _=>∃(a:Addr) (ns:List Int),vs=[.ref a]/\SqL K H a 4e6/\ns.length<=63/\∀ H',Q (.bl true) H'
open Classical in
noncomputable def Gn(D:Ad):Sp:=λvs H Q _=>∃ x A s,vs=[.ref x]/\IH D H x A s/\Good s/\(∀ p H',az H H'->H p=none->H' p=some (.lst A.hx)->Q 4e7 H')
noncomputable abbrev Cs:List Str:=["self"]
theorem Au:aw Cs ["self"] (aq mE):=fsc
theorem Av(F:Fun K "hands" "IdealHeap.hands" mE D.cz D.fU)(T:Txt K mg D)
  (cD:9e7 1 D.bT D.ed ["self"] (qo D)):9e7 2 D.cz D.fU ["self"] (Gn D):=by
 refine F.oa Au F.b1 λcdv A' outer s' H vs Q E hr h=>?_;obtain⟨x,A,s,rfl,J,G,k⟩:=h;refine⟨_,(PSs.nox (ai (aI (cD.m0 hr 1e8 T.bc T.lD bq)))),?_⟩;exact⟨_,rfl,x,D.ab,_,_,.ref A.hd,rfl,J.ax,T.ae,T.aC,qm,A.hd,A.hdx,_,rfl,J.ahd,rfl,A.hd,A.hdx,A.hl,A.hx,s.aZ,rfl,J.hn G,k⟩
noncomputable def U5(D:Ad):Sp:=λvs H Q _=>∃ nt ntx nl xs,vs=[.ref nt]/\Nt D H nt ntx nl xs/\∀ p H',az H H'->H p=none->H' p=some 5e6->Q 4e7 H'
noncomputable abbrev vR:List Str:=["self"]
theorem uz:aw vR ["self"] (aq jT):=fsc
theorem uA(F:Fun K "all_named" "NameTable.all_named" jT D.bN D.eR)(T:Txt K mg D):9e7 1 D.bN D.eR ["self"] (U5 D):=by
 refine F.oa uz F.b1 λcdv A' outer s' H vs Q E hr h=>?_;obtain⟨nt,ntx,nl,xs,rfl,N,k⟩:=h;refine⟨_,(PSs.nox (ai (aI (j6 ng rfl T.wB PyProof.Rows.Boot.«list» (aa 1e8 ak))))),?_⟩;exact⟨_,rfl,nt,D.aH,ntx,_,.ref nl,rfl,N.i,T.eE,T.cn,rfl,nl,xs,rfl,.inl (SqL.of N.l),λp hp=>k p _ (az.upd hp) hp ag⟩
noncomputable def Gp(D:Ad):Sp:=λvs H Q _=>∃ x A s,vs=[.ref x]/\IH D H x A s/\Good s/\(∀ p H',az H H'->H p=none->H' p=some (.lst (s.names.map nmV))->Q 4e7 H')
noncomputable abbrev Ct:List Str:=["self"]
theorem Aw:aw Ct ["self"] (aq mF):=fsc
theorem Ax(F:Fun K "names" "IdealHeap.names" mF D.cA D.fV)(T:Txt K mg D)
  (jV:9e7 1 D.bN D.eR ["self"] (U5 D)):9e7 2 D.cA D.fV ["self"] (Gp D):=by
 refine F.oa Aw F.b1 λcdv A' outer s' H vs Q E hr h=>?_;obtain⟨x,A,s,rfl,J,G,k⟩:=h;refine⟨_,(PSs.nox (ai (aI (jV.m0 hr 1e8 T.eE T.uo bq)))),?_⟩;exact⟨_,rfl,x,D.ab,_,_,.ref A.nt,rfl,J.ax,T.ae,T.d9,Wg,A.nt,A.ntx,_,rfl,J.ant,rfl,A.nt,A.ntx,A.nl,_,rfl,J.ntb G,k⟩
noncomputable def vD(D:Ad):Sp:=λvs H Q _=>∃ x A s,vs=[.ref x]/\IH D H x A s/\Good s/\(∀ p H',az H H'->H p=none->H' p=some (.lst ((keys s).map V.int))->Q 4e7 H')
noncomputable abbrev Ay:List Str:=["self"]
theorem yI:aw Ay ["self"] (aq lC):=fsc
theorem yJ(F:Fun K "things" "IdealHeap.things" lC D.bL D.dN)(T:Txt K mg D):9e7 1 D.bL D.dN ["self"] (vD D):=by
 refine F.oa yI F.b1 λcdv A' outer s' H vs Q E hr h=>?_;obtain⟨x,A,s,rfl,J,G,k⟩:=h;refine⟨_,(PSs.nox (ai (aI (cc (Nd rfl) rfl T.D5 PyProof.Rows.Boot.«sorted» (aa 1e8 ak))))),?_⟩;exact⟨_,rfl,x,D.ab,_,_,.ref A.fh,rfl,J.ax,T.ae,T.aD,uj,A.fh,_,keys s,rfl,.inl J.afh,Wi s A,(by unfold keys;rw[apR];exact aqk G.few 2e6),G.asc.imp (λh=>Int.le_of_lt h),λp hp=>k p _ (az.upd hp) hp ag⟩
noncomputable def Yg(D:Ad):Sp:=λvs H Q E=>∃ x A s,∃ t:Int,vs=[.ref x,.int t]/\IH D H x A s/\Good s/\Sm t/\(t∈keys s->Q .non H)/\(t∉keys s->Bad D.hU H E)
noncomputable abbrev yK:List Str:=["self","t"]
theorem wJ:aw yK ["self","t"] (aq kR):=fsc
theorem wK(F:Fun K "look_at_held" "Heap.look_at_held" kR D.bC D.gj)(T:Txt K mg D)
  (ao:9e7 1 D.au D.aA ["self","text"] (Bm K)):9e7 3 D.bC D.gj ["self","t"] (Yg D):=by
 refine F.oa wJ F.b2 λcdv A' outer s' H vs Q E hr h=>?_;obtain⟨x,A,s,t,rfl,J,G,ht,k,kb⟩:=h;have hu:=jK hr;refine⟨_,(ai (bQ (rf (kU hu (pv 1) 1e8) 3e1)
   (ai (fL rfl kN (ao.e hr T.SJ T.SH px (aa (jA (aY (kO (pv 1)) (aY gE jz))) ak))))
   aR)),?_⟩
 refine⟨_,rfl,_,rfl,x,D.ab,_,_,.ref A.fh,rfl,J.ax,T.ae,T.aD,uj,A.fh,_,rfl,um.k (k:=Sum.inl t) J.afh,_,rfl,?_⟩;rw[(Wi s A).isS];by_cases c:t∈keys s
 ·rw[decide_eq_true c]
  exact xt (k c)
 ·rw[decide_eq_false c]
  exact yt ⟨_,rfl,t,rfl,ht,λy hy ea hea=>b9 T.SI 6e7 (kb c) ea hea⟩
noncomputable def zP(D:Ad):Sp:=λvs H Q E=>∃ x A s,∃ t:Int,vs=[.ref x,.int t]/\IH D H x A s/\Good s/\Sm t/\(t∈keys s->∀ p H',az H H'->H p=none->H' p=some (.lst (A.fx t))->Q 4e7 H')/\(t∉keys s->Bad D.hU H E)
noncomputable abbrev vS:List Str:=["self","t"]
theorem uB:aw vS ["self","t"] (aq jU):=fsc
theorem uC(F:Fun K "fields_of" "IdealHeap.fields_of" jU D.aQ D.bw)(T:Txt K mg D)
  (kT:9e7 3 D.bC D.gj ["self","t"] (Yg D)):9e7 4 D.aQ D.bw ["self","t"] (zP D):=by
 refine F.oa uB F.b2 λcdv A' outer s' H vs Q E hr h=>?_;obtain⟨x,A,s,t,rfl,J,G,ht,k,kb⟩:=h;have hu:=jK hr;refine⟨_,(aj (aG (kT.m hr (pv 0) T.ae T.rE px 2e4))
  (ai (aI (j6 ng rfl T.wB PyProof.Rows.Boot.«list» (aa (dq hu 1e8 (pv 1) 1e6) ak))))),?_⟩
 refine⟨_,rfl,x,_,_,rfl,J.ax,1e4,_,rfl,x,A,s,t,rfl,J,G,ht,λm=>?_,kb⟩;obtain⟨ws,mw⟩:=mem_keys.mp m;exact⟨_,rfl,x,D.ab,_,_,.ref A.fh,rfl,J.ax,T.ae,T.aD,uj,_,rfl,A.fh,_,rfl,J.aa0 G mw,A.fa t,_,rfl,.inl (SqL.of (J.afl _ _ mw).1),λp hp=>k m p _ (az.upd hp) hp ag⟩
end
end K44
end
section
namespace L2
open PySem PySem.Spec PyProof.Rows LX
section
variable{P:Program}{w:World}{K:W.Frag}{mg:Str->Option Value}{base:Heap}{N:List Str}{qual:Str}{scope:Scope}{f:Addr}{cdv:Value}{A:Around}{outer:List Env}{s₀:Shared}{H₀:Hp}{E₀:XK}
noncomputable def XO(P:Program)(w:World)(qual:Str)(scope:Scope)(f:Addr)(cdv:Value)(A:Around)(outer:List Env)(s₀:Shared)(H₀:Hp)(E₀:XK)(base:Heap)(e:Value)(s:Shared):Prop :=
 ∃(ea:Addr) (c:Value) (od:Option Addr) (fs:Array Value) (sl:Array (Option Value)) (T0:Option Addr),e=.ref ea/\(A.deeper 1e14).frames=some (envOfC qual scope s₀.heap.objs.size f cdv::outer)/\s.heap.FunFrames base (envOfC qual scope s₀.heap.objs.size f cdv::outer)/\s.heap.get? ea=some (eQ c od fs sl)/\zm s.heap ea fs T0 /\
  ∀(m:Heap) (T:Addr) (fs':Array Value),s.heap.objs.size<=T->Kept (eW (envOfC qual scope s₀.heap.objs.size f cdv::outer)) (ea::T0.toList) s.heap m->m.get? ea=some (eQ c od fs' sl)->fs'[0]?=fs[0]?->zm m ea fs' (some T)->CXE P w outer H₀ s₀ E₀ (.ref ea) {s with heap:=m}
noncomputable def XN(P:Program)(w:World)(outer:List Env)(s₀:Shared)(H₀:Hp)(E₀:XK)(L:Addr)(e:Value)(s:Shared):Prop :=
 ∃(ea T:Addr) (c oc:Value) (od d:Option Addr) (fs ts:Array Value) (sl sm:Array (Option Value)),e=.ref ea/\s.heap.get? ea=some (eQ c od fs sl)/\fs[1]?=some (.ref T)/\T≠ea/\s.heap.get? T=some (eQ oc d ts sm)/\ts[3]?=some (rawInt L) /\
  ∀ m:Heap,(∀ b o,b≠T->s.heap.get? b=some o->m.get? b=some o)->zm m ea fs (some T)->m.get? ea=some (eQ c od fs sl)->CXE P w outer H₀ s₀ E₀ (.ref ea) {s with heap:=m}
noncomputable def XR(P:Program)(w:World)(qual:Str)(scope:Scope)(f:Addr)(cdv:Value)(A:Around)(outer:List Env)(s₀:Shared)(H₀:Hp)(E₀:XK)(base:Heap)(e:Value)(s:Shared):Prop :=
 XO P w qual scope f cdv A outer s₀ H₀ E₀ base e s\/XN P w outer s₀ H₀ E₀ s₀.heap.objs.size e s
theorem Xr{pins:List (Addr×Obj)}{σ:St}{H H':Hp}{s s':Shared}{ea C T:Addr}{od:Option Addr}{fs:Array Value}{sl:Array (Option Value)}(I:Inv (cxE P w K mg base N qual scope f cdv A outer s₀ H₀ E₀) pins σ H s)
  (l:Lies P w (cxE P w K mg base N qual scope f cdv A outer s₀ H₀ E₀).stack H H' s ea C T od fs sl s') (hE:E₀ (.ref C) od H'):XO P w qual scope f cdv A outer s₀ H₀ E₀ base (.ref ea) s':=by
 refine⟨ea,_,_,_,_,_,rfl,I.ok.frames,Lies.frames I l,l.at_,l.trail,λm T' fs' z1 z2 z3 z4 z5=>?_⟩;obtain⟨un,hok⟩:=l.on (t':=s'.toks) I z2;have J:Inv 7e1 pins σ H' {s' with heap:=m}:=I.Mi l.os un hok l.bare (λb z=>absurd z 2e5);have old:∀ b o,s₀.heap.get? b=some o->∃ o',s.heap.get? b=some o':=λb o z=>I.base.there b o z (aqR);have e0:s₀.heap.get? ea=none:=by
  cases q:s₀.heap.get? ea with
  | none=>rfl
  | some o =>
   obtain⟨o',z⟩:=old ea o q;rw[l.ZI]at z;cases z
 have t0:s₀.heap.get? T'=none:=by
  cases q:s₀.heap.get? T' with
  | none=>rfl
  | some o =>
   obtain⟨o1,y1⟩:=old T' o q;obtain⟨o2,y2⟩:=l.un.there T' o1 y1 2e5;exact absurd (ap2 y2) (Nat.not_lt.mpr z1)
 obtain⟨a0,ha⟩:=l.args;exact⟨ea,C,T',od,fs',sl,H',rfl,⟨J.os,J.bare,J.base,J.hok,e0,t0,l.Sn,l.hok.fresh z1,z3,⟨a0,by rw[z4];exact ha⟩,z5⟩,hE⟩
theorem XR.xe{e:Value}{s:Shared}(h:XR P w qual scope f cdv A outer s₀ H₀ E₀ base e s):(cxE P w K mg base N qual scope f cdv A outer s₀ H₀ E₀).xe e s:=by
 rcases h with⟨ea,c,od,fs,sl,T0,rfl,hA,F,he,t,k⟩|⟨ea,T,c,oc,od,d,fs,ts,sl,sm,rfl,he,h1,ne,hT,h3,k⟩
 ·exact Ue hA F rfl he t k
 ·have h3s:3<ts.size:=(aqj.mp h3).1
  show wpAny _ _ (leaving _ (.ref ea)) _ _ s;unfold leaving noteFrame;refine wpAny_bind ?_;show wpAny _ _ (field (.ref ea) 1 >>= _) _ _ s;refine wpAny_bind 1e12;rw[if_pos (show(Value.ref T != Value.none)=true by simp)];refine wpAny_bind (wpAny_field hT rfl h3 ?_);rw[if_pos 2e5];exact wpAny_pure (oy he h1 ne hT h3s k)
theorem Th:PassesOwn 8e2 (A.deeper 1e14) 1e14 (XR P w qual scope f cdv A outer s₀ H₀ E₀ base):=by
 intro e s h;have aln:∀ {s1:Shared},XN P w outer s₀ H₀ E₀ s₀.heap.objs.size e s1->cameBackBy 8e2 (A.deeper 1e14) 1e14 (XR P w qual scope f cdv A outer s₀ H₀ E₀ base) e s1:=by
  rintro s1 ⟨ea,T,c,oc,od,d,fs,ts,sl,sm,rfl,he,h1,ne,hT,h3,k⟩;have h3s:3<ts.size:=(aqj.mp h3).1;unfold cameBackBy setFlight;refine wpAny_bind 1e12;dsimp only;rw[if_neg 2e5];refine wpAny_bind 1e12;rw[if_pos (show(Value.ref T != Value.none)=true by simp)];refine wpAny_setField hT rfl h3s ?_;have oth:∀ b o,b≠T->s1.heap.get? b=some o->(s1.heap.update T (Obj.mapFields (·.setIfInBounds 3 (rawInt s₀.heap.objs.size)))).get? b=some o:=λb o hb q=>(aqx _ _ (aqe hb)).trans q;exact .inr ⟨ea,T,c,oc,od,d,fs,ts.setIfInBounds 3 (rawInt s₀.heap.objs.size),sl,sm,rfl,oth _ _ (aqe ne) he,h1,ne,En hT,by simp[h3s],λm q1 q2 q3=>k m (λb o hb q=>q1 b o hb (oth b o hb q)) q2 q3⟩
 rcases h with⟨ea,c,od,fs,sl,T0,rfl,hA,F,he,t,k⟩|⟨ea,T,c,oc,od,d,fs,ts,sl,sm,rfl,he,h1,ne,hT,h3,k⟩
 ·refine JX hA F rfl he t λm T oc ts z1 z2 z3 z4 z5=>aln ?_
  have Te:T≠ea:=aq3 (ap9 (ap2 he) z1);have f1:(fs.setIfInBounds 1 (Value.ref T))[1]?=some (.ref T):=by
   have:=t.size
   simp[this]
  refine⟨ea,T,c,oc,od,none,_,ts,sl,#[],rfl,z3,f1,Te,z4,z5,λm' q1 q2 q3=>k m' T _ z1 ⟨λb o q hb hx=>?_,λb o q hb hx=>?_⟩ q3 2e5 q2⟩
  ·exact q1 b o (aqb (ap9 (ap2 q) z1)) (z2.plain b o q hb hx)
  ·obtain⟨sm,r⟩:=z2.frame b o q hb hx
   exact⟨sm,q1 b _ (aqb (ap9 (ap2 q) z1)) r⟩
 ·have h3s:3<ts.size:=(aqj.mp h3).1
  show wpAny _ _ (noteFrame (.ref ea) _) _ _ s;unfold noteFrame;show wpAny _ _ (field (.ref ea) 1 >>= _) _ _ s;refine wpAny_bind 1e12;rw[if_pos (show(Value.ref T != Value.none)=true by simp)];refine wpAny_bind (wpAny_field hT rfl h3 ?_);rw[if_pos 2e5];exact wpAny_pure (aln ⟨ea,T,c,oc,od,d,fs,ts,sl,sm,rfl,he,h1,ne,hT,h3,k⟩)
noncomputable abbrev cxR(P:Program)(w:World)(K:W.Frag)(mg:Str->Option Value)(base:Heap)(N:List Str)(qual:Str)(scope:Scope)(f:Addr)(cdv:Value)(A:Around)(outer:List Env)(s₀:Shared)(H₀:Hp)(E₀:XK):Cx :=
 (cxE P w K mg base N qual scope f cdv A outer s₀ H₀ E₀).K4 (XR P w qual scope f cdv A outer s₀ H₀ E₀ base)
theorem PSs.xr{st:List Stmt}{t:TS}(h:PSs (cxR P w K mg base N qual scope f cdv A outer s₀ H₀ E₀) st t):PSs 7e1 st t:=λpins s σ H D I hw =>
 wpAny_mono (h pins s σ H D (I.K4 _) hw) (λ_ _ q=>q.sS) λ_ _ z=>z.xe
theorem Y7{E:XK}(hE:∀ c od H',E c od H'->E₀ c od H'):gC (CXE P w) (cxR P w K mg base N qual scope f cdv A outer s₀ H₀ E₀) (λ_=>E):=λpins σ H s e s' I h=>by
 obtain⟨ea,C,T,od,fs,sl,H',rfl,l,q⟩:=h;exact .inl (Xr I.sS l (hE _ _ _ q))
theorem apB:PassesOwn 8e2 (cxR P w K mg base N qual scope f cdv A outer s₀ H₀ E₀).A (cxR P w K mg base N qual scope f cdv A outer s₀ H₀ E₀).env (cxR P w K mg base N qual scope f cdv A outer s₀ H₀ E₀).xe:=Th
end
end L2
end
section
namespace K44
open PySem L2 LX
section
variable{P:Program}{w:World}{K:W.Frag}{mg:Str->Option Value}{base:Heap}{D:Ad}
theorem But.same{m:Addr}{H H1:Hp}(s:az H H1):But m H H1:=λb u _ q=>s b u q
inductive Mw where
 | no
 | num (n:Int)
 | ad (a:Int)
 | hd (t n:Int)
 | mv (a n:Int)
noncomputable def Mw.its:Mw->List V
 | .no=>[]
 | .num n=>[.str "number",.int n]
 | .ad a=>[.str "at",.int a]
 | .hd t n=>[.str "head",.int t,.int n]
 | .mv a n=>[.str "moved",.int a,.int n]
noncomputable def Mw.kind:Mw->Str
 | .no => "none"
 | .num _ => "number"
 | .ad _ => "at"
 | .hd _ _ => "head"
 | .mv _ _ => "moved"
noncomputable def MV(H:Hp)(v:V)(w:Mw):Prop:=(w=.no/\v=.non)\/(w≠.no/\∃ t,v=.ref t/\H t=some (.tup w.its))
theorem MV.keep{H H':Hp}{v:V}{w:Mw}(h:MV H v w)(s:bI H H'):MV H' v w:=by
 rcases h with h|⟨n,t,e,q⟩
 ·exact .inl h
 ·exact .inr ⟨n,t,e,s _ _ q⟩
noncomputable def MR(H:Hp)(xs:List V)(ws:List Mw):Prop:=xs.length=ws.length/\∀(i:Nat) (v:V) (w:Mw),xs[i]?=some v->ws[i]?=some w->MV H v w
theorem MR.keep{H H':Hp}{xs:List V}{ws:List Mw}(h:MR H xs ws)(s:bI H H'):MR H' xs ws:=⟨h.1,λi v w a b=>(h.2 i v w a b).keep s⟩
theorem MR.get{H:Hp}{xs:List V}{ws:List Mw}(h:MR H xs ws){i:Nat}{w:Mw}(hw:ws[i]?=some w):∃ v,xs[i]?=some v/\MV H v w:=by
 have hi:i<xs.length:=by rw[h.1];exact(apS.mp hw).1
 exact⟨_,apT hi,h.2 i _ _ (apT hi) hw⟩
theorem MR.set{H:Hp}{xs:List V}{ws:List Mw}{i:Nat}{v:V}{w:Mw}(h:MR H xs ws)(hv:MV H v w):MR H (xs.set i v) (ws.set i w):=by
 refine⟨by rw[aqp,aqp];exact h.1,λj u y a b=>?_⟩;by_cases e:i=j
 ·subst e
  rw[arM]at a b;simp only[if_true]at a b;split at a
  ·split at b
   ·cases a;cases b;exact hv
   ·cases b
  ·cases a
 ·rw[aqN e]at a b
  exact h.2 j u y a b
theorem MR.rep{H:Hp}{n:Nat}:MR H (List.replicate n .non) (List.replicate n .no):=⟨by rw[aqn,aqn],λi v w a b=>by
 rw[List.getElem?_replicate]at a b;split at a
 ·rename_i c
  rw[if_pos c]at b;cases a;cases b;exact .inl ⟨rfl,rfl⟩
 ·cases a⟩
structure Mm(D:Ad)(H:Hp)(m mx c:Addr)(xs:List V)(ws:List Mw):Prop where
 i:H m=some (.ins D.bS mx [("cells",.ref c)])
 l:H c=some 5e6
 r:MR H xs ws
 z:ws.length<=10000
section
variable{D:Ad}{H H':Hp}{m mx c:Addr}{xs:List V}{ws:List Mw}
theorem Mm.same(M:Mm D H m mx c xs ws)(s:az H H'):Mm D H' m mx c xs ws:=⟨s _ _ M.i,s _ _ M.l,M.r.keep (bI.of s),M.z⟩
theorem Mm.mc(M:Mm D H m mx c xs ws):m≠c:=ay M.i M.l 1e0
theorem Mm.set(M:Mm D H m mx c xs ws){i:Nat}{v:V}{w:Mw}(hv:MV H v w):Mm D (upd H c (.lst (xs.set i v))) m mx c (xs.set i v) (ws.set i w) :=
 ⟨by rw[ah M.mc];exact M.i,ag,(M.r.set hv).keep (bI.set M.l (by intro z y;cases y)),by rw[aqp];exact M.z⟩
end
theorem Xs(n:Nat):(List.replicate n [V.non]).flatten=List.replicate n .non:=by
 induction n with
 | zero=>rfl
 | succ n ih=>rw[aqB,aqZ,ih,aqB];rfl
noncomputable def thg(ws:List Mw)(a:Int):Option (Int×Int):=if 0<=a then(match ws[a.toNat]? with|some (.hd t n)=>if a+n<ws.length then some (t,n) else none|_=>none) else none
theorem KR{ws:List Mw}{a t n:Int}(h:thg ws a=some (t,n)):0<=a/\ws[a.toNat]?=some (.hd t n)/\a+n<ws.length:=by
 unfold thg at h;split at h
 ·rename_i h0
  split at h
  ·rename_i t' n' e
   split at h
   ·rename_i hl
    cases h;exact⟨h0,e,hl⟩
   ·cases h
  ·cases h
 ·cases h
structure Gm(ws:List Mw):Prop where
 hd:∀ t n,Mw.hd t n∈ws->0<=n/\n<=1000
 mv:∀ a n,Mw.mv a n∈ws->Sm a
inductive Rv(ws:List Mw):Nat->Int->Option Int->Prop where
 | out {a:Int}:¬(0<=a/\a<ws.length)->Rv ws 0 a none
 | stop {a:Int} {w:Mw}:0<=a->ws[a.toNat]?=some w->(∀ b n,w≠.mv b n)->Rv ws 0 a (some a)
 | step {k:Nat} {a b n:Int} {r:Option Int}:0<=a->ws[a.toNat]?=some (.mv b n)->Rv ws k b r->Rv ws (k+1) a r
noncomputable def vE(ws:List Mw):Nat->List Mw->List Mw
 | _,[]=>ws
 | i,u::r=>vE (ws.set i u) (i+1) r
theorem Gq(ws:List Mw)(i:Nat)(us:List Mw):(vE ws i us).length=ws.length:=by
 induction us generalizing ws i with
 | nil=>rfl
 | cons u r ih=>unfold vE;rw[ih,aqp]
theorem Km(ws:List Mw)(i:Nat)(us:List Mw)(u:Mw):vE ws i (us++[u])=(vE ws i us).set (i+us.length) u:=by
 induction us generalizing ws i with
 | nil=>rfl
 | cons v r ih =>
  show vE (ws.set i v) (i+1) (r++[u])=(vE (ws.set i v) (i+1) r).set (i+(r.length+1)) u;rw[ih,show i+1+r.length=i+(r.length+1) by omega]
theorem Xu(ws:List Mw)(i:Nat)(us:List Mw)(j:Nat)(hl:i+us.length<=ws.length):(vE ws i us)[j]?=if i<=j/\j<i+us.length then us[j-i]? else ws[j]?:=by
 induction us generalizing ws i with
 | nil=>rw[if_neg 2e5];rfl
 | cons u r ih =>
  show(vE (ws.set i u) (i+1) r)[j]?=_;rw[aqo]at hl ⊢;rw[ih (ws.set i u) (i+1) (by rw[aqp];omega)];by_cases c:i=j
  ·subst c
   rw[if_neg 1e1,if_pos 1e1,aq7 1e1,arJ];rfl
  ·by_cases d:i+1<=j/\j<i+1+r.length
   ·rw[if_pos d,if_pos 1e1,show j-i=(j-(i+1))+1 by omega,List.getElem?_cons_succ]
   ·rw[if_neg d,if_neg 1e1,aqN c]
noncomputable def layW(ws:List Mw)(a:Nat)(t:Int)(us:List Mw):List Mw:=vE (ws.set a (.hd t us.length)) (a+1) us
noncomputable def Io(ws:List Mw)(a n:Nat):List Mw:=(ws.drop (a+1)).take n
noncomputable def RN(D:Ad):Sp:=λvs H Q _=>∃ m dx,∃ n:Int,vs=[.ref m,.int n]/\H m=some (.ins D.bS dx [])/\0<=n/\n<=10000/\∀ c H',But m H H'->H c=none->Mm D H' m dx c (List.replicate n.toNat .non) (List.replicate n.toNat .no)->Q .non H'
noncomputable abbrev Cu:List Str:=["self","size"]
theorem Az:aw Cu ["self","size"] (aq mI):=fsc
theorem AA(F:Fun K "__init__" "Memory.__init__" mI D.dw D.iy)(T:Txt K mg D):9e7 1 D.dw D.iy ["self","size"] (RN D):=by
 refine F.oa Az F.b2 λcdv A' outer s' H vs Q E hr h=>?_;obtain⟨m,dx,n,rfl,hm,n0,n1,k⟩:=h;refine⟨_,(ai (ja (pv 0) (cM Pa (qa (aa d7 ak)) (pv 1)) rfl)),?_⟩;refine⟨by show 1<=sizeLine;decide,λp hp=>⟨_,rfl,p,n,_,rfl,rfl,ag,by omega,by omega,by show 1*n.toNat<=sizeLine;exact aqk (show 1*n.toNat<=10000 by omega) 2e6,λq hq=>?_⟩⟩;have np:m≠p:=ar hm hp;have hm1:upd H p (.lst [.non]) m=some (.ins D.bS dx []):=by rw[ah np];exact hm
 have nq:m≠q:=ar hm1 hq;have qp:q≠p:=λe=>by rw[e,ag]at hq;cases hq
 have hq0:H q=none:=by rw[ah qp]at hq;exact hq
 refine⟨_,rfl,m,D.bS,dx,[],rfl,(by rw[ah nq];exact hm1),T.bE,T.jf,by decide,?_⟩;refine k q _ (((But.upd hp).trans (But.upd hq)).trans But.self) hq0 ⟨ag,?_,MR.rep,by rw[aqn];omega⟩;rw[ah (aqe nq),ag,Xs]
noncomputable def Eb(D:Ad):Sp:=λvs H Q _=>∃ m mx c xs ws,vs=[.ref m]/\Mm D H m mx c xs ws/\Q (.int ws.length) H
noncomputable abbrev Ls:List Str:=["self"]
theorem IW:aw Ls ["self"] (aq tm):=fsc
theorem IX(F:Fun K "size" "Memory.size" tm D.eD D.iP)(T:Txt K mg D):9e7 1 D.eD D.iP ["self"] (Eb D):=by
 refine F.oa IW F.b1 λcdv A' outer s' H vs Q E hr h=>?_;obtain⟨m,mx,c,xs,ws,rfl,M,k⟩:=h;refine⟨_,(PSs.nox (ai (aI (cc bh rfl T.lM PyProof.Rows.Boot.«len» (aa 1e8 ak))))),?_⟩;refine⟨_,rfl,m,D.bS,mx,_,.ref c,rfl,M.i,T.bE,T.jf,rfl,c,_,rfl,.inl (SqL.of M.l),?_⟩;rw[M.r.1];exact k
noncomputable def KS(D:Ad):Sp:=λvs H Q E=>∃ m mx c xs ws,∃ a:Int,vs=[.ref m,.int a]/\Mm D H m mx c xs ws/\Sm a/\(if 0<=a/\a<ws.length then Q .non H else Bad D.bj H E)
noncomputable abbrev sk:List Str:=["self","a"]
theorem rG:aw sk ["self","a"] (aq iB):=fsc
theorem rH(F:Fun K "look_at_address" "Memory.look_at_address" iB D.aX D.ck)(T:Txt K mg D)
  (ao:9e7 1 D.au D.aA ["self","text"] (Bm K)):9e7 3 D.aX D.ck ["self","a"] (KS D):=by
 refine F.oa rG F.b2 λcdv A' outer s' H vs Q E hr h=>?_;obtain⟨m,mx,c,xs,ws,a,rfl,M,ha,k⟩:=h;refine⟨_,(ai (bQ (sR (pS Bk vt av (pv 1) (cc bh rfl T.lM PyProof.Rows.Boot.«len» (aa 1e8 ak))))
   (ai (fL rfl kN (ao.e hr T.tq T.oB px (aa (jA (aY gE (aY (kO (pv 1)) jz))) ak))))
   aR)),?_⟩
 have el:=M.r.1;by_cases g:0<=a/\a<(ws.length:Int)
 ·rw[if_pos g]at k
  refine⟨_,rfl,0,a,rfl,rfl,_,rfl,a9 (λ_=>⟨_,rfl,m,D.bS,mx,_,.ref c,rfl,M.i,T.bE,T.jf,rfl,c,_,rfl,.inl (SqL.of M.l),a,_,rfl,rfl,_,rfl,a9 (λh2=>absurd h2 (by rw[el,decide_eq_true g.2];decide)) (λ_=>k)⟩) (λh1=>absurd (decide_eq_true g.1) h1)⟩
 ·rw[if_neg g]at k
  by_cases g0:0<=a
  ·have g1:¬a<(ws.length:Int):=λz=>g ⟨g0,z⟩
   refine⟨_,rfl,0,a,rfl,rfl,_,rfl,a9 (λ_=>⟨_,rfl,m,D.bS,mx,_,.ref c,rfl,M.i,T.bE,T.jf,rfl,c,_,rfl,.inl (SqL.of M.l),a,_,rfl,rfl,_,rfl,a9 (λ_=>⟨_,rfl,a,rfl,ha,λy hy ea hea=>b9 T.jX 6e7 k ea hea⟩) (λh2=>absurd (by rw[el,decide_eq_false g1];rfl) h2)⟩) (λh1=>absurd (decide_eq_true g0) h1)⟩
  ·refine⟨_,rfl,0,a,rfl,rfl,_,rfl,a9 (λh1=>absurd (of_decide_eq_true h1) g0) (λ_=>⟨_,rfl,yt ⟨_,rfl,a,rfl,ha,λy hy ea hea=>b9 T.jX 6e7 k ea hea⟩⟩)⟩
noncomputable def D2(D:Ad):Sp:=λvs H Q E=>∃ m mx c xs ws,∃ a:Int,vs=[.ref m,.int a]/\Mm D H m mx c xs ws/\Sm a/\(if 0<=a/\a<ws.length then ∀ v w,xs[a.toNat]?=some v->ws[a.toNat]?=some w->MV H v w->Q v H else Bad D.bj H E)
noncomputable abbrev Qj:List Str:=["self","a"]
theorem NJ:aw Qj ["self","a"] (aq xP):=fsc
theorem NK(F:Fun K "at" "Memory.at" xP D.eU D.iG)(T:Txt K mg D)
  (cp:9e7 3 D.aX D.ck ["self","a"] (KS D)):9e7 4 D.eU D.iG ["self","a"] (D2 D):=by
 refine F.oa NJ F.b2 λcdv A' outer s' H vs Q E hr h=>?_;obtain⟨m,mx,c,xs,ws,a,rfl,M,ha,k⟩:=h;refine⟨_,(aj (aG (cp.m hr (pv 0) T.bE T.kE px 2e4))
  (ai (aI (a8 jy 1e8 (pv 1) 1e6)))),?_⟩
 have el:=M.r.1;refine⟨_,rfl,m,_,_,rfl,M.i,1e4,_,rfl,m,mx,c,xs,ws,a,rfl,M,ha,?_⟩;by_cases g:0<=a/\a<(ws.length:Int)
 ·rw[if_pos g]at k ⊢
  have hw:ws[a.toNat]?=some (ws[a.toNat]' 1e1):=apT _;obtain⟨v,hv,mv⟩:=M.r.get hw;exact⟨_,rfl,m,D.bS,mx,_,.ref c,rfl,M.i,T.bE,T.jf,rfl,_,rfl,c,xs,a,v,rfl,rfl,SqL.of M.l,zI g.1 hv,k v _ hv hw mv⟩
 ·rw[if_neg g]at k ⊢
  exact k
noncomputable def Kn(D:Ad):Sp:=λvs H Q E=>∃ m mx c xs ws,∃(a:Int) (v:V) (w:Mw),vs=[.ref m,.int a,v]/\Mm D H m mx c xs ws/\Sm a/\MV H v w/\(if 0<=a/\a<ws.length then(Mm D (upd H c (.lst (xs.set a.toNat v))) m mx c (xs.set a.toNat v) (ws.set a.toNat w)->Q .non (upd H c (.lst (xs.set a.toNat v)))) else Bad D.bj H E)
noncomputable abbrev NL:List Str:=["self","a","word"]
theorem Lu:aw NL ["self","a","word"] (aq uW):=fsc
theorem Lv(F:Fun K "put" "Memory.put" uW D.fO D.jH)(T:Txt K mg D)
  (cp:9e7 3 D.aX D.ck ["self","a"] (KS D)):9e7 4 D.fO D.jH ["self","a","word"] (Kn D):=by
 refine F.oa Lu F.b3 λcdv A' outer s' H vs Q E hr h=>?_;obtain⟨m,mx,c,xs,ws,a,v,w,rfl,M,ha,hv,k⟩:=h;refine⟨_,(aj (aG (cp.m hr (pv 0) T.bE T.kE px 2e4))
  (ai (D1 (pv 2) (Ik 1e8 (pv 1) set_list)))),?_⟩
 have el:=M.r.1;refine⟨_,rfl,m,_,_,rfl,M.i,1e4,_,rfl,m,mx,c,xs,ws,a,rfl,M,ha,?_⟩;by_cases g:0<=a/\a<(ws.length:Int)
 ·rw[if_pos g]at k ⊢
  exact⟨_,rfl,_,rfl,m,D.bS,mx,_,.ref c,rfl,M.i,T.bE,T.jf,rfl,_,rfl,c,xs,a,a.toNat,rfl,rfl,M.l,Wh g.1 (by rw[el];exact g.2),k (M.set hv)⟩
 ·rw[if_neg g]at k ⊢
  exact k
noncomputable def ER:Sp:=λvs H Q _=>∃ v w,vs=[v]/\MV H v w/\Q (.str w.kind) H
theorem Qk(F:Fun K "kind_of" "kind_of" zr D.d8 D.hV)(T:Txt K mg D):9e7 1 D.d8 D.hV ["value"] (ER):=by
 refine F.oa Kf F.b1 λcdv A' outer s' H vs Q E hr h=>?_;obtain⟨v,w,rfl,hv,k⟩:=h;refine⟨_,(PSs.nox (ai (aI (rN (aK sT (pv 0) d7 (aW _)) aP 6e9)))),?_⟩;rcases hv with⟨rfl,rfl⟩|⟨n,t,rfl,ht⟩
 ·exact⟨_,rfl,rfl,_,rfl,a9 (λ_=>k) (λh=>absurd 2e5 h)⟩
 ·refine⟨_,rfl,rfl,_,rfl,a9 (λh=>by simp at h) (λ_=>⟨_,rfl,t,_,0,.str w.kind,rfl,rfl,SqT.of ht,?_,k⟩)⟩
  cases w with
  | no=>exact absurd rfl n
  | _=>rfl
noncomputable def O1(D:Ad):Sp:=λvs H Q E=>∃ m mx c xs ws,∃ a n:Int,vs=[.ref m,.int a,.int n]/\Mm D H m mx c xs ws/\Sm a/\Sm n/\(if 0<=a/\a+n<ws.length then Q .non H else Bad D.bj H E)
noncomputable abbrev IY:List Str:=["memory","a","fields"]
theorem Hv:aw IY ["memory","a","fields"] (aq qL):=fsc
theorem Hw(F:Fun K "look_at_room" "look_at_room" qL D.dC D.jc)(T:Txt K mg D)
  (fJ:9e7 1 D.eD D.iP ["self"] (Eb D))
  (ao:9e7 1 D.au D.aA ["self","text"] (Bm K)):9e7 3 D.dC D.jc ["memory","a","fields"] (O1 D):=by
 refine F.oa Hv F.b3 λcdv A' outer s' H vs Q E hr h=>?_;obtain⟨m,mx,c,xs,ws,a,n,rfl,M,ha,hn,k⟩:=h;refine⟨_,(ai (bQ (PW.pt (pw_or (aK vt (pv 1) av (aW _)) (pw_or1 (aK aaA (cM iO (pv 1) (pv 2)) (fJ.m0 hr (pv 0) T.bE T.qQ px) (aW _)))))
   (ai (fL rfl kN (ao.e hr T.tq T.oB px (aa (jA (aY gE (aY (kO (pv 2)) (aY gE (aY (kO (pv 1)) jz))))) ak))))
   aR)),?_⟩
 by_cases g0:a<0
 ·rw[if_neg (λz=>by have:=z.1;omega)]at k
  exact⟨_,rfl,a,0,rfl,rfl,_,rfl,jQ (decide_eq_true g0) (yt ⟨_,rfl,n,rfl,hn,_,rfl,a,rfl,ha,λy hy ea hea=>b9 T.jX 6e7 k ea hea⟩)⟩
 ·refine⟨_,rfl,a,0,rfl,rfl,_,rfl,iU (decide_eq_false g0) ⟨_,rfl,_,rfl,a,n,rfl,rfl,_,rfl,m,_,_,rfl,M.i,1e4,m,mx,c,xs,ws,rfl,M,_,_,rfl,rfl,_,rfl,?_⟩⟩
  by_cases g:0<=a/\a+n<(ws.length:Int)
  ·rw[if_pos g]at k
   exact iU (decide_eq_false 1e1) k
  ·rw[if_neg g]at k
   exact jQ (decide_eq_true 1e1) ⟨_,rfl,n,rfl,hn,_,rfl,a,rfl,ha,λy hy ea hea=>b9 T.jX 6e7 k ea hea⟩
noncomputable def RO(D:Ad):Sp:=λvs H Q E=>∃ m mx c xs ws,∃(a:Int) (kd:Addr),vs=[.ref m,.int a,.ref kd]/\Mm D H m mx c xs ws/\Gm ws/\Sm a/\H kd=some (.tup [.str "head"])/\(match thg ws a with|some (_,n)=>Q (.int n) H|none=>Bad D.bj H E)
noncomputable abbrev Lw:List Str:=["memory","a","kinds","word"]
theorem xD:aw Lw ["memory","a","kinds"] (aq sW):=fsc
theorem IZ(F:Fun K "fields_told" "fields_told" sW D.fz D.kZ)(T:Txt K mg D)
  (cf:9e7 4 D.eU D.iG ["self","a"] (D2 D))
  (cG:9e7 1 D.d8 D.hV ["value"] (ER))
  (jh:9e7 3 D.dC D.jc ["memory","a","fields"] (O1 D))
  (ao:9e7 1 D.au D.aA ["self","text"] (Bm K)):9e7 5 D.fz D.kZ ["memory","a","kinds"] (RO D):=by
 refine F.oa xD F.b3 λcdv A' outer s' H vs Q E hr h=>?_;obtain⟨m,mx,c,xs,ws,a,kd,rfl,M,gm,ha,hkd,k⟩:=h;refine⟨_,(aj (aS (i:=3) xD.nd rfl 1e9 (cf.m hr (pv 0) T.bE T.jI px 2e4))
  (aj (bQ (PW.pt (pw_or (aK Nc (tX cG.g 7e7 rfl T.lV T.j9 cG.b .nil px 6e5) (pv 2) 3e1) (pw_or1 (aK vt (a8 aV (pv 3) av 1e6) av (aW _)))))
   (ai (fL rfl kN (ao.e hr T.tq T.oB px (aa (jA (aY gE (aY (kO (pv 1)) jz))) ak))))
   aR)
  (aj (aG (jh.c hr T.xw T.mW px (aa (pv 0) (aa (pv 1) (aa (a8 aV (pv 3) av 1e6) ak)))))
  (ai (aI (a8 aV (pv 3) av 1e6)))))),?_⟩
 refine⟨_,rfl,m,_,_,rfl,M.i,1e4,_,rfl,m,mx,c,xs,ws,a,rfl,M,ha,?_⟩;by_cases g:0<=a/\a<(ws.length:Int)
 ·rw[if_pos g]
  intro v wd hv hw mv;refine⟨_,rfl,v,wd,rfl,mv,_,rfl,kd,_,rfl,.inr (SqT.of hkd),rfl,rfl,_,rfl,?_⟩;have nh:(∀ t n,wd≠.hd t n)->thg ws a=none:=λh=>by
   unfold thg;rw[if_pos g.1,hw];cases wd with
   | hd t n=>exact absurd rfl (h t n)
   | _=>rfl
  have bad:(∀ t n,wd≠.hd t n)->(!inV (V.str wd.kind) [V.str "head"])=true:=λh=>by
   cases wd with
   | hd t n=>exact absurd rfl (h t n)
   | _=>kernel_rfl
  by_cases hh:∃ t n,wd=.hd t n
  ·obtain⟨t,n,rfl⟩:=hh
   have hn:=gm.hd t n (apW hw);obtain⟨_,p,rfl,hp⟩:=mv.resolve_left (λz=>by cases z.1);refine iU 1e4 ⟨_,rfl,p,_,2,.int n,rfl,rfl,SqT.of hp,rfl,n,0,rfl,rfl,_,rfl,iU (decide_eq_false 1e1) ?_⟩;refine⟨_,rfl,_,rfl,_,rfl,p,_,2,.int n,rfl,rfl,SqT.of hp,rfl,m,mx,c,xs,ws,a,n,rfl,M,ha,Sm.of 1e1 1e1,?_⟩;by_cases l:a+n<(ws.length:Int)
   ·rw[if_pos ⟨g.1,l⟩]
    rw[show thg ws a=some (t,n) by unfold thg;rw[if_pos g.1,hw];exact if_pos l]at k;exact⟨_,rfl,p,_,2,.int n,rfl,rfl,SqT.of hp,rfl,k⟩
   ·rw[if_neg (λz=>l z.2)]
    rw[show thg ws a=none by unfold thg;rw[if_pos g.1,hw];exact if_neg l]at k;exact k
  ·have h:∀ t n,wd≠.hd t n:=λt n e=>hh ⟨t,n,e⟩
   rw[nh h]at k;exact jQ (bad h) (yt ⟨_,rfl,a,rfl,ha,λy hy ea hea=>b9 T.jX 6e7 k ea hea⟩)
 ·rw[if_neg g]
  have:thg ws a=none:=by
   unfold thg;by_cases h0:0<=a
   ·rw[if_pos h0,List.getElem?_eq_none_iff.mpr 1e1]
   ·rw[if_neg h0]
  rw[this]at k;exact k
noncomputable def Yh(D:Ad):Sp:=λvs H Q E=>∃ m mx c xs ws,∃ a:Int,vs=[.ref m,.int a]/\Mm D H m mx c xs ws/\Gm ws/\Sm a/\(match thg ws a with|some (_,n)=>∀ H',az H H'->Q (.int n) H'|none=>Bad D.bj H E)
noncomputable abbrev Ql:List Str:=["memory","a"]
theorem NM:aw Ql ["memory","a"] (aq xF):=fsc
theorem NN(F:Fun K "fields_at" "fields_at" xF D.iE D.ph)(T:Txt K mg D)
  (tK:9e7 5 D.fz D.kZ ["memory","a","kinds"] (RO D)):9e7 6 D.iE D.ph ["memory","a"] (Yh D):=by
 refine F.oa NM F.b2 λcdv A' outer s' H vs Q E hr h=>?_;obtain⟨m,mx,c,xs,ws,a,rfl,M,gm,ha,k⟩:=h;refine⟨_,(ai (aI (tK.c hr T.K9 T.tD px (aa (pv 0) (aa (pv 1) (aa (cg (aa aP ak)) ak)))))),?_⟩;refine⟨_,rfl,_,rfl,by show 1<=sizeLine;decide,λkd hkd=>?_⟩;have s1:=az.upd (o:=.tup [V.str "head"]) hkd;refine⟨m,mx,c,xs,ws,a,kd,rfl,M.same s1,gm,ha,ag,?_⟩;cases e:thg ws a with
 | none=>rw[e]at k;exact k.same s1
 | some z=>rw[e]at k;exact k _ s1
noncomputable def Yi(D:Ad):Sp:=λvs H Q E=>∃ m mx c xs ws,∃ a:Int,vs=[.ref m,.int a]/\Mm D H m mx c xs ws/\Gm ws/\Sm a/\(match thg ws a with|some (t,n)=>∀ p l ys H',az H H'->H l=none->H' p=some (.tup [.int t,.ref l])->H' l=some 5e0->MR H' ys (Io ws a.toNat n.toNat)->Q 4e7 H'|none=>Bad D.bj H E)
noncomputable abbrev Ko:List Str:=["memory","a","fields"]
theorem GJ:aw Ko ["memory","a"] (aq vw):=fsc
theorem Qm(F:Fun K "thing_at" "thing_at" vw D.jN D.rC)(T:Txt K mg D)
  (yj:9e7 6 D.iE D.ph ["memory","a"] (Yh D))
  (cf:9e7 4 D.eU D.iG ["self","a"] (D2 D)):9e7 7 D.jN D.rC ["memory","a"] (Yi D):=by
 refine F.oa GJ F.b2 λcdv A' outer s' H vs Q E hr h=>?_;obtain⟨m,mx,c,xs,ws,a,rfl,M,gm,ha,k⟩:=h;refine⟨_,(aj (aS (i:=2) GJ.nd rfl 1e9 (yj.c hr T.PX T.xX px (aa (pv 0) 2e4)))
  (ai (aI (cg (aa (a8 aV (cf.m hr (pv 0) T.bE T.jI px 2e4) av 1e6) (aa (kY (cl:=[("memory",s'.heap.objs.size+1),("a",s'.heap.objs.size+2)]) (x := "k") (idx:=[1,0]) (NC:=["k","a","memory"]) ?co1 rfl (zj rfl T.zH 3e9) (λC fp s₀ H₀=>(cf.m hr (pv 2) T.bE T.jI Bo (aa (cM iO (cM iO (pv 1) av) (pv 0)) ak)))) ak)))))),?_⟩
 case co1 =>
  exact iC (sc:=aq vw) (N:=Ko) (ns:=["memory","a"]) rfl rfl rfl 2e2 rfl rfl (by
   intro q hq;rcases aqi.mp hq with rfl|hq
   ·rfl
   rw[apU.mp hq];rfl)
 have el:=M.r.1;refine⟨_,rfl,_,rfl,m,mx,c,xs,ws,a,rfl,M,gm,ha,?_⟩;cases e:thg ws a with
 | none=>rw[e]at k;exact k
 | some z =>
  obtain⟨t,n⟩:=z;rw[e]at k;obtain⟨a0,hw,al⟩:=KR e;have hn:=gm.hd t n (apW hw);intro H1 s1;have M1:=M.same s1;refine⟨_,rfl,m,_,_,rfl,M1.i,1e4,_,rfl,m,mx,c,xs,ws,a,rfl,M1,ha,?_⟩;rw[if_pos ⟨a0,by omega⟩];intro v w2 hv hw2 mv;rw[hw]at hw2;cases hw2;obtain⟨_,p,rfl,hp⟩:=mv.resolve_left (λz=>by cases z.1);have z:=M.z;obtain⟨n,rfl⟩:∃ j:Nat,n=(j:Int):=⟨n.toNat,by omega⟩;simp only[Int.toNat_natCast]at k;refine⟨p,_,1,.int t,rfl,rfl,SqT.of hp,rfl,_,rfl,n,rfl,by omega,by omega,λL hL=>?_⟩;refine JZ (lo:=0) (n:=n) (λi ys Hc=>ys=(xs.drop (a.toNat+1)).take i/\az H1 Hc/\Hc L=some 5e0) ⟨rfl,az.upd hL,ag⟩ (λi ys Hc hi ⟨e,_,z⟩=>⟨z,by rw[e,ap6,ari];omega⟩) (by exact aqk (show n<=10000 by omega) 2e6) (λi ys Hc hi ⟨e,sc,z⟩=>?_) (λys Hc ⟨e,sc,z⟩=>?_)
  ·have M2:=M1.same sc
   have hx:ws[(a+1+(0+(i:Int))).toNat]?=some (ws[(a+1+(0+(i:Int))).toNat]' 1e1):=apT _;refine⟨_,rfl,m,_,_,rfl,M2.i,1e4,_,rfl,a,1,rfl,rfl,_,rfl,_,_,rfl,rfl,m,mx,c,xs,ws,_,rfl,M2,Sm.of 1e1 1e1,?_⟩;rw[if_pos ⟨by omega,by omega⟩];intro v w2 hv2 _ _;refine⟨z,?_,λb u q=>by rw[ah (ar q hL)];exact sc b u q,ag⟩;have hd:(xs.drop (a.toNat+1))[i]?=some v:=by
    rw[ars,<-hv2];congr 1
    omega
   rw[e,List.take_succ,hd];rfl
  ·refine⟨by show 2<=sizeLine;decide,λq hq=>?_⟩
   have s3:=az.upd (o:=.tup [V.int t,V.ref L]) hq;refine k q L _ _ ((s1.trans sc).trans s3) (az.none s1 hL) ag (by rw[s3 _ _ z,e]) ⟨by unfold Io;rw[ap6,ap6,ari,ari,el],λi v w2 g1 g2=>?_⟩;unfold Io at g2;rw[art]at g1 g2;split at g1
   ·rename_i ci
    rw[if_pos ci,ars]at g2;rw[ars]at g1;exact(M.r.2 _ _ _ g1 g2).keep ((bI.of s1).trans ((bI.of sc).trans (bI.of s3)))
   ·cases g1
noncomputable def Yj(D:Ad):Sp:=λvs H Q E=>∃ m mx c xs ws,∃(a:Int) (j:Nat) (r:Option Int),vs=[.ref m,.int a]/\Mm D H m mx c xs ws/\Gm ws/\Sm a/\Rv ws j a r/\(match r with|some z=>Q (.int z) H|none=>Bad D.bj H E)
noncomputable abbrev Ti:List Str:=["memory","a","word"]
theorem sP:aw Ti ["memory","a"] (aq Br):=fsc
theorem Qn(F:Fun K "resolved" "resolved" Br D.jO D.rD)(T:Txt K mg D)
  (cf:9e7 4 D.eU D.iG ["self","a"] (D2 D))
  (cG:9e7 1 D.d8 D.hV ["value"] (ER)):9e7 5 D.jO D.rD ["memory","a"] (Yj D):=by
 refine F.oa sP F.b2 λcdv A' outer s' H vs Q E hr h=>?_;obtain⟨m,mx,c,xs,ws,a,j,r,rfl,M,gm,ha,hr',k⟩:=h;refine⟨_,(PSs.xr (aj (aS (i:=2) sP.nd rfl 1e9 (cf.m hr (pv 0) T.bE T.jI (Y7 λ_ _ _ q=>q) 2e4))
  (aj (KC apB (aK rB (tX cG.g 7e7 rfl T.lV T.j9 cG.b .nil (Y7 λ_ _ _ q=>q) 3e9) aP (aW _))
   (aj (aS (i:=1) sP.nd rfl 1e9 (a8 aV (pv 2) av 1e6))
   (ai (aS (i:=2) sP.nd rfl 1e9 (cf.m hr (pv 0) T.bE T.jI (Y7 λ_ _ _ q=>q) 2e4)))))
  (ai (aI (pv 1)))))),?_⟩
 have at_:∀(Q':VK) (a:Int) (j:Nat),Sm a->Rv ws j a r->(∀ v w,xs[a.toNat]?=some v->ws[a.toNat]?=some w->MV H v w->0<=a->a<ws.length->Q' v H)->D2 D [.ref m,.int a] H Q' E:=λQ' a j ha hr' q=>by
  refine⟨m,mx,c,xs,ws,a,rfl,M,ha,?_⟩;by_cases g:0<=a/\a<(ws.length:Int)
  ·rw[if_pos g]
   exact λv w h1 h2 h3=>q v w h1 h2 h3 g.1 g.2
  ·rw[if_neg g]
   cases hr' with
   | out _=>exact k
   | stop h0 hw _=>exact absurd ⟨h0,by have:=(apS.mp hw).1;omega⟩ g
   | step h0 hw _=>exact absurd ⟨h0,by have:=(apS.mp hw).1;omega⟩ g
 refine⟨_,rfl,m,_,_,rfl,M.i,1e4,_,rfl,at_ _ a j ha hr' λv w hv hw mv a0 al=>?_⟩;refine⟨λn σ Hx=>∃(a:Int) (v:V) (w:Mw),σ=[some (.ref m),some (.int a),some v]/\Hx=H/\Rv ws n a r/\MV H v w/\ws[a.toNat]?=some w/\0<=a/\a<ws.length,⟨j,a,v,w,rfl,rfl,hr',mv,hw,a0,al⟩,?_⟩;rintro n σ Hx ⟨a,v,w,rfl,rfl,hr2,mv,hw,a0,al⟩;refine⟨_,rfl,v,w,rfl,mv,rfl,_,rfl,?_⟩;by_cases hm:∃ b z,w=.mv b z
 ·obtain⟨b,z,rfl⟩:=hm
  obtain⟨_,p,rfl,hp⟩:=mv.resolve_left (λz=>by cases z.1);refine jQ 1e4 ?_;cases hr2 with
  | out h=>exact absurd ⟨a0,al⟩ h
  | stop _ h2 h3=>rw[hw]at h2;cases h2;exact absurd rfl (h3 b z)
  | @step n' _ b' _ _ _ h2 h3 =>
   rw[hw]at h2;cases h2;have sb:=gm.mv b z (apW hw);refine⟨λσ' H'=>∃ m',m'<n'+1/\∃(a:Int) (v:V) (w:Mw),σ'=[some (.ref m),some (.int a),some v]/\H'=Hx/\Rv ws m' a r/\MV Hx v w/\ws[a.toNat]?=some w/\0<=a/\a<ws.length,λ_ _ h=>h,?_⟩;refine⟨_,rfl,p,_,1,.int b,rfl,rfl,SqT.of hp,rfl,?_⟩;exact⟨_,rfl,m,_,_,rfl,M.i,1e4,_,rfl,at_ _ b n' sb h3 λv w hv hw mv a0 al=>⟨n',ary _,b,v,w,rfl,rfl,h3,mv,hw,a0,al⟩⟩
 ·have nm:∀ b z,w≠.mv b z:=λb z e=>hm ⟨b,z,e⟩
  refine iU ?_ ?_
  ·cases w with
   | mv b z=>exact absurd rfl (nm b z)
   | _=>kernel_rfl
  ·cases hr2 with
   | out h=>exact absurd ⟨a0,al⟩ h
   | stop _ _ _=>exact⟨_,rfl,k⟩
   | step _ h2 _=>rw[hw]at h2;cases h2;exact absurd rfl (nm _ _)
noncomputable def Lk(ws:List Mw)(kv:List (Key×V)):Wd->Mw->Prop
 | .no,w=>w=.no
 | .num n,w=>w=.num n
 | .th t,w=>∃(a:Int) (j:Nat) (z:Int),w=.ad a/\Sm a/\Rv ws j a (some z)/\iX kv 4e4=some (.int z)
noncomputable def RP(D:Ad):Sp:=λvs H Q _=>∃ m mx c xs ws,∃(a:Int) (j:Nat) (z:Int),vs=[.ref m,.int a]/\Mm D H m mx c xs ws/\Gm ws/\Sm a/\Rv ws j a (some z)/\Q (.int z) H
noncomputable abbrev Qo:List Str:=["memory","a"]
theorem NO:aw Qo ["memory","a"] (aq xQ):=fsc
theorem NP(F:Fun K "place_met" "place_met" xQ D.iH D.pE)(T:Txt K mg D)
  (vF:9e7 5 D.jO D.rD ["memory","a"] (Yj D)):9e7 6 D.iH D.pE ["memory","a"] (RP D):=by
 refine F.oa NO F.b2 λcdv A' outer s' H vs Q E hr h=>?_;obtain⟨m,mx,c,xs,ws,a,j,z,rfl,M,gm,ha,hr',k⟩:=h;obtain⟨cdT,xT⟩:=T.jX.cls;refine⟨_,(ai (ZL rfl rfl rfl T.oB xT (λpins E' EK hp=>ai (aI (tX vF.g 7e7 rfl T.SU T.By vF.b .nil hp (aa (pv 0) 2e4)))) (λea=>ai (aI d7)))),?_⟩;exact⟨_,rfl,_,rfl,m,mx,c,xs,ws,a,j,some z,rfl,M,gm,ha,hr',k⟩
noncomputable def O2(D:Ad):Sp:=λvs H Q _=>∃ m mx c xs ws,∃(v y:V) (wd:Wd) (mw:Mw) (dd:Addr) (kv:List (Key×V)),vs=[v,.ref m,y,.ref dd]/\Mm D H m mx c xs ws/\Gm ws/\WV H v wd/\MV H y mw/\H dd=some (.dK kv)/\Lk ws kv wd mw/\Q (.bl true) H
noncomputable abbrev VR:List Str:=["value","memory","word","stands"]
theorem Tj:aw VR ["value","memory","word","stands"] (aq Gj):=fsc
theorem Tn(F:Fun K "is_like" "is_like" Gj D.j8 D.rk)(T:Txt K mg D)
  (kW:9e7 1 D.d8 D.hV ["value"] (Pf))
  (cG:9e7 1 D.d8 D.hV ["value"] (ER))
  (yl:9e7 6 D.iH D.pE ["memory","a"] (RP D)):9e7 7 D.j8 D.rk ["value","memory","word","stands"] (O2 D):=by
 refine F.oa Tj F.b4 λcdv A' outer s' H vs Q E hr h=>?_;obtain⟨m,mx,c,xs,ws,v,y,wd,mw,dd,kv,rfl,M,gm,hv,hy,hd,lk,k⟩:=h;have hu:=jK hr;refine⟨_,(PSs.nox (aj (bQ (aK O7 (kW.c hr T.lV T.j9 bq 7e3) aP (aW _))
   (ai (aI (zC (abP (n:=1) hu) (pv 2) (pv 0) (aW _))))
   aR)
  (ai (aI (abl (zC rB (tX cG.g 7e7 rfl T.lV T.j9 cG.b .nil bq 3e9) aP (aW _)) (abk (zC rB (yl.c hr T.PY T.xY bq (aa (pv 1) (aa (a8 aV (pv 2) av 1e6) ak))) (dq hu (pv 3) 6e9 1e6) (aW _)))))))),?_⟩
 cases wd with
 | no =>
  have hv:v=.non:=hv;subst hv;have lk:mw=.no:=lk;subst lk;obtain⟨_,rfl⟩:=hy.resolve_right (λz=>z.1 rfl);have r1:Rp H 1 V.non (.a .non):=⟨rfl,rfl⟩;refine⟨_,rfl,_,.no,rfl,rfl,rfl,_,rfl,jQ 1e4 ⟨_,rfl,_,rfl,_,_,r1,r1,?_⟩⟩;rw[yu r1 r1];exact k
 | num n =>
  obtain⟨t,rfl,ht⟩:=hv;have lk:mw=.num n:=lk;subst lk;obtain⟨_,p,rfl,hp⟩:=hy.resolve_left (λz=>by cases z.1);have r1:Rp H 1 (V.ref t) (.t [.a (.str "number"),.a (.int n)]):=⟨t,_,rfl,ht,rfl,(λj u x h1 h2=>by match j,h1,h2 with|0,h1,h2=>cases h1;cases h2;exact⟨rfl,rfl⟩|1,h1,h2=>cases h1;cases h2;exact⟨rfl,rfl⟩|j+2,h1,_=>cases h1)⟩
  have r2:Rp H 1 (V.ref p) (.t [.a (.str "number"),.a (.int n)]):=⟨p,_,rfl,hp,rfl,(λj u x h1 h2=>by match j,h1,h2 with|0,h1,h2=>cases h1;cases h2;exact⟨rfl,rfl⟩|1,h1,h2=>cases h1;cases h2;exact⟨rfl,rfl⟩|j+2,h1,_=>cases h1)⟩
  refine⟨_,rfl,_,.num n,rfl,⟨t,rfl,ht⟩,rfl,_,rfl,jQ 1e4 ⟨_,rfl,_,rfl,_,_,r2,r1,?_⟩⟩;rw[yu r1 r1];exact k
 | th t =>
  obtain⟨q,rfl,hq⟩:=hv;obtain⟨a,j,z,rfl,sa,rv,hk⟩:=lk;obtain⟨nn,p,rfl,hp⟩:=hy.resolve_left (λz=>by cases z.1);refine⟨_,rfl,_,.th t,rfl,⟨q,rfl,hq⟩,rfl,_,rfl,iU 1e4 ?_⟩;refine⟨_,rfl,_,.ad a,rfl,.inr ⟨nn,p,rfl,hp⟩,rfl,_,rfl,jQ 1e4 ?_⟩;refine⟨_,rfl,_,rfl,p,_,1,.int a,rfl,rfl,SqT.of hp,rfl,m,mx,c,xs,ws,a,j,z,rfl,M,gm,sa,rv,?_⟩;refine⟨_,rfl,_,rfl,q,_,1,.int t,rfl,rfl,SqT.of hq,rfl,dd,.int z,rfl,.inl ⟨kv,Sum.inl t,.inl hd,rfl,hk.symm⟩,rfl,?_⟩;simpa using k
noncomputable def Pr(H:Hp)(ps:List V)(ks:List Int)(g:Int->Int):Prop:=ps.length=ks.length/\∀(i:Nat) (u:V) (t:Int),ps[i]?=some u->ks[i]?=some t->∃ q,u=.ref q/\H q=some (.tup [.int t,.int (g t)])
theorem Pr.keep{H H':Hp}{ps:List V}{ks:List Int}{g:Int->Int}(p:Pr H ps ks g)(s:bI H H'):Pr H' ps ks g:=⟨p.1,λi u t a b=>by obtain⟨q,e,h⟩:=p.2 i u t a b;exact⟨q,e,s _ _ h⟩⟩
noncomputable def kvG(ks:List Int)(g:Int->Int):List (Key×V):=ks.map λt=>(Sum.inl t,V.int (g t))
theorem O3{g:Int->Int}{t:Int}:∀ {ks:List Int},t∈ks->iX (kvG ks g) 4e4=some (.int (g t))
 | [],m=>nomatch m
 | a::ks,m=>by
  by_cases e:a=t
  ·subst e;exact gi rfl
  ·show iX ((Sum.inl a,V.int (g a))::kvG ks g) _=_
   rw[fK (λz=>e (Sum.inl.inj z))];exact O3 ((aqi.mp m).resolve_left (aqe e))
theorem Pr.dict{H:Hp}{g:Int->Int}:∀ {ps:List V} {ks:List Int},Pr H ps ks g->∃ xs:List Addr,ps=xs.map V.ref/\Paired (λx (p:Key×V)=>H x=some (.tup [kV p.1,p.2])) xs (kvG ks g)
 | [],[],_=>⟨[],rfl,.nil⟩
 | [],_::_,h=>by cases h.1
 | _::_,[],h=>by cases h.1
 | u::ps,t::ks,h=>by
  obtain⟨xs,e,p⟩:=Pr.dict (ps:=ps) (ks:=ks) ⟨Nat.succ.inj h.1,λi v y a b=>h.2 (i+1) v y a b⟩;obtain⟨q,rfl,hq⟩:=h.2 0 u t rfl rfl;exact⟨q::xs,by rw[e];rfl,.cons hq p⟩
theorem Gr{ks:List Int}{g:Int->Int}(h:ks.Nodup):((kvG ks g).map (·.1)).Nodup:=by
 unfold kvG;rw[aqv];exact List.pairwise_map.mpr (h.imp λn e=>n (Sum.inl.inj e))
structure Pic(ws:List Mw)(s:HS)(g:Int->Int):Prop where
 hd:∀ t wd,(t,wd)∈s.aJ->0<=g t/\g t+(wd.length:Int)<ws.length/\ws[(g t).toNat]?=some (.hd t wd.length)/\∀(i:Nat) (w:Wd),wd[i]?=some w->∃ mw,ws[(g t).toNat+1+i]?=some mw/\Lk ws (kvG 9e1 g) w mw
 dj:∀ t wd t' wd',(t,wd)∈s.aJ->(t',wd')∈s.aJ->t≠t'->g t+(wd.length:Int)<g t'\/g t'+(wd'.length:Int)<g t
theorem keys_nodup{s:HS}(G:Good s):(keys s).Nodup:=G.asc.imp λh=>Int.ne_of_lt h
structure To(D:Ad)(H:Hp)(x:Addr)(A:HA)(s:HS)(m mx c:Addr)(xs:List V)(ws:List Mw)(b:Addr)(ps:List V)(g:Int->Int):Prop where
 J:IH D H x A s
 G:Good s
 M:Mm D H m mx c xs ws
 gm:Gm ws
 P:Pic ws s g
 hb:H b=some (.lst ps)
 pr:Pr H ps 9e1 g
 nx:s.nxt<10000
theorem To.same{D:Ad}{H H':Hp}{x:Addr}{A:HA}{s:HS}{m mx c:Addr}{xs:List V}{ws:List Mw}{b:Addr}{ps:List V}{g:Int->Int}(S:To D H x A s m mx c xs ws b ps g)(e:az H H'):To D H' x A s m mx c xs ws b ps g:=⟨S.J.same e,S.G,S.M.same e,S.gm,S.P,e _ _ S.hb,S.pr.keep (bI.of e),S.nx⟩
theorem To.at{D:Ad}{H:Hp}{x:Addr}{A:HA}{s:HS}{m mx c:Addr}{xs:List V}{ws:List Mw}{b:Addr}{ps:List V}{g:Int->Int}(S:To D H x A s m mx c xs ws b ps g){i:Nat}{v:V}(hi:ps[i]?=some v):∃ t q wd,v=.ref q/\H q=some (.tup [.int t,.int (g t)])/\t∈keys s/\(keys s)[i]?=some t/\(t,wd)∈s.aJ:=by
 have hl:i<(keys s).length:=by rw[<-S.pr.1];exact(apS.mp hi).1
 have hk:(keys s)[i]?=some (keys s)[i]:=apT hl;obtain⟨q,e,h⟩:=S.pr.2 i v _ hi hk;obtain⟨wd,mw⟩:=mem_keys.mp (apW hk);exact⟨_,q,wd,e,h,apW hk,hk,mw⟩
noncomputable def RQ(D:Ad):Sp:=λvs H Q _=>∃ m mx c xs ws,∃(kd:Str) (tl wl b:Addr) (us ys ps:List V) (ks:List Int) (g:Int->Int),vs=[.str kd,.ref tl,.ref m,.ref wl,.ref b]/\Mm D H m mx c xs ws/\Gm ws/\H tl=some (.lst us)/\H wl=some 5e0/\us.length=ys.length/\(∀(i:Nat) (v y:V),us[i]?=some v->ys[i]?=some y->∃ wd mw,WV H v wd/\MV H y mw/\Lk ws (kvG ks g) wd mw)/\H b=some (.lst ps)/\Pr H ps ks g/\ks.Nodup/\∀ H',az H H'->Q .non H'
noncomputable abbrev yL:List Str:=["kind","told","memory","words","book","stands","i","value"]
theorem ip:aw yL ["kind","told","memory","words","book"] (aq kS):=fsc
theorem wL(F:Fun K "first_unlike_word" "first_unlike_word" kS D.bO D.gk)(T:Txt K mg D)
  (rp:9e7 7 D.j8 D.rk ["value","memory","word","stands"] (O2 D)):9e7 8 D.bO D.gk ["kind","told","memory","words","book"] (RQ D):=by
 refine F.oa ip F.b5 λcdv A' outer s' H vs Q E hr h=>?_;obtain⟨m,mx,c,xs,ws,kd,tl,wl,b,us,ys,ps,ks,g,rfl,M,gm,ht,hw,lu,hl,hb,pr,nd,k⟩:=h;refine⟨_,(PSs.nox (aj (aS (i:=5) ip.nd rfl 1e9 (j6 (Bp rfl) rfl T.Lc PyProof.Rows.Boot.«dict» 5e4))
  (aj (gq aqg rfl (zF rfl T.jC 2e4) (DZ rfl (iQ (bA (i:=6) ip.nd rfl 1e9) (iQ (bA (i:=7) ip.nd rfl 1e9) wx)))
   (ai (bQ (sR (zA (rp.c hr T.MN T.zu bq (aa (pv 7) (aa (pv 2) (aa (a8 jy (pv 3) (pv 6) 1e6) (aa (pv 5) ak)))))))
    (ai (aI (cg (aa (pv 0) (aa (pv 6) ak)))))
    aR)))
  (ai (aI d7))))),?_⟩
 obtain⟨bs,rfl,pd⟩:=pr.dict;refine⟨_,rfl,b,bs,kvG ks g,rfl,hb,pd,Gr nd,λdd hdd=>?_⟩;have s1:=az.upd (o:=.dK (kvG ks g)) hdd;refine⟨_,rfl,tl,rfl,⟨_,SqL.of (s1 _ _ ht)⟩,uJ (K:=K) (a:=tl) (xs:=us) (λi σ Hx=>∃ v6 v7,σ=[some (.str kd),some (.ref tl),some (.ref m),some (.ref wl),some (.ref b),some (.ref dd),v6,v7]/\az (upd H dd (.dK (kvG ks g))) Hx) ⟨none,none,rfl,az.refl _⟩ (λi σ Hx _ ⟨_,_,_,sx⟩=>SqL.of (sx _ _ (s1 _ _ ht))) ?_ ?_⟩
 ·rintro i v σ Hx tp hi ⟨v6,v7,rfl,sx⟩ htp
  have t1:=az.upd (o:=.tup [.int (i:Int),v]) htp;have S:=(s1.trans sx).trans t1;obtain⟨y,hy⟩:∃ y,ys[i]?=some y:=⟨ys[i]'(by rw[<-lu];exact(apS.mp hi).1),apT _⟩;obtain⟨wd,mw,h1,h2,h3⟩:=hl i v y hi hy;refine⟨tp,_,rfl,SqT.of ag,rfl,_,_,rfl,_,_,rfl,rfl,?_⟩;exact⟨_,rfl,_,rfl,_,rfl,_,rfl,wl,ys,_,y,rfl,rfl,SqL.of (S _ _ hw),Ek hy,_,rfl,m,mx,c,xs,ws,v,y,wd,mw,dd,_,rfl,M.same S,gm,h1.keep (bI.of S),h2.keep (bI.of S),t1 _ _ (sx _ _ ag),h3,true,rfl,iU rfl ⟨_,_,rfl,sx.trans t1⟩⟩
 ·rintro σ Hx ⟨v6,v7,rfl,sx⟩
  exact k _ (s1.trans sx)
noncomputable def MW(D:Ad):Sp:=λvs H Q _=>∃ x A s m mx c xs ws b ps g,vs=[.ref x,.ref m,.ref b]/\To D H x A s m mx c xs ws b ps g/\∀ H',az H H'->Q .non H'
noncomputable abbrev wM:List Str:=["ideal","memory","book","stands","pair","k","value"]
theorem eS:aw wM ["ideal","memory","book"] (aq kh):=fsc
theorem vT(F:Fun K "first_unlike_field" "first_unlike_field" kh D.bH D.fH)(T:Txt K mg D)
  (rp:9e7 7 D.j8 D.rk ["value","memory","word","stands"] (O2 D))
  (aF:9e7 4 D.aQ D.bw ["self","t"] (zP D))
  (cf:9e7 4 D.eU D.iG ["self","a"] (D2 D)):9e7 8 D.bH D.fH ["ideal","memory","book"] (MW D):=by
 refine F.oa eS F.b3 λcdv A' outer s' H vs Q E hr h=>?_;obtain⟨x,A,s,m,mx,c,xs,ws,b,ps,g,rfl,S,k⟩:=h;refine⟨_,(PSs.nox (aj (aS (i:=3) eS.nd rfl 1e9 (j6 (Bp rfl) rfl T.Lc PyProof.Rows.Boot.«dict» 3e9))
  (aj (gq aqg rfl (fe (pv 2)) (bA (i:=4) eS.nd rfl 1e9)
   (ai (gq aqg rfl (zF rfl T.jC (aa (aF.m hr (pv 0) T.ae T.cR bq (aa (a8 aV (pv 4) av 1e6) ak)) ak)) (DZ rfl (iQ (bA (i:=5) eS.nd rfl 1e9) (iQ (bA (i:=6) eS.nd rfl 1e9) wx)))
    (ai (bQ (sR (zA (rp.c hr T.MN T.zu bq (aa (pv 6) (aa (pv 1) (aa (cf.m hr (pv 1) T.bE T.jI bq (aa (cM iO (cM iO (a8 aV (pv 4) av 1e6) av) (pv 5)) ak)) 6e5))))))
     (ai (aI (cg (aa aP (aa (a8 aV (pv 4) av 1e6) (aa (pv 5) ak))))))
     aR)))))
  (ai (aI d7))))),?_⟩
 have z:=S.M.z;obtain⟨bs,eb,pd⟩:=S.pr.dict;refine⟨_,rfl,b,bs,kvG 9e1 g,rfl,by rw[<-eb];exact S.hb,pd,Gr (keys_nodup S.G),λdd hdd=>?_⟩;have s1:=az.upd (o:=.dK (kvG 9e1 g)) hdd;refine⟨_,rfl,b,rfl,⟨_,SqL.of (s1 _ _ S.hb)⟩,j5 (K:=K) (a:=b) (xs:=ps) (λi σ Hx=>∃ v4 v5 v6,σ=[some 7e5,some (.ref m),some (.ref b),some (.ref dd),v4,v5,v6]/\az (upd H dd (.dK (kvG 9e1 g))) Hx) ⟨none,none,none,rfl,az.refl _⟩ (λi σ Hx _ ⟨_,_,_,_,sx⟩=>SqL.of (sx _ _ (s1 _ _ S.hb))) ?_ ?_⟩
 ·rintro i v σ Hx hi ⟨v4,v5,v6,rfl,sx⟩
  have S1:=S.same (s1.trans sx);obtain⟨t,q,wd,rfl,hq,mk,_,mw⟩:=S1.at hi;obtain⟨t0,t1⟩:=S.G.lt t wd mw;obtain⟨g0,g1,_,gw⟩:=S.P.hd t wd mw;have nx:=S.nx;refine⟨_,rfl,x,_,_,rfl,S1.J.ax,1e4,_,rfl,q,_,0,.int t,rfl,rfl,SqT.of hq,rfl,x,A,s,t,rfl,S1.J,S.G,Sm.of 1e1 1e1,(λ_ p H1 sp hp zp=>?_),(λn=>absurd mk n)⟩;refine⟨p,rfl,⟨_,SqL.of zp⟩,uJ (K:=K) (a:=p) (xs:=A.fx t) (λj σ Hy=>∃ v5 v6,σ=[some 7e5,some (.ref m),some (.ref b),some (.ref dd),some (.ref q),v5,v6]/\az H1 Hy) ⟨_,_,rfl,az.refl _⟩ (λi σ Hy _ ⟨_,_,_,sy⟩=>SqL.of (sy _ _ zp)) ?_ ?_⟩
  ·rintro j v σ Hy tp hj ⟨v5,v6,rfl,sy⟩ htp
   have t2:=az.upd (o:=.tup [.int (j:Int),v]) htp;have e2:=(sp.trans sy).trans t2;have S2:=S1.same e2;have R:=(S1.J.afl t wd mw).2;have jl:j<wd.length:=(by rw[<-R.1];exact(apS.mp hj).1);obtain⟨w',hw'⟩:∃ w',wd[j]?=some w':=⟨_,apT jl⟩;obtain⟨mw',hmw,lk⟩:=gw j w' hw';refine⟨tp,_,rfl,SqT.of ag,rfl,_,_,rfl,_,_,rfl,rfl,?_⟩;refine⟨_,rfl,_,rfl,_,rfl,m,_,_,rfl,S2.M.i,1e4,_,rfl,q,_,1,.int (g t),rfl,rfl,SqT.of (e2 _ _ hq),rfl,_,1,rfl,rfl,_,rfl,_,_,rfl,rfl,m,mx,c,xs,ws,_,rfl,S2.M,Sm.of 1e1 1e1,?_⟩;rw[if_pos ⟨by omega,by omega⟩];intro y w2 hy hw2 mv;rw[show(g t+1+(j:Int)).toNat=(g t).toNat+1+j by omega,hmw]at hw2;cases hw2;exact⟨_,rfl,m,mx,c,xs,ws,v,y,w',mw',dd,_,rfl,S2.M,S.gm,(R.2 j v w' hj hw').keep (bI.of e2),mv,e2 _ _ (sx _ _ ag),lk,true,rfl,iU rfl ⟨_,_,rfl,sy.trans t2⟩⟩
  ·rintro σ Hy ⟨v5,v6,rfl,sy⟩
   exact⟨_,_,_,rfl,sx.trans (sp.trans sy)⟩
 ·rintro σ Hx ⟨v4,v5,v6,rfl,sx⟩
  exact k _ (s1.trans sx)
noncomputable def RR(D:Ad):Sp:=λvs H Q _=>∃ x A s m mx c xs ws b ps g,vs=[.ref x,.ref m,.ref b]/\To D H x A s m mx c xs ws b ps g/\∀ H',az H H'->Q .non H'
noncomputable abbrev ES:List Str:=["ideal","memory","book","pair"]
theorem sg:aw ES ["ideal","memory","book"] (aq nX):=fsc
theorem Cw(F:Fun K "first_headless" "first_headless" nX D.c9 D.i9)(T:Txt K mg D)
  (aF:9e7 4 D.aQ D.bw ["self","t"] (zP D))
  (cf:9e7 4 D.eU D.iG ["self","a"] (D2 D)):9e7 5 D.c9 D.i9 ["ideal","memory","book"] (RR D):=by
 refine F.oa sg F.b3 λcdv A' outer s' H vs Q E hr h=>?_;obtain⟨x,A,s,m,mx,c,xs,ws,b,ps,g,rfl,S,k⟩:=h;have hu:=jK hr;refine⟨_,(PSs.nox (aj (gq aqg rfl (fe (pv 2)) (bA (i:=3) sg.nd rfl 1e9)
   (ai (bQ (aK (abQ (n:=1) hu) (cf.m hr (pv 1) T.bE T.jI bq (aa (a8 aV (pv 3) av 1e6) ak)) (cg (aa aP (aa (a8 aV (pv 3) av 1e6) (aa (cc bh rfl T.lM PyProof.Rows.Boot.«len» (aa (aF.m hr (pv 0) T.ae T.cR bq (aa (a8 aV (pv 3) av 1e6) ak)) ak)) ak)))) (aW _))
    (ai (aI (cg (aa aP (aa (a8 aV (pv 3) av 1e6) ak)))))
    aR)))
  (ai (aI d7)))),?_⟩
 have z:=S.M.z;have nx:=S.nx;refine⟨_,rfl,b,rfl,⟨_,SqL.of S.hb⟩,j5 (K:=K) (a:=b) (xs:=ps) (λi σ Hx=>∃ v3,σ=[some 7e5,some (.ref m),some (.ref b),v3]/\az H Hx) ⟨none,rfl,az.refl _⟩ (λi σ Hx _ ⟨_,_,sx⟩=>SqL.of (sx _ _ S.hb)) ?_ ?_⟩
 ·rintro i v σ Hx hi ⟨v3,rfl,sx⟩
  have S1:=S.same sx;obtain⟨t,q,wd,rfl,hq,mk,_,mw⟩:=S1.at hi;obtain⟨t0,t1⟩:=S.G.lt t wd mw;obtain⟨g0,g1,gh,_⟩:=S.P.hd t wd mw;have R:=(S1.J.afl t wd mw).2;refine⟨_,rfl,m,_,_,rfl,S1.M.i,1e4,_,rfl,q,_,1,.int (g t),rfl,rfl,SqT.of hq,rfl,m,mx,c,xs,ws,g t,rfl,S1.M,Sm.of 1e1 1e1,?_⟩;rw[if_pos ⟨g0,by omega⟩];intro y w2 hy hw2 mv;rw[gh]at hw2;cases hw2;obtain⟨_,p1,rfl,hp1⟩:=mv.resolve_left (λz=>by cases z.1);refine⟨_,rfl,q,_,0,.int t,rfl,rfl,SqT.of hq,rfl,_,rfl,x,_,_,rfl,S1.J.ax,1e4,_,rfl,q,_,0,.int t,rfl,rfl,SqT.of hq,rfl,x,A,s,t,rfl,S1.J,S1.G,Sm.of 1e1 1e1,(λ_ p H1 sp hp zp=>?_),(λn=>absurd mk n)⟩;refine⟨p,_,rfl,.inl (SqL.of zp),by show 3<=sizeLine;decide,λr hr'=>?_⟩;have t3:=az.upd (o:=.tup [V.str "head",V.int t,V.int (A.fx t).length]) hr';have e1:((A.fx t).length:Int)=wd.length:=by rw[R.1]
  have r1:Rp (upd H1 r (.tup [V.str "head",V.int t,V.int (A.fx t).length])) 1 (V.ref p1) (.t [.a (.str "head"),.a (.int t),.a (.int wd.length)]):=⟨p1,_,rfl,t3 _ _ (sp _ _ hp1),rfl,(λj u x h1 h2=>by match j,h1,h2 with|0,h1,h2=>cases h1;cases h2;exact⟨rfl,rfl⟩|1,h1,h2=>cases h1;cases h2;exact⟨rfl,rfl⟩|2,h1,h2=>cases h1;cases h2;exact⟨rfl,rfl⟩|j+3,h1,_=>cases h1)⟩
  have r2:Rp (upd H1 r (.tup [V.str "head",V.int t,V.int (A.fx t).length])) 1 (V.ref r) (.t [.a (.str "head"),.a (.int t),.a (.int wd.length)]):=⟨r,_,rfl,by rw[ag,e1],rfl,(λj u x h1 h2=>by match j,h1,h2 with|0,h1,h2=>cases h1;cases h2;exact⟨rfl,rfl⟩|1,h1,h2=>cases h1;cases h2;exact⟨rfl,rfl⟩|2,h1,h2=>cases h1;cases h2;exact⟨rfl,rfl⟩|j+3,h1,_=>cases h1)⟩
  refine⟨_,_,r1,r2,_,rfl,iU (by rw[yu r1 r1];rfl) ⟨_,rfl,(sx.trans sp).trans t3⟩⟩
 ·rintro σ Hx ⟨v3,rfl,sx⟩
  exact k _ sx
noncomputable def RS(D:Ad):Sp:=λvs H Q _=>∃ x A s q,∃(t a:Int) (wd:List Wd),vs=[.ref x,.ref q]/\IH D H x A s/\Good s/\s.nxt<10000/\H q=some (.tup [.int t,.int a])/\(t,wd)∈s.aJ/\∀ p H',az H H'->H p=none->H' p=some (.lst (((List.range (wd.length+1)).map λi:Nat=>a+(i:Int)).map V.int))->Q 4e7 H'
noncomputable abbrev xE:List Str:=["ideal","pair"]
theorem HB:aw xE ["ideal","pair"] (aq mT):=fsc
theorem HC(F:Fun K "addresses_of" "addresses_of" mT D.eI D.ku)(T:Txt K mg D)
  (aF:9e7 4 D.aQ D.bw ["self","t"] (zP D))
  (jR:9e7 3 D.hW D.lK ["fields"] (sO D)):9e7 5 D.eI D.ku ["ideal","pair"] (RS D):=by
 refine F.oa HB F.b2 λcdv A' outer s' H vs Q E hr h=>?_;obtain⟨x,A,s,q,t,a,wd,rfl,J,G,nx,hq,mw,k⟩:=h;refine⟨_,(PSs.nox (ai (aI (kY (cl:=[("pair",s'.heap.objs.size+1)]) (x := "i") (idx:=[1]) (NC:=["i","pair"]) ?co1 rfl (zj rfl T.zH (aa (jR.c hr T.Bw T.rF bq (aa (cc bh rfl T.lM PyProof.Rows.Boot.«len» (aa (aF.m hr (pv 0) T.ae T.cR bq (aa 2e3 ak)) ak)) ak)) ak)) (λC fp s₀ H₀=>(cM iO (a8 (r:=aaE K) aV (pv 1) av 1e6) (pv 0))))))),?_⟩
 case co1 =>
  exact iC (sc:=aq mT) (N:=xE) (ns:=["pair"]) rfl rfl rfl 2e2 rfl rfl (by
   intro q hq;rw[apU.mp hq];rfl)
 have mk:t∈keys s:=mem_keys.mpr ⟨wd,mw⟩;obtain⟨t0,t1⟩:=G.lt t wd mw;have f6:=G.f6 t wd mw;have R:=(J.afl t wd mw).2;have e0:(A.fx t).length=wd.length:=R.1;refine⟨_,rfl,x,_,_,rfl,J.ax,1e4,_,rfl,q,_,0,.int t,rfl,rfl,SqT.of hq,rfl,x,A,s,t,rfl,J,G,Sm.of 1e1 1e1,(λ_ p H1 sp hp zp=>?_),(λn=>absurd mk n)⟩;refine⟨p,_,rfl,.inl (SqL.of zp),_,rfl,Sm.of 1e1 1e1,?_⟩;rw[if_pos ⟨by omega,by omega⟩];refine⟨_,rfl,by omega,by omega,λL hL=>?_⟩;rw[show(((A.fx t).length:Int)+1).toNat=wd.length+1 by omega];refine JZ (lo:=0) (n:=wd.length+1) (λi ys Hc=>ys=((List.range i).map λi:Nat=>a+(i:Int)).map V.int/\az H1 Hc/\Hc L=some 5e0) ⟨rfl,az.upd hL,ag⟩ (λi ys Hc hi ⟨e,_,z⟩=>⟨z,by rw[e,apR,apR,aq2]⟩) (lN 1e1) (λi ys Hc hi ⟨e,sc,z⟩=>?_) (λys Hc ⟨e,sc,z⟩=>?_)
 ·refine⟨_,rfl,q,_,1,.int a,rfl,rfl,SqT.of (sc _ _ (sp _ _ hq)),rfl,_,rfl,_,_,rfl,rfl,z,?_,λb u y=>by rw[ah (ar y hL)];exact sc b u y,ag⟩
  rw[List.range_succ,ap3,ap3,e];simp
 ·exact k L _ (sp.trans sc) (az.none sp hL) (by rw[z,e])
noncomputable def adr(s:HS)(g:Int->Int)(ts:List Int):List Int:=ts.flatMap λt=>(List.range ((fld s t).length+1)).map λi:Nat=>g t+(i:Int)
noncomputable def Ec(as:List Int):List (Key×V):=as.map λa=>(Sum.inl a,V.int 1)
theorem Gu{a:Int}:∀ {as:List Int},a∉as->iX (Ec as) (Sum.inl a)=none
 | [],_=>rfl
 | b::as,m=>by
  show iX ((Sum.inl b,V.int 1)::Ec as) _=_;rw[fK (λz=>m (by rw[Sum.inl.inj z];exact ap7))];exact Gu λz=>m (ap8 _ z)
theorem MX{a:Int}:∀ {as:List Int},a∈as->iX (Ec as) (Sum.inl a)=some (.int 1)
 | [],m=>nomatch m
 | b::as,m=>by
  by_cases e:b=a
  ·subst e;exact gi rfl
  ·show iX ((Sum.inl b,V.int 1)::Ec as) _=_
   rw[fK (λz=>e (Sum.inl.inj z))];exact MX ((aqi.mp m).resolve_left (aqe e))
theorem VS{a:Int}{as:List Int}(h:a∉as):putK (Ec as) (Sum.inl a) (.int 1)=Ec (as++[a]):=by
 rw[pT _ (Gu h)];unfold Ec;rw[ap3];rfl
theorem U6{s:HS}{g:Int->Int}{ts:List Int}{a:Int}:a∈adr s g ts↔∃ t∈ts,∃ k:Nat,k<(fld s t).length+1/\a=g t+(k:Int):=by
 unfold adr;rw[arj];constructor
 ·rintro⟨t,m,h⟩
  obtain⟨k,hk,e⟩:=aqf.mp h;exact⟨t,m,k,aq6.mp hk,e.symm⟩
 ·rintro⟨t,m,k,hk,e⟩
  exact⟨t,m,aqf.mpr ⟨k,aq6.mpr hk,e.symm⟩⟩
theorem Xv{s:HS}{g:Int->Int}{ts:List Int}{t:Int}:adr s g (ts++[t])=adr s g ts++(List.range ((fld s t).length+1)).map λi:Nat=>g t+(i:Int):=by
 unfold adr;rw[arG];simp
theorem U7{s:HS}{g:Int->Int}(G:Good s):∀ {ts:List Int},(∀ t∈ts,t∈keys s)->(adr s g ts).length<=7*ts.length
 | [],_=>apV _
 | t::ts,h=>by
  have e:adr s g (t::ts)=((List.range ((fld s t).length+1)).map λi:Nat=>g t+(i:Int))++adr s g ts:=rfl;obtain⟨wd,mw⟩:=mem_keys.mp (h t ap7);have f6:=G.f6 t wd mw;rw[<-G.fld mw]at f6;rw[e,ap4,apR,aq2,aqo]
  have:=U7 (g:=g) G λt m=>h t (ap8 _ m)
  omega
theorem Z7{s:HS}{g:Int->Int}{ws:List Mw}(G:Good s)(P:Pic ws s g){i:Nat}{t:Int}{wd:List Wd}(ht:(keys s)[i]?=some t)(mw:(t,wd)∈s.aJ){k:Nat}(hk:k<wd.length+1):g t+(k:Int)∉adr s g 3e7:=λm=>by
 obtain⟨u,mu,k',hk',e⟩:=U6.mp m;have nu:t≠u:=λe=>by
  subst e;obtain⟨j,hj,ej⟩:=List.mem_iff_getElem.mp mu;rw[ap6]at hj;rw[List.getElem_take]at ej;have hi:=(apS.mp ht)
  have:=List.pairwise_iff_getElem.mp (show(keys s).Pairwise (·< ·) from G.asc) j i 1e1 hi.1 1e1
  rw[ej,hi.2]at this;omega
 obtain⟨wu,mwu⟩:=mem_keys.mp (aqY mu);rw[G.fld mwu]at hk';rcases P.dj t wd u wu mw mwu nu with h|h<;>omega
noncomputable def Yk(D:Ad):Sp:=λvs H Q _=>∃ x A s m mx c xs ws b ps g,vs=[.ref x,.ref m,.ref b]/\To D H x A s m mx c xs ws b ps g/\∀ H',az H H'->Q .non H'
noncomputable abbrev Cy:List Str:=["ideal","memory","book","uses","pair","a"]
theorem e7:aw Cy ["ideal","memory","book"] (aq mJ):=fsc
theorem AB(F:Fun K "first_misplaced" "first_misplaced" mJ D.cB D.iA)(T:Txt K mg D)
  (m9:9e7 5 D.eI D.ku ["ideal","pair"] (RS D))
  (fJ:9e7 1 D.eD D.iP ["self"] (Eb D)):9e7 6 D.cB D.iA ["ideal","memory","book"] (Yk D):=by
 refine F.oa e7 F.b3 λcdv A' outer s' H vs Q E hr h=>?_;obtain⟨x,A,s,m,mx,c,xs,ws,b,ps,g,rfl,S,k⟩:=h;have hu:=jK hr;refine⟨_,(PSs.nox (aj (aS (i:=3) e7.nd rfl 1e9 jx)
  (aj (gq aqg rfl (fe (pv 2)) (bA (i:=4) e7.nd rfl 1e9)
   (ai (gq aqg rfl (fe (m9.c hr T.xy T.mY bq (aa (pv 0) 5e4))) (bA (i:=5) e7.nd rfl 1e9)
    (ai (lQ hu (pv 3) (pv 5) (cM iO (WW hu (pv 3) (pv 5) av ⟨rfl,rfl,rfl,rfl⟩) av) rfl)))))
  (aj (gq aqg rfl (fe (pv 2)) (bA (i:=4) e7.nd rfl 1e9)
   (ai (gq aqg rfl (fe (m9.c hr T.xy T.mY bq (aa (pv 0) 5e4))) (bA (i:=5) e7.nd rfl 1e9)
    (ai (bQ (PW.pt (pw_or (sR (pS Bk vt av (pv 5) (fJ.m0 hr (pv 1) T.bE T.qQ bq))) (pw_or1 (aK JT (dq hu (pv 3) (pv 5) 1e6) av (aW _)))))
     (ai (aI (cg (aa aP (aa (a8 aV (pv 4) av 1e6) ak)))))
     aR)))))
  (ai (aI d7)))))),?_⟩
 have z:=S.M.z;have nx:=S.nx;have lt:(keys s).length<=10000:=by unfold keys;rw[apR];exact S.G.few
 intro dd hdd;have s1:=az.upd (o:=.dK []) hdd;refine⟨_,rfl,b,rfl,⟨_,SqL.of (s1 _ _ S.hb)⟩,j5 (K:=K) (a:=b) (xs:=ps) (λi σ Hx=>∃ v4 v5,σ=[some 7e5,some (.ref m),some (.ref b),some (.ref dd),v4,v5]/\az H Hx/\Hx dd=some (.dK (Ec (adr s g 3e7)))) ⟨none,none,rfl,s1,ag⟩ (λi σ Hx _ ⟨_,_,_,sx,_⟩=>SqL.of (sx _ _ S.hb)) ?_ ?_⟩
 ·rintro i v σ Hx hi ⟨v4,v5,rfl,sx,hd⟩
  have S1:=S.same sx;obtain⟨t,q,wd,rfl,hq,mk,ki,mw⟩:=S1.at hi;have ef:=S.G.fld mw;have f6:=S.G.f6 t wd mw;have al:=U7 (g:=g) S.G (ts:=(keys s).take i) λt m=>aqY m;have tl:((keys s).take i).length<=(keys s).length:=by rw[ap6];omega
  refine⟨_,rfl,_,rfl,x,A,s,q,t,g t,wd,rfl,S1.J,S.G,nx,hq,mw,λp H1 sp hp zp=>?_⟩;refine⟨p,rfl,⟨_,SqL.of zp⟩,j5 (K:=K) (a:=p) (xs:=((List.range (wd.length+1)).map λi:Nat=>g t+(i:Int)).map V.int) (λj σ Hy=>∃ v5,σ=[some 7e5,some (.ref m),some (.ref b),some (.ref dd),some (.ref q),v5]/\az H Hy/\Hy p=some (.lst (((List.range (wd.length+1)).map λi:Nat=>g t+(i:Int)).map V.int))/\Hy dd=some (.dK (Ec (adr s g 3e7++(List.range j).map λi:Nat=>g t+(i:Int))))) ⟨_,rfl,sx.trans sp,zp,by rw[show((List.range 0).map λi:Nat=>g t+(i:Int))=[] from rfl,aq8];exact sp _ _ hd⟩ (λj σ Hy _ ⟨_,_,_,y,_⟩=>SqL.of y) ?_ ?_⟩
  ·rintro j v σ Hy hj ⟨v5,rfl,sy,hy,hyd⟩
   have jl:j<wd.length+1:=(by have:=(apS.mp hj).1;rw[apR,apR,aq2]at this;exact this);rw[apZ,apZ,List.getElem?_range jl]at hj;cases hj;have na:g t+(j:Int)∉adr s g 3e7++(List.range j).map λi:Nat=>g t+(i:Int):=λy=>by
    rcases aqc.mp y with y|y
    ·exact Z7 S.G S.P ki mw jl y
    ·obtain⟨k',hk',e⟩:=aqf.mp y
     have:=aq6.mp hk'
     omega
   refine⟨_,rfl,dd,rfl,.inl ⟨_,.inl hyd⟩,_,rfl,_,um.k (k:=Sum.inl (g t+(j:Int))) hyd,0,1,(by rw[Gu na];rfl),rfl,_,rfl,_,rfl,dd,_,rfl,Em.k (k:=Sum.inl (g t+(j:Int))) hyd (by unfold Ec;rw[apR,ap4,apR,aq2];exact aqL (show(adr s g 3e7).length+j<=80000 by omega) 2e6),?_⟩;refine⟨_,rfl,λb u y=>by rw[ah (ar y hdd)];exact sy b u y,by rw[ah (ay hy hyd (by intro y;cases y))];exact hy,?_⟩;rw[ag,show((λi j=>V.int (i+j)) 0 1:V)=.int 1 from rfl,VS na,arv,List.range_succ,ap3];rfl
  ·rintro σ Hy ⟨v5,rfl,sy,hy,hyd⟩
   refine⟨_,_,rfl,sy,?_⟩;rw[apR,apR,aq2]at hyd;rw[take_snoc ki,Xv,ef];exact hyd
 ·rintro σ Hx ⟨v4,v5,rfl,sx,hd⟩
  rw[S.pr.1,apX (apV _)]at hd;refine⟨_,rfl,b,rfl,⟨_,SqL.of (sx _ _ S.hb)⟩,j5 (K:=K) (a:=b) (xs:=ps) (λi σ Hy=>∃ v4 v5,σ=[some 7e5,some (.ref m),some (.ref b),some (.ref dd),v4,v5]/\az Hx Hy) ⟨_,_,rfl,az.refl _⟩ (λi σ Hy _ ⟨_,_,_,sy⟩=>SqL.of (sy _ _ (sx _ _ S.hb))) ?_ ?_⟩
  ·rintro i v σ Hy hi ⟨v4,v5,rfl,sy⟩
   have S1:=S.same (sx.trans sy);obtain⟨t,q,wd,rfl,hq,mk,ki,mw⟩:=S1.at hi;have ef:=S.G.fld mw;obtain⟨g0,g1,_,_⟩:=S.P.hd t wd mw;refine⟨_,rfl,_,rfl,x,A,s,q,t,g t,wd,rfl,S1.J,S.G,nx,hq,mw,λp H1 sp hp zp=>?_⟩;refine⟨p,rfl,⟨_,SqL.of zp⟩,j5 (K:=K) (a:=p) (xs:=((List.range (wd.length+1)).map λi:Nat=>g t+(i:Int)).map V.int) (λj σ Hz=>∃ v5,σ=[some 7e5,some (.ref m),some (.ref b),some (.ref dd),some (.ref q),v5]/\az H1 Hz) ⟨_,rfl,az.refl _⟩ (λj σ Hz _ ⟨_,_,sz⟩=>SqL.of (sz _ _ zp)) ?_ ?_⟩
   ·rintro j v σ Hz hj ⟨v5,rfl,sz⟩
    have jl:j<wd.length+1:=(by have:=(apS.mp hj).1;rw[apR,apR,aq2]at this;exact this);rw[apZ,apZ,List.getElem?_range jl]at hj;cases hj;have S2:=S1.same (sp.trans sz);have ma:g t+(j:Int)∈adr s g 9e1:=U6.mpr ⟨t,mk,j,by rw[ef];exact jl,rfl⟩;refine⟨_,rfl,0,g t+(j:Int),rfl,rfl,_,rfl,jQ (decide_eq_true 1e1) ?_⟩;refine⟨_,rfl,m,_,_,rfl,S2.M.i,1e4,m,mx,c,xs,ws,rfl,S2.M,_,_,rfl,rfl,_,rfl,iU (by rw[decide_eq_true (show g t+(j:Int)<(ws.length:Int) by omega)];rfl) ?_⟩;exact⟨_,rfl,_,rfl,dd,.int 1,rfl,.inl ⟨_,Sum.inl (g t+(j:Int)),.inl (sz _ _ (sp _ _ (sy _ _ hd))),rfl,(MX ma).symm⟩,1,1,rfl,rfl,_,rfl,iU rfl ⟨_,rfl,sz⟩⟩
   ·rintro σ Hz ⟨v5,rfl,sz⟩
    exact⟨_,_,rfl,sy.trans (sp.trans sz)⟩
  ·rintro σ Hy ⟨v4,v5,rfl,sy⟩
   exact k _ (sx.trans sy)
noncomputable def Y8(D:Ad):Sp:=λvs H Q _=>∃ x A s m mx c xs ws b ps g,∃(hl nl:Addr) (ys zs:List V),vs=[.ref x,.ref m,.ref hl,.ref nl,.ref b]/\To D H x A s m mx c xs ws b ps g/\H hl=some 5e0/\H nl=some (.lst zs)/\ys.length=8/\zs.length=8/\(∀(i:Nat) (w:Wd) (y:V),s.aZ[i]?=some w->ys[i]?=some y->∃ mw,MV H y mw/\Lk ws (kvG 9e1 g) w mw)/\(∀(i:Nat) (n:Option Int) (y:V),s.names[i]?=some n->zs[i]?=some y->∃ mw,MV H y mw/\Lk ws (kvG 9e1 g) (nmW n) mw)/\∀ H',az H H'->Q .non H'
noncomputable abbrev qX:List Str:=["ideal","memory","hands","names","book","unlike","named"]
theorem gf:aw qX ["ideal","memory","hands","names","book"] (aq kn):=fsc
theorem HD(F:Fun K "first_unlike" "first_unlike" kn D.eG D.kr)(T:Txt K mg D)
  (bt:9e7 1 D.bL D.dN ["self"] (vD D))
  (mQ:9e7 6 D.cB D.iA ["ideal","memory","book"] (Yk D))
  (ow:9e7 5 D.c9 D.i9 ["ideal","memory","book"] (RR D))
  (km:9e7 8 D.bH D.fH ["ideal","memory","book"] (MW D))
  (iV:9e7 8 D.bO D.gk ["kind","told","memory","words","book"] (RQ D))
  (fZ:9e7 2 D.cz D.fU ["self"] (Gn D))
  (f7:9e7 2 D.cA D.fV ["self"] (Gp D))
  (cS:9e7 3 D.cQ D.gJ ["t"] (kA)):9e7 9 D.eG D.kr ["ideal","memory","hands","names","book"] (Y8 D):=by
 refine F.oa gf F.b5 λcdv A' outer s' H vs Q E hr h=>?_;obtain⟨x,A,s,m,mx,c,xs,ws,b,ps,g,hl,nl,ys,zs,rfl,S,hy,hz,l8,n8,hH,hN,k⟩:=h;refine⟨_,(PSs.nox (aj (bQ (aK (abK hr.abp) (kY (cl:=[]) (x := "pair") (idx:=[]) (NC:=["pair"]) ?co2 rfl (fe (pv 4)) (λC fp s₀ H₀=>(a8 (r:=aaE K) aV (pv 0) av 1e6))) (bt.m0 hr (pv 0) T.ae T.gn bq) (aW _))
   (ai (aI (cg (aa aP ak))))
   aR)
  (aj (aS (i:=5) gf.nd rfl 1e9 (mQ.c hr T.BM T.mK bq (aa (pv 0) (aa (pv 1) 5e4))))
  (aj (bQ (aK sT (pv 5) d7 (aW _))
   (ai (aS (i:=5) gf.nd rfl 1e9 (ow.c hr T.Es T.og bq (aa (pv 0) (aa (pv 1) 5e4)))))
   aR)
  (aj (bQ (aK sT (pv 5) d7 (aW _))
   (ai (aS (i:=5) gf.nd rfl 1e9 (km.c hr T.wA T.kj bq (aa (pv 0) (aa (pv 1) 5e4)))))
   aR)
  (aj (bQ (aK sT (pv 5) d7 (aW _))
   (ai (aS (i:=5) gf.nd rfl 1e9 (iV.c hr T.pX T.iT bq (aa aP (aa (fZ.m0 hr (pv 0) T.ae T.qy bq) (aa (pv 1) (aa (pv 2) 5e4)))))))
   aR)
  (aj (bQ (aK sT (pv 5) d7 (aW _))
   (aj (J8 (cl:=[]) (x := "t") (idx:=[]) (NC:=["t"]) (i:=6) gf.nd rfl rfl ?co1 rfl (fe (f7.m0 hr (pv 0) T.ae T.qz bq)) (λC fp s₀ H₀=>(rN (aK sT (pv 0) d7 (aW _)) d7 (cS.c hr T.oE T.jY Bo 7e3))))
   (ai (aS (i:=5) gf.nd rfl 1e9 (iV.c hr T.pX T.iT bq (aa aP (aa (pv 6) (aa (pv 1) (aa (pv 3) 5e4))))))))
   aR)
  (ai (aI (pv 5)))))))))),?_⟩
 case co1 =>
  exact iC (sc:=aq kn) (N:=qX) (ns:=[]) rfl rfl rfl 2e2 rfl rfl (by
   intro q hq;cases hq)
 case co2 =>
  exact iC (sc:=aq kn) (N:=qX) (ns:=[]) rfl rfl rfl 2e2 rfl rfl (by
   intro q hq;cases hq)
 have lp:=S.pr.1;have lk:(keys s).length<=10000:=by unfold keys;rw[apR];exact S.G.few
 refine⟨_,rfl,b,rfl,⟨_,SqL.of S.hb⟩,λL hL=>?_⟩;refine jn (K:=K) (a:=b) (xs:=ps) (λi us Hc=>us=((keys s).take i).map V.int/\az H Hc/\Hc L=some (.lst us)) ⟨rfl,az.upd hL,ag⟩ (λi us Hc hi ⟨e,_,z⟩=>⟨z,by rw[e,apR,ap6];omega⟩) (λi us Hc _ ⟨_,sc,_⟩=>SqL.of (sc _ _ S.hb)) (lN 1e1) (λi v us Hc hi ⟨e,sc,z⟩=>?_) (λus H1 ⟨e,s1,z1⟩=>?_)
 ·obtain⟨t,q,wd,rfl,hq,mk,ki,mw⟩:=S.at hi
  refine⟨_,rfl,q,_,0,.int t,rfl,rfl,SqT.of (sc _ _ hq),rfl,z,?_,λb u y=>by rw[ah (ar y hL)];exact sc b u y,ag⟩;rw[take_snoc ki,ap3,e];rfl
 ·rw[lp,apX (apV _)]at e
  subst e;have S1:=S.same s1;refine⟨_,rfl,x,_,_,rfl,S1.J.ax,1e4,x,A,s,rfl,S1.J,S.G,λp2 H2 s2 hp2 z2=>?_⟩;have fl:((keys s).map V.int).all mS=true:=by rw[List.all_map];exact aq5.mpr λ_ _=>rfl
  refine⟨L,p2,_,_,rfl,rfl,SqL.of (s2 _ _ z1),SqL.of z2,rfl,fl,fl,_,rfl,iU (by rw[Sr rfl,decide_eq_true rfl];rfl) ?_⟩;have S2:=S1.same s2;refine⟨_,rfl,_,rfl,_,rfl,x,A,s,m,mx,c,xs,ws,b,ps,g,rfl,S2,λH3 s3=>?_⟩;have S3:=S2.same s3;refine⟨_,rfl,rfl,_,rfl,jQ (decide_eq_true rfl) ⟨_,rfl,_,rfl,_,rfl,x,A,s,m,mx,c,xs,ws,b,ps,g,rfl,S3,λH4 s4=>?_⟩⟩;have S4:=S3.same s4;refine⟨_,rfl,rfl,_,rfl,jQ (decide_eq_true rfl) ⟨_,rfl,_,rfl,_,rfl,x,A,s,m,mx,c,xs,ws,b,ps,g,rfl,S4,λH5 s5=>?_⟩⟩;have S5:=S4.same s5;have E5:=((s1.trans s2).trans s3).trans (s4.trans s5);refine⟨_,rfl,rfl,_,rfl,jQ (decide_eq_true rfl) ⟨_,rfl,x,_,_,rfl,S5.J.ax,1e4,x,A,s,rfl,S5.J,S.G,λp6 H6 s6 hp6 z6=>?_⟩⟩;have S6:=S5.same s6;have E6:=E5.trans s6;refine⟨_,rfl,_,rfl,_,rfl,m,mx,c,xs,ws, "hand",p6,hl,b,A.hx,ys,ps,keys s,g,rfl,S6.M,S.gm,z6,E6 _ _ hy,by rw[S6.J.rhl.1,S.G.h8,l8],λi v y h1 h2=>?_,S6.hb,S6.pr,keys_nodup S.G,λH7 s7=>?_⟩
  ·obtain⟨w',hw'⟩:∃ w',s.aZ[i]?=some w':=⟨s.aZ[i]'(by rw[<-S6.J.rhl.1];exact(apS.mp h1).1),apT _⟩
   obtain⟨mw',e1,e2⟩:=hH i w' y hw' h2;exact⟨w',mw',S6.J.rhl.2 i v w' h1 hw',e1.keep (bI.of E6),e2⟩
  have S7:=S6.same s7;have E7:=E6.trans s7;refine⟨_,rfl,rfl,_,rfl,jQ (decide_eq_true rfl) ⟨_,rfl,x,_,_,rfl,S7.J.ax,1e4,x,A,s,rfl,S7.J,S.G,λp8 H8 s8 hp8 z8=>?_⟩⟩;refine⟨p8,rfl,⟨_,SqL.of z8⟩,λL2 hL2=>?_⟩;refine jn (K:=K) (a:=p8) (xs:=s.names.map nmV) (λi us Hc=>us.length=i/\az H8 Hc/\Hc L2=some (.lst us)/\∀(j:Nat) (u:V) (n:Option Int),us[j]?=some u->s.names[j]?=some n->WV Hc u (nmW n)) ⟨rfl,az.upd hL2,ag,(λj u n h=>by cases h)⟩ (λi us Hc _ ⟨e,_,z,_⟩=>⟨z,e⟩) (λi us Hc _ ⟨_,sc,_⟩=>SqL.of (sc _ _ z8)) (by rw[apR,S.G.n8];decide) (λi v us Hc hi ⟨e,sc,z,hq⟩=>?_) (λus H9 ⟨e,s9,z9,hq⟩=>?_)
  ·rw[apZ]at hi
   obtain⟨n,hn,rfl⟩:=aqa.mp hi;have fin:∀(u:V) (Hd:Hp),az Hc Hd->WV Hd u (nmW n)->Hd L2=some (.lst us)/\(us++[u]).length=i+1/\az H8 (upd Hd L2 (.lst (us++[u])))/\upd Hd L2 (.lst (us++[u])) L2=some (.lst (us++[u]))/\∀(j:Nat) (u':V) (n:Option Int),(us++[u])[j]?=some u'->s.names[j]?=some n->WV (upd Hd L2 (.lst (us++[u]))) u' (nmW n):=λu Hd sd wu=>by
    have zd:=sd _ _ z;refine⟨zd,by rw[ap4,e];rfl,λb v y=>by rw[ah (ar y hL2)];exact sd _ _ (sc b v y),ag,λj u' n' h1 h2=>?_⟩;have tu:bI Hd (upd Hd L2 (.lst (us++[u]))):=bI.set zd (by intro z y;cases y);rcases arb j us.length with cj|cj
    ·rw[aqw cj]at h1
     exact((hq j u' n' h1 h2).keep (bI.of sd)).keep tu
    ·have ej:j=us.length:=by have:=(apS.mp h1).1;rw[ap4,aqC]at this;omega
     rw[ej,aqs (apV _),arJ]at h1;cases h1;rw[ej,e,hn]at h2;cases h2;exact wu.keep tu
   cases n with
   | none=>exact⟨_,rfl,rfl,_,rfl,jQ (decide_eq_true rfl) (fin .non Hc (az.refl _) rfl)⟩
   | some t =>
    obtain⟨wt,mwt⟩:=S.G.nn t (apW hn);refine⟨_,rfl,rfl,_,rfl,iU (decide_eq_false 1e0) ⟨_,rfl,t,rfl,(S.G.lt t wt mwt).1,λtp Hd sd hd=>?_⟩⟩;exact fin (.ref tp) Hd sd ⟨tp,rfl,hd⟩
  ·have S9:=(S7.same s8).same s9
   have E9:=(E7.trans s8).trans s9;rw[apR]at e;refine⟨_,rfl,_,rfl,_,rfl,_,rfl,m,mx,c,xs,ws, "name",L2,nl,b,us,zs,ps,keys s,g,rfl,S9.M,S.gm,z9,E9 _ _ hz,by rw[e,S.G.n8,n8],λi v y h1 h2=>?_,S9.hb,S9.pr,keys_nodup S.G,λH10 s10=>?_⟩
   ·obtain⟨n',hn'⟩:∃ n',s.names[i]?=some n':=⟨s.names[i]'(by rw[<-e];exact(apS.mp h1).1),apT _⟩
    obtain⟨mw',e1,e2⟩:=hN i n' y hn' h2;exact⟨nmW n',mw',hq i v n' h1 hn',e1.keep (bI.of E9),e2⟩
   ·exact⟨_,rfl,k _ (E9.trans s10)⟩
noncomputable def RT(D:Ad):Sp:=λvs H Q E=>Y8 D vs H (λ_ H'=>Q (.bl true) H') E
noncomputable abbrev NQ:List Str:=["ideal","memory","hands","names","book"]
theorem Lx:aw NQ ["ideal","memory","hands","names","book"] (aq uX):=fsc
theorem Ly(F:Fun K "is_picture" "is_picture" uX D.gx D.nz)(T:Txt K mg D)
  (qY:9e7 9 D.eG D.kr ["ideal","memory","hands","names","book"] (Y8 D)):9e7 10 D.gx D.nz ["ideal","memory","hands","names","book"] (RT D):=by
 refine F.oa Lx F.b5 λcdv A' outer s' H vs Q E hr h=>?_;obtain⟨x,A,s,m,mx,c,xs,ws,b,ps,g,hl,nl,ys,zs,rfl,S,hy,hz,l8,n8,hH,hN,k⟩:=h;refine⟨_,(PSs.nox (ai (aI (zC sT (qY.c hr T.IC T.qS bq (aa (pv 0) (aa (pv 1) (aa (pv 2) (aa (pv 3) 5e4))))) d7 (aW _))))),?_⟩;exact⟨_,rfl,_,rfl,_,rfl,_,rfl,_,rfl,x,A,s,m,mx,c,xs,ws,b,ps,g,hl,nl,ys,zs,rfl,S,hy,hz,l8,n8,hH,hN,λH' s'=>⟨rfl,k _ s'⟩⟩
theorem RU{ws:List Mw}{a:Nat}{t:Int}{us:List Mw}:(layW ws a t us).length=ws.length:=by unfold layW;rw[Gq,aqp]
structure Dg(kvs:List (Key×V))(ms:List Int)(g:Int->Int):Prop where
 k:Kys kvs ms
 n:ms.Nodup
 v:∀ t∈ms,iX kvs 4e4=some (.int (g t))
theorem Dg.nil{g:Int->Int}:Dg [] [] g:=⟨rfl,arx,λt m=>nomatch m⟩
theorem Yl{X:Cx}{st:Stmt}:PS X st (λ_ _ _=>False):=λ_ _ _ _ _ _ h=>h.elim
noncomputable def Mw.adr:Mw->Option Int
 | .ad a=>some a
 | _=>none
theorem RV{w:Mw}{a:Int}(h:w.adr=some a):w=.ad a:=by
 cases w with
 | ad b=>cases h;rfl
 | _=>cases h
noncomputable def Kq(acc:List Int)(w:Mw):List Int:=match w.adr with
 | some a=>if a∈acc then acc else acc++[a]
 | none=>acc
noncomputable def addW:List Int->List Mw->List Int
 | acc,[]=>acc
 | acc,w::r=>addW (Kq acc w) r
theorem RW{acc:List Int}{a:Int}(h:a∉acc):Kq acc (.ad a)=acc++[a]:=if_neg h
theorem RX{acc:List Int}{a:Int}(h:a∈acc):Kq acc (.ad a)=acc:=if_pos h
theorem Z8{acc:List Int}{w:Mw}(h:w.adr=none):Kq acc w=acc:=by unfold Kq;rw[h]
theorem KU(acc:List Int)(u v:List Mw):addW acc (u++v)=addW (addW acc u) v:=by
 induction u generalizing acc with
 | nil=>rfl
 | cons w r ih=>exact ih _
theorem RY(acc:List Int)(w:Mw):addW acc [w]=Kq acc w:=rfl
theorem Xw(acc:List Int)(w:Mw):acc <+: Kq acc w:=by
 unfold Kq;cases w.adr with
 | none=>exact arN _
 | some a =>
  show acc <+: if a∈acc then acc else acc++[a];split
  ·exact arN _
  ·exact List.prefix_append _ _
theorem Xx(acc:List Int)(u:List Mw):acc <+: addW acc u:=by
 induction u generalizing acc with
 | nil=>exact arN _
 | cons w r ih=>exact(Xw acc w).trans (ih _)
theorem Z9{acc:List Int}{w:Mw}(h:acc.Nodup):(Kq acc w).Nodup:=by
 unfold Kq;cases w.adr with
 | none=>exact h
 | some a =>
  show(if a∈acc then acc else acc++[a]).Nodup;split
  ·exact h
  ·rename_i n
   rw[aqz];exact⟨h,by simp,λx hx y hy=>by rw[apU.mp hy];exact λe=>n (by rw[<-e];exact hx)⟩
theorem aaa{acc:List Int}{u:List Mw}(h:acc.Nodup):(addW acc u).Nodup:=by
 induction u generalizing acc with
 | nil=>exact h
 | cons w r ih=>exact ih (Z9 h)
theorem Xy{acc:List Int}{w:Mw}{a:Int}:a∈Kq acc w↔a∈acc\/w=.ad a:=by
 cases w with
 | ad b =>
  by_cases c:b∈acc
  ·rw[RX c]
   exact⟨.inl,λz=>z.elim id λe=>by cases e;exact c⟩
  ·rw[RW c,aqc,apU]
   exact⟨λz=>z.elim .inl λe=>.inr (by rw[e]),λz=>z.elim .inl λe=>by cases e;exact .inr rfl⟩
 | _=>exact⟨.inl,λz=>z.elim id λe=>by cases e⟩
theorem Xz{acc:List Int}{u:List Mw}{a:Int}:a∈addW acc u↔a∈acc\/Mw.ad a∈u:=by
 induction u generalizing acc with
 | nil=>exact⟨.inl,λz=>z.elim id λe=>nomatch e⟩
 | cons w r ih =>
  show a∈addW (Kq acc w) r↔_;rw[ih,Xy,aqi];constructor
  ·rintro((h|h)|h)
   ·exact .inl h
   ·exact .inr (.inl h.symm)
   ·exact .inr (.inr h)
  ·rintro(h|h|h)
   ·exact .inl (.inl h)
   ·exact .inl (.inr h.symm)
   ·exact .inr h
noncomputable def Wl(rs:List Mw)(f:Int->List Mw)(R:List Int):List Mw:=rs++R.flatMap f
theorem O4{rs:List Mw}{f:Int->List Mw}{R:List Int}{a:Int}:Wl rs f (R++[a])=Wl rs f R++f a:=by unfold Wl;rw[arG,arv];simp
structure Bfs(rs:List Mw)(f:Int->List Mw)(R:List Int):Prop where
 fx:R=addW [] (Wl rs f R)
 wf:∀ k,k<R.length->k<(addW [] (Wl rs f (R.take k))).length
theorem Bfs.nd{rs:List Mw}{f:Int->List Mw}{R:List Int}(h:Bfs rs f R):R.Nodup:=by
 rw[h.fx];exact aaa arx
theorem Bfs.mem{rs:List Mw}{f:Int->List Mw}{R:List Int}(h:Bfs rs f R){a:Int}(m:Mw.ad a∈Wl rs f R):a∈R:=by
 rw[h.fx];exact Xz.mpr (.inr m)
structure Pg(rs:List Mw)(f:Int->List Mw)(th:List Int)(d:Nat):Prop where
 e:th=addW [] ((Wl rs f th).take d)
 le:d<=(Wl rs f th).length
 wf:∀ k,k<th.length->k<(addW [] (Wl rs f (th.take k))).length
theorem Pg.nil{rs:List Mw}{f:Int->List Mw}:Pg rs f [] 0:=⟨rfl,aqu _,λk h=>nomatch h⟩
theorem dZ{α:Type}{gs:List α}{i:Nat}{t:α}(e:gs[i]?=some t):gs.take (i+1)=gs.take i++[t]:=by rw[aql (apS.mp e).1,(apS.mp e).2]
theorem Pg.old{rs:List Mw}{f:Int->List Mw}{th:List Int}{d:Nat}{w:Mw}(h:Pg rs f th d)(hw:(Wl rs f th)[d]?=some w)(o:Kq th w=th):Pg rs f th (d+1):=by
 refine⟨?_,(apS.mp hw).1,h.wf⟩;rw[dZ hw,KU,<-h.e,RY,o]
theorem Pg.new{rs:List Mw}{f:Int->List Mw}{th:List Int}{d:Nat}{a:Int}(h:Pg rs f th d)(hw:(Wl rs f th)[d]?=some (.ad a))(n:a∉th):Pg rs f (th++[a]) (d+1):=by
 have hd:=(apS.mp hw).1;have e1:addW [] ((Wl rs f th).take (d+1))=th++[a]:=by rw[dZ hw,KU,<-h.e,RY,RW n]
 refine⟨?_,by rw[O4,ap4];omega,λk hk=>?_⟩
 ·rw[O4,aqM hd,e1]
 ·rw[ap4,aqC]at hk
  by_cases c:k<th.length
  ·rw[aqM 1e1]
   exact h.wf k c
  ·have ek:k=th.length:=by omega
   subst ek;rw[aqM (apV _),apX (apV _)];have p:=Xx (addW [] ((Wl rs f th).take (d+1))) ((Wl rs f th).drop (d+1));rw[<-KU,aqJ,e1]at p
   have:=p.length_le
   rw[ap4,aqC]at this;omega
theorem Pg.done{rs:List Mw}{f:Int->List Mw}{th:List Int}{d:Nat}(h:Pg rs f th d)(e:(Wl rs f th).length<=d):Bfs rs f th:=by
 refine⟨?_,h.wf⟩
 have:=h.e
 rw[apX e]at this;exact this
noncomputable def tot(f:Int->List Mw):List Int->Nat
 | []=>0
 | a::r=>(f a).length+1+tot f r
theorem ET(f:Int->List Mw)(u v:List Int):tot f (u++v)=tot f u+tot f v:=by
 induction u with
 | nil=>simp[tot]
 | cons a r ih=>show(f a).length+1+tot f (r++v)=(f a).length+1+tot f r+tot f v;rw[ih];omega
theorem yM(f:Int->List Mw)(u:List Int)(a:Int):tot f (u++[a])=tot f u+((f a).length+1):=by rw[ET];rfl
noncomputable def plA(f:Int->List Mw):Int->List Int->Int->Int
 | p,[],_=>p
 | p,b::r,a=>if a=b then p else plA f (p+(f b).length+1) r a
theorem abY{f:Int->List Mw}{u v:List Int}{a:Int}{p:Int}(h:a∉u):plA f p (u++a::v) a=p+tot f u:=by
 induction u generalizing p with
 | nil=>show(if a=a then p else _)=_;rw[if_pos rfl];simp[tot]
 | cons b r ih =>
  show(if a=b then p else plA f (p+(f b).length+1) (r++a::v) a)=_;rw[if_neg (λe=>h (by rw[e];exact ap7)),ih λm=>h (ap8 _ m)];show _=p+(((f b).length+1+tot f r:Nat):Int)
  push_cast
  omega
theorem KW{R:List Int}{i:Nat}{a:Int}(h:R[i]?=some a):R=R.take i++a::R.drop (i+1):=by
 have hi:=(apS.mp h).1;have e:=(apS.mp h).2;rw[<-e,<-aqV hi,aqJ]
theorem Kr{R:List Int}{i:Nat}{a:Int}(nd:R.Nodup)(h:R[i]?=some a):a∉R.take i:=λm=>by
 rw[KW h,aqz]at nd;exact nd.2.2 a m a ap7 rfl
theorem uQ{f:Int->List Mw}{R:List Int}{i:Nat}{a p:Int}(nd:R.Nodup)(h:R[i]?=some a):plA f p R a=p+tot f (R.take i):=by
 conv=>lhs;rw[KW h]
 exact abY (Kr nd h)
theorem yN{f:Int->List Mw}{R:List Int}{i:Nat}{a:Int}(h:R[i]?=some a):tot f (R.take i)+((f a).length+1)<=tot f R:=by
 have e:=congrArg (tot f) (KW h);rw[ET]at e
 have:tot f (a::R.drop (i+1))=(f a).length+1+tot f (R.drop (i+1)):=rfl
 omega
noncomputable def anew(g:Int->Int):Mw->Mw
 | .ad a=>.ad (g a)
 | w=>w
noncomputable def Okw(w:Mw):Prop:=w=.no\/(∃ n,w=.num n)\/∃ a,w=.ad a/\Sm a
noncomputable def Wv(f:Int->List Mw)(g:Int->Int):List Mw->List Int->List Mw
 | ws,[]=>ws
 | ws,a::r=>Wv f g (ws.set a.toNat (.mv (g a) (f a).length)) r
noncomputable def Ks(f:Int->List Mw)(g tt:Int->Int):List Mw->List Int->List Mw
 | ws,[]=>ws
 | ws,a::r=>Ks f g tt (layW ws (g a).toNat (tt a) ((f a).map (anew g))) r
theorem VT(f:Int->List Mw)(g:Int->Int)(ws:List Mw)(u:List Int)(a:Int):Wv f g ws (u++[a])=(Wv f g ws u).set a.toNat (.mv (g a) (f a).length):=by
 induction u generalizing ws with
 | nil=>rfl
 | cons b r ih=>exact ih _
theorem MY(f:Int->List Mw)(g tt:Int->Int)(ws:List Mw)(u:List Int)(a:Int):Ks f g tt ws (u++[a])=layW (Ks f g tt ws u) (g a).toNat (tt a) ((f a).map (anew g)):=by
 induction u generalizing ws with
 | nil=>rfl
 | cons b r ih=>exact ih _
theorem XA(f:Int->List Mw)(g:Int->Int)(ws:List Mw)(u:List Int):(Wv f g ws u).length=ws.length:=by
 induction u generalizing ws with
 | nil=>rfl
 | cons b r ih=>show(Wv f g _ r).length=_;rw[ih,aqp]
theorem KY(f:Int->List Mw)(g tt:Int->Int)(ws:List Mw)(u:List Int):(Ks f g tt ws u).length=ws.length:=by
 induction u generalizing ws with
 | nil=>rfl
 | cons b r ih=>show(Ks f g tt _ r).length=_;rw[ih,RU]
theorem Pj:∀ {R B:List Int},R.Nodup->(∀ a∈R,a∈B)->R.length<=B.length
 | [],_,_,_=>aqu _
 | a::r,B,nd,h=>by
  rw[aqP]at nd;have ha:=h a ap7;have e:=Pj (R:=r) (B:=B.erase a) nd.2 λb m=>(List.mem_erase_of_ne (λz=>nd.1 (by rw[<-z];exact m))).mpr (h b (ap8 _ m));rw[List.length_erase_of_mem ha]at e
  have:=List.length_pos_of_mem ha
  rw[aqo];omega
theorem abZ{rs:List Mw}{f:Int->List Mw}{R:List Int}(h:∀ a∈R,(f a).length<=6):(Wl rs f R).length<=rs.length+6*R.length:=by
 unfold Wl;rw[ap4]
 have:(R.flatMap f).length<=6*R.length:=by
  induction R with
  | nil=>simp
  | cons a r ih =>
   have h1:=h a ap7;have h2:=ih λb m=>h b (ap8 _ m);rw[List.flatMap_cons,ap4,aqo];omega
 omega
theorem aab{f:Int->List Mw}{R:List Int}(h:∀ a∈R,(f a).length<=6):tot f R<=7*R.length:=by
 induction R with
 | nil=>exact aqu _
 | cons a r ih =>
  have h1:=h a ap7;have h2:=ih λb m=>h b (ap8 _ m);rw[aqo];show(f a).length+1+tot f r<=_;omega
structure Src(ws rs:List Mw)(f:Int->List Mw)(tt:Int->Int)(B:List Int):Prop where
 rl:rs.length<=9
 ro:∀ w∈rs,Okw w
 rb:∀ a,Mw.ad a∈rs->a∈B
 bl:B.length<=100
 th:∀ a∈B,thg ws a=some (tt a,((f a).length:Int))/\Io ws a.toNat (f a).length=f a
 fl:∀ a∈B,(f a).length<=6
 fo:∀ a∈B,∀ w∈f a,Okw w
 fb:∀ a∈B,∀ b,Mw.ad b∈f a->b∈B
theorem Src.ok{ws rs:List Mw}{f:Int->List Mw}{tt:Int->Int}{B R:List Int}(S:Src ws rs f tt B)(h:∀ a∈R,a∈B){w:Mw}(m:w∈Wl rs f R):Okw w/\∀ a,w=.ad a->a∈B:=by
 rcases aqc.mp m with m|m
 ·exact⟨S.ro w m,λa e=>S.rb a (by rw[<-e];exact m)⟩
 ·obtain⟨b,mb,m⟩:=arj.mp m
  exact⟨S.fo b (h b mb) w m,λa e=>S.fb b (h b mb) a (by rw[<-e];exact m)⟩
structure Dth(H0 H:Hp)(kvs:List (Key×V))(R:List Int)(f:Int->List Mw)(tt:Int->Int):Prop where
 k:Kys kvs R
 n:R.Nodup
 v:∀ a∈R,∃ p l ys,iX kvs (Sum.inl a)=some 4e7/\H p=some (.tup [.int (tt a),.ref l])/\H0 l=none/\H l=some 5e0/\MR H ys (f a)
theorem Dth.nil{H0 H:Hp}{f:Int->List Mw}{tt:Int->Int}:Dth H0 H [] [] f tt:=⟨rfl,arx,λa m=>nomatch m⟩
noncomputable def Kp(H0 H H':Hp):Prop:=(∀ b xs,H0 b=none->H b=some 5e6->H' b=some 5e6)/\∀ b us,H b=some (.tup us)->H' b=some (.tup us)
theorem Kp.of{H0 H H':Hp}(s:az H H'):Kp H0 H H':=⟨λb u _ q=>s b _ q,λb us q=>s b _ q⟩
theorem Kp.frz{H0 H:Hp}{d:Addr}{kvs:List (Key×V)}{o:HO}(h:H d=some (.dK kvs)):Kp H0 H (upd H d o):=⟨λb u _ q=>by rw[ah (ay q h 1e0)];exact q,λb us q=>by rw[ah (ay q h 1e0)];exact q⟩
theorem Kp.set{H0 H:Hp}{c:Addr}{o o0 o1:HO}(h0:H0 c=some o0)(h1:H c=some o1)(n:∀ us,o1≠.tup us):Kp H0 H (upd H c o) :=
 ⟨λb u e q=>by rw[ah (λz=>by rw[z,h0]at e;cases e)];exact q,λb us q=>by rw[ah (λz=>by rw[z,h1]at q;exact n us (aqh q))];exact q⟩
theorem Dth.keep{H0 H H':Hp}{kvs:List (Key×V)}{R:List Int}{f:Int->List Mw}{tt:Int->Int}(d:Dth H0 H kvs R f tt)(s:Kp H0 H H'):Dth H0 H' kvs R f tt :=
 ⟨d.k,d.n,λa m=>by obtain⟨p,l,ys,h1,h2,h3,h4,h5⟩:=d.v a m;exact⟨p,l,ys,h1,s.2 _ _ h2,h3,s.1 _ _ h3 h4,h5.keep s.2⟩⟩
theorem Dth.low{H0 H1 H:Hp}{kvs:List (Key×V)}{R:List Int}{f:Int->List Mw}{tt:Int->Int}(d:Dth H1 H kvs R f tt)(s:az H0 H1):Dth H0 H kvs R f tt :=
 ⟨d.k,d.n,λa m=>by obtain⟨p,l,ys,h1,h2,h3,h4,h5⟩:=d.v a m;exact⟨p,l,ys,h1,h2,az.none s h3,h4,h5⟩⟩
theorem Dth.put{H0 H:Hp}{kvs:List (Key×V)}{R:List Int}{f:Int->List Mw}{tt:Int->Int}{a:Int}{p l:Addr}{ys:List V}(d:Dth H0 H kvs R f tt)(n:a∉R)(h2:H p=some (.tup [.int (tt a),.ref l]))(h3:H0 l=none)(h4:H l=some (.lst ys))(h5:MR H ys (f a)):Dth H0 H (putK kvs (Sum.inl a) 4e7) (R++[a]) f tt:=by
 refine⟨?_,?_,λb m=>?_⟩
 ·rw[pT _ (d.k.non n)]
  have:=d.k
  unfold Kys at this ⊢;rw[ap3,ap3,this];rfl
 ·rw[aqz]
  exact⟨d.n,by simp,λx hx y hy=>by rw[apU.mp hy];exact λe=>n (by rw[<-e];exact hx)⟩
 ·by_cases e:b=a
  ·subst e
   exact⟨p,l,ys,by rw[rO,if_pos rfl],h2,h3,h4,h5⟩
  ·obtain⟨p',l',ys',g1,g⟩:=d.v b ((aqc.mp m).resolve_right λz=>e (apU.mp z))
   exact⟨p',l',ys',by rw[rO,if_neg (λz=>e (Sum.inl.inj z))];exact g1,g⟩
theorem MR.app{H:Hp}{xs ys:List V}{us ws:List Mw}(a:MR H xs us)(b:MR H ys ws):MR H (xs++ys) (us++ws):=by
 refine⟨by rw[ap4,ap4,a.1,b.1],λi v w h1 h2=>?_⟩;by_cases c:i<xs.length
 ·rw[aqw c]at h1
  rw[aqw (by rw[<-a.1];exact c)]at h2;exact a.2 i v w h1 h2
 ·rw[aqs 1e1]at h1
  rw[aqs (by rw[<-a.1];omega),<-a.1]at h2;exact b.2 _ v w h1 h2
theorem MR.snoc{H:Hp}{xs:List V}{us:List Mw}{v:V}{w:Mw}(a:MR H xs us)(b:MV H v w):MR H (xs++[v]) (us++[w]):=a.app ⟨rfl,λi x y h1 h2=>by
 cases i with
 | zero=>cases h1;cases h2;exact b
 | succ i=>cases h1⟩
noncomputable def adV(w:Mw):V:=match w.adr with|some a=>.int a|none=>.non
noncomputable def Us:Sp:=λvs H Q _=>∃ v w,vs=[v]/\MV H v w/\Okw w/\∀ H',az H H'->Q (adV w) H'
noncomputable abbrev I0:List Str:=["word"]
theorem HE:aw I0 ["word"] (aq qM):=fsc
theorem HF(F:Fun K "address_told" "address_told" qM D.dD D.jd)(T:Txt K mg D)
  (cG:9e7 1 D.d8 D.hV ["value"] (ER)):9e7 2 D.dD D.jd ["word"] (Us):=by
 refine F.oa HE F.b1 λcdv A' outer s' H vs Q E hr h=>?_;obtain⟨v,w,rfl,hv,ok,k⟩:=h;refine⟨_,(PSs.nox (aj (bQ (aK Gh (tX cG.g 7e7 rfl T.lV T.j9 cG.b .nil bq 7e3) (cg (aa aP (aa aP ak))) 3e1)
   (ai (aI d7))
   aR)
  (aj (bQ (aK O7 (tX cG.g 7e7 rfl T.lV T.j9 cG.b .nil bq 7e3) aP (aW _))
   (ai Yl)
   aR)
  (ai (aI 6e9))))),?_⟩
 refine⟨_,rfl,v,w,rfl,hv,by show 2<=sizeLine;decide,λp hp=>?_⟩;have s1:=az.upd (o:=.tup [V.str "none",V.str "number"]) hp;refine⟨p,_,rfl,.inr (SqT.of ag),rfl,rfl,_,rfl,?_⟩;rcases ok with rfl|⟨n,rfl⟩|⟨a,rfl,sa⟩
 ·exact jQ 1e4 (k _ s1)
 ·exact jQ 1e4 (k _ s1)
 ·obtain⟨_,q,rfl,hq⟩:=hv.resolve_left (λz=>by cases z.1)
  refine iU 1e4 ⟨_,rfl,_,.ad a,rfl,.inr ⟨1e0,q,rfl,s1 _ _ hq⟩,rfl,_,rfl,iU 1e4 ?_⟩;exact⟨_,rfl,q,_,1,.int a,rfl,rfl,SqT.of (s1 _ _ hq),rfl,k _ s1⟩
noncomputable def Ym(D:Ad):Sp:=λvs H Q _=>∃ m mx c xs ws,∃(l:Addr) (ys:List V) (rs:List Mw) (f:Int->List Mw) (tt:Int->Int) (B:List Int),vs=[.ref m,.ref l]/\Mm D H m mx c xs ws/\Gm ws/\H l=some 5e0/\MR H ys rs/\Src ws rs f tt B/\∀ d kvs R H',Bfs rs f R->(∀ a∈R,a∈B)->az H H'->H d=none->H' d=some 3e0->Dth H H' kvs R f tt->Q (.ref d) H'
noncomputable abbrev NR:List Str:=["source","roots","things","words","done","a"]
theorem j2:aw NR ["source","roots"] (aq uR):=fsc
theorem Lz(F:Fun K "things_met" "things_met" uR D.gr D.nj)(T:Txt K mg D)
  (ji:9e7 2 D.dD D.jd ["word"] (Us))
  (BA:9e7 7 D.jN D.rC ["memory","a"] (Yi D)):9e7 8 D.gr D.nj ["source","roots"] (Ym D):=by
 refine F.oa j2 F.b2 λcdv A' outer s' H vs Q E hr h=>?_;obtain⟨m,mx,c,xs,ws,l,ys,rs,f,tt,B,rfl,M,gm,hl,ry,S,k⟩:=h;have hu:=jK hr;refine⟨_,(PSs.nox (aj (aS (i:=2) j2.nd rfl 1e9 jx)
  (aj (aS (i:=3) j2.nd rfl 1e9 (j6 ng rfl T.wB PyProof.Rows.Boot.«list» 2e4))
  (aj (aS (i:=4) j2.nd rfl 1e9 av)
  (aj (KC aqg (aK vt (pv 4) (cc bh rfl T.lM PyProof.Rows.Boot.«len» 6e5) (aW _))
   (aj (aS (i:=5) j2.nd rfl 1e9 (ji.c hr T.xx T.mX bq (aa (a8 jy (pv 3) (pv 4) 1e6) ak)))
   (aj (bQ (PW.pt (pw_and (aK JU (pv 5) d7 (aW _)) (pw_and1 (rf (kU hu (pv 5) (pv 2)) 3e1))))
    (aj (lQ hu (pv 2) (pv 5) (BA.c hr T.SS T.Bx bq (aa (pv 0) (aa (pv 5) ak))) rfl)
    (ai (aG (Mj PySem.F.plainAttrs_list PySem.F.slot_list_extend PySem.F.type_list_extend MB (pv 3) (aa (a8 aV (dq hu (pv 2) (pv 5) 1e6) av 1e6) ak)))))
    aR)
   (ai (T9 (i:=4) j2.nd rfl 1e9 av Ua)))))
  (ai (aI (pv 2)))))))),?_⟩
 have z:=M.z;intro d hd;have s1:=az.upd (o:=.dK []) hd;refine⟨_,rfl,l,ys,rfl,.inl (SqL.of (s1 _ _ hl)),λq hq=>?_⟩;have s2:=az.upd (o:=.lst ys) hq;obtain⟨Hs,eHs⟩:∃ Hs,upd (upd H d 6e1) q 5e0=Hs:=⟨_,rfl⟩;have ss:az H Hs:=by rw[<-eHs];exact s1.trans s2
 have hds:Hs d=some 6e1:=by rw[<-eHs];exact s2 _ _ ag
 have hqs:Hs q=some 5e0:=by rw[<-eHs];exact ag
 rw[eHs];refine⟨λn σ Hx=>∃(v5:Option V) (kvs:List (Key×V)) (th:List Int) (dn:Nat) (zs:List V),σ=[some (.ref m),some (.ref l),some (.ref d),some (.ref q),some (.int dn),v5]/\n=1000-dn/\Pg rs f th dn/\(∀ a∈th,a∈B)/\az H Hx/\Hx d=some 3e0/\Dth Hs Hx kvs th f tt/\Hx q=some (.lst zs)/\MR Hx zs (Wl rs f th),⟨1000,none,[],[],0,ys,rfl,rfl,Pg.nil,(λa m=>nomatch m),ss,hds,Dth.nil,hqs,?_⟩,?_⟩
 ·have:Wl rs f []=rs:=by unfold Wl;simp
  rw[this];exact ry.keep (bI.of ss)
 rintro n σ Hx ⟨v5,kvs,th,dn,zs,rfl,rfl,pg,hB,sx,hdx,dt,hqx,rz⟩;have lth:th.length<=100:=aqk (Pj dt.n hB) S.bl;have lW:=abZ (rs:=rs) λa m=>S.fl a (hB a m);have rl:=S.rl;have ez:=rz.1;refine⟨_,rfl,_,rfl,q,_,rfl,.inl (SqL.of hqx),dn,_,rfl,rfl,_,rfl,?_⟩;by_cases hlt:dn<zs.length
 ·refine jQ (decide_eq_true 1e1) ?_
  have hw:(Wl rs f th)[dn]?=some ((Wl rs f th)[dn]' 1e1):=apT _;obtain⟨w,ew⟩:∃ w,(Wl rs f th)[dn]' 1e1=w:=⟨_,rfl⟩;rw[ew]at hw;have mw:=apW hw;obtain⟨okw,inB⟩:=S.ok hB mw;obtain⟨v,hv,mv⟩:=rz.get hw;refine⟨λσ' H'=>∃ m',m'<1000-dn/\∃(v5:Option V) (kvs:List (Key×V)) (th:List Int) (dn:Nat) (zs:List V),σ'=[some (.ref m),some (.ref l),some (.ref d),some (.ref q),some (.int dn),v5]/\m'=1000-dn/\Pg rs f th dn/\(∀ a∈th,a∈B)/\az H H'/\H' d=some 3e0/\Dth Hs H' kvs th f tt/\H' q=some (.lst zs)/\MR H' zs (Wl rs f th),λ_ _ h=>h,?_⟩;refine⟨_,rfl,_,rfl,q,zs,dn,v,rfl,rfl,SqL.of hqx,zI 1e1 (by rw[Int.toNat_natCast];exact hv),v,w,rfl,mv,okw,λH1 s3=>?_⟩;have hd1:=s3 _ _ hdx;have hq1:=s3 _ _ hqx;have dt1:=dt.keep (Kp.of (H0:=Hs) s3);have rz1:=rz.keep (bI.of s3);have sx1:=sx.trans s3;have old:Kq th w=th->∃ m',m'<1000-dn/\∃(v5:Option V) (kvs:List (Key×V)) (th:List Int) (dn':Nat) (zs:List V),[some (.ref m),some (.ref l),some (.ref d),some (.ref q),some (.int ((dn:Int)+1)),some (adV w)]=[some (.ref m),some (.ref l),some (.ref d),some (.ref q),some (.int dn'),v5]/\m'=1000-dn'/\Pg rs f th dn'/\(∀ a∈th,a∈B)/\az H H1/\H1 d=some 3e0/\Dth Hs H1 kvs th f tt/\H1 q=some (.lst zs)/\MR H1 zs (Wl rs f th):=λh =>
   ⟨1000-(dn+1),by omega,some (adV w),kvs,th,dn+1,zs,rfl,rfl,pg.old hw h,hB,sx1,hd1,dt1,hq1,rz1⟩
  refine⟨_,rfl,rfl,_,rfl,?_⟩;cases ea:w.adr with
  | none =>
   have ev:adV w=.non:=(by unfold adV;rw[ea]);refine iU (by rw[ev];rfl) ⟨_,rfl,_,_,rfl,rfl,old (Z8 ea)⟩
  | some a =>
   have ev:adV w=.int a:=(by unfold adV;rw[ea]);obtain rfl:=RV ea;have aB:=inB a rfl;refine jQ (by rw[ev];rfl) ⟨_,rfl,_,rfl,d,_,rfl,.inl ⟨kvs,Sum.inl a,.inl hd1,rfl,rfl⟩,_,rfl,?_⟩;by_cases ha:a∈th
   ·obtain⟨p,_,_,hp,_⟩:=dt.v a ha
    refine iU (by rw[hp];rfl) ⟨_,rfl,_,_,rfl,rfl,old (RX ha)⟩
   ·refine jQ (by rw[dt.k.non ha];rfl) ?_
    obtain⟨tg,sl⟩:=S.th a aB;obtain⟨a0,hwa,al⟩:=KR tg;refine⟨_,rfl,_,rfl,m,mx,c,xs,ws,a,rfl,M.same sx1,gm,Sm.of 1e1 1e1,?_⟩;rw[tg];intro p l2 ys2 H2 s4 hl0 hp hl2 ry2;rw[Int.toNat_natCast,sl]at ry2;have hd2:=s4 _ _ hd1;have hq2:=s4 _ _ hq1;have apC:Hs l2=none:=by
     cases e:Hs l2 with
     | none=>rfl
     | some u =>
      exfalso;by_cases c1:l2=d
      ·rw[c1,hd1]at hl0;cases hl0
      ·by_cases c2:l2=q
       ·rw[c2,hq1]at hl0;cases hl0
       ·have:H l2=some u:=by rw[<-e,<-eHs,ah c2,ah c1]
        rw[sx1 _ _ this]at hl0;cases hl0
    have dt2:=(dt1.keep (Kp.of (H0:=Hs) s4)).put ha hp apC hl2 ry2;have lk:=dt.k.len;refine⟨_,rfl,_,rfl,d,_,rfl,Em.k (k:=Sum.inl a) hd2 (by rw[lk];exact oK 1e1),?_⟩;obtain⟨Iy,ek2⟩:∃ Iy,putK kvs (Sum.inl a) 4e7=Iy:=⟨_,rfl⟩;have vp:iX Iy (Sum.inl a)=some 4e7:=(by rw[<-ek2,rO,if_pos rfl]);rw[ek2]at dt2 ⊢;have ndq:q≠d:=ay hq2 hd2 1e0;have hp3:upd H2 d (.dK Iy) p=some (.tup [.int (tt a),.ref l2]):=(by rw[ah (ay hp hd2 1e0)];exact hp);have hl3:upd H2 d (.dK Iy) l2=some (.lst ys2):=(by rw[ah (ay hl2 hd2 1e0)];exact hl2);have hq3:upd H2 d (.dK Iy) q=some (.lst zs):=(by rw[ah ndq];exact hq2);have kp3:Kp Hs H2 (upd H2 d (.dK Iy)):=Kp.set hds hd2 (by intro us z;cases z);have e2:=ry2.1;have fl:=S.fl a aB;refine⟨_,rfl,.inl ⟨rfl,_,SqL.of hq3⟩,_,rfl,_,rfl,d,_,rfl,.inl ⟨Iy,Sum.inl a,.inl ag,rfl,vp.symm⟩,p,_,1,.ref l2,rfl,rfl,SqT.of hp3,rfl,q,l2,zs,ys2,rfl,rfl,hq3,hl3,lN 1e1,?_⟩;have kp4:Kp Hs (upd H2 d (.dK Iy)) (upd (upd H2 d (.dK Iy)) q (.lst (zs++ys2))):=Kp.set hqs hq3 (by intro us z;cases z);have tp:bI H1 (upd (upd H2 d (.dK Iy)) q (.lst (zs++ys2))):=λt us y=>kp4.2 _ _ (kp3.2 _ _ (s4 _ _ y));refine⟨_,rfl,_,_,rfl,rfl,1000-(dn+1),by omega,some (adV (.ad a)),Iy,th++[a],dn+1,zs++ys2,rfl,rfl,pg.new hw ha,λb mb=>?_,λb u y=>?_,by rw[ah (aqe ndq)];exact ag,(dt2.keep kp3).keep kp4,ag,?_⟩
    ·rcases aqc.mp mb with mb|mb
     ·exact hB b mb
     ·rw[apU.mp mb];exact aB
    ·have nbd:b≠d:=ar y hd
     have nbq:b≠q:=ar y (by have:=hq;rw[ah (λz=>by rw[z]at hq;rw[ag]at hq;cases hq)]at this;exact this);rw[ah nbq,ah nbd];exact s4 _ _ (sx1 _ _ y)
    ·rw[O4]
     exact(rz1.keep tp).app (ry2.keep λt us y=>kp4.2 _ _ (kp3.2 _ _ y))
 ·refine iU (decide_eq_false 1e1) ⟨_,rfl,?_⟩
  exact k d kvs th Hx (pg.done 1e1) hB sx hd hdx (dt.low ss)
noncomputable def Yn(D:Ad):Sp:=λvs H Q _=>∃ m mx c xs ws,∃(a t:Int) (l:Addr) (ys:List V) (us:List Mw),vs=[.ref m,.int a,.int t,.ref l]/\Mm D H m mx c xs ws/\H l=some 5e0/\MR H ys us/\l≠c/\0<=a/\a+us.length<ws.length/\∀ xs' H',But c H H'->Mm D H' m mx c xs' (layW ws a.toNat t us)->Q .non H'
noncomputable abbrev aeQ:List Str:=["memory","a","t","values","k","value"]
theorem Ut:aw aeQ ["memory","a","t","values"] (aq Y2):=fsc
theorem ab0(F:Fun K "lay" "lay" Y2 D.G6 D.Sy)(T:Txt K mg D)
  (jh:9e7 3 D.dC D.jc ["memory","a","fields"] (O1 D))
  (eM:9e7 4 D.fO D.jH ["self","a","word"] (Kn D)):9e7 6 D.G6 D.Sy ["memory","a","t","values"] (Yn D):=by
 refine F.oa Ut F.b4 λcdv A' outer s' H vs Q E hr h=>?_;obtain⟨m,mx,c,xs,ws,a,t,l,ys,us,rfl,M,hl,ru,nlc,a0,al,k⟩:=h;refine⟨_,(PSs.nox (aj (aG (jh.c hr T.xw T.mW bq (aa (pv 0) (aa (pv 1) (aa (cc bh rfl T.lM PyProof.Rows.Boot.«len» 6e5) ak)))))
  (aj (aG (eM.m hr (pv 0) T.bE T.lj bq (aa (pv 1) (aa (cg (aa aP (aa (pv 2) (aa (cc bh rfl T.lM PyProof.Rows.Boot.«len» 6e5) ak)))) ak))))
  (ai (gq aqg rfl (zF rfl T.jC 6e5) (DZ rfl (iQ (bA (i:=4) Ut.nd rfl 1e9) (iQ (bA (i:=5) Ut.nd rfl 1e9) wx)))
   (ai (aG (eM.m hr (pv 0) T.bE T.lj bq (aa (cM iO (cM iO (pv 1) av) (pv 4)) (aa (pv 5) ak)))))))))),?_⟩
 have z:=M.z;have eu:=ru.1;refine⟨_,rfl,_,rfl,_,rfl,l,ys,rfl,.inl (SqL.of hl),m,mx,c,xs,ws,a,ys.length,rfl,M,Sm.of 1e1 1e1,Sm.of 1e1 1e1,?_⟩;rw[if_pos ⟨a0,by omega⟩];refine⟨_,rfl,m,_,_,rfl,M.i,1e4,_,rfl,_,rfl,_,rfl,l,ys,rfl,.inl (SqL.of hl),by show 3<=sizeLine;decide,λp hp=>?_⟩;have s1:=az.upd (o:=.tup [V.str "head",V.int t,V.int ys.length]) hp;refine⟨m,mx,c,xs,ws,a,.ref p,.hd t us.length,rfl,M.same s1,Sm.of 1e1 1e1,.inr ⟨1e0,p,rfl,by rw[ag,eu];rfl⟩,?_⟩;rw[if_pos ⟨a0,by omega⟩];intro M2;have b2:But c H (upd (upd H p (.tup [V.str "head",V.int t,V.int ys.length])) c (.lst (xs.set a.toNat 4e7))):=(But.same s1).trans But.self;refine⟨_,rfl,l,rfl,⟨_,SqL.of (b2 l _ nlc hl)⟩,uJ (K:=K) (a:=l) (xs:=ys) (λi σ Hx=>∃ v4 v5 xs',σ=[some (.ref m),some (.int a),some (.int t),some (.ref l),v4,v5]/\But c H Hx/\Mm D Hx m mx c xs' (vE (ws.set a.toNat (.hd t us.length)) (a.toNat+1) (us.take i)))
  ⟨none,none,_,rfl,b2,M2⟩ (λi σ Hx _ ⟨_,_,_,_,b,_⟩=>SqL.of (b l _ nlc hl)) ?_ ?_⟩
 ·rintro i v σ Hx tp hi ⟨v4,v5,xs',rfl,bx,Mx⟩ htp
  have s3:=az.upd (o:=.tup [.int (i:Int),v]) htp;refine⟨tp,_,rfl,SqT.of ag,rfl,_,_,rfl,_,_,rfl,rfl,?_⟩;have hil:i<us.length:=by rw[<-eu];exact(apS.mp hi).1
  have hu':us[i]?=some us[i]:=apT hil;have ll:(vE (ws.set a.toNat (.hd t us.length)) (a.toNat+1) (us.take i)).length=ws.length:=by rw[Gq,aqp]
  have M3:=Mx.same s3;have tv:bI H (upd Hx tp (.tup [.int (i:Int),v])):=λb us q=>s3 _ _ (bx b _ (ay q M.l 1e0) q);refine⟨_,rfl,m,_,_,rfl,M3.i,1e4,_,rfl,a,1,rfl,rfl,_,rfl,_,_,rfl,rfl,_,rfl,m,mx,c,xs',_,a+1+(i:Int),v,us[i],rfl,M3,Sm.of 1e1 1e1,(ru.2 i v _ hi hu').keep tv,?_⟩;rw[ll,if_pos ⟨by omega,by omega⟩];intro M4;refine⟨_,_,xs'.set (a+1+(i:Int)).toNat v,rfl,(bx.trans (But.same s3)).trans But.self,?_⟩;rw[take_snoc hu',Km,ap6,show a.toNat+1+min i us.length=(a+1+(i:Int)).toNat by omega];exact M4
 ·rintro σ Hx ⟨v4,v5,xs',rfl,bx,Mx⟩
  rw[eu,apX (apV _)]at Mx;exact k xs' Hx bx Mx
noncomputable def aa2:Sp:=λvs H Q _=>∃(d:Addr) (ob:Obj) (kvs:List (Key×V)) (H0:Hp) (R:List Int) (f:Int->List Mw) (tt:Int->Int),vs=[.ref d]/\H d=some (.frz ob 3e0)/\Dth H0 H kvs R f tt/\R.length<=100/\(∀ a∈R,(f a).length<=6)/\∀ H',az H H'->Q (.int (tot f R)) H'
noncomputable abbrev zQ:List Str:=["things"]
theorem Ja:aw zQ ["things"] (aq oz):=fsc
theorem Jb(F:Fun K "words_among" "words_among" oz D.fA D.k6)(T:Txt K mg D):9e7 1 D.fA D.k6 ["things"] (aa2):=by
 refine F.oa Ja F.b1 λcdv A' outer s' H vs Q E hr h=>?_;obtain⟨d,ob,kvs,H0,R,f,tt,rfl,hd,dt,lR,lf,k⟩:=h;have hu:=jK hr;refine⟨_,(PSs.nox (ai (aI (cc (Gi rfl) rfl T.SV PyProof.Rows.Boot.«sum» (aa (kY (cl:=[("things",s'.heap.objs.size+1)]) (x := "a") (idx:=[0]) (NC:=["a","things"]) (by exact iC (sc:=aq oz) (N:=zQ) (ns:=["things"]) rfl rfl rfl 2e2 rfl rfl 5e7) rfl (lS (pv 0)) (λC fp s₀ H₀=>(cM iO (cc (MJ rfl) rfl T.lM PyProof.Rows.Boot.«len» (aa (a8 (r:=aaE K) aV (dq hu (pv 1) (pv 0) 1e6) av 1e6) ak)) av))) ak))))),?_⟩;have lk:=dt.k.len;have ek:=dt.k;unfold Kys at ek;refine⟨_,rfl,d,ob,kvs,rfl,hd,λL hL=>?_⟩;refine zq (d:=d) (o:=ob) (kvs:=kvs) (λi ys Hc=>ys=((R.take i).map λa=>((f a).length:Int)+1).map V.int/\az H Hc/\Hc L=some 5e0) ⟨rfl,az.upd hL,ag⟩ (λi ys Hc hi ⟨e,_,z⟩=>⟨z,by rw[e,apR,apR,ap6];omega⟩) (λi ys Hc _ ⟨_,sc,_⟩=>sc _ _ hd) (lN 1e1) (λi p ys Hc hp ⟨e,sc,z⟩=>?_) (λys Hc ⟨e,sc,z⟩=>?_)
 ·have hk:(kvs.map (·.1))[i]?=some p.1:=by rw[apZ,hp];rfl
  rw[ek,apZ]at hk;obtain⟨a,ha,ep⟩:=aqa.mp hk;have ma:=apW ha;obtain⟨q,l,zs,h1,h2,h3,h4,h5⟩:=dt.v a ma;rw[<-ep];refine⟨_,rfl,_,rfl,d,_,rfl,.inl ⟨kvs,Sum.inl a,.inr ⟨ob,sc _ _ hd⟩,rfl,h1.symm⟩,q,_,1,.ref l,rfl,rfl,SqT.of (sc _ _ h2),rfl,l,zs,rfl,.inl (SqL.of (sc _ _ h4)),_,_,rfl,rfl,z,?_,λb u y=>by rw[ah (ar y hL)];exact sc b u y,ag⟩;rw[e,dZ ha,ap3,ap3,h5.1];rfl
 ·refine⟨L,_,rfl,SqL.of (by rw[z,e]),?_⟩
  rw[lk,apX (apV _)];have es:∀ R:List Int,(R.map λa=>((f a).length:Int)+1).sum=(tot f R:Int):=λR=>by
   induction R with
   | nil=>rfl
   | cons a r ih=>rw[aqd,ard,ih];show _=(((f a).length+1+tot f r:Nat):Int);push_cast;omega
  rw[es];exact k _ sc
noncomputable def aa3:Sp:=λvs H Q _=>∃(fs:Int) (d:Addr) (ob:Obj) (kvs:List (Key×V)) (H0:Hp) (R:List Int) (f:Int->List Mw) (tt:Int->Int),vs=[.int fs,.ref d]/\H d=some (.frz ob 3e0)/\Dth H0 H kvs R f tt/\R.length<=100/\∀ p Iy H',az H H'->H p=none->H' p=some (.dK Iy)->Dg Iy R (plA f fs R)->Q 4e7 H'
noncomputable abbrev LA:List Str:=["first","things","places","place","a"]
theorem kB:aw LA ["first","things"] (aq sX):=fsc
theorem Jd(F:Fun K "places_from" "places_from" sX D.fB D.k8)(T:Txt K mg D):9e7 1 D.fB D.k8 ["first","things"] (aa3):=by
 refine F.oa kB F.b2 λcdv A' outer s' H vs Q E hr h=>?_;obtain⟨fs,d,ob,kvs,H0,R,f,tt,rfl,hd,dt,lR,k⟩:=h;have hu:=jK hr;refine⟨_,(PSs.nox (aj (aS (i:=2) kB.nd rfl 1e9 jx)
  (aj (aS (i:=3) kB.nd rfl 1e9 (pv 0))
  (aj (gq aqg rfl (lS (pv 1)) (bA (i:=4) kB.nd rfl 1e9)
   (aj (lQ hu (pv 2) (pv 4) (pv 3) rfl)
   (ai (T9 (i:=3) kB.nd rfl 1e9 (cM iO (cc bh rfl T.lM PyProof.Rows.Boot.«len» (aa (a8 aV (dq hu (pv 1) (pv 4) 1e6) av 1e6) ak)) av) Ua))))
  (ai (aI (pv 2))))))),?_⟩
 have lk:=dt.k.len;have ek:=dt.k;unfold Kys at ek;intro p hp;have s1:=az.upd (o:=.dK []) hp;refine⟨_,rfl,_,rfl,d,ob,kvs,rfl,s1 _ _ hd,rP (d:=d) (o:=ob) (kvs:=kvs) (λi σ Hx=>∃(v4:Option V) (kv2:List (Key×V)),σ=[some (.int fs),some (.ref d),some 4e7,some (.int (fs+tot f (R.take i))),v4]/\az H Hx/\Hx p=some (.dK kv2)/\Dg kv2 (R.take i) (plA f fs R)) ⟨none,[],(by rw[aqW];show _=[some (V.int fs),some (V.ref d),some (V.ref p),some (V.int (fs+0)),none];rw[Int.add_zero];rfl),s1,ag,Dg.nil⟩ (λi σ Hx _ ⟨_,_,_,sx,_⟩=>sx _ _ hd) ?_ ?_⟩
 ·rintro i pr σ Hx hpr ⟨v4,kv2,rfl,sx,zp,dg⟩
  have hk:(kvs.map (·.1))[i]?=some pr.1:=by rw[apZ,hpr];rfl
  rw[ek,apZ]at hk;obtain⟨a,ha,ep⟩:=aqa.mp hk;have ma:=apW ha;obtain⟨q,l,zs,h1,h2,h3,h4,h5⟩:=dt.v a ma;rw[<-ep];have na:=Kr dt.n ha;have pl:=uQ (f:=f) (p:=fs) dt.n ha;have lk2:=dg.k.len;refine⟨_,rfl,_,rfl,_,rfl,p,_,rfl,Em.k (k:=Sum.inl a) zp (by rw[lk2,ap6];exact oK 1e1),?_⟩;have npd:d≠p:=ar hd hp;have hd2:∀ o,upd Hx p o d=some (.frz ob 3e0):=λo=>by rw[ah npd];exact sx _ _ hd
  have up:∀ b u o,H b=some u->upd Hx p o b=some u:=λb u o y=>by rw[ah (ar y hp)];exact sx _ _ y
  refine⟨_,rfl,_,rfl,_,rfl,d,_,rfl,.inl ⟨kvs,Sum.inl a,.inr ⟨ob,hd2 _⟩,rfl,h1.symm⟩,q,_,1,.ref l,rfl,rfl,SqT.of (up _ _ _ h2),rfl,l,zs,rfl,.inl (SqL.of (up _ _ _ h4)),_,_,rfl,rfl,_,_,rfl,rfl,some (.int a),putK kv2 (Sum.inl a) (.int (fs+tot f (R.take i))),?_,λb u y=>up b u _ y,ag,?_⟩
  ·rw[dZ ha,yM,h5.1]
   show[_,_,_,some (V.int (fs+(tot f (R.take i):Int)+(((f a).length:Int)+1))),_]=_;rw[show fs+(tot f (R.take i):Int)+(((f a).length:Int)+1)=fs+((tot f (R.take i)+((f a).length+1):Nat):Int) by push_cast;omega];rfl
  ·rw[<-pl,dZ ha]
   refine⟨?_,?_,λu m=>?_⟩
   ·rw[pT _ (dg.k.non na)]
    have:=dg.k
    unfold Kys at this ⊢;rw[ap3,ap3,this];rfl
   ·rw[aqz]
    exact⟨dg.n,by simp,λx hx y hy=>by rw[apU.mp hy];exact λe=>na (by rw[<-e];exact hx)⟩
   ·by_cases e:u=a
    ·subst e;rw[rO,if_pos rfl]
    ·rw[rO,if_neg (λz=>e (Sum.inl.inj z))];exact dg.v u ((aqc.mp m).resolve_right λz=>e (apU.mp z))
 ·rintro σ Hx ⟨v4,kv2,rfl,sx,zp,dg⟩
  rw[lk,apX (apV _)]at dg;exact⟨_,rfl,k p kv2 Hx sx hp zp dg⟩
noncomputable def aa4:Sp:=λvs H Q _=>∃(v:V) (w:Mw) (d:Addr) (kvs:List (Key×V)) (R:List Int) (g:Int->Int),vs=[v,.ref d]/\MV H v w/\Okw w/\Rd H d 3e0/\Dg kvs R g/\(∀ a,w=.ad a->a∈R)/\∀ v' H',az H H'->MV H' v' (anew g w)->Q v' H'
noncomputable abbrev Qp:List Str:=["word","places","a"]
theorem DV:aw Qp ["word","places"] (aq xG):=fsc
theorem NS(F:Fun K "told_anew" "told_anew" xG D.iF D.pj)(T:Txt K mg D)
  (ji:9e7 2 D.dD D.jd ["word"] (Us)):9e7 3 D.iF D.pj ["word","places"] (aa4):=by
 refine F.oa DV F.b2 λcdv A' outer s' H vs Q E hr h=>?_;obtain⟨v,w,d,kvs,R,g,rfl,hv,ok,hd,dg,hR,k⟩:=h;have hu:=jK hr;refine⟨_,(PSs.nox (aj (aS (i:=2) DV.nd rfl 1e9 (ji.c hr T.xx T.mX bq 7e3))
  (ai (aI (rN (aK sT (pv 2) d7 (aW _)) (pv 0) (cg (aa aP (aa (dq hu (pv 1) (pv 2) 1e6) ak)))))))),?_⟩
 refine⟨_,rfl,v,w,rfl,hv,ok,λH1 s1=>⟨_,rfl,rfl,_,rfl,?_⟩⟩;have hd1:Rd H1 d 3e0:=by
  rcases hd with h|⟨o,h⟩
  ·exact .inl (s1 _ _ h)
  ·exact .inr ⟨o,s1 _ _ h⟩
 cases ea:w.adr with
 | none =>
  have ev:adV w=.non:=by unfold adV;rw[ea]
  have en:anew g w=w:=by
   cases w with
   | ad a=>cases ea
   | _=>rfl
  refine a9 (λ_=>⟨_,rfl,k v H1 s1 (by rw[en];exact hv.keep (bI.of s1))⟩) (λh=>absurd (by rw[ev];rfl) h)
 | some a =>
  have ev:adV w=.int a:=by unfold adV;rw[ea]
  obtain rfl:=RV ea;refine a9 (λh=>absurd h (by rw[ev];exact λz=>by cases z)) (λ_=>⟨_,rfl,_,rfl,d,.int (g a),rfl,.inl ⟨kvs,Sum.inl a,hd1,by rw[ev];rfl,(dg.v a (hR a rfl)).symm⟩,by show 2<=sizeLine;decide,λp hp=>?_⟩);exact k _ _ (s1.trans (az.upd hp)) (.inr ⟨1e0,p,rfl,ag⟩)
noncomputable def wy(c1 c2:Addr)(H H':Hp):Prop:=∀ b u,b≠c1->b≠c2->H b=some u->H' b=some u
theorem wy.same{c1 c2:Addr}{H H':Hp}(s:az H H'):wy c1 c2 H H':=λb u _ _ q=>s b u q
theorem wy.l{c1 c2:Addr}{H H':Hp}(s:But c1 H H'):wy c1 c2 H H':=λb u n _ q=>s b u n q
theorem wy.r{c1 c2:Addr}{H H':Hp}(s:But c2 H H'):wy c1 c2 H H':=λb u _ n q=>s b u n q
theorem wy.trans{c1 c2:Addr}{H H1 H2:Hp}(a:wy c1 c2 H H1)(b:wy c1 c2 H1 H2):wy c1 c2 H H2:=λc u n m q=>b c u n m (a c u n m q)
theorem wy.GA{c1 c2:Addr}{H H':Hp}{xs ys:List V}(s:wy c1 c2 H H')(h1:H c1=some (.lst xs))(h2:H c2=some (.lst ys)):bI H H':=λt us q=>s t _ (ay q h1 1e0) (ay q h2 1e0) q
theorem Mm.but{D:Ad}{H H':Hp}{m mx c c':Addr}{xs zs:List V}{ws:List Mw}(M:Mm D H m mx c xs ws)(b:But c' H H')(n:c≠c')(h:H c'=some (.lst zs)):Mm D H' m mx c xs ws :=
 ⟨b _ _ (ay M.i h 1e0) M.i,b _ _ n M.l,M.r.keep (λt us q=>b _ _ (ay q h 1e0) q),M.z⟩
noncomputable def Prs(H:Hp)(ps:List V)(R:List Int)(g:Int->Int):Prop:=ps.length=R.length/\∀(i:Nat) (u:V) (t:Int),ps[i]?=some u->R[i]?=some t->∃ q,u=.ref q/\H q=some (.tup [.int t,.int (g t)])
theorem Prs.keep{H H':Hp}{ps:List V}{ks:List Int}{g:Int->Int}(p:Prs H ps ks g)(s:bI H H'):Prs H' ps ks g:=⟨p.1,λi u t a b=>by obtain⟨q,e,h⟩:=p.2 i u t a b;exact⟨q,e,s _ _ h⟩⟩
theorem Prs.snoc{H:Hp}{ps:List V}{R:List Int}{g:Int->Int}{a:Int}{q:Addr}(p:Prs H ps R g)(h:H q=some (.tup [.int a,.int (g a)])):Prs H (ps++[.ref q]) (R++[a]) g:=by
 refine⟨by rw[ap4,ap4,p.1];rfl,λi u t h1 h2=>?_⟩;by_cases c:i<ps.length
 ·rw[aqw c]at h1
  rw[aqw (by rw[<-p.1];exact c)]at h2;exact p.2 i u t h1 h2
 ·have e:i=ps.length:=by have:=(apS.mp h1).1;rw[ap4,aqC]at this;omega
  subst e;rw[aqs (apV _),arJ]at h1;rw[p.1,aqs (apV _),arJ]at h2;cases h1;cases h2;exact⟨q,rfl,h⟩
noncomputable def aa5(D:Ad):Sp:=λvs H Q _=>∃ m mx c xs ws m2 mx2 c2 xs2 ws2,∃(fs:Int) (l:Addr) (ys:List V) (rs:List Mw) (f:Int->List Mw) (tt:Int->Int) (B:List Int),vs=[.ref m,.ref m2,.int fs,.ref l]/\Mm D H m mx c xs ws/\Mm D H m2 mx2 c2 xs2 ws2/\c≠c2/\l≠c/\l≠c2/\Gm ws/\H l=some 5e0/\MR H ys rs/\Src ws rs f tt B/\0<=fs/\(∀ R,Bfs rs f R->(∀ a∈R,a∈B)->fs+tot f R<=ws2.length)/\∀ R p l1 ys1 l2 ps xs' Ww H',Bfs rs f R->(∀ a∈R,a∈B)->wy c c2 H H'->Mm D H' m mx c xs' (Wv f (plA f fs R) ws R)->Mm D H' m2 mx2 c2 Ww (Ks f (plA f fs R) tt ws2 R)->H l1=none->H l2=none->H' p=some (.tup [.ref l1,.ref l2])->H' l1=some (.lst ys1)->MR H' ys1 (rs.map (anew (plA f fs R)))->H' l2=some (.lst ps)->Prs H' ps R (plA f fs R)->Q 4e7 H'
noncomputable abbrev Ed:List Str:=["source","target","first","roots","things","words","places","a","fields"]
theorem rq:aw Ed ["source","target","first","roots"] (aq uL):=fsc
theorem VU(F:Fun K "copied" "copied" uL D.nJ D.yv)(T:Txt K mg D)
  (vm:9e7 8 D.gr D.nj ["source","roots"] (Ym D))
  (tL:9e7 1 D.fA D.k6 ["things"] (aa2))
  (fJ:9e7 1 D.eD D.iP ["self"] (Eb D))
  (tM:9e7 1 D.fB D.k8 ["first","things"] (aa3))
  (Y9:9e7 6 D.G6 D.Sy ["memory","a","t","values"] (Yn D))
  (sQ:9e7 3 D.iF D.pj ["word","places"] (aa4))
  (eM:9e7 4 D.fO D.jH ["self","a","word"] (Kn D)):9e7 10 D.nJ D.yv ["source","target","first","roots"] (aa5 D):=by
 refine F.oa rq F.b4 λcdv A' outer s' H vs Q E hr h=>?_;obtain⟨m,mx,c,xs,ws,m2,mx2,c2,xs2,ws2,fs,l,ys,rs,f,tt,B,rfl,M,M2,ncc,nlc,apD,gm,hl,ry,S,fs0,room,k⟩:=h;have hu:=jK hr;refine⟨_,(PSs.nox (aj (aS (i:=4) rq.nd rfl 1e9 (uK (vm.c hr T.Nk T.u9 bq (aa (pv 0) 6e5))))
  (aj (aS (i:=5) rq.nd rfl 1e9 (tL.c hr T.La T.tE bq 5e4))
  (aj (bQ (PW.pt (pw_and (aK JT (pv 5) av (aW _)) (pw_and1 (aK JT (cM iO (pv 2) (pv 5)) (fJ.m0 hr (pv 1) T.bE T.qQ bq) (aW _)))))
   (ai Yl)
   aR)
  (aj (aS (i:=6) rq.nd rfl (Or.inr rfl) (uK (tM.c hr T.Lb T.tF bq (aa (pv 2) 5e4))))
  (aj (gq aqg rfl (lS (pv 4)) (bA (i:=7) rq.nd rfl 1e9)
   (aj (aS (i:=8) rq.nd rfl 1e9 (a8 aV (dq hu (pv 4) (pv 7) 1e6) av 1e6))
   (aj (aG (Y9.c hr T.aeA T.Y3 bq (aa (pv 1) (aa (dq hu (pv 6) (pv 7) 1e6) (aa (a8 aV (dq hu (pv 4) (pv 7) 1e6) av 1e6) (aa (kY (cl:=[("places",s'.heap.objs.size+1)]) (x := "word") (idx:=[6]) (NC:=["word","places"]) (by exact iC (sc:=aq uL) (N:=Ed) (ns:=["places"]) rfl rfl rfl 2e2 rfl rfl 5e7) rfl (fe (pv 8)) (λC fp s₀ H₀=>(sQ.c hr T.GI T.sN Bo (aa (pv 0) 2e4)))) ak))))))
   (ai (aG (eM.m hr (pv 0) T.bE T.lj bq (aa (pv 7) (aa (cg (aa aP (aa (dq hu (pv 6) (pv 7) 1e6) (aa (cc bh rfl T.lM PyProof.Rows.Boot.«len» (aa (pv 8) ak)) ak)))) ak))))))))
  (ai (aI (cg (aa (kY (cl:=[("places",s'.heap.objs.size+1)]) (x := "word") (idx:=[6]) (NC:=["word","places"]) (by exact iC (sc:=aq uL) (N:=Ed) (ns:=["places"]) rfl rfl rfl 2e2 rfl rfl 5e7) rfl (fe (pv 3)) (λC fp s₀ H₀=>(sQ.c hr T.GI T.sN Bo (aa (pv 0) 2e4)))) (aa (kY (cl:=[("places",s'.heap.objs.size+1)]) (x := "a") (idx:=[6]) (NC:=["a","places"]) (by exact iC (sc:=aq uL) (N:=Ed) (ns:=["places"]) rfl rfl rfl 2e2 rfl rfl 5e7) rfl (lS (pv 6)) (λC fp s₀ H₀=>(cg (aa (pv 0) (aa (dq hu (pv 1) (pv 0) 1e6) ak))))) ak))))))))))),?_⟩
 have z:=M.z;have z2:=M2.z;refine⟨_,rfl,_,rfl,m,mx,c,xs,ws,l,ys,rs,f,tt,B,rfl,M,gm,hl,ry,S,λd kvs R H1 bf hB s1 hd0 hd dt=>⟨d,kvs,hd,λob=>?_⟩⟩;have lR:R.length<=100:=aqk (Pj dt.n hB) S.bl;have fl:∀ a∈R,(f a).length<=6:=λa m=>S.fl a (hB a m);have rm:=room R bf hB;have lt:=aab fl;have dt:=dt.keep (Kp.frz (o:=.frz ob 3e0) hd);have s2:az H (upd H1 d (.frz ob 3e0)):=λb u q=>by rw[ah (ar q hd0)];exact s1 _ _ q
 have hd2:upd H1 d (.frz ob 3e0) d=some (.frz ob 3e0):=ag;generalize upd H1 d (.frz ob 3e0)=H2 at *;refine⟨_,rfl,d,ob,kvs,H,R,f,tt,rfl,hd2,dt,lR,fl,λH3 s3=>?_⟩;have M3:=M2.same (s2.trans s3);simp only[sL];refine Et λN hN=>?_;have kk:=k R;clear k;have tk0:(0:Int)<=tot f R:=Int.natCast_nonneg _;have nd:=dt.n;have pix:∀ {i:Nat} {a:Int},R[i]?=some a->plA f fs R a=fs+tot f (R.take i):=λh=>uQ nd h;obtain⟨g,eg⟩:∃ g,plA f fs R=g:=⟨_,rfl⟩;rw[eg]at kk pix;have wR:∀ w∈Wl rs f R,Okw w/\∀ a,w=.ad a->a∈R:=λw mw=>⟨(S.ok hB mw).1,λa e=>bf.mem (by rw[<-e];exact mw)⟩;suffices hq:N [some (.ref m),some (.ref m2),some (.int fs),some (.ref l),some (.ref d),some (.int (tot f R)),none,none,none] H3 by
  refine⟨_,rfl,_,0,rfl,rfl,_,rfl,?_⟩;by_cases h0:(0:Int)<tot f R
  ·refine jQ (decide_eq_true h0) ⟨_,rfl,_,rfl,_,_,rfl,rfl,_,rfl,m2,_,_,rfl,M3.i,1e4,m2,mx2,c2,xs2,ws2,rfl,M3,_,_,rfl,rfl,_,rfl,iU (decide_eq_false 1e1) hq⟩
  ·exact iU (decide_eq_false h0) hq
 refine hN _ _ ?_;refine⟨_,rfl,_,rfl,fs,d,ob,kvs,H,R,f,tt,rfl,s3 _ _ hd2,dt.keep (Kp.of s3),lR,λp kvp H4 s4 hp0 hp dg=>⟨p,kvp,hp,λop=>?_⟩⟩;rw[eg]at dg;have s5:az H3 (upd H4 p (.frz op (.dK kvp))):=λb u q=>by rw[ah (ar q hp0)];exact s4 _ _ q
 have hp5:upd H4 p (.frz op (.dK kvp)) p=some (.frz op (.dK kvp)):=ag;generalize upd H4 p (.frz op (.dK kvp))=H5 at *;have sA:az H H5:=(s2.trans s3).trans s5;have dt5:=dt.keep (Kp.of (H0:=H) (s3.trans s5));have hd5:=s5 _ _ (s3 _ _ hd2);have ek:=dt.k;unfold Kys at ek;have lk:=dt.k.len;have M5:=M.same sA;have M25:=M2.same sA;have kpt:∀ {b:Addr} {u:HO} {Hx:Hp},wy c c2 H5 Hx->(∀ xs,u≠.lst xs)->H5 b=some u->Hx b=some u:=λ{b u Hx} bx n q=>bx b u (λz=>by rw[z,M5.l]at q;exact n _ (aqh q).symm) (λz=>by rw[z,M25.l]at q;exact n _ (aqh q).symm) q;have tpx:∀ {Hx:Hp},wy c c2 H5 Hx->bI H5 Hx:=λbx=>bx.GA M5.l M25.l;refine⟨_,rfl,d,ob,kvs,rfl,hd5,rP (d:=d) (o:=ob) (kvs:=kvs) (λi σ Hx=>∃(v7 v8:Option V) (xs' Ww:List V),σ=[some (.ref m),some (.ref m2),some (.int fs),some (.ref l),some (.ref d),some (.int (tot f R)),some 4e7,v7,v8]/\wy c c2 H5 Hx/\Mm D Hx m mx c xs' (Wv f g ws (R.take i))/\Mm D Hx m2 mx2 c2 Ww (Ks f g tt ws2 (R.take i))) ⟨none,none,xs,xs2,rfl,wy.same (az.refl _),M5,M25⟩ (λi σ Hx _ ⟨_,_,_,_,_,bx,_⟩=>kpt bx (by intro xs z;cases z) hd5) ?_ ?_⟩
 ·rintro i pr σ Hx hpr ⟨v7,v8,xs',Ww,rfl,bx,Mx,M2x⟩
  have hk:(kvs.map (·.1))[i]?=some pr.1:=by rw[apZ,hpr];rfl
  rw[ek,apZ]at hk;obtain⟨a,ha,ep⟩:=aqa.mp hk;have ma:=apW ha;obtain⟨q,lf,zs,h1,h2,h3,h4,h5⟩:=dt5.v a ma;rw[<-ep];have pl:=pix ha;have tt1:=yN (f:=f) ha;have fla:=fl a ma;obtain⟨tg,_⟩:=S.th a (hB a ma);obtain⟨a0,hwa,al⟩:=KR tg;have nf1:lf≠c:=λz=>by rw[z,M.l]at h3;cases h3
  have nf2:lf≠c2:=λz=>by rw[z,M2.l]at h3;cases h3
  have hdx:=kpt bx (by intro xs z;cases z) hd5;have hpx:=kpt bx (by intro xs z;cases z) hp5;have h2x:=tpx bx _ _ h2;have h4x:=bx _ _ nf1 nf2 h4;have h5x:=h5.keep (tpx bx);have e5:=h5.1;refine⟨_,rfl,_,rfl,d,_,rfl,.inl ⟨kvs,Sum.inl a,.inr ⟨ob,hdx⟩,rfl,h1.symm⟩,q,_,1,.ref lf,rfl,rfl,SqT.of h2x,rfl,?_⟩;refine⟨_,rfl,_,rfl,_,rfl,p,_,rfl,.inl ⟨kvp,Sum.inl a,.inr ⟨op,hpx⟩,rfl,(dg.v a ma).symm⟩,_,rfl,_,rfl,d,_,rfl,.inl ⟨kvs,Sum.inl a,.inr ⟨ob,hdx⟩,rfl,h1.symm⟩,q,_,0,.int (tt a),rfl,rfl,SqT.of h2x,rfl,_,rfl,lf,rfl,⟨_,SqL.of h4x⟩,λL hL=>?_⟩;refine jn (K:=K) (a:=lf) (xs:=zs) (λj ys Hc=>az Hx Hc/\Hc L=some 5e0/\MR Hc ys (((f a).take j).map (anew g))) ⟨az.upd hL,ag,rfl,(λj v w h=>by cases h)⟩ (λj ys Hc hj ⟨_,y,r⟩=>⟨y,by rw[r.1,apR,ap6];omega⟩) (λj ys Hc _ ⟨sc,_⟩=>SqL.of (sc _ _ h4x)) (lN 1e1) (λj v ys Hc hj ⟨sc,y,r⟩=>?_) (λys Hc ⟨sc,y,r⟩=>?_)
  ·have hjl:j<(f a).length:=by rw[<-e5];exact(apS.mp hj).1
   have hw:(f a)[j]?=some (f a)[j]:=apT hjl;obtain⟨w,ew⟩:∃ w,(f a)[j]=w:=⟨_,rfl⟩;rw[ew]at hw;have mw:w∈Wl rs f R:=ap1 _ (arj.mpr ⟨a,ma,apW hw⟩);refine⟨_,rfl,_,rfl,v,w,p,kvp,R,g,rfl,(h5x.2 j v w hj hw).keep (bI.of sc),(wR w mw).1,.inr ⟨op,sc _ _ hpx⟩,dg,(wR w mw).2,λv' H' s' mv'=>⟨s' _ _ y,λb u z=>by rw[ah (ar z hL)];exact s' _ _ (sc b u z),ag,?_⟩⟩;have tu:bI H' (upd H' L (.lst (ys++[v']))):=λb us z=>by rw[ah (ay z (s' _ _ y) 1e0)];exact z
   rw[dZ hw,ap3];exact((r.keep (bI.of s')).snoc mv').keep tu
  ·rw[e5,apX (apV _)]at r
   have M2c:=M2x.same sc;have apE:L≠c2:=aqe (ar M2x.l hL);have nLc:L≠c:=aqe (ar Mx.l hL);refine⟨m2,mx2,c2,Ww,_,g a,tt a,L,ys,_,rfl,M2c,y,r,apE,by omega,by rw[KY,apR];omega,λxs3 H6 b6 M26=>?_⟩;have Mc:=(Mx.same sc).but b6 ncc M2c.l;have hp6:=b6 _ _ (ay (sc _ _ hpx) M2c.l 1e0) (sc _ _ hpx);have h46:=b6 _ _ nf2 (sc _ _ h4x);refine⟨_,rfl,m,_,_,rfl,Mc.i,1e4,_,rfl,_,rfl,_,rfl,p,_,rfl,.inl ⟨kvp,Sum.inl a,.inr ⟨op,hp6⟩,rfl,(dg.v a ma).symm⟩,_,rfl,lf,_,rfl,.inl (SqL.of h46),by show 3<=sizeLine;decide,λt7 ht7=>?_⟩;have s7:=az.upd (o:=.tup [V.str "moved",V.int (g a),V.int zs.length]) ht7;have M7:=Mc.same s7;refine⟨m,mx,c,xs',_,a,.ref t7,.mv (g a) (f a).length,rfl,M7,Sm.of 1e1 1e1,.inr ⟨1e0,t7,rfl,by rw[ag,e5];rfl⟩,?_⟩;rw[XA,if_pos ⟨a0,by omega⟩];intro M8;have bz:But c (upd H6 t7 (.tup [V.str "moved",V.int (g a),V.int zs.length])) _:=But.self (o:=.lst (xs'.set a.toNat (.ref t7)));refine⟨some (.int a),some (.ref lf),xs'.set a.toNat (.ref t7),xs3,rfl,((bx.trans (wy.same sc)).trans (wy.r b6)).trans ((wy.same s7).trans (wy.l bz)),?_,?_⟩
   ·rw[dZ ha,VT]
    exact M8
   ·rw[dZ ha,MY]
    exact(M26.same s7).but bz (aqe ncc) M7.l
 ·rintro σ Hx ⟨v7,v8,xs',Ww,rfl,bx,Mx,M2x⟩
  rw[lk,apX (apV _)]at Mx M2x;have hpx:=kpt bx (by intro xs z;cases z) hp5;have hlx:=bx _ _ nlc apD (sA _ _ hl);have ryx:=(ry.keep (bI.of sA)).keep (tpx bx);have er:=ry.1;have rl:=S.rl;refine⟨_,rfl,l,rfl,⟨_,SqL.of hlx⟩,λL1 hL1=>?_⟩;refine jn (K:=K) (a:=l) (xs:=ys) (λj zs Hc=>az Hx Hc/\Hc L1=some (.lst zs)/\MR Hc zs ((rs.take j).map (anew g))) ⟨az.upd hL1,ag,rfl,(λj v w h=>by cases h)⟩ (λj zs Hc hj ⟨_,y,r⟩=>⟨y,by rw[r.1,apR,ap6];omega⟩) (λj zs Hc _ ⟨sc,_⟩=>SqL.of (sc _ _ hlx)) (lN 1e1) (λj v zs Hc hj ⟨sc,y,r⟩=>?_) (λzs Hc ⟨sc,y,r⟩=>?_)
  ·have hjl:j<rs.length:=by rw[<-er];exact(apS.mp hj).1
   have hw:rs[j]?=some rs[j]:=apT hjl;obtain⟨w,ew⟩:∃ w,rs[j]=w:=⟨_,rfl⟩;rw[ew]at hw;have mw:w∈Wl rs f R:=aqm _ (apW hw);refine⟨_,rfl,_,rfl,v,w,p,kvp,R,g,rfl,(ryx.2 j v w hj hw).keep (bI.of sc),(wR w mw).1,.inr ⟨op,sc _ _ hpx⟩,dg,(wR w mw).2,λv' H' s' mv'=>⟨s' _ _ y,λb u z=>by rw[ah (ar z hL1)];exact s' _ _ (sc b u z),ag,?_⟩⟩;have tu:bI H' (upd H' L1 (.lst (zs++[v']))):=λb us z=>by rw[ah (ay z (s' _ _ y) 1e0)];exact z
   rw[dZ hw,ap3];exact((r.keep (bI.of s')).snoc mv').keep tu
  ·rw[er,apX (apV _)]at r
   have lp:=dg.k.len;have eg2:=dg.k;unfold Kys at eg2;have hpc:=sc _ _ hpx;refine⟨_,rfl,p,op,kvp,rfl,hpc,λL2 hL2=>?_⟩;refine zq (d:=p) (o:=op) (kvs:=kvp) (λj ps Hd=>az Hc Hd/\Hd L2=some (.lst ps)/\Prs Hd ps (R.take j) g) ⟨az.upd hL2,ag,rfl,(λj v w h=>by cases h)⟩ (λj ps Hd hj ⟨_,y,r⟩=>⟨y,by rw[r.1,ap6];omega⟩) (λj ps Hd _ ⟨sd,_⟩=>sd _ _ hpc) (lN 1e1) (λj pr ps Hd hj ⟨sd,y2,r2⟩=>?_) (λps Hd ⟨sd,y2,r2⟩=>?_)
   ·have hk:(kvp.map (·.1))[j]?=some pr.1:=by rw[apZ,hj];rfl
    rw[eg2,apZ]at hk;obtain⟨a,ha,ep⟩:=aqa.mp hk;have ma:=apW ha;rw[<-ep];refine⟨_,rfl,_,rfl,_,rfl,p,_,rfl,.inl ⟨kvp,Sum.inl a,.inr ⟨op,sd _ _ hpc⟩,rfl,(dg.v a ma).symm⟩,by show 2<=sizeLine;decide,λt9 h9=>?_⟩;have s9:=az.upd (o:=.tup [V.int a,V.int (g a)]) h9;have z9:=s9 _ _ y2;refine⟨z9,λb u z=>by rw[ah (ar z hL2)];exact s9 _ _ (sd b u z),ag,?_⟩;rw[dZ ha];exact((r2.keep (bI.of s9)).snoc ag).keep λb us z=>by rw[ah (ay z z9 1e0)];exact z
   ·rw[lp,apX (apV _)]at r2
    refine⟨by show 2<=sizeLine;decide,λpp hpp=>?_⟩;have s10:=az.upd (o:=.tup [V.ref L1,V.ref L2]) hpp;have sF:=(sc.trans sd).trans s10;have n1:H L1=none:=by
     cases e:H L1 with
     | none=>rfl
     | some u =>
      exfalso;by_cases c1:L1=c
      ·rw[c1,Mx.l]at hL1;cases hL1
      ·by_cases c2':L1=c2
       ·rw[c2',M2x.l]at hL1;cases hL1
       ·rw[bx _ _ c1 c2' (sA _ _ e)]at hL1;cases hL1
    have n2:H L2=none:=by
     cases e:H L2 with
     | none=>rfl
     | some u =>
      exfalso;have Yo:=az.none sc hL2;by_cases c1:L2=c
      ·rw[c1,Mx.l]at Yo;cases Yo
      ·by_cases c2':L2=c2
       ·rw[c2',M2x.l]at Yo;cases Yo
       ·rw[bx _ _ c1 c2' (sA _ _ e)]at Yo;cases Yo
    exact kk pp L1 zs L2 ps xs' Ww _ bf hB (((wy.same sA).trans bx).trans (wy.same sF)) (Mx.same sF) (M2x.same sF) n1 n2 ag ((sd.trans s10) _ _ y) (r.keep (bI.of (sd.trans s10))) (s10 _ _ y2) (r2.keep (bI.of s10))
noncomputable def wdM(g:Int->Int):Wd->Mw
 | .no=>.no
 | .num n=>.num n
 | .th t=>.ad (g t)
noncomputable def Uu:Sp:=λvs H Q _=>∃(v:V) (wd:Wd) (d:Addr) (kvs:List (Key×V)) (ts:List Int) (g:Int->Int),vs=[v,.ref d]/\WV H v wd/\H d=some 3e0/\Dg kvs ts g/\(∀ t,wd=.th t->t∈ts)/\∀ y H',az H H'->MV H' y (wdM g wd)->Q y H'
noncomputable abbrev Je:List Str:=["value","at"]
theorem HG:aw Je ["value","at"] (aq qP):=fsc
theorem HH(F:Fun K "_law_word_of" "_law_word_of" qP D.dE D.je)(T:Txt K mg D):9e7 1 D.dE D.je ["value","at"] (Uu):=by
 refine F.oa HG F.b2 λcdv A' outer s' H vs Q E hr h=>?_;obtain⟨v,wd,d,kvs,ts,g,rfl,hv,hd,dg,hts,k⟩:=h;have hu:=jK hr;refine⟨_,(PSs.nox (aj (bQ (PW.pt (pw_and (aK JU (pv 0) d7 (aW _)) (pw_and1 (aK rB 6e9 aP (aW _)))))
   (ai (aI (cg (aa aP (aa (dq hu (pv 1) 6e9 1e6) ak)))))
   aR)
  (ai (aI (pv 0))))),?_⟩
 cases wd with
 | no =>
  have hv:v=.non:=hv;subst hv;exact⟨_,rfl,rfl,_,rfl,iU rfl (xt ⟨_,rfl,k _ H (az.refl _) (.inl ⟨rfl,rfl⟩)⟩)⟩
 | num n =>
  obtain⟨t,rfl,ht⟩:=hv;exact⟨_,rfl,rfl,_,rfl,jQ rfl ⟨_,rfl,t,_,0,.str "number",rfl,rfl,SqT.of ht,rfl,rfl,_,rfl,iU 1e4 ⟨_,rfl,k _ H (az.refl _) (.inr ⟨1e0,t,rfl,ht⟩)⟩⟩⟩
 | th t =>
  obtain⟨q,rfl,hq⟩:=hv;refine⟨_,rfl,rfl,_,rfl,jQ rfl ⟨_,rfl,q,_,0,.str "thing",rfl,rfl,SqT.of hq,rfl,rfl,_,rfl,jQ 1e4 ?_⟩⟩;exact⟨_,rfl,_,rfl,q,_,1,.int t,rfl,rfl,SqT.of hq,rfl,d,.int (g t),rfl,.inl ⟨kvs,Sum.inl t,.inl hd,rfl,(dg.v t (hts t rfl)).symm⟩,by show 2<=sizeLine;decide,λr hr'=>k _ _ (az.upd hr') (.inr ⟨1e0,r,rfl,ag⟩)⟩
noncomputable def nmM(g:Int->Int):Option Int->Mw
 | none=>.no
 | some t=>.ad (g t)
noncomputable def U8(D:Ad):Sp:=λvs H Q _=>∃ x A s,∃(d:Addr) (kvs:List (Key×V)) (ts:List Int) (g:Int->Int),vs=[.ref x,.ref d]/\IH D H x A s/\Good s/\s.names.length<=100/\(H d=some 3e0\/∃ o,H d=some 6e0)/\Dg kvs ts g/\(∀ t,some t∈s.names->t∈ts)/\∀ p ys H',az H H'->H p=none->H' p=some 5e0->MR H' ys (s.names.map (nmM g))->Q 4e7 H'
noncomputable abbrev NT:List Str:=["heap","at","told","thing"]
theorem tN:aw NT ["heap","at"] (aq uZ):=fsc
theorem LB(F:Fun K "_law_names" "_law_names" uZ D.gz D.nB)(T:Txt K mg D)
  (f7:9e7 2 D.cA D.fV ["self"] (Gp D)):9e7 5 D.gz D.nB ["heap","at"] (U8 D):=by
 refine F.oa tN F.b2 λcdv A' outer s' H vs Q E hr h=>?_;obtain⟨x,A,s,d,kvs,ts,g,rfl,J,G,nl,hd,dg,hts,k⟩:=h;have hu:=jK hr;refine⟨_,(PSs.nox (aj (aS (i:=2) tN.nd rfl 1e9 (qa ak))
  (aj (gq aqg rfl (fe (f7.m0 hr (pv 0) T.ae T.qz bq)) (bA (i:=3) tN.nd rfl 1e9)
   (ai (bQ (aK sT (pv 3) d7 (aW _))
    (ai (aG (Mj PySem.F.plainAttrs_list PySem.F.slot_list_append PySem.F.type_list_append rh (pv 2) (aa d7 ak))))
    (ai (aG (Mj PySem.F.plainAttrs_list PySem.F.slot_list_append PySem.F.type_list_append rh (pv 2) (aa (cg (aa aP (aa (dq hu (pv 1) (pv 3) 1e6) ak))) ak)))))))
  (ai (aI (pv 2)))))),?_⟩
 refine⟨by show 0<=sizeLine;exact aqu _,λL hL=>?_⟩;have s1:=az.upd (o:=.lst []) hL;have J1:=J.same s1;refine⟨_,rfl,x,_,_,rfl,J1.ax,1e4,x,A,s,rfl,J1,G,λp1 H1 s2 hp1 z1=>?_⟩;have sA:=s1.trans s2;refine⟨p1,rfl,⟨_,SqL.of z1⟩,j5 (K:=K) (a:=p1) (xs:=s.names.map nmV) (λi σ Hx=>∃(v3:Option V) (ys:List V),σ=[some 7e5,some (.ref d),some (.ref L),v3]/\az H Hx/\Hx p1=some (.lst (s.names.map nmV))/\Hx L=some 5e0/\MR Hx ys ((s.names.take i).map (nmM g))) ⟨none,[],rfl,sA,z1,s2 _ _ ag,rfl,(λj v w h=>by cases h)⟩ (λi σ Hx _ ⟨_,_,_,_,y,_⟩=>SqL.of y) ?_ ?_⟩
 ·rintro i v σ Hx hi ⟨v3,ys,rfl,sx,zp,zl,r⟩
  rw[apZ]at hi;obtain⟨n,hn,rfl⟩:=aqa.mp hi;have nLp:L≠p1:=λe=>by rw[e]at hL;rw[e]at hp1;rw[ag]at hp1;cases hp1
  have il:=(apS.mp hn).1;have ly:ys.length<=100:=by rw[r.1,apR,ap6];omega
  refine⟨_,rfl,rfl,_,rfl,?_⟩;cases n with
  | none =>
   refine jQ rfl ⟨_,rfl,.inl ⟨rfl,_,SqL.of zl⟩,L,_,_,rfl,rfl,zl,oK 1e1,?_⟩;refine⟨_,_,rfl,λb u y=>by rw[ah (ar y hL)];exact sx b u y,by rw[ah (aqe nLp)];exact zp,ag,?_⟩;rw[dZ hn,ap3];exact(r.snoc (w:=.no) (.inl ⟨rfl,rfl⟩)).keep (bI.set zl (by intro z y;cases y))
  | some t =>
   have mt:=hts t (apW hn);refine iU rfl ⟨_,rfl,.inl ⟨rfl,_,SqL.of zl⟩,_,rfl,_,rfl,d,.int (g t),rfl,.inl ⟨kvs,Sum.inl t,hd.imp (λh=>sx _ _ h) (λ⟨o,h⟩=>⟨o,sx _ _ h⟩),rfl,(dg.v t mt).symm⟩,by show 2<=sizeLine;decide,λq hq=>?_⟩;have sq:=az.upd (o:=.tup [V.str "at",V.int (g t)]) hq;refine⟨L,_,_,rfl,rfl,sq _ _ zl,oK 1e1,?_⟩;refine⟨_,_,rfl,λb u y=>by rw[ah (ar y hL)];exact sq _ _ (sx b u y),by rw[ah (aqe nLp)];exact sq _ _ zp,ag,?_⟩;rw[dZ hn,ap3];exact((r.keep (bI.of sq)).snoc (w:=.ad (g t)) (.inr ⟨1e0,q,rfl,ag⟩)).keep (bI.set (sq _ _ zl) (by intro z y;cases y))
 ·rintro σ Hx ⟨v3,ys,rfl,sx,zp,zl,r⟩
  rw[apR,apX (apV _)]at r;exact⟨_,rfl,k L ys Hx sx hL zl r⟩
noncomputable def Wby(pl:List Int)(w:Mw):Prop:=w=.no\/(∃ z,w=.num z)\/∃ a∈pl,w=.ad a
noncomputable abbrev Tg:=Int×Int×List Mw
structure Bt(ts:List Tg)(rs:List Mw)(sz:Int):Prop where
 n:ts.length<=100
 rl:rs.length<=9
 fl:∀ x∈ts,x.2.2.length<=6
 lo:∀ x∈ts,0<=x.2.1
 hi:∀ x∈ts,x.2.1+x.2.2.length<sz
 ap:∀(i j:Nat) (x y:Tg),i≠j->ts[i]?=some x->ts[j]?=some y->x.2.1+x.2.2.length<y.2.1\/y.2.1+y.2.2.length<x.2.1
 rw:∀ w∈rs,Wby (ts.map (·.2.1)) w
 fw:∀ x∈ts,∀ w∈x.2.2,Wby (ts.map (·.2.1)) w
 z0:0<=sz
 z1:sz<=1000
noncomputable def GK:List Mw->List Tg->List Mw
 | ws,[]=>ws
 | ws,x::r=>GK (layW ws x.2.1.toNat x.1 x.2.2) r
theorem MZ(ws:List Mw)(ts:List Tg)(x:Tg):GK ws (ts++[x])=layW (GK ws ts) x.2.1.toNat x.1 x.2.2:=by
 induction ts generalizing ws with
 | nil=>rfl
 | cons y r ih=>exact ih _
theorem Ee(ws:List Mw)(ts:List Tg):(GK ws ts).length=ws.length:=by
 induction ts generalizing ws with
 | nil=>rfl
 | cons y r ih=>show(GK _ r).length=_;rw[ih,RU]
theorem Kt{ws:List Mw}{a:Nat}{t:Int}{us:List Mw}(h:a+us.length<ws.length)(j:Nat):(layW ws a t us)[j]?=if j=a then some (.hd t us.length) else if a<j/\j<=a+us.length then us[j-(a+1)]? else ws[j]?:=by
 unfold layW;rw[Xu _ _ _ _ (by rw[aqp];omega)];by_cases c:j=a
 ·subst c
  rw[if_neg 1e1,if_pos rfl,aq7 1e1]
 ·rw[if_neg c]
  by_cases d:a<j/\j<=a+us.length
  ·rw[if_pos 1e1,if_pos d]
  ·rw[if_neg 1e1,if_neg d,aqN (aqe c)]
noncomputable def Lies(ws:List Mw)(a t:Int)(us:List Mw):Prop:=ws[a.toNat]?=some (.hd t us.length)/\∀(j:Nat) (w:Mw),us[j]?=some w->ws[a.toNat+1+j]?=some w
theorem Lies.new{ws:List Mw}{a t:Int}{us:List Mw}(h:a.toNat+us.length<ws.length):Lies (layW ws a.toNat t us) a t us:=by
 refine⟨by rw[Kt h,if_pos rfl],λj w hj=>?_⟩;have hl:=(apS.mp hj).1;rw[Kt h,if_neg 1e1,if_pos 1e1,show a.toNat+1+j-(a.toNat+1)=j by omega];exact hj
theorem Lies.other{ws:List Mw}{a t b s:Int}{us vs:List Mw}(h:Lies ws a t us)(hb:b.toNat+vs.length<ws.length)(a0:0<=a)(b0:0<=b)(ap:a+us.length<b\/b+vs.length<a):Lies (layW ws b.toNat s vs) a t us:=by
 refine⟨?_,λj w hj=>?_⟩
 ·rw[Kt hb,if_neg 1e1,if_neg 1e1]
  exact h.1
 ·have hl:=(apS.mp hj).1
  rw[Kt hb,if_neg 1e1,if_neg 1e1];exact h.2 j w hj
theorem Lies.thg{ws:List Mw}{a t:Int}{us:List Mw}(h:Lies ws a t us)(a0:0<=a)(hl:a+us.length<ws.length):thg ws a=some (t,(us.length:Int))/\Io ws a.toNat us.length=us:=by
 constructor
 ·unfold K44.thg
  rw[if_pos a0,h.1];exact if_pos hl
 ·apply List.ext_getElem?
  intro j;unfold Io;rw[art];by_cases c:j<us.length
  ·rw[if_pos c,ars,apT c,h.2 j _ (apT c)]
  ·rw[if_neg c,List.getElem?_eq_none 1e1]
theorem XB{ws us:List Mw}{i:Nat}{w:Mw}(h:w∈vE ws i us):w∈ws\/w∈us:=by
 induction us generalizing ws i with
 | nil=>exact .inl h
 | cons u r ih =>
  rcases ih h with h|h
  ·rcases List.mem_or_eq_of_mem_set h with h|h
   ·exact .inl h
   ·exact .inr (by rw[h];exact ap7)
  ·exact .inr (ap8 _ h)
theorem U9{ws us:List Mw}{a:Nat}{t:Int}{w:Mw}(h:w∈layW ws a t us):w∈ws\/w=.hd t us.length\/w∈us:=by
 rcases XB h with h|h
 ·rcases List.mem_or_eq_of_mem_set h with h|h
  ·exact .inl h
  ·exact .inr (.inl h)
 ·exact .inr (.inr h)
noncomputable def fOf(ts:List Tg)(a:Int):List Mw:=match ts.find? λx=>decide (x.2.1=a) with|some x=>x.2.2|none=>[]
noncomputable def tOf(ts:List Tg)(a:Int):Int:=match ts.find? λx=>decide (x.2.1=a) with|some x=>x.1|none=>0
section
variable{ts:List Tg}{rs:List Mw}{sz:Int}
theorem Bt.find(b:Bt ts rs sz){x:Tg}(m:x∈ts):ts.find? (λy=>decide (y.2.1=x.2.1))=some x:=by
 cases e:ts.find? (λy=>decide (y.2.1=x.2.1)) with
 | none=>exact absurd (List.find?_eq_none.mp e x m) 2e5
 | some y =>
  have h1:=of_decide_eq_true (List.find?_some (p:=λy:Tg=>decide (y.2.1=x.2.1)) e);obtain⟨i,hi⟩:=aqy (List.mem_of_find?_eq_some e);obtain⟨j,hj⟩:=aqy m;by_cases c:i=j
  ·subst c;rw[hi]at hj;exact hj
  ·rcases b.ap i j y x c hi hj with z|z<;>omega
theorem Bt.f(b:Bt ts rs sz){x:Tg}(m:x∈ts):fOf ts x.2.1=x.2.2:=by unfold fOf;rw[b.find m]
theorem Bt.t(b:Bt ts rs sz){x:Tg}(m:x∈ts):tOf ts x.2.1=x.1:=by unfold tOf;rw[b.find m]
theorem Bt.lies(b:Bt ts rs sz):∀ i,i<=ts.length->∀ x∈ts.take i,Lies (GK (List.replicate sz.toNat .no) (ts.take i)) x.2.1 x.1 x.2.2:=by
 intro i;induction i with
 | zero=>intro _ x m;cases m
 | succ i ih =>
  intro hi x m;have hy:ts[i]?=some (ts[i]' 1e1):=apT _;obtain⟨y,ey⟩:∃ y,ts[i]' 1e1=y:=⟨_,rfl⟩;rw[ey]at hy;have my:=apW hy;have y0:=b.lo y my;have y1:=b.hi y my;rw[dZ hy]at m ⊢;rw[MZ];have hb:y.2.1.toNat+y.2.2.length<(GK (List.replicate sz.toNat Mw.no) (ts.take i)).length:=by rw[Ee,aqn];omega
  rcases aqc.mp m with m|m
  ·obtain⟨j,hj⟩:=aqy m
   have jl:=(apS.mp hj).1;rw[ap6]at jl;rw[art,if_pos 1e1]at hj;exact(ih 1e1 x m).other hb (b.lo x (aqY m)) y0 (b.ap j i x y 1e1 hj hy)
  ·rw[apU.mp m]
   exact Lies.new hb
theorem RZ{w:Mw}{ws:List Mw}(h:w∈GK ws ts):w∈ws\/(∃ x∈ts,w=.hd x.1 x.2.2.length)\/∃ x∈ts,w∈x.2.2:=by
 induction ts generalizing ws with
 | nil=>exact .inl h
 | cons y r ih =>
  rcases ih h with h|⟨x,m,e⟩|⟨x,m,e⟩
  ·rcases U9 h with h|h|h
   ·exact .inl h
   ·exact .inr (.inl ⟨y,ap7,h⟩)
   ·exact .inr (.inr ⟨y,ap7,h⟩)
  ·exact .inr (.inl ⟨x,ap8 _ m,e⟩)
  ·exact .inr (.inr ⟨x,ap8 _ m,e⟩)
noncomputable abbrev alo(ts:List Tg)(sz:Int):List Mw:=GK (List.replicate sz.toNat .no) ts
theorem Pk(b:Bt ts rs sz){w:Mw}(h:Wby (ts.map (·.2.1)) w):Okw w/\∀ a,w=.ad a->a∈ts.map (·.2.1):=by
 rcases h with rfl|⟨z,rfl⟩|⟨a,m,rfl⟩
 ·exact⟨.inl rfl,λa e=>by cases e⟩
 ·exact⟨.inr (.inl ⟨z,rfl⟩),λa e=>by cases e⟩
 ·refine⟨.inr (.inr ⟨a,rfl,?_⟩),λc e=>by cases e;exact m⟩
  obtain⟨x,mx,rfl⟩:=aqf.mp m
  have:=b.lo x mx
  have:=b.hi x mx
  have:=b.z1
  exact Sm.of 1e1 1e1
theorem Bt.src(b:Bt ts rs sz):Src (alo ts sz) rs (fOf ts) (tOf ts) (ts.map (·.2.1)):=by
 have ex:∀ a∈ts.map (·.2.1),∃ x∈ts,x.2.1=a:=λa m=>by obtain⟨x,m,e⟩:=aqf.mp m;exact⟨x,m,e⟩
 have z0:=b.z0;refine⟨b.rl,λw m=>(Pk b (b.rw w m)).1,λa m=>(Pk b (b.rw _ m)).2 a rfl,by rw[apR];exact b.n,λa m=>?_,λa m=>?_,λa m w mw=>?_,λa m c mc=>?_⟩
 ·obtain⟨x,mx,rfl⟩:=ex a m
  have l:=b.lies ts.length (apV _);rw[apX (apV _)]at l;rw[b.f mx,b.t mx]
  have:=b.hi x mx
  exact(l x mx).thg (b.lo x mx) (by rw[Ee,aqn];omega)
 ·obtain⟨x,mx,rfl⟩:=ex a m
  rw[b.f mx];exact b.fl x mx
 ·obtain⟨x,mx,rfl⟩:=ex a m
  rw[b.f mx]at mw;exact(Pk b (b.fw x mx w mw)).1
 ·obtain⟨x,mx,rfl⟩:=ex a m
  rw[b.f mx]at mc;exact(Pk b (b.fw x mx _ mc)).2 c rfl
theorem Bt.gm(b:Bt ts rs sz):Gm (alo ts sz):=by
 refine⟨λt n m=>?_,λa n m=>?_⟩
 ·rcases RZ m with h|⟨x,mx,e⟩|⟨x,mx,h⟩
  ·exact absurd (aqq h) 1e0
  ·cases e
   have:=b.fl x mx
   omega
  ·rcases b.fw x mx _ h with e|⟨z,e⟩|⟨a,_,e⟩<;>cases e
 ·rcases RZ m with h|⟨x,mx,e⟩|⟨x,mx,h⟩
  ·exact absurd (aqq h) 1e0
  ·cases e
  ·rcases b.fw x mx _ h with e|⟨z,e⟩|⟨a,_,e⟩<;>cases e
end
noncomputable def fl0(s:HS)(t:Int):List Mw:=List.replicate (fld s t).length .no
theorem zR(s:HS)(t:Int):(fl0 s t).length=(fld s t).length:=aqn
noncomputable def tgs(s:HS)(g:Int->Int)(ts:List Int):List Tg:=ts.map λt=>(t,g t,(fld s t).map (wdM g))
theorem pe{s:HS}(G:Good s){t:Int}{ws:List Wd}(m:(t,ws)∈s.aJ):fld s t=ws:=by
 unfold fld;rw[mem_lookup (G.asc.imp λh=>Int.ne_of_lt h) m];rfl
theorem Dg.alp{kvs:List (Key×V)}{R:List Int}{g:Int->Int}{a:Int}(d:Dg kvs R g)(na:a∉R):Dg (putK kvs (Sum.inl a) (.int (g a))) (R++[a]) g:=by
 refine⟨?_,?_,λu m=>?_⟩
 ·rw[pT _ (d.k.non na)]
  have:=d.k
  unfold Kys at this ⊢;rw[ap3,ap3,this];rfl
 ·rw[aqz]
  exact⟨d.n,by simp,λx hx y hy=>by rw[apU.mp hy];exact λe=>na (by rw[<-e];exact hx)⟩
 ·by_cases e:u=a
  ·subst e;rw[rO,if_pos rfl]
  ·rw[rO,if_neg (λz=>e (Sum.inl.inj z))];exact d.v u ((aqc.mp m).resolve_right λz=>e (apU.mp z))
noncomputable def R0(D:Ad):Sp:=λvs H Q _=>∃ x A s m mx c xs,∃(H0:Hp),vs=[.ref x,.ref m]/\IH D H0 x A s/\Good s/\az H0 H/\H0 c=none/\Mm D H m mx c xs (List.replicate 400 .no)/\s.nxt<=90/\tot (fl0 s) 9e1<=400/\∀ d kvs xs' H',H d=none->But c H H'->az H0 H'->H' d=some 3e0->Dg kvs 9e1 (plA (fl0 s) 0 9e1)->Mm D H' m mx c xs' (GK (List.replicate 400 .no) (tgs s (plA (fl0 s) 0 9e1) 9e1))->Q (.ref d) H'
noncomputable abbrev Qq:List Str:=["heap","memory","at","behind","thing","fields","k","value"]
theorem gB:aw Qq ["heap","memory"] (aq xV):=fsc
theorem NU(F:Fun K "_law_laid" "_law_laid" xV D.iL D.pI)(T:Txt K mg D)
  (bt:9e7 1 D.bL D.dN ["self"] (vD D))
  (aF:9e7 4 D.aQ D.bw ["self","t"] (zP D))
  (eM:9e7 4 D.fO D.jH ["self","a","word"] (Kn D))
  (jj:9e7 1 D.dE D.je ["value","at"] (Uu)):9e7 6 D.iL D.pI ["heap","memory"] (R0 D):=by
 refine F.oa gB F.b2 λcdv A' outer s' H vs Q E hr h=>?_;obtain⟨x,A,s,m,mx,c,xs,H0,rfl,J,G,hs,hc0,M,nx,t4,k⟩:=h;have hu:=jK hr;refine⟨_,(PSs.nox (aj (aS (i:=2) gB.nd rfl 1e9 jx)
  (aj (aS (i:=3) gB.nd rfl 1e9 av)
  (aj (gq aqg rfl (fe (bt.m0 hr (pv 0) T.ae T.gn bq)) (bA (i:=4) gB.nd rfl 1e9)
   (aj (lQ hu (pv 2) (pv 4) (pv 3) rfl)
   (ai (aS (i:=3) gB.nd rfl 1e9 (cM iO (cM iO (pv 3) (cc bh rfl T.lM PyProof.Rows.Boot.«len» (aa (aF.m hr (pv 0) T.ae T.cR bq 5e4) ak))) av)))))
  (aj (gq aqg rfl (fe (bt.m0 hr (pv 0) T.ae T.gn bq)) (bA (i:=4) gB.nd rfl 1e9)
   (aj (aS (i:=5) gB.nd rfl 1e9 (aF.m hr (pv 0) T.ae T.cR bq 5e4))
   (aj (aG (eM.m hr (pv 1) T.bE T.lj bq (aa (dq hu (pv 2) (pv 4) 1e6) (aa (cg (aa aP (aa (pv 4) (aa (cc bh rfl T.lM PyProof.Rows.Boot.«len» (aa (pv 5) ak)) ak)))) ak))))
   (ai (gq aqg rfl (zF rfl T.jC (aa (pv 5) ak)) (DZ rfl (iQ (bA (i:=6) gB.nd rfl 1e9) (iQ (bA (i:=7) gB.nd rfl 1e9) wx)))
    (ai (aG (eM.m hr (pv 1) T.bE T.lj bq (aa (cM iO (cM iO (dq hu (pv 2) (pv 4) 1e6) av) (pv 6)) (aa (jj.c hr T.xA T.mZ bq (aa (pv 7) 3e9)) ak))))))))))
  (ai (aI (pv 2)))))))),?_⟩
 have lk:(keys s).length<=90:=by
  have:=G.sd
  unfold keys;rw[apR];omega
 have nd:=keys_nodup G;obtain⟨g,eg⟩:∃ g,plA (fl0 s) 0 9e1=g:=⟨_,rfl⟩;rw[eg]at k;intro d hd;have s1:=az.upd (o:=.dK []) hd;have J1:=J.same (hs.trans s1);refine⟨_,rfl,x,_,_,rfl,J1.ax,1e4,x,A,s,rfl,J1,G,λp1 H1 s2 hp1 z1=>?_⟩;refine⟨p1,rfl,⟨_,SqL.of z1⟩,j5 (K:=K) (a:=p1) (xs:=(keys s).map V.int) (λi σ Hx=>∃(v4:Option V) (kvs:List (Key×V)),σ=[some 7e5,some (.ref m),some (.ref d),some (.int (tot (fl0 s) 3e7)),v4,none,none,none]/\az H Hx/\Hx p1=some (.lst ((keys s).map V.int))/\Hx d=some 3e0/\Dg kvs 3e7 g) ⟨none,[],rfl,s1.trans s2,z1,s2 _ _ ag,Dg.nil⟩ (λi σ Hx _ ⟨_,_,_,_,y,_⟩=>SqL.of y) ?_ ?_⟩
 ·rintro i v σ Hx hi ⟨v4,kvs,rfl,sx,zp,zd,dg⟩
  rw[apZ]at hi;obtain⟨t,ht,rfl⟩:=aqa.mp hi;have mt:=apW ht;obtain⟨wd,mw⟩:=mem_keys.mp mt;obtain⟨t0,t1⟩:=G.lt t wd mw;have na:=Kr nd ht;have pl:=uQ (f:=fl0 s) (p:=0) nd ht;rw[eg]at pl;have lkv:=dg.k.len;rw[ap6]at lkv;refine⟨_,rfl,_,rfl,_,rfl,d,_,rfl,Em.k (k:=Sum.inl t) zd (by rw[lkv];exact oK 1e1),?_⟩;have sy:az H (upd Hx d (.dK (putK kvs 4e4 (.int (tot (fl0 s) 3e7))))):=λb u q=>by rw[ah (ar q hd)];exact sx b u q
  have zpy:upd Hx d (.dK (putK kvs 4e4 (.int (tot (fl0 s) 3e7)))) p1=some (.lst ((keys s).map V.int)):=by rw[ah (ay zp zd 1e0)];exact zp
  have zdy:upd Hx d (.dK (putK kvs 4e4 (.int (tot (fl0 s) 3e7)))) d=some (.dK (putK kvs 4e4 (.int (tot (fl0 s) 3e7)))):=ag;generalize upd Hx d (.dK (putK kvs 4e4 (.int (tot (fl0 s) 3e7))))=Hy at *;have Jy:=J.same (hs.trans sy);have R:=(Jy.afl t wd mw).2;refine⟨_,rfl,_,rfl,x,_,_,rfl,Jy.ax,1e4,_,rfl,x,A,s,t,rfl,Jy,G,Sm.of 1e1 1e1,(λ_ p H3 sp hp zp3=>?_),(λn=>absurd mt n)⟩;refine⟨p,_,rfl,.inl (SqL.of zp3),_,_,rfl,rfl,_,1,rfl,rfl,some (.int t),putK kvs 4e4 (.int (tot (fl0 s) 3e7)),?_,sy.trans sp,sp _ _ zpy,sp _ _ zdy,?_⟩
  ·rw[dZ ht,yM,zR,pe G mw,<-R.1]
   show[_,_,_,some (V.int ((tot (fl0 s) 3e7:Int)+((A.fx t).length:Int)+1)),_,_,_,_]=_;rw[show(tot (fl0 s) 3e7:Int)+((A.fx t).length:Int)+1=((tot (fl0 s) 3e7+((A.fx t).length+1):Nat):Int) by push_cast;omega]
  ·rw[arP]at pl
   rw[<-pl,dZ ht];exact dg.alp na
 ·rintro σ Hx ⟨v4,kvs,rfl,sx,zp,zd,dg⟩
  rw[apR,apX (apV _)]at dg;have Jx:=J.same (hs.trans sx);have Mx:=M.same sx;have ndc:d≠c:=λe=>by rw[e,M.l]at hd;cases hd
  refine⟨_,rfl,x,_,_,rfl,Jx.ax,1e4,x,A,s,rfl,Jx,G,λp2 H2 s3 hp2 z2=>?_⟩;have np2:p2≠c:=λe=>by rw[e,Mx.l]at hp2;cases hp2
  have lw:∀ i,(GK (List.replicate 400 Mw.no) (tgs s g 3e7)).length=400:=λi=>by rw[Ee,aqn]
  refine⟨p2,rfl,⟨_,SqL.of z2⟩,j5 (K:=K) (a:=p2) (xs:=(keys s).map V.int) (λi σ Hy=>∃(v4 v5 v6 v7:Option V) (v3:V) (xs:List V),σ=[some 7e5,some (.ref m),some (.ref d),some v3,v4,v5,v6,v7]/\But c H Hy/\Hy p2=some (.lst ((keys s).map V.int))/\Hy d=some 3e0/\Mm D Hy m mx c xs (GK (List.replicate 400 .no) (tgs s g 3e7))) ⟨_,none,none,none,_,xs,rfl,But.same (sx.trans s3),z2,s3 _ _ zd,Mx.same s3⟩ (λi σ Hy _ ⟨_,_,_,_,_,_,_,_,y,_⟩=>SqL.of y) ?_ ?_⟩
  ·rintro i v σ Hy hi ⟨v4,v5,v6,v7,v3,xs,rfl,b4,zp4,zd4,M4⟩
   rw[apZ]at hi;obtain⟨t,ht,rfl⟩:=aqa.mp hi;have mt:=apW ht;obtain⟨wd,mw⟩:=mem_keys.mp mt;obtain⟨t0,t1⟩:=G.lt t wd mw;have pl:=uQ (f:=fl0 s) (p:=0) nd ht;rw[eg,arP]at pl;have tt:=yN (f:=fl0 s) ht;have f6:=G.f6 t wd mw;have ef:=pe G mw;rw[zR,ef]at tt;have S4:az H0 Hy:=λb u q=>b4 _ _ (ar q hc0) (hs _ _ q);have J4:=J.same S4;refine⟨_,rfl,x,_,_,rfl,J4.ax,1e4,_,rfl,x,A,s,t,rfl,J4,G,Sm.of 1e1 1e1,(λ_ pf H5 s5 hpf zf=>?_),(λn=>absurd mt n)⟩;have R:=((J4.same s5).afl t wd mw).2;have e3:=R.1;have npf:pf≠c:=λe=>by rw[e,M4.l]at hpf;cases hpf
   have M5:=M4.same s5;have zd5:=s5 _ _ zd4;have hat:=dg.v t mt;refine⟨_,rfl,m,_,_,rfl,M5.i,1e4,_,rfl,_,rfl,d,_,rfl,.inl ⟨kvs,Sum.inl t,.inl zd5,rfl,hat.symm⟩,_,rfl,_,rfl,pf,_,rfl,.inl (SqL.of zf),by show 3<=sizeLine;decide,λq hq=>?_⟩;have s6:=az.upd (o:=.tup [V.str "head",V.int t,V.int (A.fx t).length]) hq;refine⟨m,mx,c,xs,_,g t,.ref q,.hd t (wd.map (wdM g)).length,rfl,M5.same s6,Sm.of 1e1 1e1,.inr ⟨1e0,q,rfl,by rw[ag,e3,<-apR (wdM g)];rfl⟩,?_⟩;rw[lw,if_pos ⟨by omega,by omega⟩];intro M6;obtain⟨H7,eH7⟩:∃ H7,upd (upd H5 q (.tup [V.str "head",V.int t,V.int (A.fx t).length])) c (.lst (xs.set (g t).toNat (.ref q)))=H7:=⟨_,rfl⟩;have k7:∀ b u,b≠c->Hy b=some u->H7 b=some u:=λb u n y=>by rw[<-eH7,ah n];exact s6 _ _ (s5 _ _ y)
   have zf7:H7 pf=some (.lst (A.fx t)):=(by rw[<-eH7,ah npf];exact s6 _ _ zf);have b7:But c H H7:=λb u n y=>k7 b u n (b4 b u n y);rw[eH7]at M6 ⊢;refine⟨_,rfl,pf,rfl,⟨_,SqL.of zf7⟩,uJ (K:=K) (a:=pf) (xs:=A.fx t) (λj σ Hz=>∃(v6 v7:Option V) (xs:List V),σ=[some 7e5,some (.ref m),some (.ref d),some v3,some (.int t),some (.ref pf),v6,v7]/\But c H Hz/\Hz pf=some (.lst (A.fx t))/\Hz p2=some (.lst ((keys s).map V.int))/\Hz d=some 3e0/\Mm D Hz m mx c xs (vE ((GK (List.replicate 400 .no) (tgs s g 3e7)).set (g t).toNat (.hd t (wd.map (wdM g)).length)) ((g t).toNat+1) ((wd.take j).map (wdM g)))) ⟨v6,v7,_,rfl,b7,zf7,k7 _ _ np2 zp4,k7 _ _ ndc zd4,M6⟩ (λj σ Hz _ ⟨_,_,_,_,_,y,_⟩=>SqL.of y) ?_ ?_⟩
   ·rintro j v σ Hz tp hj ⟨v6,v7,xs,rfl,b8,zf8,zp8,zd8,M8⟩ htp
    have s8:=az.upd (o:=.tup [.int (j:Int),v]) htp;refine⟨tp,_,rfl,SqT.of ag,rfl,_,_,rfl,_,_,rfl,rfl,?_⟩;have S8:az H0 Hz:=λb u q=>b8 _ _ (ar q hc0) (hs _ _ q);have R8:=((J.same (S8.trans s8)).afl t wd mw).2;have jl:j<wd.length:=(by rw[<-e3];exact(apS.mp hj).1);have hw:wd[j]?=some wd[j]:=apT jl;obtain⟨wv,ewv⟩:∃ wv,wd[j]=wv:=⟨_,rfl⟩;rw[ewv]at hw;have M9:=M8.same s8;have zd9:=s8 _ _ zd8;refine⟨_,rfl,m,_,_,rfl,M9.i,1e4,_,rfl,_,rfl,d,_,rfl,.inl ⟨kvs,Sum.inl t,.inl zd9,rfl,hat.symm⟩,_,1,rfl,rfl,_,rfl,_,_,rfl,rfl,_,rfl,_,rfl,v,wv,d,kvs,keys s,g,rfl,R8.2 j v wv hj hw,zd9,dg,(λu e=>mem_keys.mpr (G.ff t wd u mw (by rw[<-e];exact apW hw))),λy H10 s10 my=>?_⟩;have aac:=s8.trans s10;refine⟨m,mx,c,xs,_,g t+1+(j:Int),y,wdM g wv,rfl,M8.same aac,Sm.of 1e1 1e1,my,?_⟩;rw[Gq,aqp,lw,if_pos ⟨by omega,by omega⟩];intro M11;refine⟨_,_,xs.set (g t+1+(j:Int)).toNat y,rfl,(b8.trans (But.same aac)).trans But.self,by rw[ah npf];exact aac _ _ zf8,by rw[ah np2];exact aac _ _ zp8,by rw[ah ndc];exact aac _ _ zd8,?_⟩;rw[dZ hw,ap3,aqd,aq9,Km,show(g t).toNat+1+((wd.take j).map (wdM g)).length=(g t+1+(j:Int)).toNat by rw[apR,ap6];omega];exact M11
   ·rintro σ Hz ⟨v6,v7,xs,rfl,b8,zf8,zp8,zd8,M8⟩
    rw[e3,apX (apV _)]at M8;refine⟨_,_,_,_,v3,xs,rfl,b8,zp8,zd8,?_⟩;have et:tgs s g ((keys s).take i++[t])=tgs s g 3e7++[(t,g t,wd.map (wdM g))]:=(by unfold tgs;rw[ap3,aqd,aq9,ef]);rw[dZ ht,et,MZ];exact M8
  ·rintro σ Hy ⟨v4,v5,v6,v7,v3,xs,rfl,b4,zp4,zd4,M4⟩
   rw[apR,apX (apV _)]at M4;exact⟨_,rfl,k d kvs xs Hy hd b4 (λb u q=>b4 _ _ (ar q hc0) (hs _ _ q)) zd4 dg M4⟩
theorem K0(f:Int->List Mw)(R:List Int){i j:Nat}(h:i<=j):tot f (R.take i)<=tot f (R.take j):=by
 have e:R.take j=R.take i++(R.take j).drop i:=by
  conv=>lhs;rw[<-aqJ i (R.take j)]
  rw[List.take_take,Nat.min_eq_left h]
 rw[e,ET];omega
theorem XC{f:Int->List Mw}{tt:Int->Int}{fs:Int}{ws:List Mw}{R:List Int}(nd:R.Nodup)(f0:0<=fs)(hl:fs+tot f R<=ws.length):∀ i,i<=R.length->∀ a∈R.take i,Lies (Ks f (plA f fs R) tt ws (R.take i)) (plA f fs R a) (tt a) ((f a).map (anew (plA f fs R))):=by
 intro i;induction i with
 | zero=>intro _ a m;cases m
 | succ i ih =>
  intro hi a m;have hb:R[i]?=some (R[i]' 1e1):=apT _;obtain⟨b,eb⟩:∃ b,R[i]' 1e1=b:=⟨_,rfl⟩;rw[eb]at hb;have pb:=uQ (f:=f) (p:=fs) nd hb;have tb:=yN (f:=f) hb;rw[dZ hb]at m ⊢;rw[MY];have hz:(plA f fs R b).toNat+((f b).map (anew (plA f fs R))).length<(Ks f (plA f fs R) tt ws (R.take i)).length:=by rw[KY,apR];omega
  rcases aqc.mp m with m|m
  ·obtain⟨j,hj⟩:=aqy m
   have jl:=(apS.mp hj).1;rw[ap6]at jl;rw[art,if_pos 1e1]at hj;have pa:=uQ (f:=f) (p:=fs) nd hj;have t1:=K0 f R (show j+1<=i by omega);rw[dZ hj,yM]at t1;refine(ih 1e1 a m).other hz 1e1 1e1 (.inl ?_);rw[apR];omega
  ·rw[apU.mp m]
   exact Lies.new hz
section
variable{f:Int->List Mw}{tt g:Int->Int}{R:List Int}
theorem Va{ws:List Mw}{S:List Int}{w:Mw}(h:w∈Ks f g tt ws S):w∈ws\/(∃ a∈S,w=.hd (tt a) (f a).length)\/∃ a∈S,w∈(f a).map (anew g):=by
 induction S generalizing ws with
 | nil=>exact .inl h
 | cons y r ih =>
  rcases ih h with h|⟨x,m,e⟩|⟨x,m,e⟩
  ·rcases U9 h with h|h|h
   ·exact .inl h
   ·exact .inr (.inl ⟨y,ap7,by rw[h,apR]⟩)
   ·exact .inr (.inr ⟨y,ap7,h⟩)
  ·exact .inr (.inl ⟨x,ap8 _ m,e⟩)
  ·exact .inr (.inr ⟨x,ap8 _ m,e⟩)
end
noncomputable def hw(fs:List (Int×List Wd)):Nat:=(fs.map λp=>p.2.length+1).sum
theorem aad{s:HS}(G:Good s):held s=(hw s.aJ:Int):=by
 have e:∀(l:List (Int×List Wd)),(∀ p∈l,p∈s.aJ)->((l.map (·.1)).map λt=>((fld s t).length:Int)+1).sum=(((l.map λp=>p.2.length+1).sum:Nat):Int):=by
  intro l;induction l with
  | nil=>intro _;rfl
  | cons p r ih =>
   intro h;have e1:fld s p.1=p.2:=pe G (h p ap7);rw[aqd,aqd,ard,aqd,ard,ih λq m=>h q (ap8 _ m),e1];omega
 exact e _ λ_ m=>m
theorem Pl{l m:List (Int×List Wd)}(h:l.Sublist m):hw l<=hw m:=by
 unfold hw;induction h with
 | slnil=>exact apV _
 | cons a _ ih=>rw[aqd,ard];omega
 | cons_cons a _ ih=>rw[aqd,aqd,ard,ard];omega
theorem ab1(l m:List (Int×List Wd)):hw (l++m)=hw l+hw m:=by unfold hw;rw[ap3,List.sum_append]
theorem ab2{s:HS}(G:Good s){t:Int}{ws:List Wd}(e:ws.length=(fld s t).length):hw (ur s.aJ t ws)=hw s.aJ:=by
 unfold hw ur;rw[aqv];congr 1
 refine aqD λp m=>?_;show(if p.1=t then(t,ws) else p).2.length+1=p.2.length+1;by_cases c:p.1=t
 ·rw[if_pos c]
  show ws.length+1=_;rw[e,<-c,pe G (t:=p.1) (ws:=p.2) m]
 ·rw[if_neg c]
theorem R1{s:HS}{n:Option Int}:(rdR s n).aJ=s.aJ/\(rdR s n).limit=s.limit:=by
 unfold rdR;split
 ·split<;>exact⟨rfl,rfl⟩
 ·exact⟨rfl,rfl⟩
theorem Ef{s:HS}:hw (eZ s).aJ<=hw s.aJ:=Pl aqE
theorem aeR{s:HS}{n:Int}:hw (mkR s n).aJ<=hw s.aJ:=by
 unfold mkR;split
 ·exact Ef
 ·exact apV _
noncomputable def Lim(s:HS):Prop:=(hw s.aJ:Int)<=400/\s.limit=400
theorem aeS{s:HS}(d:Gd s){dd:Dd}(hL:Lim s):Lim (dDo s dd).2:=by
 cases dd with
 | make h n =>
  show Lim (oZ s h n).2;unfold oZ;have m:=aeR (s:=s) (n:=n);have l:=O0 (s:=s) (n:=n);have h1:=hL.1;have h2:=hL.2;split
  ·split
   ·split
    ·exact⟨by show(hw (mkR s n).aJ:Int)<=400;omega,l.trans h2⟩
    ·rename_i c
     refine⟨?_,l.trans h2⟩;show(hw ((mkR s n).aJ++[((mkR s n).nxt,List.replicate n.toNat .no)]):Int)<=400;have e:hw [((mkR s n).nxt,List.replicate n.toNat Wd.no)]=n.toNat+1:=(by unfold hw;simp);rw[ab1,e];rw[aad d.mkd.g]at c;omega
   ·exact hL
  ·exact hL
 | store g k h =>
  show Lim (jZ s g k h).2;unfold jZ;split
  ·split
   ·split
    ·refine⟨?_,hL.2⟩
     show(hw (ur s.aJ _ _):Int)<=400;rw[ab2 d.g (by rw[aqp])];exact hL.1
    ·exact hL
   ·exact hL
  ·exact hL
 | load h g k=>show Lim (oO s h g k).2;unfold oO;split<;>(try split)<;>(try split)<;>exact hL
 | copy h g=>show Lim (vC s h g).2;unfold vC;split<;>(try split)<;>exact hL
 | drop h=>show Lim (zw s h).2;unfold zw;split<;>exact hL
 | number h x=>show Lim (kG s h x).2;unfold kG;split<;>(try split)<;>exact hL
 | name w h=>show Lim (qq s w h).2;unfold qq;split<;>(try split)<;>exact hL
 | read h w =>
  show Lim (oW s h w).2;unfold oW;split
  ·split
   ·exact⟨by show(hw (rdR _ _).aJ:Int)<=400;rw[R1.1];exact hL.1,R1.2.trans hL.2⟩
   ·exact hL
  ·exact hL
 | word h x=>show Lim (oQ s h x).2;unfold oQ;split<;>(try split)<;>(try split)<;>exact hL
 | small=>exact⟨by show(hw (eZ s).aJ:Int)<=400;have:=Ef (s:=s);have:=hL.1;omega,hL.2⟩
 | turn =>
  show Lim (D9 s).2;unfold D9 Tf zO
  have:=Ef (s:=s)
  have:=hL.1
  have e:hw (Iw s).aJ<=hw s.aJ:=Pl aqE;split
  ·exact⟨by show(hw (Iw s).aJ:Int)<=400;omega,hL.2⟩
  ·exact⟨by show(hw (eZ s).aJ:Int)<=400;omega,hL.2⟩
theorem aae{s:HS}(d:Gd s):let e:=Iw (Lp (eZ s));∀ t∈keys e,Led e.aZ (fld e) (keys e) t:=by
 intro e t mt;have g1:=d.small.g;have ge:Good e:=(d.small.beg rfl).fin.g;have mk:∀ {t:Int},t∈keys e↔t∈keys (eZ s)/\Led (eZ s).aZ (fld (eZ s)) (keys (eZ s)) t:=by
  intro t;rw[mem_keys];constructor
  ·rintro⟨ws,m⟩
   have m:=jD.mp m;have mk:=mem_keys.mpr ⟨ws,m.1⟩;exact⟨mk,aqX λn=>m.2 (lX.mpr ⟨mk,n⟩)⟩
  ·rintro⟨m,l⟩
   obtain⟨ws,m⟩:=mem_keys.mp m;exact⟨ws,jD.mpr ⟨m,λz=>(lX.mp z).2 l⟩⟩
 have ef:∀ u∈keys e,fld e u=fld (eZ s) u:=λu mu=>by
  obtain⟨ws,m⟩:=mem_keys.mp mu;rw[pe ge m,pe g1 (jD.mp m).1]
 have l:=(mk.mp mt).2;clear mt;induction l with
 | root m c=>exact .root m (mk.mpr ⟨c,.root m c⟩)
 | step a b c ih=>exact .step ih (by rw[ef _ ih.mem];exact b) (mk.mpr ⟨c,.step a b c⟩)
theorem XD{s:HS}(h:Lim s):Lim (Iw (Lp (eZ s))):=by
 have e:hw (Iw (Lp (eZ s))).aJ<=hw (eZ s).aJ:=Pl aqE
 have:=Ef (s:=s)
 have:=h.1
 exact⟨by omega,h.2⟩
theorem ab3{s:HS}(G:Good s):tot (fl0 s) 9e1=hw s.aJ:=by
 have e:∀(l:List (Int×List Wd)),(∀ p∈l,p∈s.aJ)->tot (fl0 s) (l.map (·.1))=hw l:=by
  intro l;induction l with
  | nil=>intro _;rfl
  | cons p r ih =>
   intro h;have e1:(fl0 s p.1).length=p.2.length:=(by rw[zR,pe G (h p ap7)]);show(fl0 s p.1).length+1+tot (fl0 s) (r.map (·.1))=_;rw[ih λq m=>h q (ap8 _ m),e1];unfold hw;rw[aqd,ard]
 exact e _ λ_ m=>m
theorem R3{g h:Int->Int}(w:Wd):anew h (wdM g w)=wdM (λt=>h (g t)) w:=by cases w<;>rfl
theorem Yp{g:Int->Int}(n:Option Int):nmM g n=wdM g (nmW n):=by cases n<;>rfl
structure Lay(ws:List Mw)(s:HS)(g:Int->Int):Prop where
 z:ws.length<=1000
 at_:∀ t wd,(t,wd)∈s.aJ->0<=g t/\g t+(wd.length:Int)<ws.length/\Lies ws (g t) t (wd.map (wdM g))
 dj:∀ t wd t' wd',(t,wd)∈s.aJ->(t',wd')∈s.aJ->t≠t'->g t+(wd.length:Int)<g t'\/g t'+(wd'.length:Int)<g t
theorem Lay.lk{ws:List Mw}{s:HS}{g:Int->Int}(l:Lay ws s g){w:Wd}(h:∀ t,w=.th t->t∈keys s):Lk ws (kvG 9e1 g) w (wdM g w):=by
 cases w with
 | no=>exact rfl
 | num n=>exact rfl
 | th t =>
  have m:=h t rfl;obtain⟨wd,mw⟩:=mem_keys.mp m;obtain⟨a0,a1,ly⟩:=l.at_ t wd mw;have z:=l.z;exact⟨g t,0,g t,rfl,Sm.of 1e1 1e1,.stop a0 ly.1 (by intro b n z;cases z),O3 m⟩
theorem Lay.pic{ws:List Mw}{s:HS}{g:Int->Int}(G:Good s)(l:Lay ws s g):Pic ws s g:=by
 refine⟨λt wd m=>?_,l.dj⟩;obtain⟨a0,a1,ly⟩:=l.at_ t wd m;refine⟨a0,a1,by have:=ly.1;rw[apR]at this;exact this,λi w hw=>⟨_,ly.2 i (wdM g w) (by rw[apZ,hw];rfl),l.lk λu e=>?_⟩⟩;exact mem_keys.mpr (G.ff t wd u m (by rw[<-e];exact apW hw))
noncomputable def gP(s:HS):Int->Int:=plA (fl0 s) 0 9e1
theorem Za{s:HS}(G:Good s){i:Nat}{t:Int}(h:(keys s)[i]?=some t):gP s t=(tot (fl0 s) 3e7:Int):=by
 have:=uQ (f:=fl0 s) (p:=0) (keys_nodup G) h
 rw[arP]at this;exact this
theorem Zb{s:HS}(G:Good s)(t4:tot (fl0 s) (keys s)<=400){t:Int}{wd:List Wd}(mw:(t,wd)∈s.aJ):0<=gP s t/\gP s t+(wd.length:Int)<400:=by
 obtain⟨i,h⟩:=aqy (mem_keys.mpr ⟨wd,mw⟩);have a:=yN (f:=fl0 s) h;rw[zR,pe G mw]at a;rw[Za G h];omega
theorem Zc{s:HS}(G:Good s){t t':Int}{wd wd':List Wd}(mw:(t,wd)∈s.aJ)(mw':(t',wd')∈s.aJ)(n:t≠t'):gP s t+(wd.length:Int)<gP s t'\/gP s t'+(wd'.length:Int)<gP s t:=by
 have key:∀ {i j:Nat} {t t':Int} {wd:List Wd},(keys s)[i]?=some t->(t,wd)∈s.aJ->i<j->(keys s)[j]?=some t'->gP s t+(wd.length:Int)<gP s t':=by
  intro i j t t' wd h m c h'
  have:=K0 (fl0 s) 9e1 (show i+1<=j by omega)
  rw[dZ h,yM,zR,pe G m]at this;rw[Za G h,Za G h'];omega
 obtain⟨i,h⟩:=aqy (mem_keys.mpr ⟨wd,mw⟩);obtain⟨j,h'⟩:=aqy (mem_keys.mpr ⟨wd',mw'⟩);rcases Nat.lt_trichotomy i j with c|c|c
 ·exact .inl (key h mw c h')
 ·rw[c,h']at h;exact absurd (aqh h).symm n
 ·exact .inr (key h' mw' c h)
section
variable{s:HS}(G:Good s)(nx:s.nxt<=90)(t4:tot (fl0 s) (keys s)<=400)
noncomputable abbrev tsP(s:HS):List Tg:=tgs s (gP s) 9e1
include G nx t4 in
theorem Tp:Bt (tsP s) (s.aZ.map (wdM (gP s))) 400:=by
 have mem:∀ x∈tsP s,∃ wd,(x.1,wd)∈s.aJ/\x=(x.1,gP s x.1,wd.map (wdM (gP s))):=λx m=>by
  obtain⟨t,mt,rfl⟩:=aqf.mp m;obtain⟨wd,mw⟩:=mem_keys.mp mt;exact⟨wd,mw,by rw[pe G mw]⟩
 have wb:∀ w:Wd,(∀ t,w=.th t->∃ ws,(t,ws)∈s.aJ)->Wby ((tsP s).map (·.2.1)) (wdM (gP s) w):=λw h=>by
  cases w with
  | no=>exact .inl rfl
  | num n=>exact .inr (.inl ⟨n,rfl⟩)
  | th t=>exact .inr (.inr ⟨gP s t,aqf.mpr ⟨_,aqf.mpr ⟨t,mem_keys.mpr (h t rfl),rfl⟩,rfl⟩,rfl⟩)
 refine⟨?_,by rw[apR,G.h8];decide,λx m=>?_,λx m=>?_,λx m=>?_,λi j x y n h1 h2=>?_,λw m=>?_,λx m w mw=>?_,by decide,by decide⟩
 ·have:=G.sd
  unfold tsP tgs keys;rw[apR,apR];omega
 ·obtain⟨wd,mw,e⟩:=mem x m
  rw[e];show(wd.map _).length<=6;rw[apR];exact G.f6 _ _ mw
 ·obtain⟨wd,mw,e⟩:=mem x m
  rw[e];exact(Zb G t4 mw).1
 ·obtain⟨wd,mw,e⟩:=mem x m
  rw[e];show gP s x.1+((wd.map _).length:Int)<400;rw[apR];exact(Zb G t4 mw).2
 ·obtain⟨wd,mw,e⟩:=mem x (apW h1)
  obtain⟨wd',mw',e'⟩:=mem y (apW h2);have nt:x.1≠y.1:=λz=>by
   have k1:(keys s)[i]?=some x.1:=by
    unfold tsP tgs at h1;rw[apZ]at h1;obtain⟨t,ht,et⟩:=aqa.mp h1;rw[ht,<-et]
   have k2:(keys s)[j]?=some y.1:=by
    unfold tsP tgs at h2;rw[apZ]at h2;obtain⟨t,ht,et⟩:=aqa.mp h2;rw[ht,<-et]
   have il:=(apS.mp k1).1;exact n ((List.getElem?_inj il (keys_nodup G)).mp (by rw[k1,k2,z]))
  rw[e,e'];show gP s x.1+((wd.map _).length:Int)<gP s y.1\/gP s y.1+((wd'.map _).length:Int)<gP s x.1;rw[apR,apR];exact Zc G mw mw' nt
 ·obtain⟨v,mv,rfl⟩:=aqf.mp m
  exact wb v λt e=>G.hh t (by rw[<-e];exact mv)
 ·obtain⟨wd,mx,e⟩:=mem x m
  rw[e]at mw;obtain⟨v,mv,rfl⟩:=aqf.mp mw;exact wb v λt e=>G.ff _ _ t mx (by rw[<-e];exact mv)
theorem Tq{t:Int}{wd:List Wd}(G:Good s)(mw:(t,wd)∈s.aJ):(t,gP s t,wd.map (wdM (gP s)))∈tsP s:=aqf.mpr ⟨t,mem_keys.mpr ⟨wd,mw⟩,by rw[pe G mw]⟩
include G nx t4 in
theorem apF:Lay (GK (List.replicate 400 .no) (tsP s)) s (gP s):=by
 have b:=Tp G nx t4;have ln:(GK (List.replicate 400 Mw.no) (tsP s)).length=400:=by rw[Ee,aqn]
 refine⟨by omega,λt wd mw=>?_,λt wd t' wd' m m' n=>Zc G m m' n⟩;have p:=Zb G t4 mw;have l:=b.lies (tsP s).length (apV _);rw[apX (apV _)]at l;exact⟨p.1,by rw[ln];exact p.2,l _ (Tq G mw)⟩
theorem Yq{f:Int->List Mw}:∀ {R B:List Int},R.Nodup->(∀ a∈R,a∈B)->tot f R<=tot f B
 | [],B,_,_=>aqu _
 | a::r,B,nd,h=>by
  rw[aqP]at nd;obtain⟨u,v,e⟩:=List.append_of_mem (h a ap7)
  have:=Yq (f:=f) (R:=r) (B:=u++v) nd.2 λb m=>by
   have mb:=h b (ap8 _ m);rw[e]at mb;rcases aqc.mp mb with z|z
   ·exact aqm _ z
   ·exact ap1 _ ((aqi.mp z).resolve_left λq=>nd.1 (by rw[<-q];exact m))
  rw[ET]at this;rw[e,ET];show(f a).length+1+tot f r<=tot f u+((f a).length+1+tot f v);omega
include G nx t4 in
theorem Yr{R:List Int}(nd:R.Nodup)(h:∀ a∈R,a∈(tsP s).map (·.2.1)):tot 7e8 R<=400:=by
 have b:=Tp G nx t4;refine aqk (Yq nd h) (aqk (Nat.le_of_eq ?_) t4);have e:∀(l:List Int),(∀ t∈l,t∈keys s)->tot 7e8 ((tgs s (gP s) l).map (·.2.1))=tot (fl0 s) l:=by
  intro l;induction l with
  | nil=>intro _;rfl
  | cons t r ih =>
   intro h;obtain⟨wd,mw⟩:=mem_keys.mp (h t ap7);show(fOf (tsP s) (gP s t)).length+1+tot 7e8 ((tgs s (gP s) r).map (·.2.1))=(fl0 s t).length+1+tot (fl0 s) r;rw[ih λu m=>h u (ap8 _ m),show fOf (tsP s) (gP s t)=wd.map (wdM (gP s)) from b.f (Tq G mw),apR,zR,pe G mw]
 exact e _ λ_ m=>m
include G nx t4 in
theorem Vb{R:List Int}(led:∀ t∈keys s,Led s.aZ (fld s) (keys s) t)(bf:Bfs (s.aZ.map (wdM (gP s))) (fOf (tsP s)) R):∀ t∈keys s,gP s t∈R:=by
 have b:=Tp G nx t4;intro t m;have l:=led t m;clear m;induction l with
 | root m c=>exact bf.mem (aqm _ (aqf.mpr ⟨_,m,rfl⟩))
 | step a m c ih =>
  obtain⟨wd,mw⟩:=mem_keys.mp a.mem;rw[pe G mw]at m;exact bf.mem (ap1 _ (arj.mpr ⟨_,ih,by rw[show fOf (tsP s) (gP s _)=wd.map (wdM (gP s)) from b.f (Tq G mw)];exact aqf.mpr ⟨_,m,rfl⟩⟩))
include G nx t4 in
theorem apG{R:List Int}(led:∀ t∈keys s,Led s.aZ (fld s) (keys s) t)(bf:Bfs (s.aZ.map (wdM (gP s))) (fOf (tsP s)) R)(hB:∀ a∈R,a∈(tsP s).map (·.2.1)):Lay (Ks 7e8 (plA 7e8 7 R) (tOf (tsP s)) (List.replicate 420 .no) R) s (λt=>plA 7e8 7 R (gP s t))/\Gm (Ks 7e8 (plA 7e8 7 R) (tOf (tsP s)) (List.replicate 420 .no) R):=by
 have b:=Tp G nx t4;have rc:=Vb G nx t4 led bf;have nd:=bf.nd;have t5:=Yr G nx t4 nd hB;have ln:(Ks 7e8 (plA 7e8 7 R) (tOf (tsP s)) (List.replicate 420 .no) R).length=420:=by rw[KY,aqn]
 have fa:∀ {t:Int} {wd:List Wd},(t,wd)∈s.aJ->fOf (tsP s) (gP s t)=wd.map (wdM (gP s)):=λmw=>b.f (Tq G mw);refine⟨⟨by omega,λt wd mw=>?_,λt wd t' wd' m m' n=>?_⟩,?_,?_⟩
 ·have mr:=rc t (mem_keys.mpr ⟨wd,mw⟩)
  obtain⟨i,h⟩:=aqy mr;have p1:=uQ (f:=fOf (tsP s)) (p:=7) nd h;have p2:=yN (f:=fOf (tsP s)) h;rw[fa mw,apR]at p2;have l:=XC (f:=fOf (tsP s)) (tt:=tOf (tsP s)) (fs:=7) (ws:=List.replicate 420 .no) nd 2e6 (by rw[aqn];omega) R.length (apV _);rw[apX (apV _)]at l;have l1:=l _ mr;rw[show tOf (tsP s) (gP s t)=t from b.t (Tq G mw),fa mw,aqv]at l1;refine⟨by omega,by rw[ln];omega,?_⟩;rw[show(wd.map (anew (plA 7e8 7 R) ∘ wdM (gP s)))=wd.map (wdM λt=>plA 7e8 7 R (gP s t)) from aqD λw _=>R3 w]at l1;exact l1
 ·have key:∀ {i j:Nat} {t t':Int} {wd:List Wd},R[i]?=some (gP s t)->(t,wd)∈s.aJ->i<j->R[j]?=some (gP s t')->plA 7e8 7 R (gP s t)+(wd.length:Int)<plA 7e8 7 R (gP s t'):=by
   intro i j t t' wd h m c h'
   have:=K0 7e8 R (show i+1<=j by omega)
   rw[dZ h,yM,fa m,apR]at this;rw[uQ nd h,uQ nd h'];omega
  obtain⟨i,h⟩:=aqy (rc t (mem_keys.mpr ⟨wd,m⟩));obtain⟨j,h'⟩:=aqy (rc t' (mem_keys.mpr ⟨wd',m'⟩));rcases Nat.lt_trichotomy i j with c|c|c
  ·exact .inl (key h m c h')
  ·rw[c,h']at h
   have:=aqh h
   have:=Zc G m m' n
   omega
  ·exact .inr (key h' m' c h)
 ·intro t k m
  rcases Va m with h|⟨a,ma,e⟩|⟨a,ma,h⟩
  ·exact absurd (aqq h) 1e0
  ·cases e
   have:=b.src.fl a (hB a ma)
   omega
  ·obtain⟨w,mw,e⟩:=aqf.mp h
   rcases b.src.fo a (hB a ma) w mw with rfl|⟨z,rfl⟩|⟨c,rfl,_⟩<;>cases e
 ·intro a k m
  rcases Va m with h|⟨a,ma,e⟩|⟨a,ma,h⟩
  ·exact absurd (aqq h) 1e0
  ·cases e
  ·obtain⟨w,mw,e⟩:=aqf.mp h
   rcases b.src.fo a (hB a ma) w mw with rfl|⟨z,rfl⟩|⟨c,rfl,_⟩<;>cases e
end
end
end K44
end
section
namespace L2
open PySem PySem.Spec PyProof.Rows LX
theorem ab4{X:Cx}{i:Nat}{x:Str}{st:Stmt}{t0 t1 t2 t3 t4 t5:TE}(hh:∃ es p q1 q2,st=.Assign [.Name x q1] (.List es p) q2/\∃ e0 e1 e2 e3 e4 e5,es=[e0,e1,e2,e3,e4,e5]/\(PE X e0 t0/\nsE e0=true)/\(PE X e1 t1/\nsE e1=true)/\(PE X e2 t2/\nsE e2=true)/\(PE X e3 t3/\nsE e3=true)/\(PE X e4 t4/\nsE e4=true)/\(PE X e5 t5/\nsE e5=true))(hN:X.N.Nodup)(hi:X.N[i]?=some x)(hx:Loc X.env.scope x)(hf:X.fn x=true\/X.env.scope.names.lookup x=some .local) :
  PS X st (Wn (ae6 (j3 t0 (j3 t1 (j3 t2 (j3 t3 (j3 t4 (j3 t5 OV))))))) (sL i)):=by
 obtain⟨es,p,q1,q2,rfl,e0,e1,e2,e3,e4,e5,rfl,⟨h0,n0⟩,⟨h1,n1⟩,⟨h2,n2⟩,⟨h3,n3⟩,⟨h4,n4⟩,⟨h5,n5⟩⟩:=hh;exact ZR hN hi hx (qa (dO h0 (dO h1 (dO h2 (dO h3 (dO h4 (dO h5 ak n5) n4) n3) n2) n1) n0)) hf
theorem lY{H:Hp}{l:Addr}{o:HO}(_:az H (upd H l o)):upd H l o l=some o:=ag
section
variable{X:Cx}
noncomputable def aeT:R2:=λx y H Q=>∃ c:Bool,y=.bl c/\mS x=true/\Q (.bl (decide (x=.bl c))) H
theorem aaf:OpR X (compareOp .Is) aeT:=by
 rintro pins s σ H x y v u Q I rx ry ⟨c,rfl,fx,q⟩;cases ry;cases x with
 | non=>cases rx;exact wpAny_is_plain rfl (de I q (by cases c<;>rfl))
 | bl b=>cases rx;exact wpAny_is_plain rfl (de I q (by cases b<;>cases c<;>rfl))
 | int n=>obtain⟨t,rfl⟩:=rx;exact wpAny_is_plain rfl (de I q (by cases c<;>rfl))
 | str z=>obtain⟨t,rfl⟩:=rx;exact wpAny_is_plain rfl (de I q (by cases c<;>rfl))
 | _=>exact absurd 4e0 ap0
end
section
variable{X:Cx}{scope:Scope}{cl:List (Str×Addr)}{xs:List Str}{idx:List Nat}{NC:List Str}{C:Addr}{fp:List Addr}{pins:List (Addr×Obj)}{σ:St}{H:Hp}{s:Shared}
end
section
variable{X:Cx}{scope:Scope}{cl:List (Str×Addr)}{xs:List Str}{idx:List Nat}{NC:List Str}{C:Addr}{fp:List Addr}{pins:List (Addr×Obj)}{σ:St}{H:Hp}{s:Shared}
end
noncomputable def aeU:R2:=λx y H Q=>∃ b c:Bool,x=.bl b/\y=.bl c/\Q (.bl (!decide (b=c))) H
theorem aag{X:Cx}:OpR X (compareOp .IsNot) aeU:=by
 rintro pins s σ H x y v u Q I rx ry ⟨b,c,rfl,rfl,q⟩;cases rx;cases ry;refine wpAny_isNot_plain rfl (de I q ?_);cases b<;>cases c<;>rfl
end L2
end
section
namespace K44
open PySem L2 LX
section
variable{P:Program}{w:World}{K:W.Frag}{mg:Str->Option Value}{base:Heap}{D:Ad}
noncomputable def Vc(K:W.Frag):Sp:=λvs H Q _=>∃(a:Addr) (ns:List Int) (j:Int),vs=[.ref a,.int j]/\SqL K H a 4e6/\0<=j/\Q (.int (ns.getD j.toNat 0)) H
noncomputable abbrev Qr:List Str:=["script","k"]
theorem NV:aw Qr ["script","k"] (aq xR):=fsc
theorem NW(F:Fun K "_law_cell" "_law_cell" xR D.iI D.pF)(T:Txt K mg D):9e7 1 D.iI D.pF ["script","k"] (Vc K):=by
 refine F.oa NV F.b2 λcdv A' outer s' H vs Q E hr h=>?_;obtain⟨a,ns,j,rfl,hS,j0,k⟩:=h;refine⟨_,(PSs.nox (aj (bQ (aK vt (pv 1) (cc bh rfl T.lM PyProof.Rows.Boot.«len» 7e3) (aW _))
   (ai (aI (a8 jy (pv 0) (pv 1) 1e6)))
   aR)
  (ai (aI av)))),?_⟩
 refine⟨_,rfl,_,rfl,a,_,rfl,.inl hS,j,_,rfl,rfl,_,rfl,a9 (λh=>?_) (λh=>?_)⟩
 case refine_2 =>
  have hl:ns.length<=j.toNat:=by
   have h:=of_decide_eq_false (aqt.mpr h);rw[apR]at h;omega
  rw[arf,List.getElem?_eq_none_iff.mpr hl]at k;exact k
 have hl:j.toNat<ns.length:=by
  have:=of_decide_eq_true h
  rw[apR]at this;omega
 exact⟨_,rfl,_,rfl,a,_,j,.int ns[j.toNat],rfl,rfl,hS,zI j0 (by rw[apZ,apT hl];rfl),by rw[arf,apT hl]at k;exact k⟩
theorem Vd{D:Ad}{Hx H6:Hp}{m2 mx2 c2:Addr}{o:HO}{o2:HO}(hm2:Hx m2=none)(aah:Hx mx2=none)(B6:But m2 (upd (upd Hx mx2 o) m2 o2) H6)(hc2:upd (upd Hx mx2 o) m2 o2 c2=none):az Hx H6/\Hx c2=none:=by
 refine⟨λb u q=>B6 b u (ar q hm2) (by rw[ah (ar q hm2),ah (ar q aah)];exact q),?_⟩;by_cases e:c2=m2
 ·rw[e];exact hm2
 ·by_cases e2:c2=mx2
  ·rw[e2];exact aah
  ·rw[ah e,ah e2]at hc2;exact hc2
structure Kw(D:Ad)(H:Hp)(x:Addr)(A:HA)(s:HS)(ld:Addr)(dv:List V)(i:Nat):Prop where
 j:IH D H x A s
 g:Gd s
 l:Lim s
 n:s.nxt<=i
 d:H ld=some (.lst dv)
 dx:¬cL x A s ld
 ds:∀ v∈dv,∃ q dd,v=.ref q/\H q=some (.tup (Dd.its dd))/\dd.ok
noncomputable abbrev jw:List Str:=["script","heap","deeds","deed","memory","at","hands","book","second","anew","pairs","moved","after","thing"]
theorem nF:aw jw ["script"] (aq aU):=fsc
theorem ab5(F:Fun K "law" "law" aU D.jm D.Sz)(T:Txt K mg D)
  (ym:9e7 1 D.iI D.pF ["script","k"] (Vc K))
  (iq:9e7 4 D.bZ D.fG ["self","young","limit"] (zN D))
  (yo:9e7 1 D.iJ D.pG ["number"] (U2))
  (qZ:9e7 2 D.eJ D.kz ["script","most"] (Kl K))
  (yp:9e7 10 D.iK D.pH ["hall","deed"] (U3 D))
  (dR:9e7 1 D.bG D.dP ["self"] (Uq D))
  (gc:9e7 4 D.dI D.ia ["self"] (Up D))
  (fW:9e7 6 D.cy D.fT ["self"] (Uo D))
  (f9:9e7 1 D.dw D.iy ["self","size"] (RN D))
  (yq:9e7 6 D.iL D.pI ["heap","memory"] (R0 D))
  (jj:9e7 1 D.dE D.je ["value","at"] (Uu))
  (fZ:9e7 2 D.cz D.fU ["self"] (Gn D))
  (bt:9e7 1 D.bL D.dN ["self"] (vD D))
  (qu:9e7 10 D.gx D.nz ["ideal","memory","hands","names","book"] (RT D))
  (qv:9e7 5 D.gz D.nB ["heap","at"] (U8 D))
  (K1:9e7 10 D.nJ D.yv ["source","target","first","roots"] (aa5 D))
  (aF:9e7 4 D.aQ D.bw ["self","t"] (zP D))
  (gO:9e7 5 D.c7 D.gM ["self"] (OZ D)):9e7 12 D.jm D.Sz ["script"] (Wj K):=by
 refine F.oa nF F.b1 λcdv A' outer s' H vs Q E hr h=>?_;obtain⟨a,ns,rfl,hS,hlen,k⟩:=h;have hu:=jK hr;have S0:PS (cxE P w K mg base jw "law" (aq aU) D.jm cdv A' outer s' H E).nox ((aE aU).getD 0 1e5) _:=(aS (i:=1) nF.nd rfl (Or.inr rfl) (OW T.u7 iq.g 7e7 rfl T.Nj iq.b .nil Uk (aa (a8 jy (qa (aa av (aa av ak))) (cM rg (cM Ei (ym.c hr T.PZ T.xZ bq (aa (pv 0) (aa av ak))) av) av) 1e6) (aa av ak))));have hh1:∃ es p q1 q2,(aE aU).getD 1 1e5=.Assign [.Name "deeds" q1] (.List es p) q2/\∃ e0 e1 e2 e3 e4 e5,es=[e0,e1,e2,e3,e4,e5]/\(PE (cxE P w K mg base jw "law" (aq aU) D.jm cdv A' outer s' H E).nox e0 (Wq (j3 (tC (.str "make")) (j3 (tC (.int 0)) (j3 (tC (.int 3)) OV))))/\nsE e0=true)/\(PE (cxE P w K mg base jw "law" (aq aU) D.jm cdv A' outer s' H E).nox e1 (Wq (j3 (tC (.str "make")) (j3 (tC (.int 1)) (j3 (tC (.int 2)) OV))))/\nsE e1=true)/\(PE (cxE P w K mg base jw "law" (aq aU) D.jm cdv A' outer s' H E).nox e2 (Wq (j3 (tC (.str "make")) (j3 (tC (.int 2)) (j3 (tC (.int 2)) OV))))/\nsE e2=true)/\(PE (cxE P w K mg base jw "law" (aq aU) D.jm cdv A' outer s' H E).nox e3 (Wq (j3 (tC (.str "store")) (j3 (tC (.int 0)) (j3 (tC (.int 1)) (j3 (tC (.int 1)) OV)))))/\nsE e3=true)/\(PE (cxE P w K mg base jw "law" (aq aU) D.jm cdv A' outer s' H E).nox e4 (Wq (j3 (tC (.str "store")) (j3 (tC (.int 1)) (j3 (tC (.int 0)) (j3 (tC (.int 0)) OV)))))/\nsE e4=true)/\(PE (cxE P w K mg base jw "law" (aq aU) D.jm cdv A' outer s' H E).nox e5 (Wq (j3 (tC (.str "name")) (j3 (tC (.int 3)) (j3 (tC (.int 1)) OV))))/\nsE e5=true):=⟨_,_,_,_,rfl,_,_,_,_,_,_,rfl,⟨cg (dO aP (dO av (dO av ak))),rfl⟩,⟨cg (dO aP (dO av (dO av ak))),rfl⟩,⟨cg (dO aP (dO av (dO av ak))),rfl⟩,⟨cg (dO aP (dO av (dO av (dO av ak)))),rfl⟩,⟨cg (dO aP (dO av (dO av (dO av ak)))),rfl⟩,⟨cg (dO aP (dO av (dO av ak))),rfl⟩⟩;have S2:PS (cxE P w K mg base jw "law" (aq aU) D.jm cdv A' outer s' H E).nox ((aE aU).getD 2 1e5) _:=(gq aqg rfl (fe (cM UG (pv 2) (kY (cl:=[]) (x := "number") (idx:=[]) (NC:=["number"]) (by exact iC (sc:=aq aU) (N:=jw) (ns:=[]) rfl rfl rfl 2e2 rfl rfl (by intro q hq;cases hq)) rfl (fe (qZ.c hr T.ID T.qT bq (aa (pv 0) (aa av ak)))) (λC fp s₀ H₀=>(yo.c hr T.P0 T.x8 Bo 7e3))))) (bA (i:=3) nF.nd rfl 1e9)
   (ai (aG (yp.c hr T.P1 T.x9 bq (aa (pv 1) 6e5)))))
 have S3:PS (cxE P w K mg base jw "law" (aq aU) D.jm cdv A' outer s' H E).nox ((aE aU).getD 3 1e5) _:=(bQ (zA (dR.m0 hr (pv 1) T.ae T.nI bq))
   (ai (aG (gc.m0 hr (pv 1) T.ae T.nZ bq)))
   aR)
 have S4:PS (cxE P w K mg base jw "law" (aq aU) D.jm cdv A' outer s' H E).nox ((aE aU).getD 4 1e5) _:=(aG (fW.m0 hr (pv 1) T.ae T.qx bq));have S5:PS (cxE P w K mg base jw "law" (aq aU) D.jm cdv A' outer s' H E).nox ((aE aU).getD 5 1e5) _:=(aG (gc.m0 hr (pv 1) T.ae T.nZ bq));have S6:PS (cxE P w K mg base jw "law" (aq aU) D.jm cdv A' outer s' H E).nox ((aE aU).getD 6 1e5) _:=(aS (i:=4) nF.nd rfl 1e9 (OW T.zt f9.g 7e7 rfl T.MM f9.b .nil Uk (aa av ak)));have S7:PS (cxE P w K mg base jw "law" (aq aU) D.jm cdv A' outer s' H E).nox ((aE aU).getD 7 1e5) _:=(aS (i:=5) nF.nd rfl (Or.inr rfl) (yq.c hr T.P8 T.ya bq (aa (pv 1) 5e4)));have S8:PS (cxE P w K mg base jw "law" (aq aU) D.jm cdv A' outer s' H E).nox ((aE aU).getD 8 1e5) _:=(J8 (cl:=[("at",s'.heap.objs.size+2)]) (x := "value") (idx:=[5]) (NC:=["value","at"]) (i:=6) nF.nd rfl rfl (by exact iC (sc:=aq aU) (N:=jw) (ns:=["at"]) rfl rfl rfl 2e2 rfl rfl 5e7) rfl (fe (fZ.m0 hr (pv 1) T.ae T.qy bq)) (λC fp s₀ H₀=>(jj.c hr T.xA T.mZ Bo (aa (pv 0) 2e4))));have S9:PS (cxE P w K mg base jw "law" (aq aU) D.jm cdv A' outer s' H E).nox ((aE aU).getD 9 1e5) _:=(J8 (cl:=[("at",s'.heap.objs.size+2)]) (x := "thing") (idx:=[5]) (NC:=["thing","at"]) (i:=7) nF.nd rfl rfl (by exact iC (sc:=aq aU) (N:=jw) (ns:=["at"]) rfl rfl rfl 2e2 rfl rfl 5e7) rfl (fe (bt.m0 hr (pv 1) T.ae T.gn bq)) (λC fp s₀ H₀=>(cg (aa (pv 0) (aa (dq hu (pv 1) (pv 0) 1e6) ak)))));have S10:PS (cxE P w K mg base jw "law" (aq aU) D.jm cdv A' outer s' H E).nox ((aE aU).getD 10 1e5) _:=(bQ (aK aag (qu.c hr T.DP T.qi bq (aa (pv 1) (aa (pv 4) (aa (pv 6) (aa (qv.c hr T.DQ T.qj bq (aa (pv 1) (aa (pv 5) ak))) (aa (pv 7) ak)))))) D4 (aW _))
   (ai (aI D4))
   aR)
 have S11:PS (cxE P w K mg base jw "law" (aq aU) D.jm cdv A' outer s' H E).nox ((aE aU).getD 11 1e5) _:=(aS (i:=8) nF.nd rfl 1e9 (OW T.zt f9.g 7e7 rfl T.MM f9.b .nil Uk (aa av ak)));have S12:PS (cxE P w K mg base jw "law" (aq aU) D.jm cdv A' outer s' H E).nox ((aE aU).getD 12 1e5) _:=(D1 (K1.c hr T.Xf T.KO bq (aa (pv 4) (aa (pv 8) (aa av (aa (j6 ng rfl T.wB PyProof.Rows.Boot.«list» (aa (pv 6) ak)) ak))))) (DZ rfl (iQ (bA (i:=9) nF.nd rfl 1e9) (iQ (bA (i:=10) nF.nd rfl 1e9) wx))));have S13:PS (cxE P w K mg base jw "law" (aq aU) D.jm cdv A' outer s' H E).nox ((aE aU).getD 13 1e5) _:=(aS (i:=11) nF.nd rfl 1e9 (j6 (Bp rfl) rfl T.Lc PyProof.Rows.Boot.«dict» (aa (pv 10) ak)));have S14:PS (cxE P w K mg base jw "law" (aq aU) D.jm cdv A' outer s' H E).nox ((aE aU).getD 14 1e5) _:=(aS (i:=12) nF.nd rfl (Or.inr rfl) jx);have S15:PS (cxE P w K mg base jw "law" (aq aU) D.jm cdv A' outer s' H E).nox ((aE aU).getD 15 1e5) _:=(gq aqg rfl (lS (uK (pv 5))) (bA (i:=13) nF.nd rfl 1e9)
   (aj (bQ (rf (kU hu (dq hu (pv 5) (pv 13) 1e6) (pv 11)) 3e1)
    (ai (aI D4))
    aR)
   (ai (lQ hu (pv 12) (pv 13) (dq hu (pv 11) (dq hu (pv 5) (pv 13) 1e6) 1e6) rfl))))
 have S16:PS (cxE P w K mg base jw "law" (aq aU) D.jm cdv A' outer s' H E).nox ((aE aU).getD 16 1e5) _:=(J8 (cl:=[("after",s'.heap.objs.size+3)]) (x := "thing") (idx:=[12]) (NC:=["thing","after"]) (i:=7) nF.nd rfl rfl (by exact iC (sc:=aq aU) (N:=jw) (ns:=["after"]) rfl rfl rfl 2e2 rfl rfl 5e7) rfl (fe (bt.m0 hr (pv 1) T.ae T.gn bq)) (λC fp s₀ H₀=>(cg (aa (pv 0) (aa (dq hu (pv 1) (pv 0) 1e6) ak)))));have S17:PS (cxE P w K mg base jw "law" (aq aU) D.jm cdv A' outer s' H E).nox ((aE aU).getD 17 1e5) _:=(bQ (aK O7 (cc (Gi rfl) rfl T.SV PyProof.Rows.Boot.«sum» (aa (kY (cl:=[("heap",s'.heap.objs.size+1)]) (x := "thing") (idx:=[1]) (NC:=["thing","heap"]) (by exact iC (sc:=aq aU) (N:=jw) (ns:=["heap"]) rfl rfl rfl 2e2 rfl rfl 5e7) rfl (lS (uK (pv 12))) (λC fp s₀ H₀=>(cM iO (cc (r:=λxs H Q=>∃ p ys,xs=[V.ref p]/\(SqL K H p ys\/SqT K H p ys)/\Q (V.int ys.length) H) bh rfl T.lM PyProof.Rows.Boot.«len» (aa (UD (pv 1) T.ae T.cR aF.g 7e7 aF.b .nil Bo 7e3) ak)) av))) ak)) (gO.m0 hr (pv 1) T.ae T.rU bq) (aW _))
   (ai (aI D4))
   aR)
 have S18:PS (cxE P w K mg base jw "law" (aq aU) D.jm cdv A' outer s' H E).nox ((aE aU).getD 18 1e5) _:=(aI (zC aaf (qu.c hr T.DP T.qi bq (aa (pv 1) (aa (pv 8) (aa (pv 9) (aa (qv.c hr T.DQ T.qj bq (aa (pv 1) (aa (pv 12) ak))) (aa (pv 7) ak)))))) D4 (aW _)));have hb:aE aU=[(aE aU).getD 0 1e5,(aE aU).getD 1 1e5,(aE aU).getD 2 1e5,(aE aU).getD 3 1e5,(aE aU).getD 4 1e5,(aE aU).getD 5 1e5,(aE aU).getD 6 1e5,(aE aU).getD 7 1e5,(aE aU).getD 8 1e5,(aE aU).getD 9 1e5,(aE aU).getD 10 1e5,(aE aU).getD 11 1e5,(aE aU).getD 12 1e5,(aE aU).getD 13 1e5,(aE aU).getD 14 1e5,(aE aU).getD 15 1e5,(aE aU).getD 16 1e5,(aE aU).getD 17 1e5,(aE aU).getD 18 1e5]:=rfl;generalize (aE aU).getD 0 1e5=st0 at S0 hb;generalize (aE aU).getD 1 1e5=st1 at hh1 hb;have S1:=ab4 (i:=2) hh1 nF.nd rfl 1e9 3e6;generalize (aE aU).getD 2 1e5=st2 at S2 hb;generalize (aE aU).getD 3 1e5=st3 at S3 hb;generalize (aE aU).getD 4 1e5=st4 at S4 hb;generalize (aE aU).getD 5 1e5=st5 at S5 hb;generalize (aE aU).getD 6 1e5=st6 at S6 hb;generalize (aE aU).getD 7 1e5=st7 at S7 hb;generalize (aE aU).getD 8 1e5=st8 at S8 hb;generalize (aE aU).getD 9 1e5=st9 at S9 hb;generalize (aE aU).getD 10 1e5=st10 at S10 hb;generalize (aE aU).getD 11 1e5=st11 at S11 hb;generalize (aE aU).getD 12 1e5=st12 at S12 hb;generalize (aE aU).getD 13 1e5=st13 at S13 hb;generalize (aE aU).getD 14 1e5=st14 at S14 hb;generalize (aE aU).getD 15 1e5=st15 at S15 hb;generalize (aE aU).getD 16 1e5=st16 at S16 hb;generalize (aE aU).getD 17 1e5=st17 at S17 hb;generalize (aE aU).getD 18 1e5=st18 at S18 hb;generalize aE aU=bd at hb ⊢;subst hb;refine⟨_,(PSs.nox (aj S0 (aj S1 (aj S2 (aj S3 (aj S4 (aj S5 (aj S6 (aj S7 (aj S8 (aj S9 (aj S10 (aj S11 (aj S12 (aj S13 (aj S14 (aj S15 (aj S16 (aj S17 (ai S18)))))))))))))))))))),?_⟩;refine aeB ?_;intro N19 N18 N17 N16 N15 N14 N13 N12 N11 N10 N9 N8 N7 N6 N5 N4 N3 N2;obtain⟨rm,hv,hrm⟩:∃ rm:Int,atI [V.int 0,V.int 10] (ns.getD (Int.toNat 0) 0/2%2)=some (.int rm)/\(rm=0\/(7<=rm/\rm<=64)):=by
  have h:ns.getD (Int.toNat 0) 0/2%2=0\/ns.getD (Int.toNat 0) 0/2%2=1:=by omega
  rcases h with h|h
  ·rw[h];exact⟨0,rfl,.inl rfl⟩
  ·rw[h];exact⟨10,rfl,.inr ⟨by decide,by decide⟩⟩
 refine⟨by show 2<=sizeLine;decide,λp hp=>⟨_,rfl,a,ns,0,rfl,(az.upd hp).seq hS,by decide,_,2,rfl,rfl,⟨by decide,by decide⟩,_,2,rfl,rfl,(by show(0:Int)<2;decide),p,_,_,_,rfl,rfl,SqL.of ag,hv,?_⟩⟩;intro x dx hx hdx nd;refine⟨x,dx,_,_,rfl,ag,hrm,by decide,by decide,λA H1 J0 B0 F0=>⟨rfl,?_⟩⟩;have s1:az H H1:=λb u q=>by
  have q1:=az.upd (o:=.lst [V.int 0,V.int 10]) hp _ _ q;exact B0 b u (ar q1 hx) (by rw[ah (ar q1 hx),ah (ar q1 hdx)];exact q1)
 clear B0 F0 hx hdx hp nd hv;refine⟨by show 3<=sizeLine;decide,λt1 h1=>⟨by show 3<=sizeLine;decide,λt2 h2=>⟨by show 3<=sizeLine;decide,λt3 h3=>⟨by show 4<=sizeLine;decide,λt4 h4=>⟨by show 4<=sizeLine;decide,λt5 h5=>⟨by show 3<=sizeLine;decide,λt6 h6=>⟨by show 6<=sizeLine;decide,λl0 hl0=>?_⟩⟩⟩⟩⟩⟩⟩;have a1:=az.upd (o:=.tup (Dd.its (.make 0 3))) h1;have a2:=az.upd (o:=.tup (Dd.its (.make 1 2))) h2;have a3:=az.upd (o:=.tup (Dd.its (.make 2 2))) h3;have a4:=az.upd (o:=.tup (Dd.its (.store 0 1 1))) h4;have a5:=az.upd (o:=.tup (Dd.its (.store 1 0 0))) h5;have a6:=az.upd (o:=.tup (Dd.its (.name 3 1))) h6;have a7:=az.upd (o:=.lst [V.ref t1,V.ref t2,V.ref t3,V.ref t4,V.ref t5,V.ref t6]) hl0;have c6:=a6.trans a7;have c5:=a5.trans c6;have c4:=a4.trans c5;have c3:=a3.trans c4;have c2:=a2.trans c3;have c1:=a1.trans c2;have zl0:=lY a7;have z6:=a7 _ _ (lY a6);have z5:=c6 _ _ (lY a5);have z4:=c5 _ _ (lY a4);have z3:=c4 _ _ (lY a3);have z2:=c3 _ _ (lY a2);have z1:=c2 _ _ (lY a1);refine⟨_,rfl,_,rfl,a,ns,70,rfl,(s1.trans c1).seq hS,hlen,λpz zs Hn sn hz0 hz lz bz=>⟨pz,rfl,⟨_,SqL.of hz⟩,λDl hDl=>?_⟩⟩;replace lz:=lz.2 2e6;replace J0:=(J0.same c1).same sn;replace zl0:=sn _ _ zl0;replace z1:=sn _ _ z1;replace z2:=sn _ _ z2;replace z3:=sn _ _ z3;replace z4:=sn _ _ z4;replace z5:=sn _ _ z5;replace z6:=sn _ _ z6;clear a1 a2 a3 a4 a5 a6 a7 c6 c5 c4 c3 c2 c1 sn h1 h2 h3 h4 h5 h6 hl0 hS hz0 s1;refine jn (K:=K) (a:=pz) (xs:=zs.map V.int) (λi ys Hc=>ys.length=i/\az Hn Hc/\Hc Dl=some 5e0/\∀ v∈ys,∃ q dd,v=.ref q/\Hc q=some (.tup (Dd.its dd))/\dd.ok) ⟨rfl,az.upd hDl,ag,λv hv=>by cases hv⟩ (λi ys Hc _ ⟨e,_,z,_⟩=>⟨z,e⟩) (λi ys Hc _ ⟨_,sc,_⟩=>SqL.of (sc _ _ hz)) (lN (by rw[apR];omega)) (λi v ys Hc hi ⟨e,sc,z,hv⟩=>?_) (λys Hc ⟨e,sc,z,hv⟩=>?_)
 ·obtain⟨y,my,rfl⟩:=aqf.mp (apW hi)
  obtain⟨y0,y1⟩:=bz y my;refine⟨_,rfl,y,rfl,y0,y1,λq dd H4 s4 hq0 hq ok=>⟨s4 _ _ z,by rw[ap4,e];rfl,λb u g=>by rw[ah (ar g hDl)];exact s4 _ _ (sc b u g),ag,λv m=>?_⟩⟩;have tk:bI H4 (upd H4 Dl (.lst (ys++[V.ref q]))):=bI.set (s4 _ _ z) (λ_ w=>nomatch w);rcases aqc.mp m with m|m
  ·obtain⟨q',dd',e',hq',ok'⟩:=hv v m
   exact⟨q',dd',e',tk _ _ (s4 _ _ hq'),ok'⟩
  ·rw[apU.mp m]
   exact⟨q,dd,rfl,tk _ _ hq,ok⟩
 have ly:ys.length<=70:=by rw[e,apR];exact lz
 refine⟨l0,Dl,_,_,rfl,rfl,SqL.of (sc _ _ zl0),SqL.of z,lN (by show 6+ys.length<=20000;omega),λld hld=>?_⟩;obtain⟨dv,edv⟩:∃ dv,[V.ref t1,V.ref t2,V.ref t3,V.ref t4,V.ref t5,V.ref t6]++ys=dv:=⟨_,rfl⟩;have b1:=az.upd (o:=.lst dv) hld;have sf:=sc.trans b1;have ldv:dv.length<=76:=by rw[<-edv,ap4];show 6+ys.length<=76;omega
 have Z0:Kw D (upd Hc ld (.lst dv)) x A (s0 (decide (rm>0)) rm 400) ld dv 0:=by
  refine⟨J0.same sf,gd0,⟨by show(hw []:Int)<=400;decide,rfl⟩,aqH _,ag,(J0.same sc).fresh hld,λv m=>?_⟩;rw[<-edv]at m;rcases aqc.mp m with m|m
  ·simp only[aqi,aqR,or_false]at m
   rcases m with rfl|rfl|rfl|rfl|rfl|rfl
   ·exact⟨t1,.make 0 3,rfl,sf _ _ z1,⟨by decide,by decide⟩,by decide,by decide⟩
   ·exact⟨t2,.make 1 2,rfl,sf _ _ z2,⟨by decide,by decide⟩,by decide,by decide⟩
   ·exact⟨t3,.make 2 2,rfl,sf _ _ z3,⟨by decide,by decide⟩,by decide,by decide⟩
   ·exact⟨t4,.store 0 1 1,rfl,sf _ _ z4,⟨by decide,by decide⟩,by decide,by decide,by decide,by decide⟩
   ·exact⟨t5,.store 1 0 0,rfl,sf _ _ z5,⟨by decide,by decide⟩,by decide,by decide,by decide,by decide⟩
   ·exact⟨t6,.name 3 1,rfl,sf _ _ z6,⟨by decide,by decide⟩,by decide,by decide⟩
  ·obtain⟨q',dd',e',hq',ok'⟩:=hv v m
   exact⟨q',dd',e',b1 _ _ hq',ok'⟩
 rw[edv];clear edv z1 z2 z3 z4 z5 z6 zl0 sf J0 hv z sc hDl e hz bz lz ly hrm;obtain⟨He,eHe⟩:∃ He,upd Hc ld (.lst dv)=He:=⟨_,rfl⟩;rw[eHe]at Z0 ⊢;clear eHe b1 hld;refine⟨ld,rfl,⟨_,SqL.of Z0.d⟩,j5 (K:=K) (a:=ld) (xs:=dv) (λi σ Hx=>∃ A s v3,σ=[some 8e5,some 7e5,some (.ref l0),v3,none,none,none,none,none,none,none,none,none,none]/\Kw D Hx x A s ld dv i)
  ⟨A,_,none,rfl,Z0⟩ (λi σ Hx _ ⟨_,_,_,_,Z⟩=>SqL.of Z.d) ?_ ?_⟩
 ·rintro i v σ Hx hi ⟨A,s,v3,rfl,Z⟩
  have hil:i<dv.length:=(apS.mp hi).1;obtain⟨q,dd,rfl,hq,ok⟩:=Z.ds v (apW hi);have n0:=Z.n;refine⟨_,rfl,_,rfl,x,A,s,q,dd,rfl,Z.j,Z.g,by omega,hq,ok,λA3 H3 J3 fr3=>?_⟩;obtain⟨g3,n3,n4⟩:=aeP Z.g 1e1 ok;have od:=fr3.out Z.dx Z.d;exact⟨A3,_,_,rfl,J3,g3,aeS Z.g Z.l,by omega,od.1,od.2,λv m=>by obtain⟨q,dd,e,h,ok⟩:=Z.ds v m;exact⟨q,dd,e,fr3.tup _ _ h,ok⟩⟩
 rintro σ Hx ⟨A,s,v3,rfl,Z⟩;have nx:s.nxt<=76:=by have:=Z.n;omega
 obtain⟨g,l,J⟩:Gd s/\Lim s/\IH D Hx x A s:=⟨Z.g,Z.l,Z.j⟩;clear Z Z0 ldv;suffices hq:∀(A:HA) (s:HS) (Hx:Hp),s.nxt<=76->Gd s->Lim s->IH D Hx x A s->s.rnd=false->N5 [some 8e5,some 7e5,some (.ref l0),v3,none,none,none,none,none,none,none,none,none,none] Hx by
  refine⟨_,rfl,x,_,_,rfl,J.ax,1e4,x,A,s,rfl,J,_,rfl,?_⟩;by_cases c:s.rnd=true
  ·refine jQ c ⟨_,rfl,x,_,_,rfl,J.ax,1e4,x,A,s,rfl,J,g,?_⟩
   rw[show Tf s=(none,Iw s) from if_pos c];intro A1 H1 J1 fr1;exact hq A1 (Iw s) H1 nx g.fin (by have e:hw (Iw s).aJ<=hw s.aJ:=Pl aqE;have:=l.1;exact⟨by omega,l.2⟩) J1 rfl
  ·exact iU (aqt.mpr c) (hq A s Hx nx g l J (aqt.mpr c))
 clear J l g nx A s Hx;intro A s Hx nx g l J c;refine⟨_,rfl,x,_,_,rfl,J.ax,1e4,x,A,s,rfl,J,g,?_⟩;rw[show zO s=(none,Lp (eZ s)) from if_neg (by rw[c];decide)];intro A1 H1 J1 fr1;have g1:=g.small.beg rfl;refine⟨_,rfl,x,_,_,rfl,J1.ax,1e4,x,A1,_,rfl,J1,g1,?_⟩;rw[show Tf (Lp (eZ s))=(none,Iw (Lp (eZ s))) from if_pos rfl];intro A2 H2 J2 fr2;have G:=g1.fin.g;have led:=aae g;have l2:=XD l;replace nx:(Iw (Lp (eZ s))).nxt<=76:=nx;obtain⟨e,ee⟩:∃ e,Iw (Lp (eZ s))=e:=⟨_,rfl⟩;replace J2:IH D H2 x A2 e:=by rw[<-ee];exact J2
 have led:∀ t∈keys e,Led e.aZ (fld e) (keys e) t:=by rw[<-ee];exact led
 rw[ee]at G l2 nx;clear J1 fr1 fr2 g1 g l c J ee;have t4:tot (fl0 e) (keys e)<=400:=by have:=l2.1;rw[ab3 G];omega
 have nx9:e.nxt<=90:=by omega
 have lk:(keys e).length<=90:=by
  have:=G.sd
  unfold keys;rw[apR];omega
 have B:=Tp G nx9 t4;have S:=B.src;have y1:=apF G nx9 t4;intro m mx hm hmx ndm;refine⟨m,mx,400,rfl,ag,by decide,by decide,λc H3 B3 hc M3=>⟨rfl,?_⟩⟩;obtain⟨s3,hc0⟩:=Vd (D:=D) hm hmx B3 hc;clear B3 hc;refine⟨_,rfl,_,rfl,x,A2,e,m,mx,c,_,H2,rfl,J2,G,s3,hc0,M3,nx9,t4,λd kvs xs4 H4 hd0 b4 s4 zd dg M4=>?_⟩;have nfd:=(J2.same s3).fresh hd0;have nfc:=J2.fresh hc0;replace dg:Dg kvs (keys e) (gP e):=dg;replace M4:Mm D H4 m mx c xs4 (GK (List.replicate 400 .no) (tsP e)):=M4;have J4:=J2.same s4;clear b4 M3 s3 hm hmx;refine⟨_,rfl,x,_,_,rfl,J4.ax,1e4,x,A2,e,rfl,J4,G,λp5 H5 s5 hp5 z5=>⟨p5,rfl,⟨_,SqL.of z5⟩,λL1 hL1=>?_⟩⟩;refine jn (K:=K) (a:=p5) (xs:=A2.hx) (λi us Hd=>az H5 Hd/\Hd L1=some (.lst us)/\MR Hd us ((e.aZ.take i).map (wdM (gP e)))) ⟨az.upd hL1,ag,rfl,(λj v w h=>by cases h)⟩ (λi us Hd hi ⟨_,z,r⟩=>⟨z,by rw[r.1,apR,ap6];have:=J4.rhl.1;omega⟩) (λi us Hd _ ⟨sc,_⟩=>SqL.of (sc _ _ z5)) (by rw[J4.rhl.1,G.h8];decide) (λi v us Hd hi ⟨sc,z,r⟩=>?_) (λys H6 ⟨s6,z6,r6⟩=>?_)
 ·obtain⟨w',hw'⟩:∃ w',e.aZ[i]?=some w':=⟨e.aZ[i]'(by rw[<-J4.rhl.1];exact(apS.mp hi).1),apT _⟩
  refine⟨_,rfl,_,rfl,v,w',d,kvs,keys e,gP e,rfl,(J4.rhl.2 i v w' hi hw').keep (bI.of (s5.trans sc)),sc _ _ (s5 _ _ zd),dg,(λu eu=>mem_keys.mpr (G.hh u (by rw[<-eu];exact apW hw'))),λy He sd my=>⟨sd _ _ z,λb u q=>by rw[ah (ar q hL1)];exact sd _ _ (sc b u q),ag,?_⟩⟩;rw[dZ hw',ap3];exact((r.keep (bI.of sd)).snoc my).keep (bI.set (sd _ _ z) (by intro z y;cases y))
 rw[J4.rhl.1,apX (apV _)]at r6;have t6:=s5.trans s6;have J6:=J4.same t6;refine⟨_,rfl,x,_,_,rfl,J6.ax,1e4,x,A2,e,rfl,J6,G,λpb7 Hb7 sb7 hpb7 zb7=>⟨pb7,rfl,⟨_,SqL.of zb7⟩,λL2 hL2=>?_⟩⟩;refine jn (K:=K) (a:=pb7) (xs:=(keys e).map V.int) (λi us Hd=>az Hb7 Hd/\Hd L2=some (.lst us)/\Pr Hd us ((keys e).take i) (gP e)) ⟨az.upd hL2,ag,rfl,(λj u t h=>by cases h)⟩ (λi us Hd hi ⟨_,z,r⟩=>⟨z,by rw[r.1,ap6];rw[apR]at hi;omega⟩) (λi us Hd _ ⟨sc,_⟩=>SqL.of (sc _ _ zb7)) (by rw[apR];exact lN 1e1) (λi v us Hd hi ⟨sc,z,r⟩=>?_) (λps7 H7 ⟨s7,z7,r7⟩=>?_)
 ·rw[apZ]at hi
  obtain⟨t,ht,rfl⟩:=aqa.mp hi;refine⟨_,rfl,_,rfl,_,rfl,d,.int (gP e t),rfl,.inl ⟨kvs,Sum.inl t,.inl (sc _ _ (sb7 _ _ (t6 _ _ zd))),rfl,(dg.v t (apW ht)).symm⟩,by show 2<=sizeLine;decide,λq hq=>?_⟩;have s3:=az.upd (o:=.tup [V.int t,V.int ((gP e) t)]) hq;have z3:=s3 _ _ z;refine⟨z3,λb u y=>by rw[ah (ar y hL2)];exact s3 _ _ (sc b u y),ag,?_⟩;rw[dZ ht];exact(Prs.snoc (r.keep (bI.of s3)) (lY s3)).keep (bI.set z3 (by intro z y;cases y))
 rw[apR,apX (apV _)]at r7;have t7:=t6.trans (sb7.trans s7);have J7:=J4.same t7;have M7:=M4.same t7;have nmk:∀ t,some t∈e.names->t∈keys e:=λt m=>mem_keys.mpr (G.nn t m);refine⟨_,rfl,_,rfl,_,rfl,_,rfl,_,rfl,x,A2,e,d,kvs,keys e,gP e,rfl,J7,G,by rw[G.n8];decide,.inl (t7 _ _ zd),dg,nmk,λpn zs8 H8 s8 hpn zn rn=>?_⟩;have t8:=t7.trans s8;have hk:∀(i:Nat) (w:Wd),e.aZ[i]?=some w->∀ t,w=.th t->t∈keys e:=λi w h t et=>mem_keys.mpr (G.hh t (by rw[<-et];exact apW h));have nk:∀(i:Nat) (n:Option Int),e.names[i]?=some n->∀ t,nmW n=.th t->t∈keys e:=λi n h t et=>by
  cases n with
  | none=>cases et
  | some u=>cases et;exact nmk t (apW h)
 refine⟨_,rfl,x,A2,e,m,mx,c,xs4,_,L2,ps7,gP e,L1,pn,ys,zs8,rfl,⟨J4.same t8,G,M4.same t8,B.gm,y1.pic G,s8 _ _ z7,r7.keep (bI.of s8),by omega⟩,(sb7.trans (s7.trans s8)) _ _ z6,zn,by rw[r6.1,apR,G.h8],by rw[rn.1,apR,G.n8],(λi w y h1 h2=>⟨_,(r6.2 i y _ h2 (by rw[apZ,h1];rfl)).keep (bI.of (sb7.trans (s7.trans s8))),y1.lk (hk i w h1)⟩),(λi n y h1 h2=>⟨_,rn.2 i y _ h2 (by rw[apZ,h1];rfl),by rw[Yp];exact y1.lk (nk i n h1)⟩),λH9 s9=>⟨true,true,rfl,rfl,_,rfl,iU rfl ?_⟩⟩;have t9:=t8.trans s9;have z9:=s9 _ _ ((sb7.trans (s7.trans s8)) _ _ z6);have r9:=r6.keep (bI.of ((sb7.trans (s7.trans s8)).trans s9));have M9:=M4.same t9;have J9:=J4.same t9;have zd9:=t9 _ _ zd;have apQ:L1≠c:=λz=>by rw[z]at z9;rw[z,s5 _ _ M4.l]at hL1;cases hL1
 clear s9 t8 z7 r7 s8 hpn zn rn zb7 sb7 s7 hpb7 hL2 z6 s6 z5 hp5 r6 t6 J6 t7 J7 M7 J4 M4 s5 hL1 zd;intro m2 mx2 hm2 aah nd2;refine⟨m2,mx2,420,rfl,ag,by decide,by decide,λc2 H10 B10 hc2 M10=>⟨rfl,?_⟩⟩;obtain⟨s10,aa6⟩:=Vd (D:=D) hm2 aah B10 hc2;have ncc:c≠c2:=ar M9.l aa6;refine⟨_,rfl,_,rfl,_,rfl,L1,ys,rfl,.inl (SqL.of (s10 _ _ z9)),λl7 hl7=>?_⟩;have s11:=az.upd (o:=.lst ys) hl7;have t11:=s10.trans s11;refine⟨m,mx,c,_,_,m2,mx2,c2,_,_,7,l7,ys,e.aZ.map (wdM (gP e)),fOf (tsP e),tOf (tsP e),_,rfl,M9.same t11,M10.same s11,ncc,(λz=>by rw[z,s10 _ _ M9.l]at hl7;cases hl7),(λz=>by rw[z,M10.l]at hl7;cases hl7),B.gm,ag,r9.keep (bI.of t11),S,by decide,λR bf hB=>?_,?_⟩
 ·rw[aqn]
  have:=Yr G nx9 t4 bf.nd hB
  show(7:Int)+_<=((420:Nat):Int);omega
 intro R pp l8 ys8 l9 ps9 xs12 aa7 H12 bf hB b12 Ms Mt hl8 hl9 zpp zl8 r8 zl9 pr9;have rch:=Vb G nx9 t4 led bf;obtain⟨y2,gm2⟩:=apG G nx9 t4 led bf hB;obtain⟨g2,eg2⟩:∃ g2,plA (fOf (tsP e)) 7 R=g2:=⟨_,rfl⟩;rw[eg2]at y2 gm2 Mt r8 pr9;rw[show(e.aZ.map (wdM (gP e))).map (anew g2)=e.aZ.map (wdM λt=>g2 (gP e t)) by rw[aqv];exact aqD λw _=>R3 w]at r8;have ndR:=bf.nd;have lR:R.length<=100:=aqk (Pj ndR hB) S.bl;obtain⟨ws2,ew2⟩:∃ ws2,Ks (fOf (tsP e)) g2 (tOf (tsP e)) (List.replicate 420 .no) R=ws2:=⟨_,rfl⟩;replace Mt:Mm D H12 m2 mx2 c2 aa7 ws2:=by rw[<-ew2];exact Mt
 rw[ew2]at y2 gm2;have Ve:H12 d=some 3e0:=b12 d _ (ay zd9 M9.l 1e0) (ar zd9 aa6) (t11 _ _ zd9);have alq:=J9.fresh aa6;have J12:IH D H12 x A2 e:=(J9.same t11).keep (λb u fo q=>b12 b u (λz=>nfc (by rw[<-z];exact fo)) (λz=>alq (by rw[<-z];exact fo)) q) (λb us q=>b12 b _ (λz=>by rw[z,t11 _ _ M9.l]at q;cases q) (λz=>by rw[z,s11 _ _ M10.l]at q;cases q) q);clear Ms b12 M10 M9 J9 r9 z9 zd9 s10 s11 t11 hl7 hl8 hl9 ncc nfc alq aa6 hc2 B10 hm2 aah nd2 bf hB;refine⟨pp,_,rfl,SqT.of zpp,rfl,_,_,rfl,_,_,rfl,rfl,?_⟩;obtain⟨qs,eqs,pq⟩:=Pr.dict (ps:=ps9) (ks:=R) (g:=g2) pr9;refine⟨_,rfl,l9,qs,kvG R g2,rfl,by rw[<-eqs];exact zl9,pq,Gr ndR,λdd hdd=>λaf haf=>?_⟩;have s13:=az.upd (o:=.dK (kvG R g2)) hdd;have s14:=az.upd (o:=.dK []) haf;have s15:=s13.trans s14;have zdd:=s14 _ _ (lY s13);have zaf:=lY s14;generalize upd (upd H12 dd (.dK (kvG R g2))) af 6e1=H14 at s15 zdd zaf ⊢;have naf:H12 af=none:=az.none s13 haf;have ndd:dd≠d:=aqe (ar Ve hdd);have nad:dd≠af:=ar (lY s13) haf;clear s13 s14 haf hdd pq eqs pr9 zl9 zpp;have nda:d≠af:=ar Ve naf;refine⟨_,rfl,d,kvs,s15 _ _ Ve,λob=>⟨d,ob,kvs,rfl,ag,?_⟩⟩;have KX:∀ b u,b≠d->H14 b=some u->upd H14 d (.frz ob 3e0) b=some u:=λb u n q=>by rw[ah n];exact q
 have zfd:upd H14 d (.frz ob 3e0) d=some (.frz ob 3e0):=ag;generalize upd H14 d (.frz ob 3e0)=H15 at KX zfd ⊢;have aa8:=KX _ _ ndd zdd;have aa9:=KX _ _ (aqe nda) zaf;obtain⟨gg,egg⟩:∃ gg:Int->Int,(λt=>g2 (gP e t))=gg:=⟨_,rfl⟩;have hgg:∀ t,g2 (gP e t)=gg t:=λt=>by rw[<-egg]
 rw[egg]at y2 r8;have ek:=dg.k;have lkv:=ek.len;refine rP (d:=d) (o:=ob) (kvs:=kvs) (λi σ Hx=>∃(v13:Option V) (kva:List (Key×V)),σ=[some 8e5,some 7e5,some (.ref l0),v3,some (.ref m),some (.ref d),some (.ref L1),some (.ref L2),some (.ref m2),some (.ref l8),some (.ref l9),some (.ref dd),some (.ref af),v13]/\(∀ b u,b≠af->H15 b=some u->Hx b=some u)/\Hx af=some (.dK kva)/\Dg kva ((keys e).take i) gg) ⟨none,[],rfl,(λ_ _ _ q=>q),aa9,Dg.nil⟩ (λi σ Hx _ ⟨_,_,_,kx,_⟩=>kx _ _ nda zfd) ?_ ?_
 ·rintro i p σ Hx hi ⟨v13,kva,rfl,kx,zx,dga⟩
  obtain⟨t,ht,hkv,_⟩:=ek.at_ hi;rw[hkv];have mt:=apW ht;have mR:=rch t mt;have hat:=dg.v t mt;have zdx:=kx _ _ nda zfd;have zmx:=kx _ _ nad aa8;have gv:=O3 (g:=g2) mR;have na:=Kr (keys_nodup G) ht;have lka:=dga.k.len;rw[ap6]at lka;refine⟨_,rfl,_,rfl,d,_,rfl,.inl ⟨kvs,Sum.inl t,.inr ⟨ob,zdx⟩,rfl,hat.symm⟩,_,rfl,dd,_,rfl,.inl ⟨kvG R g2,Sum.inl (gP e t),.inl zmx,rfl,rfl⟩,_,rfl,iU (by rw[gv];rfl) ?_⟩;refine⟨_,rfl,_,rfl,_,rfl,d,_,rfl,.inl ⟨kvs,Sum.inl t,.inr ⟨ob,zdx⟩,rfl,hat.symm⟩,dd,_,rfl,.inl ⟨kvG R g2,Sum.inl (gP e t),.inl zmx,rfl,gv.symm⟩,_,rfl,_,rfl,af,_,rfl,Em.k (k:=Sum.inl t) zx (by rw[lka];exact oK 1e1),?_⟩;rw[hgg];refine⟨_,_,rfl,(λb u n q=>by rw[ah n];exact kx b u n q),ag,?_⟩;rw[dZ ht];exact dga.alp na
 rintro σ Hx ⟨v13,kva,rfl,kx,zx,dga⟩;rw[lkv,apX (apV _)]at dga;have KZ:∀ b u,b≠d->H12 b=some u->Hx b=some u:=λb u n q=>kx b u (ar q naf) (KX b u n (s15 _ _ q));have TZ:bI H12 Hx:=λb us q=>KZ b _ (λz=>by rw[z,Ve]at q;cases q) q;have Jz:IH D Hx x A2 e:=J12.keep (λb u fo q=>KZ b u (λz=>nfd (by rw[<-z];exact fo)) q) TZ;have Mz:Mm D Hx m2 mx2 c2 aa7 ws2:=⟨KZ _ _ (ay Mt.i Ve 1e0) Mt.i,KZ _ _ (ay Mt.l Ve 1e0) Mt.l,Mt.r.keep TZ,Mt.z⟩;have adX:=KZ _ _ (ay zl8 Ve 1e0) zl8;have r8x:=r8.keep TZ;have nfa:¬cL x A2 e af:=J12.fresh naf;clear KZ TZ KX kx J12 Mt zl8 r8 zfd aa8 aa9 zdd zaf Ve s15 naf ek lkv dg nda ndd nad nfd;refine⟨_,rfl,x,_,_,rfl,Jz.ax,1e4,x,A2,e,rfl,Jz,G,λalr Hb19 sb19 hpb19 zb19=>⟨alr,rfl,⟨_,SqL.of zb19⟩,λL3 hL3=>?_⟩⟩;refine jn (K:=K) (a:=alr) (xs:=(keys e).map V.int) (λi us Hd=>az Hb19 Hd/\Hd L3=some (.lst us)/\Pr Hd us ((keys e).take i) gg) ⟨az.upd hL3,ag,rfl,(λj u t h=>by cases h)⟩ (λi us Hd hi ⟨_,z,r⟩=>⟨z,by rw[r.1,ap6];rw[apR]at hi;omega⟩) (λi us Hd _ ⟨sc,_⟩=>SqL.of (sc _ _ zb19)) (by rw[apR];exact lN 1e1) (λi v us Hd hi ⟨sc,z,r⟩=>?_) (λapH H19 ⟨s19,z19,r19⟩=>?_)
 ·rw[apZ]at hi
  obtain⟨t,ht,rfl⟩:=aqa.mp hi;refine⟨_,rfl,_,rfl,_,rfl,af,.int (gg t),rfl,.inl ⟨kva,Sum.inl t,.inl (sc _ _ (sb19 _ _ zx)),rfl,(dga.v t (apW ht)).symm⟩,by show 2<=sizeLine;decide,λq hq=>?_⟩;have s3:=az.upd (o:=.tup [V.int t,V.int (gg t)]) hq;have z3:=s3 _ _ z;refine⟨z3,λb u y=>by rw[ah (ar y hL3)];exact s3 _ _ (sc b u y),ag,?_⟩;rw[dZ ht];exact(Prs.snoc (r.keep (bI.of s3)) (lY s3)).keep (bI.set z3 (by intro z y;cases y))
 rw[apR,apX (apV _)]at r19;have t19:=sb19.trans s19;have J19:=Jz.same t19;have Wx:=t19 _ _ zx;refine⟨_,rfl,af,kva,Wx,λoa=>⟨af,oa,kva,rfl,ag,?_⟩⟩;have KF:∀ b u,b≠af->H19 b=some u->upd H19 af (.frz oa (.dK kva)) b=some u:=λb u n q=>by rw[ah n];exact q
 have zf:upd H19 af (.frz oa (.dK kva)) af=some (.frz oa (.dK kva)):=ag;generalize upd H19 af (.frz oa (.dK kva))=H20 at KF zf ⊢;have TF:bI H19 H20:=λb us q=>KF b _ (λz=>by rw[z,Wx]at q;cases q) q;have J20:IH D H20 x A2 e:=J19.keep (λb u fo q=>KF b u (λz=>nfa (by rw[<-z];exact fo)) q) TF;have M20:Mm D H20 m2 mx2 c2 aa7 ws2:=by have M:=Mz.same t19;exact⟨KF _ _ (ay M.i Wx 1e0) M.i,KF _ _ (ay M.l Wx 1e0) M.l,M.r.keep TF,M.z⟩
 have apI:=KF _ _ (ay (t19 _ _ adX) Wx 1e0) (t19 _ _ adX);have r20:=(r8x.keep (bI.of t19)).keep TF;have apJ:=KF _ _ (ay z19 Wx 1e0) z19;have p20:=r19.keep TF;clear KF TF J19 Mz t19 adX r8x z19 r19 Wx Jz sb19 s19 zb19 hL3 hpb19 zx nfa;intro L4 hL4;have eka:=dga.k;have lka:=eka.len;refine zq (d:=af) (o:=oa) (kvs:=kva) (λi ys Hc=>ys=(((keys e).take i).map λt=>V.int (((fld e t).length:Int)+1))/\az H20 Hc/\Hc L4=some 5e0) ⟨rfl,az.upd hL4,ag⟩ (λi ys Hc hi ⟨ey,_,z⟩=>⟨z,by rw[ey,apR,ap6];omega⟩) (λi ys Hc _ ⟨_,sc,_⟩=>sc _ _ zf) (lN 1e1) (λi p ys Hc hi ⟨ey,sc,z⟩=>?_) (λys Hc ⟨ey,sc,z⟩=>?_)
 ·obtain⟨t,ht,hkv,_⟩:=eka.at_ hi
  rw[hkv];have mt:=apW ht;obtain⟨wd,mw⟩:=mem_keys.mp mt;obtain⟨t0,t1⟩:=G.lt t wd mw;have Jc:=J20.same sc;refine⟨_,rfl,x,_,_,rfl,Jc.ax,1e4,_,rfl,x,A2,e,t,rfl,Jc,G,Sm.of 1e1 1e1,(λ_ p3 H3 s3 hp3 z3=>?_),(λn=>absurd mt n)⟩;refine⟨p3,_,rfl,.inl (SqL.of z3),_,1,rfl,rfl,s3 _ _ z,?_,λb u q=>by rw[ah (ar q hL4)];exact s3 _ _ (sc b u q),ag⟩;rw[ey,dZ ht,ap3,(Jc.afl t wd mw).2.1];show _++[V.int ((wd.length:Int)+1)]=_++[V.int (((fld e t).length:Int)+1)];rw[pe G mw]
 rw[lka,apX (apV _)]at ey;refine⟨L4,(keys e).map λt=>((fld e t).length:Int)+1,rfl,SqL.of (by rw[z,ey,aqv];rfl),?_⟩;refine⟨_,rfl,x,_,_,rfl,(J20.same sc).ax,1e4,x,A2,e,rfl,J20.same sc,G,λH22 s22=>⟨rfl,_,rfl,iU (by rw[show V.int ((keys e).map λt=>((fld e t).length:Int)+1).sum=V.int (held e) from rfl];simp) ?_⟩⟩;have t22:=sc.trans s22;have J22:=J20.same t22;refine⟨_,rfl,_,rfl,_,rfl,_,rfl,_,rfl,x,A2,e,af,kva,keys e,gg,rfl,J22,G,by rw[G.n8];decide,.inr ⟨oa,t22 _ _ zf⟩,dga,nmk,λpn2 apK H23 s23 hpn2 zn2 rn2=>?_⟩;have t23:=t22.trans s23;refine⟨_,rfl,x,A2,e,m2,mx2,c2,aa7,ws2,L3,apH,gg,l8,pn2,ys8,apK,rfl,⟨J20.same t23,G,M20.same t23,gm2,y2.pic G,t23 _ _ apJ,p20.keep (bI.of t23),by omega⟩,t23 _ _ apI,zn2,by rw[r20.1,apR,G.h8],by rw[rn2.1,apR,G.n8],(λi w y h1 h2=>⟨_,(r20.2 i y _ h2 (by rw[apZ,h1];rfl)).keep (bI.of t23),y2.lk (hk i w h1)⟩),(λi n y h1 h2=>⟨_,rn2.2 i y _ h2 (by rw[apZ,h1];rfl),by rw[Yp];exact y2.lk (nk i n h1)⟩),λH24 s24=>⟨true,rfl,rfl,?_⟩⟩;exact k _
end
open PySem.W
section
variable{K:Frag}
noncomputable def LK(K:Frag)(n q:Str)(s:Stmt)(f:Addr):Prop:=(∃ d,Fun K n q s f d)/\keepIn K 7e4=true/\isFn K 7e4=true
theorem LK.mk{n q:Str}{s:Stmt}{f:Addr}{od an:Option Addr}{sl:Array (Option Value)}{oc kV dc pm cd ct:Value}(h1:K.lookup f=some ⟨oc,od,.func (fnOf n q (lP s) (aE s) (aq s) .none kV dc pm an cd ct),sl⟩)(h2:codeIn K cd q=true)(h3:keepIn K (.ref f)=true)(h4:isFn K (.ref f)=true):LK K n q s f:=⟨⟨_,abv (st:=s) h1 h2 h3⟩,h3,h4⟩
noncomputable def FI(K:Frag)(c:Addr)(n:Str)(f:Addr):Prop:=findIn K (.ref c) n=some (some 7e4)
noncomputable def NF(K:Frag)(c:Addr)(n:Str):Prop:=findIn K (.ref c) n=some none
structure PK(K:Frag)(c:Addr):Prop where
 g:plainGet K c Str.empty=true
 d:hasDictIn K c=true
 o:plainOver K c=true
 s:findIn K (.ref c) "__setattr__" = some (some (.builtin "object.__setattr__"))
 k:keepIn K (.ref c)=true
structure EK(K:Frag)(b e i:Addr):Prop where
 x:Pb K e=true
 a:findIn K (.ref e) "__getattribute__" = some (some (.builtin "BaseException.__getattribute__"))
 t:findIn K (.ref e) "__getattr__" = some none
 c:findIn K (.ref e) "__class__" = some (some (.builtin "object.__class__"))
 i:findIn K (.ref e) "__init__" = some (some (.ref i))
 k:keepIn K (.ref e)=true
 v:kitOne K (.ref e) 3e5=some true
 s:mroIn K e (.ref b)=some true
end
theorem all_mk{l:OpenLaw}{w:World}{K:Frag}{h:Heap}{mg:Str->Option Value}{fa aM cU bM eT fu bj j7 bR hU iM iN bo aN aH ba ab bS au cV cW cv cw dH bu cX cY fg di eF cQ d8 hW cq bB dB cN cZ G6 jN jO iE fz dC nJ gr dD fA fB iF dS cO bT fQ iD fP fM gL bp bX dU cH gu bY dW dr bN cI cP cu gW fN gX gY eC gZ bU g4 bK dF bC br bF fF bZ dX dY fq eh dM c7 bV cy dI bG cz cA bL aQ du dw eD eU fO aX gx eG cB eI c9 bH bO j8 iH iI eJ iJ gy iK dE iL gz jm:Addr}{Kb qd oA qe qf qg mU:Tok}(X:K.In h)(G:h.Ns mainGlobals mg)(hfa:mg "law" = some (.ref fa))
  (nH:nsIn K mainGlobals "HeapError" = some (some (.ref aM)))
  (xH:Pb K aM=true)
  (Jf:nsIn K mainGlobals "number_value" = some (some (.ref eF)))
  (LC:nsIn K mainGlobals "thing_value" = some (some (.ref cQ)))
  (VV:nsIn K mainGlobals "kind_of" = some (some (.ref d8)))
  (Tr:nsIn K mainGlobals "words_of" = some (some (.ref hW)))
  (EU:nsIn K mainGlobals "look_at_number" = some (some (.ref cq)))
  (Jg:nsIn K mainGlobals "look_at_hand" = some (some (.ref bB)))
  (Jh:nsIn K mainGlobals "look_at_name" = some (some (.ref dB)))
  (HI:nsIn K mainGlobals "look_at_field" = some (some (.ref cN)))
  (EV:nsIn K mainGlobals "look_at_limits" = some (some (.ref cZ)))
  (aeV:nsIn K mainGlobals "lay" = some (some (.ref G6)))
  (Ts:nsIn K mainGlobals "thing_at" = some (some (.ref jN)))
  (Tt:nsIn K mainGlobals "resolved" = some (some (.ref jO)))
  (Qs:nsIn K mainGlobals "fields_at" = some (some (.ref iE)))
  (LD:nsIn K mainGlobals "fields_told" = some (some (.ref fz)))
  (Ji:nsIn K mainGlobals "look_at_room" = some (some (.ref dC)))
  (XE:nsIn K mainGlobals "copied" = some (some (.ref nJ)))
  (NX:nsIn K mainGlobals "things_met" = some (some (.ref gr)))
  (Jj:nsIn K mainGlobals "address_told" = some (some (.ref dD)))
  (LF:nsIn K mainGlobals "words_among" = some (some (.ref fA)))
  (LG:nsIn K mainGlobals "places_from" = some (some (.ref fB)))
  (Qt:nsIn K mainGlobals "told_anew" = some (some (.ref iF)))
  (NY:nsIn K mainGlobals "last_steps" = some (some (.ref gu)))
  (LH:nsIn K mainGlobals "thing_among" = some (some (.ref fF)))
  (NZ:nsIn K mainGlobals "is_picture" = some (some (.ref gx)))
  (Jk:nsIn K mainGlobals "first_unlike" = some (some (.ref eG)))
  (Cz:nsIn K mainGlobals "first_misplaced" = some (some (.ref cB)))
  (Jl:nsIn K mainGlobals "addresses_of" = some (some (.ref eI)))
  (EW:nsIn K mainGlobals "first_headless" = some (some (.ref c9)))
  (wN:nsIn K mainGlobals "first_unlike_field" = some (some (.ref bH)))
  (yO:nsIn K mainGlobals "first_unlike_word" = some (some (.ref bO)))
  (VW:nsIn K mainGlobals "is_like" = some (some (.ref j8)))
  (Qu:nsIn K mainGlobals "place_met" = some (some (.ref iH)))
  (Qv:nsIn K mainGlobals "_law_cell" = some (some (.ref iI)))
  (Jm:nsIn K mainGlobals "_law_numbers" = some (some (.ref eJ)))
  (Qw:nsIn K mainGlobals "_law_deed" = some (some (.ref iJ)))
  (N0:nsIn K mainGlobals "_law_plain" = some (some (.ref gy)))
  (Qx:nsIn K mainGlobals "_law_done" = some (some (.ref iK)))
  (Jn:nsIn K mainGlobals "_law_word_of" = some (some (.ref dE)))
  (Qy:nsIn K mainGlobals "_law_laid" = some (some (.ref iL)))
  (Oa:nsIn K mainGlobals "_law_names" = some (some (.ref gz)))
  (aba:nsIn K mainGlobals "law" = some (some (.ref jm)))
  (XF:nsIn K mainGlobals "Hands" = some (some (.ref bo)))
  (yP:PK K bo)
  (XG:FI K bo "__init__" dS)
  (KN:makesIn K bo=true)
  (yQ:NF K bo "words_held")
  (EX:FI K bo "word_in" cO)
  (AD:FI K bo "all_words" bT)
  (Ob:FI K bo "put" fQ)
  (LI:FI K bo "copy" iD)
  (HJ:FI K bo "number" fP)
  (LJ:FI K bo "kind" fM)
  (Jo:FI K bo "value" gL)
  (AE:FI K bo "thing_due" bp)
  (Oc:nsIn K mainGlobals "WordTable" = some (some (.ref aN)))
  (nC:PK K aN)
  (Od:FI K aN "__init__" bX)
  (u5:makesIn K aN=true)
  (so:NF K aN "words_borne")
  (tP:NF K aN "words_said")
  (CA:FI K aN "bear" dU)
  (yR:FI K aN "settle" cH)
  (Oe:nsIn K mainGlobals "NameTable" = some (some (.ref aH)))
  (nD:PK K aH)
  (Of:FI K aH "__init__" bY)
  (u6:makesIn K aH=true)
  (rJ:NF K aH "things_named")
  (CB:FI K aH "name" dW)
  (AF:FI K aH "named" dr)
  (uD:FI K aH "all_named" bN)
  (yS:FI K aH "settle" cI)
  (aai:nsIn K mainGlobals "Heap" = some (some (.ref ba)))
  (EY:PK K ba)
  (aaj:FI K ba "__init__" cP)
  (UN:makesIn K ba=true)
  (yT:NF K ba "makes_young")
  (EZ:NF K ba "in_hands")
  (AG:NF K ba "weak_names")
  (AH:NF K ba "last_words")
  (yU:NF K ba "fields_held")
  (wO:NF K ba "young_things")
  (AI:NF K ba "next_thing")
  (CC:FI K ba "add_thing" cu)
  (Og:FI K ba "load" gW)
  (LL:FI K ba "store" fN)
  (Oh:FI K ba "copy" gX)
  (Oi:FI K ba "drop" gY)
  (Jp:FI K ba "number" eC)
  (Oj:FI K ba "name" gZ)
  (AJ:FI K ba "read_thing" bU)
  (Ol:FI K ba "word" g4)
  (yV:FI K ba "small_round" bK)
  (Jq:FI K ba "let_go" dF)
  (wQ:FI K ba "look_at_held" bC)
  (yW:FI K ba "words_among" br)
  (CD:FI K ba "led_among" bF)
  (aak:readsIn K ba (.type "type")=true)
  (aal:findCls K (.ref ba) (.type "type") "__init__" = some (.val (.ref cP)))
  (aam:specialIn K (.ref ba) "__getattribute__" = some (some (.builtin "type.__getattribute__")))
  (Om:nsIn K mainGlobals "IdealHeap" = some (some (.ref ab)))
  (nE:PK K ab)
  (Oo:FI K ab "__init__" bZ)
  (u7:makesIn K ab=true)
  (sr:NF K ab "makes_young")
  (vU:NF K ab "in_hands")
  (tQ:NF K ab "weak_names")
  (tR:NF K ab "last_words")
  (sv:NF K ab "fields_held")
  (rK:NF K ab "young_things")
  (tS:NF K ab "next_thing")
  (tT:NF K ab "young_room")
  (AK:NF K ab "limit")
  (qw:NF K ab "doomed_things")
  (vV:NF K ab "in_round")
  (uE:FI K ab "add_thing" cu)
  (CF:FI K ab "load" gW)
  (AL:FI K ab "store" fN)
  (CG:FI K ab "copy" gX)
  (CI:FI K ab "drop" gY)
  (yX:FI K ab "number" eC)
  (CJ:FI K ab "name" gZ)
  (tU:FI K ab "read_thing" bU)
  (CK:FI K ab "word" g4)
  (sC:FI K ab "small_round" bK)
  (yY:FI K ab "let_go" dF)
  (rL:FI K ab "look_at_held" bC)
  (sD:FI K ab "words_among" br)
  (uF:FI K ab "led_among" bF)
  (CL:FI K ab "make" dX)
  (CM:FI K ab "read" dY)
  (CN:FI K ab "kind" fq)
  (AM:FI K ab "value" eh)
  (yZ:FI K ab "fields" dM)
  (CO:FI K ab "held" c7)
  (AN:FI K ab "small" bV)
  (AO:FI K ab "begin" cy)
  (E0:FI K ab "end" dI)
  (vW:FI K ab "round_on" bG)
  (AQ:FI K ab "hands" cz)
  (AR:FI K ab "names" cA)
  (y8:FI K ab "things" bL)
  (uG:FI K ab "fields_of" aQ)
  (AS:FI K ab "spare" du)
  (VX:nsIn K mainGlobals "Memory" = some (some (.ref bS)))
  (uH:PK K bS)
  (VY:FI K bS "__init__" dw)
  (zt:makesIn K bS=true)
  (HK:NF K bS "cells")
  (Jr:FI K bS "size" eD)
  (Oq:FI K bS "at" eU)
  (LM:FI K bS "put" fO)
  (rM:FI K bS "look_at_address" aX)
  (Tu:nsIn K mainGlobals "BadCount" = some (some (.ref cU)))
  (fi0:FI K cU "__init__" au)
  (jE:EK K aM cU au)
  (Qz:FI K cU "called" cw)
  (VZ:nsIn K mainGlobals "BadHand" = some (some (.ref bM)))
  (kI:EK K aM bM au)
  (Tv:FI K bM "called" cV)
  (V0:nsIn K mainGlobals "BadName" = some (some (.ref eT)))
  (kJ:EK K aM eT au)
  (Tw:FI K eT "called" cW)
  (Tx:nsIn K mainGlobals "BadField" = some (some (.ref fu)))
  (jF:EK K aM fu au)
  (QA:FI K fu "called" cv)
  (Ot:nsIn K mainGlobals "BadAddress" = some (some (.ref bj)))
  (gU:EK K aM bj au)
  (LN:FI K bj "called" di)
  (XH:nsIn K mainGlobals "NoRoom" = some (some (.ref j7)))
  (lZ:EK K aM j7 au)
  (V1:FI K j7 "called" dH)
  (Js:nsIn K mainGlobals "TooManyWords" = some (some (.ref bR)))
  (eP:EK K aM bR au)
  (HL:FI K bR "called" bu)
  (V2:nsIn K mainGlobals "BadView" = some (some (.ref hU)))
  (kK:EK K aM hU au)
  (Tz:FI K hU "called" fg)
  (V3:nsIn K mainGlobals "RoundOn" = some (some (.ref iM)))
  (kL:EK K aM iM au)
  (TB:FI K iM "called" cX)
  (V4:nsIn K mainGlobals "NoRound" = some (some (.ref iN)))
  (kM:EK K aM iN au)
  (TC:FI K iN "called" cY)
  (wU:LK K "__init__" "HeapError.__init__" ka au)
  (E1:LK K "called" "BadHand.called" tY cV)
  (E3:LK K "called" "BadName.called" tZ cW)
  (CP:LK K "called" "BadField.called" rR cv)
  (CQ:LK K "called" "BadCount.called" rS cw)
  (HM:LK K "called" "NoRoom.called" vv dH)
  (vX:LK K "called" "TooManyWords.called" nG bu)
  (E4:LK K "called" "RoundOn.called" ua cX)
  (E8:LK K "called" "NoRound.called" ub cY)
  (Fb:LK K "called" "BadView.called" uc fg)
  (y9:LK K "called" "BadAddress.called" pV di)
  (Jt:LK K "number_value" "number_value" qI eF)
  (LO:LK K "thing_value" "thing_value" sV cQ)
  (V5:LK K "kind_of" "kind_of" zr d8)
  (TH:LK K "words_of" "words_of" Bq hW)
  (Fc:LK K "look_at_number" "look_at_number" nM cq)
  (Ju:LK K "look_at_hand" "look_at_hand" qJ bB)
  (Jv:LK K "look_at_name" "look_at_name" qK dB)
  (HN:LK K "look_at_field" "look_at_field" pM cN)
  (Fd:LK K "look_at_limits" "look_at_limits" nN cZ)
  (aeW:LK K "lay" "lay" Y2 G6)
  (TJ:LK K "thing_at" "thing_at" vw jN)
  (TK:LK K "resolved" "resolved" Br jO)
  (QB:LK K "fields_at" "fields_at" xF iE)
  (LP:LK K "fields_told" "fields_told" sW fz)
  (Jw:LK K "look_at_room" "look_at_room" qL dC)
  (XI:LK K "copied" "copied" uL nJ)
  (Ou:LK K "things_met" "things_met" uR gr)
  (JA:LK K "address_told" "address_told" qM dD)
  (LQ:LK K "words_among" "words_among" oz fA)
  (LR:LK K "places_from" "places_from" sX fB)
  (QC:LK K "told_anew" "told_anew" xG iF)
  (Fe:LK K "__init__" "Hands.__init__" nO dS)
  (HP:LK K "word_in" "Hands.word_in" pN cO)
  (CS:LK K "all_words" "Hands.all_words" me bT)
  (QD:LK K "put" "Hands.put" xI fQ)
  (Ov:LK K "copy" "Hands.copy" uS iD)
  (JB:LK K "number" "Hands.number" qN fP)
  (Ow:LK K "kind" "Hands.kind" uT fM)
  (LS:LK K "value" "Hands.value" sY gL)
  (CT:LK K "thing_due" "Hands.thing_due" mh bp)
  (wV:LK K "__init__" "WordTable.__init__" kc bX)
  (Ff:LK K "bear" "WordTable.bear" nP dU)
  (AU:LK K "settle" "WordTable.settle" lA cH)
  (Ox:LK K "last_steps" "last_steps" uU gu)
  (wW:LK K "__init__" "NameTable.__init__" ke bY)
  (Fg:LK K "name" "NameTable.name" nQ dW)
  (CU:LK K "named" "NameTable.named" mj dr)
  (vY:LK K "all_named" "NameTable.all_named" jT bN)
  (AV:LK K "settle" "NameTable.settle" js cI)
  (HQ:LK K "__init__" "Heap.__init__" pO cP)
  (Fh:LK K "add_thing" "Heap.add_thing" nR cu)
  (QE:LK K "load" "Heap.load" xJ gW)
  (Oy:LK K "store" "Heap.store" uV fN)
  (QF:LK K "copy" "Heap.copy" xK gX)
  (QG:LK K "drop" "Heap.drop" xM gY)
  (LU:LK K "number" "Heap.number" sZ eC)
  (QH:LK K "name" "Heap.name" xN gZ)
  (CV:LK K "read_thing" "Heap.read_thing" mz bU)
  (QI:LK K "word" "Heap.word" xO g4)
  (AW:LK K "small_round" "Heap.small_round" jt bK)
  (LV:LK K "let_go" "Heap.let_go" tf dF)
  (za:LK K "look_at_held" "Heap.look_at_held" kR bC)
  (AX:LK K "words_among" "Heap.words_among" ju br)
  (Fi:LK K "led_among" "Heap.led_among" iY bF)
  (LW:LK K "thing_among" "thing_among" tj fF)
  (wX:LK K "__init__" "IdealHeap.__init__" kf bZ)
  (Fj:LK K "make" "IdealHeap.make" nS dX)
  (Fl:LK K "read" "IdealHeap.read" nU dY)
  (Fm:LK K "kind" "IdealHeap.kind" nV fq)
  (CW:LK K "value" "IdealHeap.value" mB eh)
  (AY:LK K "fields" "IdealHeap.fields" lB dM)
  (Fn:LK K "held" "IdealHeap.held" nW c7)
  (CY:LK K "small" "IdealHeap.small" mC bV)
  (CZ:LK K "begin" "IdealHeap.begin" mD cy)
  (HR:LK K "end" "IdealHeap.end" pP dI)
  (wY:LK K "round_on" "IdealHeap.round_on" kg bG)
  (C0:LK K "hands" "IdealHeap.hands" mE cz)
  (C1:LK K "names" "IdealHeap.names" mF cA)
  (AZ:LK K "things" "IdealHeap.things" lC bL)
  (vZ:LK K "fields_of" "IdealHeap.fields_of" jU aQ)
  (C2:LK K "spare" "IdealHeap.spare" mG du)
  (C3:LK K "__init__" "Memory.__init__" mI dw)
  (LY:LK K "size" "Memory.size" tm eD)
  (QJ:LK K "at" "Memory.at" xP eU)
  (Oz:LK K "put" "Memory.put" uW fO)
  (sE:LK K "look_at_address" "Memory.look_at_address" iB aX)
  (OA:LK K "is_picture" "is_picture" uX gx)
  (JC:LK K "first_unlike" "first_unlike" kn eG)
  (C4:LK K "first_misplaced" "first_misplaced" mJ cB)
  (JD:LK K "addresses_of" "addresses_of" mT eI)
  (Fo:LK K "first_headless" "first_headless" nX c9)
  (wZ:LK K "first_unlike_field" "first_unlike_field" kh bH)
  (zb:LK K "first_unlike_word" "first_unlike_word" kS bO)
  (V6:LK K "is_like" "is_like" Gj j8)
  (QK:LK K "place_met" "place_met" xQ iH)
  (QL:LK K "_law_cell" "_law_cell" xR iI)
  (JE:LK K "_law_numbers" "_law_numbers" qO eJ)
  (QM:LK K "_law_deed" "_law_deed" xS iJ)
  (OB:LK K "_law_plain" "_law_plain" uY gy)
  (QN:LK K "_law_done" "_law_done" xU iK)
  (JF:LK K "_law_word_of" "_law_word_of" qP dE)
  (QO:LK K "_law_laid" "_law_laid" xV iL)
  (OC:LK K "_law_names" "_law_names" uZ gz)
  (aeX:LK K "law" "law" aU jm)
  (lM:nsIn K mainGlobals "len" = some none)
  (zH:nsIn K mainGlobals "range" = some none)
  (wB:nsIn K mainGlobals "list" = some none)
  (D5:nsIn K mainGlobals "sorted" = some none)
  (SV:nsIn K mainGlobals "sum" = some none)
  (Y4:nsIn K mainGlobals "abs" = some none)
  (jC:nsIn K mainGlobals "enumerate" = some none)
  (ve:nsIn K mainGlobals "ValueError" = some none)
  (Lc:nsIn K mainGlobals "dict" = some none)
  (Ke:nsIn K mainGlobals "HANDS" = some (some (.int 8 Kb)))
  (qk:nsIn K mainGlobals "WEAK_NAMES" = some (some (.int 8 qd)))
  (tG:nsIn K mainGlobals "MOST_FIELDS" = some (some (.int 6 oA)))
  (ql:nsIn K mainGlobals "LEAST_ROOM" = some (some (.int 7 qe)))
  (vg:nsIn K mainGlobals "MOST_YOUNG" = some (some (.int 64 qf)))
  (vh:nsIn K mainGlobals "MOST_LIMIT" = some (some (.int 400 qg)))
  (m7:nsIn K mainGlobals "MOST_BEARERS" = some (some (.int 12 mU))) :
  ∃ fd:FuncData,(∀(s:Shared) (v:Value),BindsTo s fd ⟨[v],[]⟩ [("script",v)])/\∀ base:Heap,K.In base->base.Ns mainGlobals mg->Ej l.prog w K mg base (CXE l.prog w) 12 fa fd ["script"] (Wj K):=by
 have e:=(mg_of X G aba).symm.trans hfa;cases e;obtain⟨cdH,_,yH⟩:=nL xH;obtain⟨GL,QP,BB⟩:=nL jE.x;obtain⟨Ku,TL,Gv⟩:=nL kI.x;obtain⟨Kv,TM,Gw⟩:=nL kJ.x;obtain⟨GN,QQ,BC⟩:=nL jF.x;obtain⟨zS,LZ,vo⟩:=nL gU.x;obtain⟨M0,V7,K2⟩:=nL lZ.x;obtain⟨vG,HU,ra⟩:=nL eP.x;obtain⟨Kx,TN,Gx⟩:=nL kK.x;obtain⟨Ky,TQ,Gy⟩:=nL kL.x;obtain⟨Kz,TR,Gz⟩:=nL kM.x;have su:∀ {D:Addr} {cd:ClassData},clsIn K D=some cd->jL K D cd->mroIn K D (.ref aM)=some true->∃ cd,jL K D cd/\cd.mro.contains (.ref aM)=true:=λ{D cd} hc y sb=>⟨cd,y,by
  unfold mroIn at sb;rw[hc,Option.bind_some,if_neg (by rw[y.KH];decide)]at sb;exact aqh sb⟩
 have m:=λ{n:Str} {v:Value} (q:nsIn K mainGlobals n=some (some v))=>mg_of X G q;obtain⟨⟨aA,w8⟩,Pm,bg⟩:=wU;obtain⟨⟨gF,Fp⟩,Fq,Fs⟩:=E1;obtain⟨⟨gG,Ft⟩,Fu,Fv⟩:=E3;obtain⟨⟨fR,C5⟩,C6,C7⟩:=CP;obtain⟨⟨fS,C8⟩,C9,De⟩:=CQ;obtain⟨⟨hX,HV⟩,HW,HX⟩:=HM;obtain⟨⟨dz,wa⟩,wc,we⟩:=vX;obtain⟨⟨gH,Fw⟩,Fx,Fy⟩:=E4;obtain⟨⟨gI,Fz⟩,FA,FC⟩:=E8;obtain⟨⟨kC,FD⟩,FE,FF⟩:=Fb;obtain⟨⟨iS,zc⟩,ze,zg⟩:=y9;obtain⟨⟨ko,JG⟩,qR,WB⟩:=Jt;obtain⟨⟨gJ,L0⟩,jY,Ys⟩:=LO;obtain⟨⟨hV,Na⟩,j9,ab7⟩:=V5;obtain⟨⟨lK,TU⟩,rF,abb⟩:=TH;obtain⟨⟨gK,FG⟩,kF,Vf⟩:=Fc;obtain⟨⟨cK,JH⟩,eK,WC⟩:=Ju;obtain⟨⟨jb,JI⟩,mV,WD⟩:=Jv;obtain⟨⟨hZ,HY⟩,lq,Wm⟩:=HN;obtain⟨⟨iZ,FH⟩,oe,Vg⟩:=Fd;obtain⟨⟨Sy,aeY⟩,Y3,apN⟩:=aeW;obtain⟨⟨rC,TV⟩,Bx,abc⟩:=TJ;obtain⟨⟨rD,TX⟩,By,abd⟩:=TK;obtain⟨⟨ph,QR⟩,xX,aaq⟩:=QB;obtain⟨⟨kZ,L5⟩,tD,Yt⟩:=LP;obtain⟨⟨jc,JJ⟩,mW,WE⟩:=Jw;obtain⟨⟨yv,XJ⟩,KO,adZ⟩:=XI;obtain⟨⟨nj,OD⟩,u9,Zi⟩:=Ou;obtain⟨⟨jd,JK⟩,mX,WG⟩:=JA;obtain⟨⟨k6,L6⟩,tE,Yu⟩:=LQ;obtain⟨⟨k8,L7⟩,tF,Yv⟩:=LR;obtain⟨⟨pj,QS⟩,sN,aar⟩:=QC;obtain⟨⟨i0,FJ⟩,Vh,FK⟩:=Fe;obtain⟨⟨gb,HZ⟩,Ia,Ib⟩:=HP;obtain⟨⟨ed,Df⟩,Dh,Di⟩:=CS;obtain⟨⟨jB,QT⟩,QU,QV⟩:=QD;obtain⟨⟨nr,OE⟩,OF,OG⟩:=Ov;obtain⟨⟨kq,JL⟩,JM,JN⟩:=JB;obtain⟨⟨jG,OH⟩,OI,OJ⟩:=Ow;obtain⟨⟨k9,L8⟩,L9,Ma⟩:=LS;obtain⟨⟨cx,Dj⟩,Dk,Dm⟩:=CT;obtain⟨⟨fD,xa⟩,Pn,xb⟩:=wV;obtain⟨⟨i3,FL⟩,FO,FP⟩:=Ff;obtain⟨⟨g5,A0⟩,A5,A7⟩:=AU;obtain⟨⟨nv,OK⟩,va,Zj⟩:=Ox;obtain⟨⟨fE,xg⟩,Po,xh⟩:=wW;obtain⟨⟨i4,FQ⟩,FR,FT⟩:=Fg;obtain⟨⟨ir,Dn⟩,Dp,Dq⟩:=CU;obtain⟨⟨eR,wg⟩,wj,wk⟩:=vY;obtain⟨⟨g7,A8⟩,A9,Ba⟩:=AV;obtain⟨⟨jP,Ic⟩,Ie,Ig⟩:=HQ;obtain⟨⟨i6,FU⟩,uf,ug⟩:=Fh;obtain⟨⟨pk,QW⟩,GO,GP⟩:=QE;obtain⟨⟨ny,OL⟩,DW,DX⟩:=Oy;obtain⟨⟨pw,QX⟩,GQ,GR⟩:=QF;obtain⟨⟨pA,QY⟩,GS,GU⟩:=QG;obtain⟨⟨lg,Mb⟩,zU,zV⟩:=LU;obtain⟨⟨pB,QZ⟩,GV,GW⟩:=QH;obtain⟨⟨iu,Dr⟩,sh,si⟩:=CV;obtain⟨⟨pD,Q0⟩,GX,GY⟩:=QI;obtain⟨⟨g9,Bb⟩,qE,qF⟩:=AW;obtain⟨⟨jW,Md⟩,zW,zX⟩:=LV;obtain⟨⟨gj,zh⟩,pZ,p9⟩:=za;obtain⟨⟨eX,Bc⟩,qG,qH⟩:=AX;obtain⟨⟨fi,FV⟩,uh,ui⟩:=Fi;obtain⟨⟨lh,Me⟩,oH,Yw⟩:=LW;obtain⟨⟨fG,xi⟩,Pp,xj⟩:=wX;obtain⟨⟨i7,FW⟩,FX,FY⟩:=Fj;obtain⟨⟨i8,FZ⟩,F5,F6⟩:=Fl;obtain⟨⟨kD,F7⟩,F8,F9⟩:=Fm;obtain⟨⟨j4,Ds⟩,Dt,Du⟩:=CW;obtain⟨⟨jv,Bd⟩,Be,Bf⟩:=AY;obtain⟨⟨gM,Ga⟩,Gb,Ge⟩:=Fn;obtain⟨⟨eB,Dv⟩,Dw,Dx⟩:=CY;obtain⟨⟨fT,Dy⟩,Dz,DA⟩:=CZ;obtain⟨⟨ia,Ih⟩,Ii,Ij⟩:=HR;obtain⟨⟨dP,xk⟩,xm,xn⟩:=wY;obtain⟨⟨fU,DB⟩,DC,DD⟩:=C0;obtain⟨⟨fV,DE⟩,DF,DG⟩:=C1;obtain⟨⟨dN,Bg⟩,Bh,Bi⟩:=AZ;obtain⟨⟨bw,wm⟩,wo,wq⟩:=vZ;obtain⟨⟨iw,DH⟩,DI,DJ⟩:=C2;obtain⟨⟨iy,DK⟩,T6,DL⟩:=C3;obtain⟨⟨iP,Mf⟩,Mg,Mh⟩:=LY;obtain⟨⟨iG,Q1⟩,Q2,Q3⟩:=QJ;obtain⟨⟨jH,OM⟩,ON,OP⟩:=Oz;obtain⟨⟨ck,sG⟩,sI,sJ⟩:=sE;obtain⟨⟨nz,OQ⟩,qi,Zk⟩:=OA;obtain⟨⟨kr,JO⟩,qS,WH⟩:=JC;obtain⟨⟨iA,DM⟩,mK,T7⟩:=C4;obtain⟨⟨ku,JP⟩,mY,WI⟩:=JD;obtain⟨⟨i9,Gf⟩,og,Vi⟩:=Fo;obtain⟨⟨fH,xo⟩,kj,Pq⟩:=wZ;obtain⟨⟨gk,zi⟩,iT,R4⟩:=zb;obtain⟨⟨rk,V8⟩,zu,ab8⟩:=V6;obtain⟨⟨pE,Q4⟩,xY,aas⟩:=QK;obtain⟨⟨pF,Q5⟩,xZ,aat⟩:=QL;obtain⟨⟨kz,JQ⟩,qT,WJ⟩:=JE;obtain⟨⟨pG,Q7⟩,x8,aau⟩:=QM;obtain⟨⟨nA,OR⟩,vc,Zl⟩:=OB;obtain⟨⟨pH,Q8⟩,x9,aav⟩:=QN;obtain⟨⟨je,JR⟩,mZ,WK⟩:=JF;obtain⟨⟨pI,Q9⟩,ya,aaw⟩:=QO;obtain⟨⟨nB,OS⟩,qj,Zm⟩:=OC;obtain⟨⟨Sz,abe⟩,aaX,apO⟩:=aeX
 let D:Ad:=⟨aM,cU,bM,eT,fu,bj,j7,bR,hU,iM,iN,bo,aN,aH,ba,ab,bS,au,aA,cV,gF,cW,gG,cv,fR,cw,fS,dH,hX,bu,dz,cX,gH,cY,gI,fg,kC,di,iS,eF,ko,cQ,gJ,d8,hV,hW,lK,cq,gK,bB,cK,dB,jb,cN,hZ,cZ,iZ,G6,Sy,jN,rC,jO,rD,iE,ph,fz,kZ,dC,jc,nJ,yv,gr,nj,dD,jd,fA,k6,fB,k8,iF,pj,dS,i0,cO,gb,bT,ed,fQ,jB,iD,nr,fP,kq,fM,jG,gL,k9,bp,cx,bX,fD,dU,i3,cH,g5,gu,nv,bY,fE,dW,i4,dr,ir,bN,eR,cI,g7,cP,jP,cu,i6,gW,pk,fN,ny,gX,pw,gY,pA,eC,lg,gZ,pB,bU,iu,g4,pD,bK,g9,dF,jW,bC,gj,br,eX,bF,fi,fF,lh,bZ,fG,dX,i7,dY,i8,fq,kD,eh,j4,dM,jv,c7,gM,bV,eB,cy,fT,dI,ia,bG,dP,cz,fU,cA,fV,bL,dN,aQ,bw,du,iw,dw,iy,eD,iP,eU,iG,fO,jH,aX,ck,gx,nz,eG,kr,cB,iA,eI,ku,c9,i9,bH,fH,bO,gk,j8,rk,iH,pE,iI,pF,eJ,kz,iJ,pG,gy,nA,iK,pH,dE,je,iL,pI,gz,nB,fa,Sz,Kb,qd,oA,qe,qf,qg,mU⟩
 have T:Txt K mg D:=⟨⟨cdH,yH⟩,m nH,m Tu,⟨⟨GL,BB⟩,⟨jE.a,jE.t⟩,jE.c⟩,⟨⟨GL,BB⟩,jE.i,bg,jE.k⟩,jE.v,su QP BB jE.s,⟨Qz,De,C9⟩,m VZ,⟨⟨Ku,Gv⟩,⟨kI.a,kI.t⟩,kI.c⟩,⟨⟨Ku,Gv⟩,kI.i,bg,kI.k⟩,kI.v,su TL Gv kI.s,⟨Tv,Fs,Fq⟩,m V0,⟨⟨Kv,Gw⟩,⟨kJ.a,kJ.t⟩,kJ.c⟩,⟨⟨Kv,Gw⟩,kJ.i,bg,kJ.k⟩,kJ.v,su TM Gw kJ.s,⟨Tw,Fv,Fu⟩,m Tx,⟨⟨GN,BC⟩,⟨jF.a,jF.t⟩,jF.c⟩,⟨⟨GN,BC⟩,jF.i,bg,jF.k⟩,jF.v,su QQ BC jF.s,⟨QA,C7,C6⟩,m Ot,⟨⟨zS,vo⟩,⟨gU.a,gU.t⟩,gU.c⟩,⟨⟨zS,vo⟩,gU.i,bg,gU.k⟩,gU.v,su LZ vo gU.s,⟨LN,zg,ze⟩,m XH,⟨⟨M0,K2⟩,⟨lZ.a,lZ.t⟩,lZ.c⟩,⟨⟨M0,K2⟩,lZ.i,bg,lZ.k⟩,lZ.v,su V7 K2 lZ.s,⟨V1,HX,HW⟩,m Js,⟨⟨vG,ra⟩,⟨eP.a,eP.t⟩,eP.c⟩,⟨⟨vG,ra⟩,eP.i,bg,eP.k⟩,eP.v,su HU ra eP.s,⟨HL,we,wc⟩,m V2,⟨⟨Kx,Gx⟩,⟨kK.a,kK.t⟩,kK.c⟩,⟨⟨Kx,Gx⟩,kK.i,bg,kK.k⟩,kK.v,su TN Gx kK.s,⟨Tz,FF,FE⟩,m V3,⟨⟨Ky,Gy⟩,⟨kL.a,kL.t⟩,kL.c⟩,⟨⟨Ky,Gy⟩,kL.i,bg,kL.k⟩,kL.v,su TQ Gy kL.s,⟨TB,Fy,Fx⟩,m V4,⟨⟨Kz,Gz⟩,⟨kM.a,kM.t⟩,kM.c⟩,⟨⟨Kz,Gz⟩,kM.i,bg,kM.k⟩,kM.v,su TR Gz kM.s,⟨TC,FC,FA⟩,m XF,⟨yP.g,yP.d,yP.o,yP.s⟩,⟨KN,XG,FK,yP.k⟩,yQ,⟨EX,Ib,Ia⟩,⟨AD,Di,Dh⟩,⟨Ob,QV,QU⟩,⟨LI,OG,OF⟩,⟨HJ,JN,JM⟩,⟨LJ,OJ,OI⟩,⟨Jo,Ma,L9⟩,⟨AE,Dm,Dk⟩,m Oc,⟨nC.g,nC.d,nC.o,nC.s⟩,⟨u5,Od,xb,nC.k⟩,so,tP,⟨CA,FP,FO⟩,⟨yR,A7,A5⟩,m Oe,⟨nD.g,nD.d,nD.o,nD.s⟩,⟨u6,Of,xh,nD.k⟩,rJ,⟨CB,FT,FR⟩,⟨AF,Dq,Dp⟩,⟨uD,wk,wj⟩,⟨yS,Ba,A9⟩,m aai,⟨EY.g,EY.d,EY.o,EY.s⟩,⟨UN,aaj,Ig,EY.k⟩,yT,EZ,AG,AH,yU,wO,AI,⟨CC,ug,uf⟩,⟨Og,GP,GO⟩,⟨LL,DX,DW⟩,⟨Oh,GR,GQ⟩,⟨Oi,GU,GS⟩,⟨Jp,zV,zU⟩,⟨Oj,GW,GV⟩,⟨AJ,si,sh⟩,⟨Ol,GY,GX⟩,⟨yV,qF,qE⟩,⟨Jq,zX,zW⟩,⟨wQ,p9,pZ⟩,⟨yW,qH,qG⟩,⟨CD,ui,uh⟩,⟨aak,aal,aam,Ie⟩,m Om,⟨nE.g,nE.d,nE.o,nE.s⟩,⟨u7,Oo,xj,nE.k⟩,sr,vU,tQ,tR,sv,rK,tS,tT,AK,qw,vV,⟨uE,ug,uf⟩,⟨CF,GP,GO⟩,⟨AL,DX,DW⟩,⟨CG,GR,GQ⟩,⟨CI,GU,GS⟩,⟨yX,zV,zU⟩,⟨CJ,GW,GV⟩,⟨tU,si,sh⟩,⟨CK,GY,GX⟩,⟨sC,qF,qE⟩,⟨yY,zX,zW⟩,⟨rL,p9,pZ⟩,⟨sD,qH,qG⟩,⟨uF,ui,uh⟩,⟨CL,FY,FX⟩,⟨CM,F6,F5⟩,⟨CN,F9,F8⟩,⟨AM,Du,Dt⟩,⟨yZ,Bf,Be⟩,⟨CO,Ge,Gb⟩,⟨AN,Dx,Dw⟩,⟨AO,DA,Dz⟩,⟨E0,Ij,Ii⟩,⟨vW,xn,xm⟩,⟨AQ,DD,DC⟩,⟨AR,DG,DF⟩,⟨y8,Bi,Bh⟩,⟨uG,wq,wo⟩,⟨AS,DJ,DI⟩,m VX,⟨uH.g,uH.d,uH.o,uH.s⟩,⟨zt,VY,DL,uH.k⟩,HK,⟨Jr,Mh,Mg⟩,⟨Oq,Q3,Q2⟩,⟨LM,OP,ON⟩,⟨rM,sJ,sI⟩,m Jf,qR,m LC,jY,m VV,j9,m Tr,rF,m EU,kF,m Jg,eK,m Jh,mV,m HI,lq,m EV,oe,m aeV,Y3,m Ts,Bx,m Tt,By,m Qs,xX,m LD,tD,m Ji,mW,m XE,KO,m NX,u9,m Jj,mX,m LF,tE,m LG,tF,m Qt,sN,m NY,va,m LH,oH,m NZ,qi,m Jk,qS,m Cz,mK,m Jl,mY,m EW,og,m wN,kj,m yO,iT,m VW,zu,m Qu,xY,m Qv,xZ,m Jm,qT,m Qw,x8,m N0,vc,m Qx,x9,m Jn,mZ,m Qy,ya,m Oa,qj,m aba,aaX,mg_none_of X G lM,mg_none_of X G zH,mg_none_of X G wB,mg_none_of X G D5,mg_none_of X G SV,mg_none_of X G Y4,mg_none_of X G jC,mg_none_of X G ve,mg_none_of X G Lc,m Ke,m qk,m tG,m ql,m vg,m vh,m m7⟩;refine⟨Sz,λs v=>?_,λbase _ _=>?_⟩
 ·obtain⟨_,_,_,_,_,_,_,_,_,e,_⟩:=abe.ex
  rw[e];exact .of_eq rfl
 have ao:=@vI l.prog w K mg base D w8 T;have fY:=@Ab l.prog w K mg base D C8 T;have gQ:=@BN l.prog w K mg base D Fp T;have gR:=@BO l.prog w K mg base D Ft T;have fX:=@Ac l.prog w K mg base D C5 T;have R5:=@wD l.prog w K mg base D zc T;have ig:=@Eu l.prog w K mg base D HV T;have dA:=@uu l.prog w K mg base D wa T;have Vj:=@BP l.prog w K mg base D FD T;have gS:=@BQ l.prog w K mg base D Fw T;have gT:=@BR l.prog w K mg base D Fz T;have kW:=@SY l.prog w K mg base D Na T;have aO:=@Hg l.prog w K mg base D JH T ao;have jg:=@Hi l.prog w K mg base D JI T ao;have jR:=@Qa l.prog w K mg base D TU T ao;have ib:=@Ex l.prog w K mg base D HY T ao;have gN:=@BU l.prog w K mg base D FG T ao;have qU:=@Hl l.prog w K mg base D JG T gN;have cS:=@IJ l.prog w K mg base D L0 T ao;have om:=@BW l.prog w K mg base D FH T ao;have kH:=@BY l.prog w K mg base D FJ T;have ic:=@vK l.prog w K mg base D xg T;have dJ:=@EC l.prog w K mg base D HZ T aO;have eV:=@Np l.prog w K mg base D QT T aO;have vi:=@Lf l.prog w K mg base D OE T aO dJ;have qV:=@Hq l.prog w K mg base D JL T aO qU;have gA:=@Lg l.prog w K mg base D OH T kW dJ;have tI:=@IM l.prog w K mg base D L8 T ao gA;have aT:=@Af l.prog w K mg base D Dj T ao gA;have cD:=@Ah l.prog w K mg base D Df T;have oi:=@B9 l.prog w K mg base D FQ T jg;have mM:=@Aj l.prog w K mg base D Dn T jg;have ie:=@vM l.prog w K mg base D xa T;have oj:=@Cc l.prog w K mg base D FL T ao;have yd:=@Nv l.prog w K mg base D QX T vi;have ye:=@Nx l.prog w K mg base D QY T eV;have tJ:=@IQ l.prog w K mg base D Mb T qV;have yh:=@Ny l.prog w K mg base D QZ T aT oi;have yi:=@Nz l.prog w K mg base D Q0 T aT gN oj;have yc:=@NA l.prog w K mg base D QW T aO aT ib eV;have vk:=@Lj l.prog w K mg base D OL T aT dJ ib;have lr:=@EG l.prog w K mg base D Ic T kH ic ie;have iq:=@vO l.prog w K mg base D xi T om lr;have oq:=@Cd l.prog w K mg base D FU T cS eV;have mO:=@Ak l.prog w K mg base D Dr T aO mM eV cS;have eY:=@yA l.prog w K mg base D Bc T jR;have gO:=@Cg l.prog w K mg base D Ga T eY;have Vk:=@Cj l.prog w K mg base D F7 T gA;have T8:=@Am l.prog w K mg base D Ds T tI;have Sb:=@yC l.prog w K mg base D Bd T aT;have vj:=@Lm l.prog w K mg base D OK T;have oV:=@IT l.prog w K mg base D Me T kW;have da:=@Cm l.prog w K mg base D FV T oV vj;have lF:=@yE l.prog w K mg base D A8 T;have lG:=@yF l.prog w K mg base D A0 T;have j1:=@IU l.prog w K mg base D Md T lF lG;have lH:=@yG l.prog w K mg base D Bb T cD da j1;have cE:=@Aq l.prog w K mg base D Dv T lH;have fW:=@Ar l.prog w K mg base D Dy T ao cE cD da;have gc:=@EM l.prog w K mg base D Ih T ao j1;have dR:=@vQ l.prog w K mg base D xk T;have mP:=@As l.prog w K mg base D DH T cS da;have ot:=@Cq l.prog w K mg base D FW T ao aO jR eY cE gO oq;have ou:=@Cr l.prog w K mg base D FZ T mO mP;have qZ:=@Hu l.prog w K mg base D JQ T;have yo:=@NG l.prog w K mg base D Q7 T;have qt:=@Lr l.prog w K mg base D OR T ot vk yc yd ye tJ yh ou yi cE dR gc fW;have yp:=@NI l.prog w K mg base D Q8 T qt gQ gR fX fY ig dA gS gT;have fZ:=@Av l.prog w K mg base D DB T cD;have jV:=@uA l.prog w K mg base D wg T;have f7:=@Ax l.prog w K mg base D DE T jV;have bt:=@yJ l.prog w K mg base D Bg T;have kT:=@wK l.prog w K mg base D zh T ao;have aF:=@uC l.prog w K mg base D wm T kT;have f9:=@AA l.prog w K mg base D DK T;have fJ:=@IX l.prog w K mg base D Mf T;have cp:=@rH l.prog w K mg base D sG T ao;have cf:=@NK l.prog w K mg base D Q1 T cp;have eM:=@Lv l.prog w K mg base D OM T cp;have cG:=@Qk l.prog w K mg base D Na T;have jh:=@Hw l.prog w K mg base D JJ T fJ ao;have tK:=@IZ l.prog w K mg base D L5 T cf cG jh ao;have yj:=@NN l.prog w K mg base D QR T tK;have BA:=@Qm l.prog w K mg base D TV T yj cf;have vF:=@Qn l.prog w K mg base D TX T cf cG;have yl:=@NP l.prog w K mg base D Q4 T vF;have rp:=@Tn l.prog w K mg base D V8 T kW cG yl;have iV:=@wL l.prog w K mg base D zi T rp;have km:=@vT l.prog w K mg base D xo T rp aF cf;have ow:=@Cw l.prog w K mg base D Gf T aF cf;have m9:=@HC l.prog w K mg base D JP T aF jR;have mQ:=@AB l.prog w K mg base D DM T m9 fJ;have qY:=@HD l.prog w K mg base D JO T bt mQ ow km iV fZ f7 cS;have qu:=@Ly l.prog w K mg base D OQ T qY;have ji:=@HF l.prog w K mg base D JK T cG;have vm:=@Lz l.prog w K mg base D OD T ji BA;have Y9:=@ab0 l.prog w K mg base D aeY T jh eM;have tL:=@Jb l.prog w K mg base D L6 T;have tM:=@Jd l.prog w K mg base D L7 T;have sQ:=@NS l.prog w K mg base D QS T ji;have K1:=@VU l.prog w K mg base D XJ T vm tL fJ tM Y9 sQ eM;have jj:=@HH l.prog w K mg base D JR T;have qv:=@LB l.prog w K mg base D OS T f7;have yq:=@NU l.prog w K mg base D Q9 T bt aF eM jj;have ym:=@NW l.prog w K mg base D Q5 T;exact(ab5 (P:=l.prog) (w:=w) (mg:=mg) (base:=base) abe T ym iq yo qZ yp dR gc fW f9 yq jj fZ bt qu qv K1 aF gO).g
theorem walk{l:OpenLaw}{q:Program}{loose:List Str}{XP:(Str->Option Value)->Heap->Prop}{YP:World->Heap->Prop}{d:DefRec}{K:Params->Frag}(hn:l.most=some 63)(hdf:d.params.defaults=[])
  (hY:∀(w:World) (h:Heap),YP w h->(K w.params).In h)
  (F:∀(w:World) (mg:Str->Option Value) (fa:Addr) (h:Heap),(K w.params).In h->h.Ns mainGlobals mg->mg d.name=some (.ref fa) ->
   ∃ fd:FuncData,(∀(s:Shared) (u:Value),BindsTo s fd ⟨[u],[]⟩ [("script",u)])/\∀ base:Heap,(K w.params).In base->base.Ns mainGlobals mg->Ej l.prog w (K w.params) mg base (CXE l.prog w) 12 fa fd ["script"] (Wj (K w.params))) :
  WalkO q loose XP YP l.row.toRowW d [] (λf vs=>PySem.call f vs) :=
 L2.Zz (n:=63) (k:=12) (x := "script") (CX:=λw=>CXE l.prog w) (sp:=λw=>Wj (K w.params)) hn 2e6 hdf ⟨rfl,by decide,by decide⟩ hY F (λ_ _ a ns hl _ hS=>⟨a,ns,rfl,hS,hl,λ_=>rfl⟩) λ_ _ _ _ _ z=>aeq z
end K44
end
section
open PySem PySem.W PyProof.Rows
set_option maxRecDepth 100000 in
set_option maxHeartbeats 0 in
theorem PySem.Challenge.cw_stillheap_k44_whole_copied_heaps_holds : PySem.Challenge.rw_stillheap_k44_whole_copied_heaps.Holds := by
 w_on;refine holds_law K44.wsd λxB=>?_
 refine holds_open (q:=K44.hQ) (loose:=K44.hLo) (Xt:=λs=>xlAt K44.hQ [] s&&recOk (RowW.records (OpenRow.toRowW (OpenLaw.row PySem.Challenge.rw_stillheap_k44_whole_copied_heaps))) s)
  (XP:=XL K44.hQ []) (Yf:=Hook.obs (kHook K44.hK K44.hAs K44.sU)) (Ya:=Hook.val (kHook K44.hK K44.hAs K44.sU)) (YP:=Hook.says (kHook K44.hK K44.hAs K44.sU)) (N:=15114)
  ?hl (Hook.of (kHook K44.hK K44.hAs K44.sU)) (Hook.keeps (kHook K44.hK K44.hAs K44.sU))
  (λs e=>xl_of s (Bool.and_eq_true_iff.mp e).1) XL.keeps (by rfl) (by rfl) (by rfl)
  (λs e=>recFacts_of (Bool.and_eq_true_iff.mp e).2) (by rfl) (by first|assumption|decide +kernel)
  2e2 ⟨rfl,rfl,rfl,rfl,rfl,by decide +kernel⟩ ?hw ?hc
 (case hl=>exact K44.aef)
 (case hw=>w_witness2)
 k_fill
 refine K44.walk (l:=PySem.Challenge.rw_stillheap_k44_whole_copied_heaps) rfl rfl (λw h Y=>PySem.W.kIn_of Y) ?F
 case F =>
  intro w mg fa h KX G hmg;refine' K44.all_mk KX G hmg ..
  all_goals first
   | k_is
   | (unfold K44.FI;k_is)
   | (unfold K44.NF;k_is)
   | (refine' K44.LK.mk ?la ?lb ?lc ?ld;(case la=>k_is);(case lb=>k_is);(case lc=>k_is);(case ld=>k_is))
   | kernel_rfl
   | (refine' K44.PK.mk ?_ ?_ ?_ ?_ ?_<;>k_is)
   | (refine' K44.EK.mk ?_ ?_ ?_ ?_ ?_ ?_ ?_ ?_<;>first|k_is|kernel_rfl)
   | skip
end
