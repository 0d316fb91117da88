import PyProof.Rows.All
import Wide.All
import OpenK.AllK
import Wide.FinOn
import PyProof.EqAt
import PyProof.EqKinds
import PyProof.TupleCall
import OpenK.KCls
import PyProof.ExcClass2
import PyProof.ExcBaseAll.ValueError
import PyProof.ExcArgs
import PyProof.Rows.Exc
import KE.KIsAll
import PyProof.StationsW
import PyProof.EnumFor
import PyProof.EnumStmt
import PyProof.EnumMake
import PyProof.NeKinds
import PyProof.Rows.SumAny
import KE.KDictSum
import PyProof.Rows.SortWalk
import PyProof.Rows.Range3
import PyProof.Rows.SetFrom
import KE.KEqDict
import PyProof.Rows.DictUnroll
import KE.KRevSl
import PyProof.AutoListH
import PyProof.AttrMiss
import KE.KRevIter
import PyProof.SeqI3
import Wide.Seal
import PySem.Challenge.RW_stillheap_k21_no_views_and_heaps_viewed
set_option Elab.async false
set_option linter.all false
set_option maxRecDepth 100000
set_option maxHeartbeats 4000000
set_option exponentiation.threshold 4000
open Lean in
local macro_rules(kind:=Lean.Parser.Command.declaration)|s=>let k:=s[1].getKind;if(k==``Parser.Command.definition||k==``Parser.Command.abbrev||k==``Parser.Command.instance)&&s[0][4].isNone then return s.setArg 0 (s[0].setArg 4 (mkNullNode ⟨[.node .none ``Parser.Command.noncomputable ⟨[.atom .none "noncomputable"]⟩]⟩))else Macro.throwUnsupported
section
open PySem PySem.W PySem.Spec PyProof.Rows
def Lp:=@List.length_map
def Lq:=@List.getElem?_eq_some_iff
def Lr:=@List.mem_singleton
def Ls:=@List.getElem?_eq_getElem
def Lu:=@Nat.le_refl
def Lv:=@Bool.false_ne_true
def Lw:=@List.length_append
def Lx:=@Heap.get?_push_of_some
def Ly:=@List.size_toArray
def Lz:=@List.getElem?_map
def LA:=@List.map_append
def LB:=@List.mem_append
def LC:=@Heap.lt_size
def LD:=@List.mem_of_getElem?
def LF:=@List.take_of_length_le
def LG:=@Option.map_eq_some_iff
def LH:=@List.mem_map
def LI:=@List.take_succ_eq_append_getElem
def LJ:=@List.mem_append_right
def LK:=@Nat.lt_of_lt_of_le
def LL:=@Nat.le_trans
def LM:=@List.length_take
def LN:=@Nat.ne_of_lt
def LO:=@List.map_map
def LP:=@PassesOwn.never
def LQ:=@List.mem_cons
def LR:=@List.mem_cons_self
def LS:=@Option.some.inj
def LU:=@List.mem_cons_of_mem
def LV:=@Int.emod_lt_of_pos
def LW:=@List.mem_append_left
def LY:=@Heap.get?_push_size
def LZ:=@Array.getElem?_eq_some_iff
def L0:=@Int.emod_nonneg
def L1:=@List.map_cons
def L3:=@List.map_congr_left
def L4:=@Ne.symm
def L5:=@List.mem_map_of_mem
def L6:=@Nat.lt_of_le_of_lt
def L7:=@Bool.eq_false_iff
def L8:=@Nat.zero_le
def L9:=@Heap.get?_update_other
def Ma:=@List.length_cons
def Mb:=@List.getElem_mem
def Mc:=@List.getElem?_append_right
def Md:=@Bool.false_eq_true
def Me:=@Nat.le_of_lt
def Mf:=@List.length_singleton
def Mg:=@List.not_mem_nil
def Mh:=@List.mem_filterMap
def Mi:=@Nat.lt_or_ge
def Mj:=@List.mem_filter
def Ml:=@PySem.mem_of_lookup
def Mm:=@List.eq_of_mem_replicate
def Mn:=@Int.le_refl
def Mo:=@Around.in1_units
def Mp:=@List.replicate_succ
def Mq:=@List.nodup_append
def Mr:=@Classical.byContradiction
def Ms:=@List.append_nil
def Mt:=@List.length_set
def Mu:=@List.take_zero
def Mv:=@List.filter_congr
def Mw:=@List.nodup_cons
def Mx:=@List.lookup_cons
def My:=@Nat.lt_irrefl
def Mz:=@Nat.ne_of_gt
def MA:=@List.length_filter_le
def MB:=@List.getElem?_append_left
def MC:=@List.drop_eq_getElem_cons
def MD:=@List.pairwise_append
def ME:=@Option.isSome_map
def MF:=@Array.length_toList
def MG:=@List.filter_sublist
def MH:=@List.pairwise_singleton
def MI:=@List.length_drop
def MJ:=@Option.bind_some
def MK:=@List.all_eq_true
def ML:=@List.map_nil
def MM:=@List.find?_cons
def MN:=@Nat.not_lt_zero
def MO:=@List.take_append_drop
def MP:=@List.Pairwise.sublist
def MQ:=@List.flatten_cons
def MR:=@List.mem_of_mem_take
def MS:=@Bool.and_false
def MT:=@Calls.call_function_entry
def MU:=@List.take_length
def MV:=@Nat.le_succ
def MW:=@List.getElem?_take_of_lt
def MX:=@Bool.eq_iff_iff
def MY:=@Calls.spliced_cons
def MZ:=@SeqAt.EqAt.same
def M8:=@List.any_cons
def Na:=@List.filter_append
def Nb:=@Calls.spliced_nil
def Nc:=@List.append_assoc
def Nd:=@List.mem_range
def Nf:=@List.take_succ
def Ng:=@Nat.lt_succ_self
def Nh:=@Bool.and_eq_true
def Ni:=@List.take_append_of_le_length
def Nj:=@List.getElem?_set_ne
def Nk:=@Around.under_plainId
def Nl:=@List.of_mem_zip
def Nm:=@Option.map_some
def Nn:=@List.length_pos_iff
def Np:=@Calls.Name_function_global
def Nq:=@SeqAt.EqAt.of_refs
def Nr:=@Heap.size_push
def Nu:=@List.take_sublist
def Nw:=@Nat.not_lt
def Nx:=@Nat.lt_succ_of_lt
def Ny:=@List.mem_flatMap
def Nz:=@List.flatMap_nil
def NA:=@List.filter_map
end
section
namespace L2
open PySem PySem.Spec PyProof.Rows
abbrev Key:=Sum Int Str
def gq:Key→Value→Bool
  | .inl k,v=>Value.isInt k v
  | .inr x,v=>Value.isStrOf x v
def EX(w:World):Key→Int
  | .inl k=>hashInt k
  | .inr x=>hashStr w x
theorem aT:∀ {k:Key} {v:Value},gq k v=true→(∃ i t,k=Sum.inl i∧v=Value.int i t)∨(∃ x t,k=Sum.inr x∧v=Value.str x t)
  | .inl i,v,h=>by
    obtain⟨t,e⟩:=Value.isInt_shape (k:=i) (v:=v) h;exact .inl ⟨i,t,rfl,e⟩
  | .inr x,v,h=>by
    obtain⟨t,e⟩:=Value.isStrOf_shape (x:=x) (v:=v) h;exact .inr ⟨x,t,rfl,e⟩
theorem xM(i:Int)(t:Tok):gq (.inl i) (.int i t)=true:=by simp[gq,Value.isInt]
theorem xN(x:Str)(t:Tok):gq (.inr x) (.str x t)=true:=by simp[gq,Value.isStrOf]
theorem DX(a b:Int):decide ((Sum.inl a:Key)=Sum.inl b)=(a == b):=by
  by_cases e:a=b
  · subst e;simp
  · have h:¬(Sum.inl a:Key)=Sum.inl b:=λq=>e (Sum.inl.inj q)
    rw[decide_eq_false h];exact(beq_eq_false_iff_ne.mpr e).symm
theorem DY(a b:Str):decide ((Sum.inr a:Key)=Sum.inr b)=decide (a=b):=by
  by_cases e:a=b
  · subst e;simp
  · have h:¬(Sum.inr a:Key)=Sum.inr b:=λq=>e (Sum.inr.inj q)
    rw[decide_eq_false h,decide_eq_false e]
theorem DZ(a:Int)(b:Str):decide ((Sum.inl a:Key)=Sum.inr b)=false:=decide_eq_false (λq=>nomatch q)
theorem D1(a:Str)(b:Int):decide ((Sum.inr a:Key)=Sum.inl b)=false:=decide_eq_false (λq=>nomatch q)
def aR(prog:Program)(w:World):PySem.KeyKind prog w Key where
  is:=gq
  hash:=EX w
  inj:=λv a b ha hb=>by
    rcases aT ha with⟨i,t,rfl,rfl⟩|⟨x,t,rfl,rfl⟩
    · rcases aT hb with⟨j,u,rfl,e⟩|⟨y,u,rfl,e⟩
      · injection e with e1 _;rw[e1]
      · exact nomatch e
    · rcases aT hb with⟨j,u,rfl,e⟩|⟨y,u,rfl,e⟩
      · exact nomatch e
      · injection e with e1 _;rw[e1]
  byValue:=λk v h=>by
    rcases aT h with⟨i,t,rfl,rfl⟩|⟨x,t,rfl,rfl⟩<;>rfl
  pyHash:=λhv h=>by
    rcases aT hv with⟨i,t,rfl,rfl⟩|⟨x,t,rfl,rfl⟩
    · exact wpAny_pyHash_int h
    · exact wpAny_pyHash_str h
  eqBool:=λhu hv h=>by
    rcases aT hu with⟨i,t,rfl,rfl⟩|⟨x,t,rfl,rfl⟩
    · rcases aT hv with⟨j,u,rfl,rfl⟩|⟨y,u,rfl,rfl⟩
      · rw[DX]at h;exact wpAny_eqBool_int h
      · rw[DZ]at h;exact SeqAt.EqAt.int_str i t y u _ _ _ _ h
    · rcases aT hv with⟨j,u,rfl,rfl⟩|⟨y,u,rfl,rfl⟩
      · rw[D1]at h;exact SeqAt.EqAt.str_int x t j u _ _ _ _ h
      · rw[DY]at h;exact wpAny_eqBool_str h
  «strs» := λk x t v h=>by
    rcases aT h with⟨i,u,rfl,e⟩|⟨y,u,rfl,e⟩
    · exact nomatch e
    · injection e with e1 _
      subst e1;cases v<;>rfl
theorem tW(prog:Program)(w:World)(i:Int)(t:Tok):(aR prog w).is (.inl i) (.int i t)=true:=xM i t
theorem tX(prog:Program)(w:World)(x:Str)(t:Tok):(aR prog w).is (.inr x) (.str x t)=true:=xN x t
end L2
namespace L2
open PySem PySem.Spec PyProof.Rows
inductive V where
  | non|bl (b:Bool)|int (i:Int)|str (x:Str)|byt (b:Array UInt8)|flt (b:UInt64)|ref (a:Addr)|ty (n:String)
  deriving DecidableEq
def RelV:V→Value→Prop
  | .non,u=>u=Value.none
  | .bl b,u=>u=Value.bool b
  | .int i,u=>∃ t,u=Value.int i t
  | .str x,u=>∃ t,u=Value.str x t
  | .byt b,u=>∃ t,u=Value.bytes b t
  | .flt b,u=>∃ t,u=Value.float b t
  | .ref a,u=>u=Value.ref a
  | .ty n,u=>u=Value.type n
abbrev Vals:List V→List Value→Prop:=Paired RelV
theorem Vals.length{xs:List V}{us:List Value}(r:Vals xs us):xs.length=us.length:=Paired.length r
theorem Vals.get:∀ {xs:List V} {us:List Value} {i:Nat} {x:V},Vals xs us→xs[i]?=some x→∃ u,us[i]?=some u∧RelV x u
  | _,_,_,_,.nil,e=>by simp at e
  | _,_,0,_,.cons r _,e=>by simp at e;subst e;exact⟨_,rfl,r⟩
  | _,_,i+1,x,.cons _ t,e=>by
    obtain⟨u,h1,h2⟩:=Vals.get (i:=i) (x:=x) t (by simpa using e);exact⟨u,by simpa using h1,h2⟩
theorem Vals.set{x:V}{u:Value}(r:RelV x u):∀ {xs:List V} {us:List Value} (i:Nat),Vals xs us→Vals (xs.set i x) (us.set i u)
  | _,_,_,.nil=>.nil
  | _,_,0,.cons _ t=>.cons r t
  | _,_,i+1,.cons q t=>.cons q (Vals.set r i t)
theorem Vals.append:∀ {xs ys:List V} {us ws:List Value},Vals xs us→Vals ys ws→Vals (xs++ys) (us++ws)
  | _,_,_,_,.nil,s=>s
  | _,_,_,_,.cons r t,s=>.cons r (Vals.append t s)
theorem Vals.take:∀ {xs:List V} {us:List Value} (n:Nat),Vals xs us→Vals (xs.take n) (us.take n)
  | _,_,0,_=>.nil
  | _,_,_+1,.nil=>.nil
  | _,_,n+1,.cons r t=>.cons r (Vals.take n t)
theorem Vals.drop:∀ {xs:List V} {us:List Value} (n:Nat),Vals xs us→Vals (xs.drop n) (us.drop n)
  | _,_,0,r=>r
  | _,_,_+1,.nil=>.nil
  | _,_,n+1,.cons _ t=>Vals.drop n t
def mj:Option V→Option Value→Prop
  | some v,some u=>RelV v u
  | none,none=>True
  | _,_=>False
def KV{κ:Type}:List (κ×V)→List (κ×Value)→Prop:=Paired λ(p:κ×V) (q:κ×Value)=>p.1=q.1∧RelV p.2 q.2
def kV:Key→V
  | .inl i=>.int i
  | .inr x=>.str x
inductive HO where
  | lst (xs:List V)
  | tup (xs:List V)
  | dK (kvs:List (Key×V))|dT (kvs:List (List Key×V))
  | set (S:Int→Bool) (n:Nat)
  | ins (C dx:Addr) (fs:List (Str×V))
  | own (x:Addr)
  | xd (fs:List (Str×V))
  | met (f x:Addr)
  | rng (lo hi:Int)
  | frz (o:Obj) (u:HO)
  | tbl (ps:Array Value)
  | ext (φ:Heap→Prop)
abbrev Hp:=Addr→Option HO
def upd(H:Hp)(a:Addr)(o:HO):Hp:=λb=>if b=a then some o else H b
theorem ab{H:Hp}{a:Addr}{o:HO}:upd H a o a=some o:=by unfold upd;rw[if_pos rfl]
theorem ak{H:Hp}{a b:Addr}{o:HO}(h:b≠a):upd H a o b=H b:=by unfold upd;rw[if_neg h]
theorem bI{H:Hp}{a b:Addr}{o u:HO}(h:H a=some o)(h':H b=some u)(d:o≠u):a≠b:=by
  intro e;subst e;rw[h]at h';exact d (LS h')
theorem ai{H:Hp}{a b:Addr}{o:HO}(h:H a=some o)(h':H b=none):a≠b:=by
  intro e;subst e;rw[h]at h';cases h'
section
variable(P:Program)(w:World)
def bJ(H:Hp)(h:Heap)(a:Addr):HO→Prop
  | .lst xs=>xs.length≤sizeLine∧∃(its:List Value) (n:Nat),Vals xs its∧h.get? a=some {cls:=.type "list",data:=.seq its.toArray n}
  | .tup xs=>xs.length≤sizeLine∧∃ its:List Value,Vals xs its∧IsTup h a its.toArray
  | .dK kvs=>kvs.length≤sizeLine∧(a == sysModules)=false∧∃ vs,KV kvs vs∧h.DictOf (aR P w) a vs
  | .dT kvs=>kvs.length≤sizeLine∧(a == sysModules)=false∧∃ xs:List (List Key×Addr×Value),
      Paired (λ(p:List Key×V) (q:List Key×Addr×Value)=>p.1=q.1∧H q.2.1=some (.tup (p.1.map kV))∧RelV p.2 q.2.2) kvs xs ∧
      ∃ o es ep,h.get? a=some o∧o.ExactDict∧o.data=.dict es ep∧es.toList=xs.map (entryOfKey (tupleKind (aR P w)))∧(xs.map (·.1)).Nodup
  | .set S n=>h.SetOf (intKind P w) a S n
  | .ins C dx fs=>H dx=some (.own a)∧fs.length≤1000∧dx≠a∧h.get? a=some (PySem.W.instObj C dx) ∧
      ∃ mA,h.Ns1 dx mA∧(∀ f,mj (fs.lookup f) (mA f))∧PySem.Within mA (fs.map (·.1))
  | .own _=>∃ o,h.get? a=some o
  | .xd fs=>∃ mA,h.Ns1 a mA∧∀ f,mj (fs.lookup f) (mA f)
  | .rng lo hi=>∃ t u v,h.get? a=some {cls:=.type "range",data:=.fields #[.int lo t,.int hi u,.int 1 v]}
  | .frz o u=>h.get? a=some o∧bJ H h a u
  | .tbl ps=>h.get? a=some {cls:=.none,data:=.fields ps}
  | .met f x=>h.get? a=some (PySem.W.methodObj (.ref f) (.ref x))
  | .ext φ=>φ h∧(∃ o,h.get? a=some o)∧∀ h1 h2:Heap,φ h1→(∀ o,h1.get? a=some o→h2.get? a=some o)→φ h2
def HOk(H:Hp)(h:Heap):Prop:=∀ a o,H a=some o→bJ P w H h a o
end
section
variable{P:Program}{w:World}{H H':Hp}{h h':Heap}{a:Addr}{o:HO}
theorem bJ.lt(x:bJ P w H h a o):a<h.objs.size:=by
  cases o with
  | lst xs=>obtain⟨_,_,_,_,e⟩:=x;exact LC e
  | tup xs=>obtain⟨_,_,_,p⟩:=x;exact p.lt
  | dK kvs=>obtain⟨_,_,_,_,o,_,_,e,_⟩:=x;exact LC e
  | dT kvs=>obtain⟨_,_,_,_,o,_,_,e,_⟩:=x;exact LC e
  | set S n=>obtain⟨o,_,_,_,e,_⟩:=x;exact LC e
  | ins C dx fs=>obtain⟨_,_,_,e,_⟩:=x;exact LC e
  | own y=>obtain⟨_,e⟩:=x;exact LC e
  | xd fs=>obtain⟨_,⟨_,_,_,e,_⟩,_⟩:=x;exact LC e
  | rng lo hi=>obtain⟨_,_,_,e⟩:=x;exact LC e
  | frz ob u=>obtain⟨e,_⟩:=x;exact LC e
  | tbl ps=>exact LC (show h.get? a=some _ from x)
  | met f y=>exact LC (show h.get? a=some _ from x)
  | ext φ=>obtain⟨_,⟨_,e⟩,_⟩:=x;exact LC e
theorem Paired.EY{α β:Type}{F G:α→β→Prop}:∀ {l₁:List α} {l₂:List β},Paired F l₁ l₂→(∀ a b,F a b→G a b)→Paired G l₁ l₂
  | _,_,.nil,_=>.nil
  | _,_,.cons r t,f=>.cons (f _ _ r) (Paired.EY t f)
theorem bJ.tm(x:bJ P w H h a o)(k:∀ b u,(b=a∨H b=some (.own a))→h.get? b=some u→h'.get? b=some u)
    (ho:∀ b,H b=some (.own a)→H' b=some (.own a)) (ht:∀ b xs,H b=some (.tup xs)→H' b=some (.tup xs)):bJ P w H' h' a o:=by
  induction o with
  | lst xs=>obtain⟨z,its,n,r,e⟩:=x;exact⟨z,its,n,r,k _ _ (.inl rfl) e⟩
  | tup xs=>obtain⟨z,its,r,ob,e,c⟩:=x;exact⟨z,its,r,ob,k _ _ (.inl rfl) e,c⟩
  | dK kvs=>obtain⟨z,y,vs,r,ob,es,ep,e,c⟩:=x;exact⟨z,y,vs,r,ob,es,ep,k _ _ (.inl rfl) e,c⟩
  | dT kvs =>
    obtain⟨z,y,xs,r,ob,es,ep,e,c⟩:=x;exact⟨z,y,xs,Paired.EY r λp q z=>⟨z.1,ht _ _ z.2.1,z.2.2⟩,ob,es,ep,k _ _ (.inl rfl) e,c⟩
  | set S n=>obtain⟨ob,es,ep,t,e,c⟩:=x;exact⟨ob,es,ep,t,k _ _ (.inl rfl) e,c⟩
  | ins C dx fs =>
    obtain⟨d,z,ne,e,mA,⟨od,es,ep,e2,c⟩,r⟩:=x;exact⟨ho _ d,z,ne,k _ _ (.inl rfl) e,mA,⟨od,es,ep,k _ _ (.inr d) e2,c⟩,r⟩
  | own y=>obtain⟨ob,e⟩:=x;exact⟨ob,k _ _ (.inl rfl) e⟩
  | xd fs=>obtain⟨mA,⟨od,es,ep,e,c⟩,r⟩:=x;exact⟨mA,⟨od,es,ep,k _ _ (.inl rfl) e,c⟩,r⟩
  | rng lo hi=>obtain⟨t,u,v,e⟩:=x;exact⟨t,u,v,k _ _ (.inl rfl) e⟩
  | frz ob u ih=>obtain⟨e,q⟩:=x;exact⟨k _ _ (.inl rfl) e,ih q⟩
  | tbl ps =>
    have e:h.get? a=some {cls:=.none,data:=.fields ps}:=x;show h'.get? a=some {cls:=.none,data:=.fields ps};exact k a _ (.inl rfl) e
  | met f y =>
    have e:h.get? a=some (PySem.W.methodObj (.ref f) (.ref y)):=x;show h'.get? a=some (PySem.W.methodObj (.ref f) (.ref y));exact k a _ (.inl rfl) e
  | ext φ=>obtain⟨p,⟨o,e⟩,st⟩:=x;exact⟨st _ _ p λo q=>k _ _ (.inl rfl) q,⟨o,k _ _ (.inl rfl) e⟩,st⟩
theorem HOk.lt(x:HOk P w H h)(e:H a=some o):a<h.objs.size:=(x a o e).lt
theorem HOk.fresh(x:HOk P w H h)(e:h.objs.size≤a):H a=none:=by
  cases q:H a with
  | none=>rfl
  | some u=>exact absurd (LK (x.lt q) e) (My _)
theorem HOk.kept(x:HOk P w H h)(k:∀ b u,h.get? b=some u→h'.get? b=some u):HOk P w H h':=λa o e =>
  (x a o e).tm (λb u _ q=>k b u q) (λ_ q=>q) λ_ _ q=>q
theorem HOk.laid(x:HOk P w H h)(k:∀ b u,h.get? b=some u→h'.get? b=some u)(hp:h.objs.size≤a)(new:bJ P w (upd H a o) h' a o):HOk P w (upd H a o) h':=λb u e=>by
  have hn:=x.fresh hp;by_cases hb:b=a
  · subst hb;rw[ab]at e;cases e;exact new
  · rw[ak hb]at e
    exact(x b u e).tm (λc v _ q=>k c v q) (λc q=>by rw[ak (ai q hn)];exact q) λc xs q=>by rw[ak (ai q hn)];exact q
end
def Rd(H:Hp)(a:Addr)(u:HO):Prop:=H a=some u∨∃ o,H a=some (.frz o u)
theorem Rd.ok{P:Program}{w:World}{H:Hp}{h:Heap}{a:Addr}{u:HO}(r:Rd H a u)(x:HOk P w H h):bJ P w H h a u:=by
  rcases r with r|⟨o,r⟩
  · exact x a u r
  · obtain⟨_,q⟩:=x a _ r
    exact q
def Mut:Option HO→Prop
  | some (.lst _)=>True
  | some (.dK _)=>True
  | some (.dT _)=>True
  | some (.set _ _)=>True
  | some (.ins _ _ _)=>True
  | some (.ext _)=>True
  | _=>False
section
variable{P:Program}{w:World}{H:Hp}{h h':Heap}{x e:Addr}{o':HO}
theorem HOk.write(ok:HOk P w H h)(mu:Mut (H x))(he:e=x∨H e=some (.own x))(k:∀ b u,b≠e→h.get? b=some u→h'.get? b=some u)(heo:∃ u,h'.get? e=some u)
    (new:bJ P w (upd H x o') h' x o'):HOk P w (upd H x o') h':=λb u q=>by
  have ID:∀ c y,H c=some (.own y)→c≠x:=λc y r z=>by subst z;rw[r]at mu;exact mu
  have Jg:∀ c xs,H c=some (.tup xs)→c≠x:=λc xs r z=>by subst z;rw[r]at mu;exact mu
  by_cases hb:b=x
  · subst hb;rw[ab]at q;cases q;exact new
  · rw[ak hb]at q
    by_cases hbe:b=e
    · have q':H b=some (.own x):=by
        rcases he with z|z
        · exact absurd (hbe.trans z) hb
        · rw[hbe];exact z
      rw[q]at q';cases q';obtain⟨v,hv⟩:=heo;exact⟨v,by rw[hbe];exact hv⟩
    · refine(ok b u q).tm (λc v hc r=>k c v ?_ r) (λc r=>by rw[ak (ID c b r)];exact r) λc xs r=>by rw[ak (Jg c xs r)];exact r
      rcases hc with rfl|hc
      · exact hbe
      · rintro rfl
        rcases he with z|z
        · exact ID c b hc z
        · rw[hc]at z;cases z;exact hb rfl
end
structure Un(fs ex:List Addr)(H H':Hp)(h h':Heap):Prop where
  keep:∀ b o,h.get? b=some o→H b=none→b∉fs→b∉ex→h'.get? b=some o
  slot:∀ b o,h.get? b=some o→H b=none→b∈fs→b∉ex→∃ sl,h'.get? b=some {o with slots:=sl}
  free:∀ b o,h.get? b=some o→H b=none→b∉ex→H' b=none
  there:∀ b o,h.get? b=some o→b∉ex→∃ o',h'.get? b=some o'
  ph:∀ b xs,H b=some (.tup xs)→H' b=some (.tup xs)
  nG:∀ b o u,H b=some (.frz o u)→H' b=some (.frz o u)
  pj:∀ b ps,H b=some (.tbl ps)→∃ more,H' b=some (.tbl (ps++more))
section
variable{fs fs' ex ex':List Addr}{H H1 H2:Hp}{h h1 h2 h':Heap}{a x e:Addr}{o:HO}
theorem Un.any(u:Un fs ex H H1 h h1){b:Addr}{ob:Obj}(q:h.get? b=some ob)(n:H b=none)(hx:b∉ex):∃ sl,h1.get? b=some {ob with slots:=sl}:=by
  by_cases hb:b∈fs
  · exact u.slot b ob q n hb hx
  · exact⟨ob.slots,u.keep b ob q n hb hx⟩
theorem Un.kept(k:∀ b u,h.get? b=some u→h'.get? b=some u):Un fs ex H H h h' :=
  ⟨λb ob q _ _ _=>k b ob q,λb ob q _ _ _=>⟨ob.slots,k b ob q⟩,λ_ _ _ n _=>n,λb ob q _=>⟨ob,k b ob q⟩,λ_ _ q=>q,λ_ _ _ q=>q,λ_ ps q=>⟨#[],by rw[q];simp⟩⟩
theorem Un.refl:Un fs ex H H h h:=Un.kept λ_ _ q=>q
theorem Un.laid(k:∀ b u,h.get? b=some u→h'.get? b=some u)(hp:h.objs.size≤a)(hn:H a=none):Un fs ex H (upd H a o) h h' where
  keep:=λb u q _ _ _=>k b u q
  slot:=λb u q _ _ _=>⟨u.slots,k b u q⟩
  free:=λb u q n _=>by rw[ak (LN (LK (LC q) hp))];exact n
  there:=λb u q _=>⟨u,k b u q⟩
  ph:=λb xs q=>by rw[ak (ai q hn)];exact q
  nG:=λb u xs q=>by rw[ak (ai q hn)];exact q
  pj:=λb ps q=>⟨#[],by rw[ak (ai q hn),q];simp⟩
theorem Un.write(mu:Mut (H x))(he:e=x∨H e=some (.own x))(k:∀ b u,b≠e→h.get? b=some u→h'.get? b=some u)(heo:∃ u,h'.get? e=some u):Un fs ex H (upd H x o) h h':=by
  have hx:∀ b,H b=none→b≠x:=λb n z=>by subst z;rw[n]at mu;exact mu
  have hb:∀ b,H b=none→b≠e:=λb n z=>by
    subst z;rcases he with r|r
    · exact hx b n r
    · rw[n]at r;cases r
  have hm:∀ b u,H b=some u→¬Mut (some u)→b≠x:=λb u q nm z=>by subst z;rw[q]at mu;exact nm mu
  refine⟨λb u q n _ _=>k b u (hb b n) q,λb u q n _ _=>⟨u.slots,k b u (hb b n) q⟩,λb u q n _=>by rw[ak (hx b n)];exact n,λb u q _=>?_,
    λb xs q=>by rw[ak (hm b _ q λz=>z)];exact q,λb u xs q=>by rw[ak (hm b _ q λz=>z)];exact q,λb ps q=>⟨#[],by rw[ak (hm b _ q λz=>z),q];simp⟩⟩
  by_cases hbe:b=e
  · subst hbe;exact heo
  · exact⟨u,k b u hbe q⟩
end
def trk(h:Heap)(H:Hp):List Addr:=(List.range h.objs.size).filter λa=>(H a).isSome
def va(h:Heap)(H:Hp):Heap:=PySem.W.hideAll h (trk h H)
theorem xO(h:Heap)(H:Hp):(va h H).objs.size=h.objs.size:=PySem.W.hideAll_size _ _
theorem zc{h:Heap}{H:Hp}{b:Addr}{o:Obj}(e:h.get? b=some o)(n:H b=none):(va h H).get? b=some o :=
  PySem.W.hideAll_get _ e λhm=>by
    have q:(H b).isSome=true:=(Mj.mp hm).2;rw[n]at q;simp at q
theorem BO{h:Heap}{H:Hp}{b:Addr}{o:Obj}(e:(va h H).get? b=some o):h.get? b=some o∧H b=none:=by
  have e':h.get? b=some o:=PySem.W.of_hideAll (trk h H) e;refine⟨e',?_⟩;cases q:H b with
  | none=>rfl
  | some x =>
    have hm:b∈trk h H:=Mj.mpr ⟨Nd.mpr (LC e'),by simp[q]⟩;have z:(va h H).get? b=none:=PySem.W.hideAll_none (trk h H) hm;rw[z]at e;cases e
end L2
namespace L2
open PySem PySem.Spec PyProof.Rows
structure Mod(K:W.Frag)(mg:Str→Option Value)(base:Heap):Prop where
  kin:K.In base
  glob:base.Ns mainGlobals mg
  blt:∃ mb,base.Ns builtinsNs mb∧∀ x:Str,x ≠ "__name__" → mb x=bootBuiltins x
  nolimit:base.NoLimit
structure Cx where
  prog:Program
  w:World
  K:W.Frag
  mg:Str→Option Value
  base:Heap
  A:Around
  N:List Str
  s₀:Shared
  H₀:Hp
  env:Env
  outer:List Env
  stack:List Env
  ex:List Addr
  fn:Str→Bool
  calm:Bool
  pn:List (Addr×Obj)
  xe:Value→Shared→Prop
def frs(l:List Env):List Addr:=l.filterMap (·.frame)
abbrev Cx.fs(X:Cx):List Addr:=frs X.outer
def Vis(sc:Scope)(x:Str):Prop:=sc.names.lookup x=some .local∨sc.names.lookup x=some .cell∨sc.names.lookup x=some .free
def Loc(sc:Scope)(x:Str):Prop:=sc.names.lookup x=some .local∨sc.names.lookup x=some .cell
def Look(env:Env)(h:Heap)(m:Str→Option Value)(x:Str)(u:Value):Prop :=
  (env.kindOf x=some .local∧m x=some u)∨((env.kindOf x=some .cell∨env.kindOf x=some .free)∧∃ c,env.cells.lookup x=some c∧h.IsCell c (some u))
structure Cx.Ok(X:Cx):Prop where
  mod:Mod X.K X.mg X.base
  kind:X.env.scope.kind=.function
  glob:X.env.globals=mainGlobals
  blt:X.env.builtins=builtinsNs
  above:X.s₀.heap.objs.size≤X.env.locals
  inj:∀ x y c,X.env.cells.lookup x=some c→X.env.cells.lookup y=some c→x=y
  has:∀ x,(X.env.kindOf x=some .cell∨X.env.kindOf x=some .free)→∃ c,X.env.cells.lookup x=some c
  cab:∀ x c,X.fn x=true→X.env.cells.lookup x=some c→X.s₀.heap.objs.size≤c
  hd:X.calm=true→X.A.handled=none
  frames:X.A.frames=some X.stack
  stk:X.stack=X.outer∨(X.stack=X.env::X.outer∧X.env.frame=some X.env.locals)
  exf:∀ b∈X.ex,b≠X.env.locals∧∀ x c,X.env.cells.lookup x=some c→c≠b
  bs:∀ b o,X.base.get? b=some o→X.s₀.heap.get? b=some o∧X.H₀ b=none
  bsz:X.base.objs.size≤X.s₀.heap.objs.size
  ve:∀ b o,X.base.get? b=some o→b∉X.ex
  wL:∀ b∈X.ex,b∉X.fs
  mz:X.s₀.heap.FunFrames X.base X.outer
  frf:∀ b∈X.fs,X.H₀ b=none
structure Inv(X:Cx)(pins:List (Addr×Obj))(σ:List (Option V))(H:Hp)(s:Shared):Prop where
  ok:X.Ok
  os:s.os=X.s₀.os
  bare:AllBare s.gens
  base:Un X.fs X.ex X.H₀ H X.s₀.heap s.heap
  loc:∃ m,s.heap.Ns X.env.locals m∧∀(i:Nat) (x:Str) (v:V),X.N[i]?=some x→σ[i]?=some (some v)→Vis X.env.scope x→∃ u,RelV v u∧Look X.env s.heap m x u
  cell:∀ x c,X.env.cells.lookup x=some c→∃ v,s.heap.IsCell c v
  free:H X.env.locals=none
  en:∀ x c,X.env.cells.lookup x=some c→H c=none
  pin:∀ p∈X.pn++pins,s.heap.get? p.1=some p.2∧H p.1=none∧p.1≠X.env.locals∧p.1∉X.fs∧∀ v,p.2.data≠.cell v
  hok:HOk X.prog X.w H s.heap
  len:σ.length=X.N.length
section
variable{X:Cx}{pins:List (Addr×Obj)}{σ:List (Option V)}{H H':Hp}{s:Shared}{h':Heap}
theorem Cx.Ok.Jh(ok:X.Ok){b:Addr}{o:Obj}(e:X.base.get? b=some o):b∉X.fs:=λhb=>by
  have:=(ok.mz.mem hb).1
  rw[e]at this;cases this
theorem Inv.bs(I:Inv X pins σ H s):∀ b o,X.base.get? b=some o→s.heap.get? b=some o∧H b=none:=λb o e =>
  ⟨I.base.keep b o (I.ok.bs b o e).1 (I.ok.bs b o e).2 (I.ok.Jh e) (I.ok.ve b o e),I.base.free b o (I.ok.bs b o e).1 (I.ok.bs b o e).2 (I.ok.ve b o e)⟩
theorem Inv.bk(I:Inv X pins σ H s):∀ b o,X.base.get? b=some o→s.heap.get? b=some o:=λb o e=>(I.bs b o e).1
theorem Inv.mod(I:Inv X pins σ H s):Mod X.K X.mg X.base:=I.ok.mod
theorem Inv.kIn(I:Inv X pins σ H s):X.K.In s.heap:=I.ok.mod.kin.keeps I.bk
theorem Inv.lt(I:Inv X pins σ H s):X.env.locals<s.heap.objs.size:=let ⟨_,hn,_⟩:=I.loc;hn.lt
theorem Inv.sz(I:Inv X pins σ H s):X.s₀.heap.objs.size≤s.heap.objs.size:=LL I.ok.above (Me I.lt)
theorem Inv.Ji(I:Inv X pins σ H s){a:Addr}(h:s.heap.objs.size≤a):a∉X.fs:=λhb=>by
  obtain⟨_,o,ho,_⟩:=I.ok.mz.mem hb;exact absurd (LK (LC ho) (LL I.sz h)) (My _)
theorem Inv.cne(I:Inv X pins σ H s):∀ x c,X.env.cells.lookup x=some c→c≠X.env.locals:=λx c e z=>by
  obtain⟨v,o,ho,hd⟩:=I.cell x c e;obtain⟨m,⟨o',es,ep,ho',hd',_⟩,_⟩:=I.loc;rw[z,ho']at ho;cases ho;rw[hd']at hd;cases hd
theorem Inv.mz(I:Inv X pins σ H s):s.heap.FunFrames X.base X.outer:=by
  have all:∀(l:List Env),(∀ b∈frs l,b∈X.fs)→X.s₀.heap.FunFrames X.base l→s.heap.FunFrames X.base l:=by
    intro l;induction l with
    | nil=>intro _ _;trivial
    | cons env r ih =>
      intro hs hl;obtain⟨hk,⟨L,o,hf,hn,ho,hd⟩,hr⟩:=hl;have hL:L∈X.fs:=hs L (by unfold frs;rw[List.filterMap_cons,hf];exact LR);obtain⟨sl,e⟩:=I.base.slot L o ho (I.ok.frf L hL) hL λz=>I.ok.wL L z hL;exact⟨hk,⟨L,_,hf,hn,e,hd⟩,ih (λb hb=>hs b (by unfold frs;rw[List.filterMap_cons,hf];exact LU _ hb)) hr⟩
  exact all X.outer (λ_ hb=>hb) I.ok.mz
theorem Inv.stack(I:Inv X pins σ H s):s.heap.FunFrames X.base X.stack:=by
  rcases I.ok.stk with e|⟨e,hf⟩
  · rw[e];exact I.mz
  · rw[e]
    obtain⟨m,hn,_⟩:=I.loc;refine .cons (by rw[I.ok.kind];decide) hf hn ?_ I.mz;exact Heap.get?_none_of_le (LL I.ok.bsz I.ok.above)
theorem Inv.o5(I:Inv X pins σ H s):∀ b∈frs X.stack,b∈X.env.locals::X.fs:=λb hb=>by
  rcases I.ok.stk with e|⟨e,hf⟩
  · rw[e]at hb;exact LU _ hb
  · rw[e]at hb
    unfold frs at hb;rw[List.filterMap_cons,hf]at hb;exact hb
theorem Inv.jK(I:Inv X pins σ H s):∀ b∈frs X.stack,H b=none:=λb hb=>by
  rcases LQ.mp (I.o5 b hb) with e|hb
  · rw[e];exact I.free
  · obtain⟨_,o,ho,_⟩:=I.ok.mz.mem hb
    exact I.base.free b o ho (I.ok.frf b hb) λz=>I.ok.wL b z hb
theorem Inv.step{g':Array GenState}{t':Nat}{d':Drawn}{ch:List Addr}(I:Inv X pins σ H s)
    (hch:∀ b∈ch,(b∈X.ex∨X.s₀.heap.objs.size≤b)∧b≠X.env.locals∧(∀ x c,X.env.cells.lookup x=some c→c≠b)∧∀ p∈X.pn++pins,p.1≠b)
    (keep:∀ b o,b≠X.env.locals→b∉X.fs→b∉ch→s.heap.get? b=some o→H b=none→h'.get? b=some o)
    (slot:∀ b o,b≠X.env.locals→b∈X.fs→b∉ch→s.heap.get? b=some o→H b=none→∃ sl,h'.get? b=some {o with slots:=sl}) (free:∀ b o,b∉ch→s.heap.get? b=some o→H b=none→H' b=none)
    (there:∀ b o,b∉ch→s.heap.get? b=some o→∃ o',h'.get? b=some o')
    (ph:∀ b xs,H b=some (.tup xs)→H' b=some (.tup xs)) (nG:∀ b o u,H b=some (.frz o u)→H' b=some (.frz o u)) (pj:∀ b ps,H b=some (.tbl ps)→∃ more,H' b=some (.tbl (ps++more)))
    (ns:∀ m,s.heap.Ns X.env.locals m→h'.Ns X.env.locals m) (hok:HOk X.prog X.w H' h') (hg:AllBare g') :
    Inv X pins σ H' {s with heap:=h',gens:=g',drawn:=d',toks:=t'}:=by
  have neL:∀ b o,X.s₀.heap.get? b=some o→b≠X.env.locals:=λb o e=>LN (LK (LC e) I.ok.above);have neC:∀ b o,X.s₀.heap.get? b=some o→b∉X.ex→b∉ch:=λb o e hx hb=>by
    rcases(hch b hb).1 with z|z
    · exact hx z
    · exact absurd (LK (LC e) z) (My _)
  have cellK:∀ x c,X.env.cells.lookup x=some c→∀ v,s.heap.IsCell c v→h'.IsCell c v:=λx c e v ⟨o,ho,hd⟩=>by
    have nch:c∉ch:=λz=>(hch c z).2.2.1 x c e rfl;by_cases hc:c∈X.fs
    · obtain⟨sl,q⟩:=slot c o (I.cne x c e) hc nch ho (I.en x c e)
      exact⟨_,q,hd⟩
    · exact⟨o,keep c o (I.cne x c e) hc nch ho (I.en x c e),hd⟩
  refine⟨I.ok,I.os,hg,⟨λb o e n hb hx=>?_,λb o e n hb hx=>?_,λb o e n hx=>?_,λb o e hx=>?_,λb xs e=>ph b xs (I.base.ph b xs e),λb o xs e=>nG b o xs (I.base.nG b o xs e),λb ps e=>?_⟩,?_,λx c e=>?_,?_,λx c e=>?_,λp hp=>?_,hok,I.len⟩
  · exact keep b o (neL b o e) hb (neC b o e hx) (I.base.keep b o e n hb hx) (I.base.free b o e n hx)
  · obtain⟨sl,e1⟩:=I.base.slot b o e n hb hx
    obtain⟨sl',e2⟩:=slot b _ (neL b o e) hb (neC b o e hx) e1 (I.base.free b o e n hx);exact⟨sl',e2⟩
  · obtain⟨o',e1⟩:=I.base.there b o e hx
    exact free b o' (neC b o e hx) e1 (I.base.free b o e n hx)
  · obtain⟨o',e1⟩:=I.base.there b o e hx
    exact there b o' (neC b o e hx) e1
  · obtain⟨m1,e1⟩:=I.base.pj b ps e
    obtain⟨m2,e2⟩:=pj b _ e1;exact⟨m1++m2,by rw[e2,Array.append_assoc]⟩
  · obtain⟨m,hn,hl⟩:=I.loc
    refine⟨m,ns m hn,λi x v e1 e2 e3=>?_⟩;obtain⟨u,r,l⟩:=hl i x v e1 e2 e3;refine⟨u,r,?_⟩;rcases l with l|⟨k,c,e,z⟩
    · exact .inl l
    · exact .inr ⟨k,c,e,cellK x c e _ z⟩
  · obtain⟨v,z⟩:=I.cell x c e
    exact⟨v,cellK x c e v z⟩
  · obtain⟨m,⟨o,_,_,ho,_⟩,_⟩:=I.loc
    exact free _ o (λz=>(hch _ z).2.1 rfl) ho I.free
  · obtain⟨v,o,ho,hd⟩:=I.cell x c e
    exact free c o (λz=>(hch c z).2.2.1 x c e rfl) ho (I.en x c e)
  · obtain⟨e,n,ne,nf,d⟩:=I.pin p hp
    have nch:p.1∉ch:=λz=>(hch p.1 z).2.2.2 p hp rfl;exact⟨keep p.1 p.2 ne nf nch e n,free p.1 p.2 nch e n,ne,nf,d⟩
theorem Inv.un{t':Nat}(I:Inv X pins σ H s)(u:Un X.fs [] H H' s.heap h')(hok:HOk X.prog X.w H' h'):Inv X pins σ H' {s with heap:=h',toks:=t'}:=by
  obtain⟨m,⟨o,es,ep,ho,r⟩,_⟩:=id I.loc;obtain⟨sl,hL⟩:=u.any ho I.free (by simp);exact I.step (g':=s.gens) (d':=s.drawn) (ch:=[]) (λ_ z=>nomatch z) (λb o _ hb _ e n=>u.keep b o e n hb (by simp)) (λb o _ hb _ e n=>u.slot b o e n hb (by simp)) (λb o _ e n=>u.free b o e n (by simp)) (λb o _ e=>u.there b o e (by simp)) u.ph u.nG u.pj (λm' hm=>by
    obtain⟨o',es',ep',ho',r'⟩:=hm;rw[ho]at ho';cases ho';exact⟨_,es',ep',hL,r'⟩) hok I.bare
theorem Inv.call{g':Array GenState}{t':Nat}{d':Drawn}{ch:List Addr}(I:Inv X pins σ H s)(u:Un (frs X.stack) ch H H' s.heap h')(hok:HOk X.prog X.w H' h')(hg:AllBare g')
    (hch:∀ b∈ch,(b∈X.ex∨X.s₀.heap.objs.size≤b)∧b≠X.env.locals∧(∀ x c,X.env.cells.lookup x=some c→c≠b)∧∀ p∈X.pn++pins,p.1≠b) :
    Inv X pins σ H' {s with heap:=h',gens:=g',drawn:=d',toks:=t'}:=by
  obtain⟨m,⟨o,es,ep,ho,r⟩,_⟩:=id I.loc;obtain⟨sl,hL⟩:=u.any ho I.free λz=>(hch _ z).2.1 rfl;exact I.step (ch:=ch) hch (λb o hL hb hc e n=>u.keep b o e n (λz=>(LQ.mp (I.o5 b z)).elim hL hb) hc) (λb o _ _ hc e n=>u.any e n hc) (λb o hc e n=>u.free b o e n hc) (λb o hc e=>u.there b o e hc) u.ph u.nG u.pj (λm' hm=>by
    obtain⟨o',es',ep',ho',r'⟩:=hm;rw[ho]at ho';cases ho';exact⟨_,es',ep',hL,r'⟩) hok hg
theorem Inv.turned{t':Nat}{it:Addr}(I:Inv X pins σ H s)(k:∀ b o,b≠it→s.heap.get? b=some o→h'.get? b=some o)(hn:H it=none)(hL:it≠X.env.locals)
    (h1:it∈X.ex∨X.s₀.heap.objs.size≤it) (h2:∀ x c,X.env.cells.lookup x=some c→c≠it) (h3:∀ p∈X.pn++pins,p.1≠it):Inv X pins σ H {s with heap:=h',toks:=t'}:=by
  have nit:∀ b u,H b=some u→b≠it:=λb u e z=>by rw[z,hn]at e;cases e
  refine I.step (g':=s.gens) (d':=s.drawn) (ch:=[it]) (λb hb=>?_) (λb o _ _ hc e _=>k b o (λz=>hc (by simp[z])) e) (λb o _ _ hc e _=>⟨o.slots,k b o (λz=>hc (by simp[z])) e⟩) (λ_ _ _ _ n=>n)
    (λb o hc e=>⟨o,k b o (λz=>hc (by simp[z])) e⟩) (λ_ _ e=>e) (λ_ _ _ e=>e) (λb ps e=>⟨#[],by rw[e];simp⟩) (λm hm=>?_) (λb u e=>?_) I.bare
  · have e:b=it:=by simpa using hb
    subst e;exact⟨h1,hL,h2,h3⟩
  · obtain⟨o,es,ep,ho,r⟩:=hm
    exact⟨o,es,ep,k _ o (L4 hL) ho,r⟩
  · refine(I.hok b u e).tm (λc v hc q=>k c v ?_ q) (λ_ q=>q) λ_ _ q=>q
    rcases hc with z|z
    · rw[z];exact nit b u e
    · exact nit c _ z
theorem Inv.tok(I:Inv X pins σ H s)(t:Nat):Inv X pins σ H {s with toks:=t}:=I.un (h':=s.heap) (t':=t) Un.refl I.hok
theorem Inv.kept{t':Nat}(I:Inv X pins σ H s)(k:∀ b u,s.heap.get? b=some u→h'.get? b=some u):Inv X pins σ H {s with heap:=h',toks:=t'}:=I.un (Un.kept k) (I.hok.kept k)
theorem Inv.laid{a:Addr}{o:HO}{t':Nat}(I:Inv X pins σ H s)(k:∀ b u,s.heap.get? b=some u→h'.get? b=some u)(hp:s.heap.objs.size≤a)(new:bJ X.prog X.w (upd H a o) h' a o) :
    Inv X pins σ (upd H a o) {s with heap:=h',toks:=t'}:=I.un (Un.laid k hp (I.hok.fresh hp)) (I.hok.laid k hp new)
theorem Inv.write{x e:Addr}{o:HO}{t':Nat}(I:Inv X pins σ H s)(mu:Mut (H x))(he:e=x∨H e=some (.own x))(k:∀ b u,b≠e→s.heap.get? b=some u→h'.get? b=some u)(heo:∃ u,h'.get? e=some u)
    (new:bJ X.prog X.w (upd H x o) h' x o):Inv X pins σ (upd H x o) {s with heap:=h',toks:=t'}:=I.un (Un.write mu he k heo) (I.hok.write mu he k heo new)
theorem Inv.wM{vg:List (Addr×Obj)}(I:Inv X pins σ H s)(h:∀ p∈vg,s.heap.get? p.1=some p.2∧H p.1=none∧p.1≠X.env.locals∧p.1∉X.fs∧∀ v,p.2.data≠.cell v):Inv X vg σ H s :=
  ⟨I.ok,I.os,I.bare,I.base,I.loc,I.cell,I.free,I.en,λp hp=>(LB.mp hp).elim (λz=>I.pin p (LW _ z)) (h p),I.hok,I.len⟩
theorem qr{N:List Str}(hN:N.Nodup){i j:Nat}{x:Str}(a:N[i]?=some x)(b:N[j]?=some x):i=j:=by
  obtain⟨h1,e1⟩:=Lq.mp a;obtain⟨h2,e2⟩:=Lq.mp b;exact(List.getElem_inj hN).mp (e1.trans e2.symm)
theorem xP{M:Model}{A:Around}{E:Value→Shared→Prop}{i:Nat}{x:Str}{v:V}{u:Value}{Q:Unit→Shared→Prop}(I:Inv X pins σ H s)(hN:X.N.Nodup)(hi:X.N[i]?=some x)(hx:Loc X.env.scope x)(r:RelV v u)
    (h:∀ s',Inv X pins (σ.set i (some v)) H s'→(∃ a,Heap.SameBut a s.heap s'.heap∧(a=X.env.locals∨X.env.cells.lookup x=some a))→Q () s') (hf:X.fn x=true∨X.env.scope.names.lookup x=some .local:=by first|exact .inl rfl|exact .inr rfl|assumption):wpAny M A (storeName X.env x u) Q E s:=by
  obtain⟨m,hn,hl⟩:=id I.loc;have EZ:(X.env.scope.kind == .class||(X.env.scope.kind == .module&&X.env.locals != X.env.globals))=false:=by rw[I.ok.kind];rfl
  have hiσ:i<σ.length:=by rw[I.len];exact(Lq.mp hi).1
  have cne:=I.cne;have tracked:∀ {a:Addr} {h':Heap},(∃ o,s.heap.get? a=some o∧H a=none)→Heap.SameBut a s.heap h'→HOk X.prog X.w H h':=λ{a h'} ha hs b ob e=>by
    obtain⟨_,_,Di⟩:=ha;refine(I.hok b ob e).tm (λc w' hc q=>(hs.2 c ?_).trans q) (λ_ q=>q) λ_ _ q=>q;rintro rfl;rcases hc with rfl|hc
    · rw[Di]at e;cases e
    · rw[Di]at hc;cases hc
  rcases hx with hk|hk
  · refine wpAny_storeName_local hk hn (λh' hn' hs=>?_) EZ
    obtain⟨oL,_,_,hoL,_⟩:=id hn;refine h _ ⟨I.ok,I.os,I.bare,⟨λb o e n hb hx=>?_,λb o e n hb hx=>?_,I.base.free,λb o e hx=>?_,I.base.ph,I.base.nG,I.base.pj⟩,⟨_,hn',λj y v' e1 e2 e3=>?_⟩,λy c e=>?_,I.free,I.en,λp hp=>?_,tracked ⟨oL,hoL,I.free⟩ hs,by simpa using I.len⟩ ⟨_,hs,.inl rfl⟩
    · exact(hs.2 b (LN (LK (LC e) I.ok.above))).trans (I.base.keep b o e n hb hx)
    · obtain⟨sl,e1⟩:=I.base.slot b o e n hb hx
      exact⟨sl,(hs.2 b (LN (LK (LC e) I.ok.above))).trans e1⟩
    · obtain⟨o',e1⟩:=I.base.there b o e hx
      exact⟨o',(hs.2 b (LN (LK (LC e) I.ok.above))).trans e1⟩
    · by_cases hj:j=i
      · subst hj
        rw[hi]at e1;cases e1;rw[List.getElem?_set_self hiσ]at e2;cases e2;exact⟨u,r,.inl ⟨hk,by simp⟩⟩
      · rw[Nj (L4 hj)]at e2
        obtain⟨u',r',q⟩:=hl j y v' e1 e2 e3;refine⟨u',r',?_⟩;rcases q with⟨k,e⟩|⟨k,c,e,z⟩
        · refine .inl ⟨k,?_⟩
          have:y≠x:=λe=>hj (qr hN e1 (e ▸ hi))
          simp[this,e]
        · exact .inr ⟨k,c,e,z.sameBut hs (cne y c e)⟩
    · obtain⟨w',z⟩:=I.cell y c e
      exact⟨w',z.sameBut hs (cne y c e)⟩
    · obtain⟨e,n,ne,nf,d⟩:=I.pin p hp
      exact⟨(hs.2 p.1 ne).trans e,n,ne,nf,d⟩
  · have hfn:X.fn x=true:=by
      rcases hf with z|z
      · exact z
      · rw[z]at hk;cases hk
    obtain⟨c,hc⟩:=I.ok.has x (.inl hk);obtain⟨w',z⟩:=I.cell x c hc;refine wpAny_storeName_cell I.ok.kind hk hc z (λh' hc' hs=>?_);obtain⟨oc,hoc,Jj⟩:=id z;refine h {s with heap:=h'} ⟨I.ok,I.os,I.bare,⟨λb o e n hb hx=>?_,λb o e n hb hx=>?_,I.base.free,λb o e hx=>?_,I.base.ph,I.base.nG,I.base.pj⟩,⟨m,hn.sameBut hs (L4 (cne x c hc)),λj y v' e1 e2 e3=>?_⟩,λy c' e=>?_,I.free,I.en,λp hp=>?_,tracked ⟨oc,hoc,I.en x c hc⟩ hs,by simpa using I.len⟩ ⟨c,hs,.inr hc⟩
    · exact(hs.2 b (LN (LK (LC e) (I.ok.cab x c hfn hc)))).trans (I.base.keep b o e n hb hx)
    · obtain⟨sl,e1⟩:=I.base.slot b o e n hb hx
      exact⟨sl,(hs.2 b (LN (LK (LC e) (I.ok.cab x c hfn hc)))).trans e1⟩
    · obtain⟨o',e1⟩:=I.base.there b o e hx
      exact⟨o',(hs.2 b (LN (LK (LC e) (I.ok.cab x c hfn hc)))).trans e1⟩
    · by_cases hj:j=i
      · subst hj
        rw[hi]at e1;cases e1;rw[List.getElem?_set_self hiσ]at e2;cases e2;exact⟨u,r,.inr ⟨.inl hk,c,hc,hc'⟩⟩
      · rw[Nj (L4 hj)]at e2
        obtain⟨u',r',q⟩:=hl j y v' e1 e2 e3;refine⟨u',r',?_⟩;rcases q with q|⟨k,c',e,z'⟩
        · exact .inl q
        · refine .inr ⟨k,c',e,z'.sameBut hs ?_⟩
          rintro rfl;exact hj (qr hN e1 (I.ok.inj _ _ _ e hc ▸ hi))
    · by_cases hcc:c'=c
      · subst hcc;exact⟨_,hc'⟩
      · obtain⟨w2,z2⟩:=I.cell y c' e
        exact⟨w2,z2.sameBut hs hcc⟩
    · obtain⟨e,n,ne,nf,d⟩:=I.pin p hp
      refine⟨(hs.2 p.1 ?_).trans e,n,ne,nf,d⟩;intro q;rw[q,hoc]at e;have q':oc=p.2:=LS e;exact d w' (by rw[←q'];exact Jj)
theorem lU{M:Model}{A:Around}{E:Value→Shared→Prop}{i:Nat}{x:Str}{v:V}{u:Value}{Q:Unit→Shared→Prop}(I:Inv X pins σ H s)(hN:X.N.Nodup)(hi:X.N[i]?=some x)(hx:Loc X.env.scope x)(r:RelV v u)
    (h:∀ s',Inv X pins (σ.set i (some v)) H s'→Q () s') (hf:X.fn x=true∨X.env.scope.names.lookup x=some .local:=by first|exact .inl rfl|exact .inr rfl|assumption):wpAny M A (storeName X.env x u) Q E s :=
  xP I hN hi hx r (λs' I' _=>h s' I') hf
theorem Inv.yO{s':Shared}{ch:List Addr}(I:Inv X pins σ H s)(ho:s'.os=s.os)(u:Un (frs X.stack) ch H H' s.heap s'.heap)(hok:HOk X.prog X.w H' s'.heap)(hg:AllBare s'.gens)
    (hch:∀ b∈ch,(b∈X.ex∨X.s₀.heap.objs.size≤b)∧b≠X.env.locals∧(∀ x c,X.env.cells.lookup x=some c→c≠b)∧∀ p∈X.pn++pins,p.1≠b):Inv X pins σ H' s':=by
  obtain⟨h',g',d',t',o'⟩:=s';have e:o'=s.os:=ho;subst e;exact I.call (g':=g') (t':=t') (d':=d') u hok hg hch
end
abbrev XK:=Value→Option Addr→Hp→Prop
abbrev St:=List (Option V)
abbrev VK:=V→Hp→Prop
abbrev TE:=St→Hp→VK→Prop
abbrev TT:=St→Hp→(Bool→Hp→Prop)→Prop
abbrev TA:=St→Hp→(List V→Hp→Prop)→Prop
structure Ends where
  nx:St→Hp→Prop
  rt:VK
  bk:St→Hp→Prop:=λ_ _=>False
  ct:St→Hp→Prop:=λ_ _=>False
abbrev TS:=Ends→St→Hp→Prop
def EP(X:Cx)(pins:List (Addr×Obj))(σ:St)(Q:VK)(u:Value)(s':Shared):Prop:=∃ v H',Inv X pins σ H' s'∧RelV v u∧Q v H'
def TP(X:Cx)(pins:List (Addr×Obj))(σ:St)(Q:Bool→Hp→Prop)(b:Bool)(s':Shared):Prop:=∃ H',Inv X pins σ H' s'∧Q b H'
def AP(X:Cx)(pins:List (Addr×Obj))(σ:St)(Q:List V→Hp→Prop)(us:List Value)(s':Shared):Prop:=∃ vs H',Inv X pins σ H' s'∧Vals vs us∧Q vs H'
def SP(X:Cx)(pins:List (Addr×Obj))(D:Ends)(f:Flow)(s':Shared):Prop :=
  match f with
  | .next=>∃ σ' H',Inv X pins σ' H' s'∧D.nx σ' H'
  | .brk=>∃ σ' H',Inv X pins σ' H' s'∧D.bk σ' H'
  | .cont=>∃ σ' H',Inv X pins σ' H' s'∧D.ct σ' H'
  | .ret u=>∃ v σ' H',Inv X pins σ' H' s'∧RelV v u∧D.rt v H'
def PE(X:Cx)(e:Expr)(t:TE):Prop :=
  ∀(pins:List (Addr×Obj)) (s:Shared) (σ:St) (H:Hp) (Q:VK),Inv X pins σ H s→t σ H Q→wpAny (model X.prog X.w) X.A (eval e X.env) (EP X pins σ Q) X.xe s
def PT(X:Cx)(e:Expr)(t:TT):Prop :=
  ∀(pins:List (Addr×Obj)) (s:Shared) (σ:St) (H:Hp) (Q:Bool→Hp→Prop),Inv X pins σ H s→t σ H Q→wpAny (model X.prog X.w) X.A (isTrue e X.env (eval e X.env)) (TP X pins σ Q) X.xe s
def PW(X:Cx)(e:Expr)(t:TT):Prop :=
  ∀(whole:Sem Value) (pins:List (Addr×Obj)) (s:Shared) (σ:St) (H:Hp) (Q:Bool→Hp→Prop),Inv X pins σ H s→t σ H Q→wpAny (model X.prog X.w) X.A (isTrue e X.env whole) (TP X pins σ Q) X.xe s
theorem PW.pt{X:Cx}{e:Expr}{t:TT}(h:PW X e t):PT X e t:=h _
def PA(X:Cx)(es:List Expr)(t:TA):Prop :=
  ∀(pos:Pos) (pins:List (Addr×Obj)) (s:Shared) (σ:St) (H:Hp) (Q:List V→Hp→Prop),Inv X pins σ H s→t σ H Q→wpAny (model X.prog X.w) X.A (spliced (backTo pos (starEach es X.env))) (AP X pins σ Q) X.xe s
def PS(X:Cx)(st:Stmt)(t:TS):Prop :=
  ∀(pins:List (Addr×Obj)) (s:Shared) (σ:St) (H:Hp) (D:Ends),Inv X pins σ H s→t D σ H→wpAny (model X.prog X.w) X.A (exec st X.env) (SP X pins D) X.xe s
def PSs(X:Cx)(st:List Stmt)(t:TS):Prop :=
  ∀(pins:List (Addr×Obj)) (s:Shared) (σ:St) (H:Hp) (D:Ends),Inv X pins σ H s→t D σ H→wpAny (model X.prog X.w) X.A (execs st X.env) (SP X pins D) X.xe s
theorem thn{α:Type}{t:Sem α}{Q Q':α→Shared→Prop}{M:Model}{A:Around}{E:Value→Shared→Prop}{s:Shared}(h:wpAny M A t Q E s)(hQ:∀ a s,Q a s→Q' a s):wpAny M A t Q' E s:=wpAny_mono h hQ λ_ _ x=>x
end L2
namespace L2
open PySem PySem.Spec PyProof.Rows
section
variable{X:Cx}
inductive IE(o:Option (Option V))(H:Hp)(Q:VK):Prop where
  | mk (v:V):o=some (some v)→Q v H→IE o H Q
def BP(i:Nat):TE:=λσ H Q=>IE σ[i]? H Q
def tC(v:V):TE:=λ_ H Q=>Q v H
theorem D2{i:Nat}{x:Str}{pos:Pos}(hN:X.N[i]?=some x)(hv:Vis X.env.scope x)(hd:(x == ("__debug__" : Str))=false:=by decide)(hcd:(x == ("__classdict__" : Str))=false:=by decide):PE X (.Name x pos) (BP i):=by
  intro pins s σ H Q I h;obtain⟨v,e,h⟩:=h;obtain⟨m,hn,hl⟩:=I.loc;obtain⟨u,r,l⟩:=hl i x v hN e hv;have fin:EP X pins σ Q u s:=⟨v,H,I,r,h⟩;rcases l with⟨hk,hm⟩|⟨hk,c,hc,yP⟩
  · exact wpAny_Name (wpAny_loadName_local I.ok.kind hk hn hm fin) hd
  · rcases hk with hk|hk
    · exact wpAny_Name (wpAny_loadName_cell I.ok.kind hk hc yP fin) hd
    · exact wpAny_Name (wpAny_loadName_free I.ok.kind hk hc yP fin hcd) hd
theorem aj{i j pos}:PE X (.Constant (.int i) j pos) (tC (.int i)):=λ_ _ _ H _ I h=>wpAny_Constant_int ⟨.int i,H,I.tok _,⟨_,rfl⟩,h⟩
theorem iP{b j pos}:PE X (.Constant (.bool b) j pos) (tC (.bl b)):=λ_ _ _ H _ I h=>Constant_bool ⟨.bl b,H,I,rfl,h⟩
theorem bH{j pos}:PE X (.Constant .none j pos) (tC .non):=λ_ _ _ H _ I h=>Constant_none ⟨.non,H,I,rfl,h⟩
theorem aJ{x j pos}:PE X (.Constant (.str x) j pos) (tC (.str x)):=λ_ _ _ H _ I h=>Calls.Constant_str ⟨.str x,H,I.tok _,⟨_,rfl⟩,h⟩
def Gl(X:Cx)(x:Str):Prop:=X.env.kindOf x=some .globalImplicit
theorem iL{E:Value→Shared→Prop}{pins:List (Addr×Obj)}{s:Shared}{σ:St}{H:Hp}{x:Str}{u:Value}{pos:Pos}{Q:Value→Shared→Prop}(I:Inv X pins σ H s)(hg:Gl X x)(hm:X.mg x=some u)(h:Q u s)
    (hd:(x == ("__debug__" : Str))=false:=by decide):wpAny (model X.prog X.w) X.A (eval (.Name x pos) X.env) Q E s :=
  Np I.ok.kind hg (Calls.loadGlobal_global (by rw[I.ok.glob];exact I.mod.glob.keeps I.bk) hm h) hd
theorem jL{E:Value→Shared→Prop}{pins:List (Addr×Obj)}{s:Shared}{σ:St}{H:Hp}{x:Str}{u:Value}{pos:Pos}{Q:Value→Shared→Prop}(I:Inv X pins σ H s)(hg:Gl X x)(hm:X.mg x=none)(hv:bootBuiltins x=some u)(h:Q u s)
    (hn:x ≠ "__name__" := by decide) (hd:(x == ("__debug__" : Str))=false:=by decide):wpAny (model X.prog X.w) X.A (eval (.Name x pos) X.env) Q E s:=by
  obtain⟨mb,h1,h2⟩:=I.mod.blt;exact Np I.ok.kind hg (Calls.loadGlobal_builtin (by rw[I.ok.glob];exact I.mod.glob.keeps I.bk) hm (by rw[I.ok.blt];exact h1.keeps I.bk) ((h2 x hn).trans hv) h) hd
theorem bg{x:Str}{v:V}{u:Value}{pos:Pos}(hg:Gl X x)(hm:X.mg x=some u)(r:RelV v u)(hd:(x == ("__debug__" : Str))=false:=by decide):PE X (.Name x pos) (tC v) :=
  λ_ _ _ H _ I h=>iL I hg hm ⟨v,H,I,r,h⟩ hd
variable{a b:Expr}{ta tb:TE}{pos:Pos}
def PC(X:Cx)(op:CmpOp)(a b:Expr)(t:TE):Prop :=
  ∀(pins:List (Addr×Obj)) (s:Shared) (σ:St) (H:Hp) (Q:VK),Inv X pins σ H s→t σ H Q →
    wpAny (model X.prog X.w) X.A (eval a X.env) (λv s₁=>wpAny (model X.prog X.w) X.A (eval b X.env) (λu s₂=>wpAny (model X.prog X.w) X.A (compareOp op v u) (EP X pins σ Q) X.xe s₂) X.xe s₁) X.xe s
inductive E0(x:V)(H:Hp)(Q:Bool→Hp→Prop):Prop where
  | mk (k:Bool):x=.bl k→Q k H→E0 x H Q
def tB(t:TE):TT:=λσ H Q=>t σ H λx H1=>E0 x H1 Q
theorem D3{op:CmpOp}{t:TE}(h:PC X op a b t)(h1:behindInMarks op b=false:=by first|exact nobehind _ (by decide) (by decide)|rfl):PE X (.Compare a [op] [b] pos) t:=λpins s σ H Q I hw=>wpAny_Compare1 (h pins s σ H Q I hw) h1
theorem cA{op:CmpOp}{t:TE}(h:PC X op a b t)(h1:behindInMarks op b=false:=by first|exact nobehind _ (by decide) (by decide)|rfl):PT X (.Compare a [op] [b] pos) (tB t):=by
  intro pins s σ H Q I hw;refine wpAny_isTrue_Compare1 (thn (h pins s σ H _ I hw) λv s1 h1=>thn h1 λu s2 h2=>thn h2 λc s3 ⟨x,H1,I1,r1,q1⟩=>?_) h1;obtain⟨d,rfl,q⟩:=q1;cases r1;exact wpAny_truthy_bool ⟨H1,I1,q⟩
theorem fF{e:Expr}{t:TE}(h:PE X e t)(he:∀ whole,isTrue e X.env whole=(do let v ←whole;standAt e.pos;holding [v] (truthy v)):=by intro _;rfl):PT X e (tB t):=by
  intro pins s σ H Q I hw;refine isTrue_plain (thn (h pins s σ H _ I hw) λv s1 ⟨x,H1,I1,r1,q1⟩=>?_) (he _);obtain⟨d,rfl,q⟩:=q1;cases r1;exact wpAny_truthy_bool ⟨H1,I1,q⟩
variable{tA tB':TT}{rest:List Expr}
def Jk(t u:TT):TT:=λσ H Q=>t σ H λc H1=>if c=true then u σ H1 Q else Q false H1
def tOr(t u:TT):TT:=λσ H Q=>t σ H λc H1=>if c=true then Q true H1 else u σ H1 Q
def Jl(t:TT):TT:=λσ H Q=>t σ H λc H1=>Q (!c) H1
theorem pw_and1(ha:PT X a tA):PW X (.BoolOp .And [a] pos) tA:=by
  intro wh pins s σ H Q I h;refine isTrue_and (thn (ha pins s σ H Q I h) λc s1 e=>?_);cases c with
  | true=>exact isTrue_and_nil e
  | false=>exact e
theorem pw_or1(ha:PT X a tA):PW X (.BoolOp .Or [a] pos) tA:=by
  intro wh pins s σ H Q I h;refine isTrue_or (thn (ha pins s σ H Q I h) λc s1 e=>?_);cases c with
  | false=>exact isTrue_or_nil e
  | true=>exact e
theorem pw_and(ha:PT X a tA)(hb:PW X (.BoolOp .And (b::rest) pos) tB'):PW X (.BoolOp .And (a::b::rest) pos) (Jk tA tB'):=by
  intro wh pins s σ H Q I h;refine isTrue_and (thn (ha pins s σ H _ I h) λc s1 ⟨H1,I1,q1⟩=>?_);cases c with
  | true=>exact hb wh pins s1 σ H1 Q I1 q1
  | false=>exact⟨H1,I1,q1⟩
theorem pw_or(ha:PT X a tA)(hb:PW X (.BoolOp .Or (b::rest) pos) tB'):PW X (.BoolOp .Or (a::b::rest) pos) (tOr tA tB'):=by
  intro wh pins s σ H Q I h;refine isTrue_or (thn (ha pins s σ H _ I h) λc s1 ⟨H1,I1,q1⟩=>?_);cases c with
  | true=>exact⟨H1,I1,q1⟩
  | false=>exact hb wh pins s1 σ H1 Q I1 q1
theorem gw(ha:PT X a tA):PT X (.UnaryOp .Not a pos) (Jl tA):=by
  intro pins s σ H Q I h;exact isTrue_not (ha pins s σ H (λc H1=>Q (!c) H1) I h)
def Hh(ta tb:TE):TE:=λσ H Q=>ta σ H λx H1=>∃ c,x=.bl c∧if c=true then tb σ H1 Q else Q (.bl false) H1
def Jm(ta tb:TE):TE:=λσ H Q=>ta σ H λx H1=>∃ c,x=.bl c∧if c=true then Q (.bl true) H1 else tb σ H1 Q
theorem wj{op}{t:TE}(h:PE X a t):PE X (.BoolOp op [a] pos) t:=λpins s σ H Q I hw=>BoolOp_one (h pins s σ H Q I hw)
theorem D4(ha:PE X a ta)(hb:PE X (.BoolOp .And (b::rest) pos) tb):PE X (.BoolOp .And (a::b::rest) pos) (Hh ta tb):=by
  intro pins s σ H Q I h;refine BoolOp_and (thn (ha pins s σ H _ I h) λv s1 ⟨x,H1,I1,r1,q1⟩=>?_);obtain⟨c,rfl,q1⟩:=q1;cases r1;refine wpAny_truthy_bool ?_;cases c with
  | true=>exact hb pins s1 σ H1 Q I1 q1
  | false=>exact⟨.bl false,H1,I1,rfl,q1⟩
theorem Dj(ha:PE X a ta)(hb:PE X (.BoolOp .Or (b::rest) pos) tb):PE X (.BoolOp .Or (a::b::rest) pos) (Jm ta tb):=by
  intro pins s σ H Q I h;refine BoolOp_or (thn (ha pins s σ H _ I h) λv s1 ⟨x,H1,I1,r1,q1⟩=>?_);obtain⟨c,rfl,q1⟩:=q1;cases r1;refine wpAny_truthy_bool ?_;cases c with
  | false=>exact hb pins s1 σ H1 Q I1 q1
  | true=>exact⟨.bl true,H1,I1,rfl,q1⟩
def tIf(t:TT)(ta tb:TE):TE:=λσ H Q=>t σ H λc H1=>if c=true then ta σ H1 Q else tb σ H1 Q
theorem jr{c:Expr}(hc:PT X c tA)(ha:PE X a ta)(hb:PE X b tb):PE X (.IfExp c a b pos) (tIf tA ta tb):=by
  intro pins s σ H Q I h;refine wpAny_IfExp (thn (hc pins s σ H _ I h) λd s1 ⟨H1,I1,q1⟩=>?_);cases d with
  | true=>exact ha pins s1 σ H1 Q I1 q1
  | false=>exact hb pins s1 σ H1 Q I1 q1
end
end L2
namespace L2
open PySem PySem.Spec PyProof.Rows
def SqL(K:W.Frag)(H:Hp)(a:Addr)(xs:List V):Prop :=
  Rd H a (.lst xs) ∨
    ∃(o:Obj) (its:Array Value) (n:Nat),K.lookup a=some o∧o.cls=.type "list" ∧ o.dict=none∧o.data=.seq its n∧its.size≤sizeLine∧Vals xs its.toList
def SqT(K:W.Frag)(H:Hp)(a:Addr)(xs:List V):Prop :=
  Rd H a (.tup xs) ∨
    ∃(o:Obj) (its:Array Value) (n:Nat),K.lookup a=some o∧o.cls=.type "tuple" ∧ o.data=.seq its n∧its.size≤sizeLine∧Vals xs its.toList
def Jn:Value→Option V
  | .none=>some .non
  | .bool b=>some (.bl b)
  | .int i _=>some (.int i)
  | .str x _=>some (.str x)
  | .bytes b _=>some (.byt b)
  | .float b _=>some (.flt b)
  | .ref a=>some (.ref a)
  | .type n=>some (.ty n)
  | _=>none
theorem RelV.abs{x:V}{u:Value}(r:RelV x u):Jn u=some x:=by
  cases x with
  | non=>cases r;rfl
  | bl _=>cases r;rfl
  | int _=>obtain⟨t,rfl⟩:=r;rfl
  | str _=>obtain⟨t,rfl⟩:=r;rfl
  | byt _=>obtain⟨t,rfl⟩:=r;rfl
  | flt _=>obtain⟨t,rfl⟩:=r;rfl
  | ref _=>cases r;rfl
  | ty _=>cases r;rfl
theorem RelV.inj{x y:V}{u:Value}(r:RelV x u)(q:RelV y u):x=y:=LS (r.abs.symm.trans q.abs)
theorem Vals.inj:∀ {xs ys:List V} {us:List Value},Vals xs us→Vals ys us→xs=ys
  | _,_,_,.nil,.nil=>rfl
  | _,_,_,.cons r t,.cons r' t'=>by rw[r.inj r',Vals.inj t t']
section
variable{X:Cx}{pins:List (Addr×Obj)}{σ:St}{H:Hp}{s:Shared}{a:Addr}{xs ys:List V}
theorem SqL.of{K:W.Frag}(h:H a=some (.lst xs)):SqL K H a xs:=.inl (.inl h)
theorem SqT.of{K:W.Frag}(h:H a=some (.tup xs)):SqT K H a xs:=.inl (.inl h)
theorem Inv.list(I:Inv X pins σ H s)(h:SqL X.K H a xs):∃ its:List Value,Vals xs its∧PlainL s.heap a its.toArray∧xs.length≤sizeLine:=by
  rcases h with h|⟨o,its,n,hk,hc,hd,hs,hz,r⟩
  · obtain⟨z,its,n,r,e⟩:=h.ok I.hok
    exact⟨its,r,⟨_,n,e,rfl,rfl,rfl⟩,z⟩
  · refine⟨its.toList,r,⟨o,n,I.kIn a o hk,hc,hd,by simpa using hs⟩,?_⟩
    have e:=r.length;simp only[MF]at e;omega
theorem Inv.tuple(I:Inv X pins σ H s)(h:SqT X.K H a xs):∃ its:List Value,Vals xs its∧IsTup s.heap a its.toArray∧xs.length≤sizeLine:=by
  rcases h with h|⟨o,its,n,hk,hc,hs,hz,r⟩
  · obtain⟨z,its,r,p⟩:=h.ok I.hok
    exact⟨its,r,p,z⟩
  · refine⟨its.toList,r,⟨o,I.kIn a o hk,hc,n,by simpa using hs⟩,?_⟩
    have e:=r.length;simp only[MF]at e;omega
theorem Inv.uB(I:Inv X pins σ H s)(h:SqL X.K H a xs)(h':SqL X.K H a ys):xs=ys:=by
  obtain⟨its,r,⟨o,n,e,_,_,d⟩,_⟩:=I.list h;obtain⟨qD,r',⟨o',n',e',_,_,d'⟩,_⟩:=I.list h';rw[e]at e';cases e';rw[d]at d';injection d' with d1 _
  have:its=qD:=by simpa using congrArg Array.toList d1
  subst this;exact r.inj r'
end
abbrev Cx.qE(X:Cx)(E:Value→Shared→Prop):Cx:={X with xe:=E}
abbrev Cx.nox(X:Cx):Cx:=X.qE λ_ _=>False
theorem Cx.Ok.qE{X:Cx}(ok:X.Ok)(E:Value→Shared→Prop):(X.qE E).Ok :=
  ⟨ok.mod,ok.kind,ok.glob,ok.blt,ok.above,ok.inj,ok.has,ok.cab,ok.hd,ok.frames,ok.stk,ok.exf,ok.bs,ok.bsz,ok.ve,ok.wL,ok.mz,ok.frf⟩
theorem Cx.Ok.fG{X:Cx}{E:Value→Shared→Prop}(ok:(X.qE E).Ok):X.Ok :=
  ⟨ok.mod,ok.kind,ok.glob,ok.blt,ok.above,ok.inj,ok.has,ok.cab,ok.hd,ok.frames,ok.stk,ok.exf,ok.bs,ok.bsz,ok.ve,ok.wL,ok.mz,ok.frf⟩
section
variable{X:Cx}{pins:List (Addr×Obj)}{σ:St}{H:Hp}{s:Shared}{E:Value→Shared→Prop}
theorem Inv.qE(I:Inv X pins σ H s)(E:Value→Shared→Prop):Inv (X.qE E) pins σ H s:=⟨I.ok.qE E,I.os,I.bare,I.base,I.loc,I.cell,I.free,I.en,I.pin,I.hok,I.len⟩
theorem Inv.fG(I:Inv (X.qE E) pins σ H s):Inv X pins σ H s:=⟨I.ok.fG,I.os,I.bare,I.base,I.loc,I.cell,I.free,I.en,I.pin,I.hok,I.len⟩
theorem SP.fG{D:Ends}{f:Flow}{s':Shared}(h:SP (X.qE E) pins D f s'):SP X pins D f s':=by
  cases f with
  | next=>obtain⟨σ',H',I,q⟩:=h;exact⟨σ',H',I.fG,q⟩
  | brk=>obtain⟨σ',H',I,q⟩:=h;exact⟨σ',H',I.fG,q⟩
  | cont=>obtain⟨σ',H',I,q⟩:=h;exact⟨σ',H',I.fG,q⟩
  | ret u=>obtain⟨v,σ',H',I,r,q⟩:=h;exact⟨v,σ',H',I.fG,r,q⟩
theorem PSs.nox{st:List Stmt}{t:TS}(h:PSs X.nox st t):PSs X st t:=λpins s σ H D I hw =>
  wpAny_mono (h pins s σ H D (I.qE _) hw) (λ_ _ q=>q.fG) λ_ _ z=>False.elim z
end
section
variable{X:Cx}{st:Stmt}{rest:List Stmt}{t u:TS}{e:Expr}{te:TE}{pos:Pos}
def Hi:TS:=λD σ H=>D.nx σ H
def tq(t u:TS):TS:=λD σ H=>t {D with nx:=u D} σ H
theorem aC:PSs X [] Hi:=λ_ _ σ H _ I h=>wpAny_execs_nil ⟨σ,H,I,h⟩
theorem af(h1:PS X st t)(h2:PSs X rest u):PSs X (st::rest) (tq t u):=by
  intro pins s σ H D I h;refine wpAny_execs_cons (thn (h1 pins s σ H {D with nx:=u D} I h) λf s1 q=>?_);cases f with
  | next =>
    obtain⟨σ',H',I',q⟩:=q;exact h2 pins s1 σ' H' D I' q
  | ret v=>exact q
  | brk=>exact q
  | cont=>exact q
theorem ag(h1:PS X st t):PSs X [st] t:=by
  intro pins s σ H D I h;refine wpAny_execs_cons (thn (h1 pins s σ H D I h) λf s1 q=>?_);cases f with
  | next=>exact wpAny_execs_nil q
  | ret v=>exact q
  | brk=>exact q
  | cont=>exact q
theorem Inv.quiet{pins:List (Addr×Obj)}{σ:St}{H:Hp}{s:Shared}(I:Inv X pins σ H s):interactive X.env=false:=by simp[interactive,I.ok.kind]
def Hj(te:TE):TS:=λD σ H=>te σ H λ_ H1=>D.nx σ H1
theorem au(he:PE X e te)(hs:swapsWith e none pos.line X.env=pure false:=by rfl):PS X (.Expr e pos) (Hj te):=by
  intro pins s σ H D I h;exact wpAny_Expr_any (thn (he pins s σ H _ I h) λv s1 ⟨x,H1,I1,r1,q1⟩=>⟨σ,H1,I1,q1⟩) I.quiet hs
def Jo(te:TE):TS:=λD σ H=>te σ H D.rt
theorem aA(he:PE X e te):PS X (.Return (some e) pos) (Jo te):=by
  intro pins s σ H D I h;exact wpAny_Return_some (thn (he pins s σ H _ I h) λv s1 ⟨x,H1,I1,r1,q1⟩=>⟨x,σ,H1,I1,r1,q1⟩)
def IF(c:TT)(t u:TS):TS:=λD σ H=>c σ H λb H1=>if b=true then t D σ H1 else u D σ H1
theorem aO{c:Expr}{a b:List Stmt}{tc:TT}(hc:PT X c tc)(ha:PSs X a t)(hb:PSs X b u):PS X (.If c a b pos) (IF tc t u):=by
  intro pins s σ H D I h;refine wpAny_If (thn (hc pins s σ H _ I h) λd s1 ⟨H1,I1,q1⟩=>?_);cases d with
  | true=>exact ha pins s1 σ H1 D I1 q1
  | false=>exact hb pins s1 σ H1 D I1 q1
end
abbrev TG:=V→St→Hp→(St→Hp→Prop)→Prop
abbrev TGs:=List V→St→Hp→(St→Hp→Prop)→Prop
def PG(X:Cx)(target:Expr)(t:TG):Prop :=
  ∀(pins:List (Addr×Obj)) (s:Shared) (σ:St) (H:Hp) (v:V) (u:Value) (Q:St→Hp→Prop),Inv X pins σ H s→RelV v u→t v σ H Q →
    wpAny (model X.prog X.w) X.A (assign target X.env u) (λ_ s'=>∃ σ' H',Inv X pins σ' H' s'∧Q σ' H') X.xe s
def PGs(X:Cx)(ts:List Expr)(t:TGs):Prop :=
  ∀(pins:List (Addr×Obj)) (s:Shared) (σ:St) (H:Hp) (vs:List V) (us:List Value) (Q:St→Hp→Prop),Inv X pins σ H s→Vals vs us→t vs σ H Q →
    wpAny (model X.prog X.w) X.A (assignInOrder ((assignEach ts X.env).map (·.2)) us) (λ_ s'=>∃ σ' H',Inv X pins σ' H' s'∧Q σ' H') X.xe s
abbrev E1:=V→V→V→Hp→(Hp→Prop)→Prop
def IG(X:Cx)(t:E1):Prop :=
  ∀(pins:List (Addr×Obj)) (s:Shared) (σ:St) (H:Hp) (o i v:V) (ov iv u:Value) (Q:Hp→Prop),Inv X pins σ H s→RelV o ov→RelV i iv→RelV v u→t o i v H Q →
    wpAny (model X.prog X.w) X.A (setItem ov iv u) (λ_ s'=>∃ H',Inv X pins σ H' s'∧Q H') X.xe s
abbrev TIp:=V→V→Hp→VK→Prop
def PIp(X:Cx)(op:Operator)(t:TIp):Prop :=
  ∀(pins:List (Addr×Obj)) (s:Shared) (σ:St) (H:Hp) (x y:V) (v u:Value) (Q:VK),Inv X pins σ H s→RelV x v→RelV y u→t x y H Q →
    wpAny (model X.prog X.w) X.A (inplaceOp op v u) (EP X pins σ Q) X.xe s
section
variable{X:Cx}{pos:Pos}
def da(i:Nat):TG:=λv σ H Q=>Q (σ.set i (some v)) H
theorem aL{i:Nat}{x:Str}(hN:X.N.Nodup)(hi:X.N[i]?=some x)(hx:Loc X.env.scope x)(hf:X.fn x=true∨X.env.scope.names.lookup x=some .local:=by first|exact .inl rfl|exact .inr rfl|assumption):PG X (.Name x pos) (da i):=by
  intro pins s σ H v u Q I r h;exact wpAny_assign_Name (lU I hN hi hx r (λs' I'=>⟨_,H,I',h⟩) hf)
def Jp:TGs:=λvs σ H Q=>vs=[]∧Q σ H
def Hk(t:TG)(u:TGs):TGs:=λvs σ H Q=>∃ v r,vs=v::r∧t v σ H λσ' H'=>u r σ' H' Q
theorem jM:PGs X [] Jp:=by
  intro pins s σ H vs us Q I r h;obtain⟨e,h⟩:=h;subst e;cases r;exact assignInOrder_nil ⟨σ,H,I,h⟩
theorem cv{e:Expr}{es:List Expr}{t:TG}{u:TGs}(h1:PG X e t)(h2:PGs X es u)
    (hs:(assignEach (e::es) X.env).map (·.2)=assign e X.env::(assignEach es X.env).map (·.2):=by rfl):PGs X (e::es) (Hk t u):=by
  intro pins s σ H vs us Q I r h;obtain⟨v,vr,e1,h⟩:=h;subst e1;cases r with
  | cons r rr =>
    rw[hs];refine assignInOrder_cons (thn (h1 pins s σ H _ _ _ I r h) λ_ s1 ⟨σ1,H1,I1,q1⟩=>?_);exact h2 pins s1 σ1 H1 _ _ Q I1 rr q1
def Jq(K:W.Frag)(n:Nat)(t:TGs):TG:=λv σ H Q=>∃ a xs,v=.ref a∧SqT K H a xs∧xs.length=n∧t xs σ H Q
theorem o6{es:List Expr}{k:Nat}{t:TGs}{n:Nat}(hc:X.calm=true)(h:PGs X es t)
    (hn:(assignEach es X.env).length=n:=by rfl) (hst:(assignEach es X.env).findIdx? (·.1)=none:=by rfl):PG X (.Tuple es k pos) (Jq X.K n t):=by
  intro pins s σ H v u Q I r hw;obtain⟨a,xs,e1,hq,hl,hw⟩:=hw;subst e1;cases r;obtain⟨its,rv,ht,hz⟩:=I.tuple hq;refine assign_Tuple_tuple (I.ok.hd hc) ht (by simp[hn,←hl,rv.length]) hst λh' hx=>?_;have I1:Inv X pins σ H {s with heap:=h'}:=I.kept (t':=s.toks) λb o e=>hx b o (LN (LC e)) e;exact h pins _ σ H xs _ Q I1 (by simpa using rv) hw
def Jr(to ti:TE)(t:E1):TG:=λv σ H Q=>to σ H λo H1=>ti σ H1 λi H2=>t o i v H2 λH3=>Q σ H3
theorem lR{o i:Expr}{to ti:TE}{t:E1}(ho:PE X o to)(hi:PE X i ti)(hs:IG X t)
    (ha:∀ v,assign (.Subscript o i pos) X.env v=(do
      let ov ←holding [v] (eval o X.env)
      let iv ←holding [v,ov] (eval i X.env)
      standAt pos
      holding [v,ov,iv] (setItem ov iv v)
      release [v,ov,iv] []):=by intro _;rfl):PG X (.Subscript o i pos) (Jr to ti t):=by
  intro pins s σ H v u Q I r h;rw[ha];refine wpAny_bind (wpAny_holding (thn (ho pins s σ H _ I h) λov s1 ⟨x,H1,I1,r1,q1⟩=>?_));refine wpAny_bind (wpAny_holding (thn (hi pins s1 σ H1 _ I1 q1) λiv s2 ⟨y,H2,I2,r2,q2⟩=>?_));refine wpAny_bind (wpAny_standAt (wpAny_bind (wpAny_holding (thn (hs pins s2 σ H2 x y v ov iv u _ I2 r1 r2 r q2) λ_ s3 ⟨H3,I3,q3⟩=>?_))));exact wpAny_release ⟨σ,H3,I3,q3⟩
def wN(te:TE)(g:TG):TS:=λD σ H=>te σ H λx H1=>g x σ H1 D.nx
theorem lS{tg e:Expr}{te:TE}{g:TG}(he:PE X e te)(hg:PG X tg g)(hs:swapsWithSole [tg] e pos.line X.env=pure false:=by rfl)(hw:swappedStores [tg] e X.env=pure none:=by rfl)
    (h1:(assignEach [tg] X.env).map (·.2)=[assign tg X.env]:=by rfl):PS X (.Assign [tg] e pos) (wN te g):=by
  intro pins s σ H D I h;refine wpAny_Assign_stores (thn (he pins s σ H _ I h) λv s1 ⟨x,H1,I1,r1,q1⟩=>?_) hs hw;rw[h1];exact thn (hg pins s1 σ H1 x v _ I1 r1 q1) λ_ s2 q=>q
theorem aw{i:Nat}{x:Str}{e:Expr}{te:TE}{pos':Pos}(hN:X.N.Nodup)(hi:X.N[i]?=some x)(hx:Loc X.env.scope x)(he:PE X e te)(hs:swapsWith e (some (.Name x pos')) pos.line X.env=pure false:=by rfl)(hf:X.fn x=true∨X.env.scope.names.lookup x=some .local:=by first|exact .inl rfl|exact .inr rfl|assumption) :
    PS X (.Assign [.Name x pos'] e pos) (wN te (da i)):=by
  intro pins s σ H D I h;refine wpAny_Assign_Name (thn (he pins s σ H _ I h) λv s1 ⟨y,H1,I1,r1,q1⟩=>?_) hs;exact lU I1 hN hi hx r1 (λs2 I2=>⟨_,H1,I2,q1⟩) hf
def Js(i:Nat)(te:TE)(ti:TIp):TS:=λD σ H=>∃ x,σ[i]?=some (some x)∧te σ H λy H1=>ti x y H1 λz H2=>D.nx (σ.set i (some z)) H2
theorem AA{i:Nat}{x:Str}{e:Expr}{te:TE}{op:Operator}{ti:TIp}{pos':Pos}(hN:X.N.Nodup)(hi:X.N[i]?=some x)(hx:Loc X.env.scope x)(he:PE X e te)(ho:PIp X op ti)(hf:X.fn x=true∨X.env.scope.names.lookup x=some .local:=by first|exact .inl rfl|exact .inr rfl|assumption) :
    PS X (.AugAssign (.Name x pos') op e pos) (Js i te ti):=by
  intro pins s σ H D I h;obtain⟨v,e1,h⟩:=h;obtain⟨m,hn,hl⟩:=I.loc;have vis:Vis X.env.scope x:=by rcases hx with k|k;exact .inl k;exact .inr (.inl k)
  obtain⟨u,r,l⟩:=hl i x v hi e1 vis;refine wpAny_AugAssign_Name ?_;have go:wpAny (model X.prog X.w) X.A (eval e X.env) (λw s₂=>wpAny (model X.prog X.w) X.A (inplaceOp op u w) (λr s₃=>wpAny (model X.prog X.w) X.A (storeName X.env x r) (λ_=>SP X pins D .next) X.xe s₃) X.xe s₂) X.xe s:=by
    refine thn (he pins s σ H _ I h) λw s1 ⟨y,H1,I1,r1,q1⟩=>?_;refine thn (ho pins s1 σ H1 v y u w _ I1 r r1 q1) λz s2 ⟨zv,H2,I2,r2,q2⟩=>?_;exact lU I2 hN hi hx r2 (λs3 I3=>⟨_,H2,I3,q2⟩) hf
  rcases l with⟨hk,hm⟩|⟨hk,c,hc,yP⟩
  · exact wpAny_loadName_local I.ok.kind hk hn hm go
  · rcases hk with hk|hk
    · exact wpAny_loadName_cell I.ok.kind hk hc yP go
    · rcases hx with k|k
      · have:X.env.scope.names.lookup x=some .free:=hk
        rw[k]at this;cases this
      · have:X.env.scope.names.lookup x=some .free:=hk
        rw[k]at this;cases this
def ipI(f:Int→Int→Int):TIp:=λx y H Q=>∃ i j,x=.int i∧y=.int j∧Q (.int (f i j)) H
theorem AB:PIp X .Add (ipI λi j=>i+j):=by
  intro pins s σ H x y v u Q I r1 r2 h;obtain⟨i,j,e1,e2,q⟩:=h;subst e1;subst e2;obtain⟨t,rfl⟩:=r1;obtain⟨t',rfl⟩:=r2;exact iadd_int ⟨.int _,H,I.tok _,⟨_,rfl⟩,q⟩
end
section
variable{X:Cx}{pos:Pos}
def D5(c:TT)(tb:TS):TS:=λD σ H=>∃ W:Nat→St→Hp→Prop,(∃ m,W m σ H)∧∀ m σ H,W m σ H →
  c σ H λb H1=>if b=true then ∃ N:St→Hp→Prop,(∀ σ' H',N σ' H'→∃ m',m'<m∧W m' σ' H')∧tb {D with nx:=N,ct:=N,bk:=D.nx} σ H1 else D.nx σ H1
theorem qt{c:Expr}{body:List Stmt}{tc:TT}{tb:TS}(hp:PassesOwn (model X.prog X.w) X.A X.env X.xe)(hc:PT X c tc)(hb:PSs X body tb):PS X (.While c body [] pos) (D5 tc tb):=by
  intro pins s σ H D I h;obtain⟨W,⟨m0,w0⟩,turn⟩:=h;refine wpAny_While (codeAny_whileLoop (λn s'=>∃ σ' H',Inv X pins σ' H' s'∧W n σ' H') ?_ m0 ⟨σ,H,I,w0⟩);rintro n s1 ⟨σ1,H1,I1,w1⟩;refine wpAny_passesOwn hp (thn (hc pins s1 σ1 H1 _ I1 (turn n σ1 H1 w1)) λb s2 ⟨H2,I2,q2⟩=>?_);cases b with
  | true =>
    obtain⟨N,hN,q2⟩:=q2;rw[if_pos rfl];refine wpAny_passesOwn hp (thn (hb pins s2 σ1 H2 _ I2 q2) λf s3 q3=>?_);cases f with
    | next =>
      obtain⟨σ3,H3,I3,n3⟩:=q3;obtain⟨m',hm,w3⟩:=hN σ3 H3 n3;exact⟨m',hm,σ3,H3,I3,w3⟩
    | cont =>
      obtain⟨σ3,H3,I3,n3⟩:=q3;obtain⟨m',hm,w3⟩:=hN σ3 H3 n3;exact⟨m',hm,σ3,H3,I3,w3⟩
    | brk=>exact q3
    | ret v=>exact q3
  | false =>
    rw[if_neg Lv];exact wpAny_execs_nil ⟨σ1,H2,I2,q2⟩
end
structure It where
  go:Nat→Hp→Prop
  yld:Nat→Hp→V→Hp→Prop
  stop:Nat→Hp→Prop
def rn(X:Cx)(pins:List (Addr×Obj))(H:Hp)(b:Addr):Prop :=
  H b=none∧b≠X.env.locals∧b∉X.fs∧(b∈X.ex∨X.s₀.heap.objs.size≤b)∧(∀ x c,X.env.cells.lookup x=some c→c≠b)∧∀ p∈X.pn++pins,p.1≠b
theorem Inv.BQ{X:Cx}{pins:List (Addr×Obj)}{σ:St}{H H':Hp}{s:Shared}{b:Addr}(I:Inv X pins σ H s)(hb:s.heap.objs.size≤b)(hn:H' b=none):rn X pins H' b:=by
  refine⟨hn,Mz (LK I.lt hb),I.Ji hb,.inr (LL I.sz hb),λx c e z=>?_,λp hp z=>?_⟩
  · obtain⟨v,q⟩:=I.cell x c e
    exact absurd (LK q.lt (by rw[z];exact hb)) (My _)
  · exact absurd (LK (LC (I.pin p hp).1) (by rw[z];exact hb)) (My _)
structure Turn(P:Program)(w:World)(K:W.Frag)(tg:Expr)(J:It)(fp:List Addr)(it:Addr)(tn:Nat→Heap→Prop):Prop where
  mem:it∈fp
  obj:∀ i h,tn i h→∀ b∈fp,∃ o,h.get? b=some o∧∀ v,o.data≠.cell v
  keep:∀ i h h',tn i h→(∀ b∈fp,∀ o,h.get? b=some o→h'.get? b=some o)→tn i h'
  item:∀(X:Cx),X.prog=P→X.w=w→X.K=K→X.calm=true→∀(i:Nat) (pins:List (Addr×Obj)) (s:Shared) (σ:St) (H:Hp) (E:Value→Shared→Prop),Inv X pins σ H s→(∀ b∈fp,rn X pins H b)→tn i s.heap→J.go i H →
    wpAny (model P w) X.A (pyNext (.ref it)) (λr s1=>∃ u,r=some u ∧
      wpAny (model P w) X.A (letOwnedTupleGo tg (.ref it) u) (λ_ s2=>∃ x H',Inv X pins σ H' s2∧RelV x u∧J.yld i H x H'∧tn (i+1) s2.heap∧∀ b∈fp,H' b=none) E s1) E s
  done:∀(X:Cx),X.prog=P→X.w=w→X.K=K→X.calm=true→∀(i:Nat) (pins:List (Addr×Obj)) (s:Shared) (σ:St) (H:Hp) (E:Value→Shared→Prop),Inv X pins σ H s→(∀ b∈fp,rn X pins H b)→tn i s.heap→J.stop i H →
    wpAny (model P w) X.A (pyNext (.ref it)) (λr s1=>r=none∧Inv X pins σ H s1) E s
  self:∀(A:Around) (i:Nat) (s:Shared) (Q:Value→Shared→Prop) (E:Value→Shared→Prop),tn i s.heap→Q (.ref it) s→wpAny (model P w) A (pyIter (.ref it)) Q E s
abbrev TI:=St→Hp→(It→Hp→Prop)→Prop
def PIE(X:Cx)(pins:List (Addr×Obj))(σ:St)(tg:Expr)(R:It→Hp→Prop)(itv:Value)(s2:Shared):Prop :=
  ∃(it:Addr) (fp:List Addr) (tn:Nat→Heap→Prop) (J:It) (H':Hp),itv=.ref it∧Inv X pins σ H' s2∧Turn X.prog X.w X.K tg J fp it tn∧tn 0 s2.heap∧(∀ b∈fp,rn X pins H' b)∧R J H'
def PI(X:Cx)(tg iter:Expr)(wi:TI):Prop :=
  ∀(pins:List (Addr×Obj)) (s:Shared) (σ:St) (H:Hp) (R:It→Hp→Prop),Inv X pins σ H s→wi σ H R →
    wpAny (model X.prog X.w) X.A (eval iter X.env) (λv s1=>wpAny (model X.prog X.w) X.A (pyIter v) (PIE X pins σ tg R) X.xe s1) X.xe s
theorem Dk{M:Model}{A:Around}{E:Value→Shared→Prop}{s:Shared}{tg:Expr}{it:Addr}{u:Value}{o:Obj}{n:String}{vs:Array Value}{Q:Unit→Shared→Prop}(ho:s.heap.get? it=some o)(hc:o.cls=.type n)(hd:o.data=.fields vs)
    (hn:["enumerate", "zip", "dict_itemiterator", "dict_reverseitemiterator", "odict_iterator", "itertools.zip_longest", "itertools.pairwise"].contains n=false) (hQ:Q () s):wpAny M A (letOwnedTupleGo tg (.ref it) u) Q E s:=by
  unfold letOwnedTupleGo;cases tg<;>first
    | exact wpAny_pure hQ
    | (cases u<;>first
        | exact wpAny_pure hQ
        | (refine wpAny_bind (wpAny_load ho ?_)
           rw[hc,hd];show wpAny M A (if(["enumerate", "zip", "dict_itemiterator", "dict_reverseitemiterator", "odict_iterator", "itertools.zip_longest", "itertools.pairwise"].contains n&&vs[0]? == some (rawInt _))=true then _ else _) Q E s;rw[if_neg (by intro h;rw[hn,Bool.false_and]at h;cases h)];exact wpAny_pure hQ))
def Itl(K:W.Frag)(a:Addr):It :=
  ⟨λi H=>∃ xs x,SqL K H a xs∧xs[i]?=some x,λi H x H'=>H'=H∧∀ xs,SqL K H a xs→xs[i]?=some x,λi H=>∃ xs,SqL K H a xs∧xs.length≤i⟩
def Itr(lo:Int)(n:Nat):It:=⟨λi _=>i<n,λi H x H'=>H'=H∧x=.int (lo+i),λi _=>n≤i⟩
theorem xQ{P:Program}{w:World}{K:W.Frag}{tg:Expr}(a it:Addr):Turn P w K tg (Itl K a) [it] it (λi h=>h.IsListIter it a i) where
  mem:=by simp
  obj:=λi h st b hb=>by
    have e:b=it:=(by simpa using hb);subst e;obtain⟨o,e,c,d⟩:=st;exact⟨o,e,λv z=>by rw[d]at z;cases z⟩
  keep:=λi h h' st k=>st.at λo e=>k it (by simp) o e
  item:=by
    intro X hP hw hK hc i pins s σ H E I hf st hg;subst hP hw hK;obtain⟨xs,x,hq,hx⟩:=hg;obtain⟨its,rv,p,hz⟩:=I.list hq;obtain⟨u,hu,ru⟩:=rv.get hx;obtain⟨f0,f1,f2,f3,f4,f5⟩:=hf it (by simp);refine wpAny_pyNext_list_item st p.isList (x:=u) (by simpa using hu) λh' st' sb=>?_;have I1:Inv X pins σ H {s with heap:=h'}:=I.turned (t':=s.toks) (λb o hb e=>(sb.2 b hb).trans e) f0 f1 f3 f4 f5;obtain⟨o,e,c,d⟩:=id st';exact⟨u,rfl,Dk (s:={s with heap:=h'}) e c d (by decide) ⟨x,H,I1,ru,⟨rfl,λys hy=>by rw[I.uB hy hq];exact hx⟩,st',λb hb=>(hf b hb).1⟩⟩
  done:=by
    intro X hP hw hK hc i pins s σ H E I hf st hg;subst hP hw hK;obtain⟨xs,hq,hx⟩:=hg;obtain⟨its,rv,p,hz⟩:=I.list hq;obtain⟨f0,f1,f2,f3,f4,f5⟩:=hf it (by simp);have hl:=rv.length;exact wpAny_pyNext_list_end (I.ok.hd hc) st p.isList (by simp;omega) λh' eb=>⟨rfl,I.turned (t':=s.toks) (λb o hb e=>eb b o hb e) f0 f1 f3 f4 f5⟩
  self:=λ_ _ _ _ _ st h=>wpAny_pyIter_listiter st h
theorem vh{P:Program}{w:World}{K:W.Frag}{tg:Expr}(it:Addr)(lo:Int)(n:Nat):Turn P w K tg (Itr lo n) [it] it (λi h=>IsRangeIter h it (lo+(i:Nat)*1) ((n:Int)-(i:Nat)) 1) where
  mem:=by simp
  obj:=λi h st b hb=>by
    have e:b=it:=(by simpa using hb);subst e;exact⟨_,st,λv z=>by
      have z':Data.fields _=Data.cell v:=z;cases z'⟩
  keep:=λi h h' st k=>k it (by simp) _ st
  item:=by
    intro X hP hw hK hc i pins s σ H E I hf st hg;subst hP hw hK;obtain⟨f0,f1,f2,f3,f4,f5⟩:=hf it (by simp);have W:=Walks.range (prog:=X.prog) (w:=X.w) (I.ok.hd hc) it lo 1 n;refine W.item i s _ _ hg st λv h' tk hv st' kk=>?_;obtain⟨t,rfl⟩:=hv;have I1:Inv X pins σ H {s with heap:=h',toks:=tk}:=I.turned (λb o hb e=>kk b o (by simpa using hb) e) f0 f1 f3 f4 f5;refine⟨_,rfl,Dk (s:={s with heap:=h',toks:=tk}) (n := "range_iterator") st' rfl rfl (by decide) ⟨.int (lo+i),H,I1,⟨t,?_⟩,⟨rfl,rfl⟩,st',λb hb=>(hf b hb).1⟩⟩;rw[Int.mul_one]
  done:=by
    intro X hP hw hK hc i pins s σ H E I hf st hg;subst hP hw hK;obtain⟨f0,f1,f2,f3,f4,f5⟩:=hf it (by simp);exact wpAny_pyNext_range_end (I.ok.hd hc) st (by have:n≤i:=hg;omega) λh' eb=>⟨rfl,I.turned (t':=s.toks) (λb o hb e=>eb b o hb e) f0 f1 f3 f4 f5⟩
  self:=λ_ _ _ _ _ st h=>wpAny_pyIter_rangeiter st h
end L2
namespace L2
open PySem PySem.Spec PyProof.Rows
section
variable{X:Cx}{tg:Expr}
inductive Dm(K:W.Frag)(x:V)(H:Hp)(R:It→Hp→Prop):Prop where
  | mk (a:Addr):x=.ref a→(∃ xs,SqL K H a xs)→R (Itl K a) H→Dm K x H R
def Hl(K:W.Frag)(tl:TE):TI:=λσ H R=>tl σ H λx H1=>Dm K x H1 R
theorem bh{l:Expr}{tl:TE}(hl:PE X l tl):PI X tg l (Hl X.K tl):=by
  intro pins s σ H R I h;refine thn (hl pins s σ H _ I h) λv s1 ⟨x,H1,I1,r1,q1⟩=>?_;obtain⟨a,e,⟨xs,hq⟩,q⟩:=q1;subst e;cases r1;obtain⟨its,rv,p,hz⟩:=I1.list hq;refine wpAny_pyIter_list p.isList ?_;refine⟨s1.heap.objs.size,[s1.heap.objs.size],_,_,H1,rfl,I1.kept (t':=s1.toks) λb o e=>Lx _ e,xQ a _,⟨_,LY _ rfl,rfl,rfl⟩,λb hb=>?_,q⟩;have e:b=s1.heap.objs.size:=by simpa using hb
  subst e;exact I1.BQ (Lu _) (I1.hok.fresh (Lu _))
theorem zg{pins:List (Addr×Obj)}{σ:St}{H:Hp}{s:Shared}{R:It→Hp→Prop}{E:Value→Shared→Prop}{lo hi:Int}{t u v:Tok}{tk:Nat}(I:Inv X pins σ H s)(h1:-(2 ^ 62)≤lo)(h2:lo<2 ^ 62)(h3:-(2 ^ 62)≤hi)(h4:hi<2 ^ 62)
    (q:R (Itr lo (hi-lo).toNat) H):wpAny (model X.prog X.w) X.A (pyIter (.ref s.heap.objs.size)) (PIE X pins σ tg R) E {s with heap:=s.heap.push {cls:=.type "range",data:=.fields #[.int lo t,.int hi u,.int 1 v]},toks:=tk}:=by
  refine wpAny_pyIter_range (IsRange.new ..) (small_one h1 h2 h3 h4) ?_;have I1:Inv X pins σ H {s with heap:=s.heap.push {cls:=.type "range",data:=.fields #[.int lo t,.int hi u,.int 1 v]},toks:=tk}:=I.kept λb o e=>Lx _ e;refine⟨(s.heap.push {cls:=.type "range",data:=.fields #[.int lo t,.int hi u,.int 1 v]}).objs.size,[(s.heap.push {cls:=.type "range",data:=.fields #[.int lo t,.int hi u,.int 1 v]}).objs.size],_,_,H,rfl,
    I1.kept (t':=tk) λb o e=>Lx _ e,vh _ lo (hi-lo).toNat,?_,λb hb=>?_,q⟩
  · have e1:lo+((0:Nat):Int)*1=lo:=by simp
    have e2:(((hi-lo).toNat:Nat):Int)-((0:Nat):Int)=Builtin.Range.rangeSize lo hi 1:=(by rw[rangeSize_one];split<;>omega);show IsRangeIter _ _ (lo+((0:Nat):Int)*1) ((((hi-lo).toNat:Nat):Int)-((0:Nat):Int)) 1;rw[e1,e2];exact LY _ rfl
  · have e:b=(s.heap.push {cls:=.type "range",data:=.fields #[.int lo t,.int hi u,.int 1 v]}).objs.size:=by simpa using hb
    subst e;exact I1.BQ (Lu _) (I1.hok.fresh (Lu _))
def Hm(ta:TA):TI:=λσ H R=>ta σ H λvs H1=>∃ j:Int,vs=[.int j]∧-(2 ^ 62)≤j∧j<2 ^ 62∧R (Itr 0 j.toNat) H1
theorem fH{a:Expr}{ta:TA}{p pos:Pos}(hg:Gl X "range")(hm:X.mg "range" = none)(ha:PA X [a] ta)(hs:starEach [a] X.env=[(false,eval a X.env)]:=by rfl):PI X tg (.Call (.Name "range" p) [a] [] pos) (Hm ta):=by
  intro pins s σ H R I h;refine Call_ (jL I hg hm boot_range (PyProof.Rows.callWith_type1 (thn (ha pos pins s σ H _ I h) λus s1 ⟨vs,H1,I1,r1,q1⟩=>?_) hs rfl));obtain⟨j,e,q1,q2,q⟩:=q1;subst e;cases r1 with
  | cons r rr =>
    cases rr;obtain⟨t,rfl⟩:=r;exact call_range_1 (zg I1 (by omega) (by omega) q1 q2 (by simpa using q))
def Jt(wi:TI)(g:TG)(tb:TS):TS:=λD σ H=>wi σ H λJ H1=>∃ W:Nat→Nat→St→Hp→Prop,(∃ m,W 0 m σ H1)∧∀ i m σ H,W i m σ H →
  (J.stop i H∧D.nx σ H)∨(J.go i H∧∃ N:St→Hp→Prop,(∀ σ' H',N σ' H'→∃ m',m'<m∧W (i+1) m' σ' H')∧∀ x H',J.yld i H x H'→g x σ H' λσ2 H2=>tb {D with nx:=N,ct:=N,bk:=D.nx} σ2 H2)
def qF(fp:List Addr)(h:Heap):List (Addr×Obj):=fp.filterMap λb=>(h.get? b).map λo=>(b,o)
theorem fM{fp:List Addr}{h:Heap}{b:Addr}{o:Obj}(hb:b∈fp)(e:h.get? b=some o):(b,o)∈qF fp h:=Mh.mpr ⟨b,hb,by rw[e];rfl⟩
theorem xR{fp:List Addr}{h:Heap}{p:Addr×Obj}(hp:p∈qF fp h):p.1∈fp∧h.get? p.1=some p.2:=by
  obtain⟨b,hb,e⟩:=Mh.mp hp;cases q:h.get? b with
  | none=>rw[q]at e;cases e
  | some o =>
    rw[q]at e;have e':(b,o)=p:=LS e;subst e';exact⟨hb,q⟩
theorem Inv.pinned{pins:List (Addr×Obj)}{σ:St}{H:Hp}{s:Shared}{fp:List Addr}(I:Inv X pins σ H s)(hf:∀ b∈fp,rn X pins H b)(ho:∀ b∈fp,∃ o,s.heap.get? b=some o∧∀ v,o.data≠.cell v):Inv X (pins++qF fp s.heap) σ H s :=
  I.wM λp hp=>(LB.mp hp).elim (λz=>I.pin p (LJ _ z)) λz=>by
    obtain⟨hb,e⟩:=xR z;obtain⟨f0,f1,f2,_⟩:=hf p.1 hb;obtain⟨o,e',d⟩:=ho p.1 hb;rw[e]at e';cases e';exact⟨e,f0,f1,f2,d⟩
theorem Inv.js{pins pl:List (Addr×Obj)}{σ:St}{H:Hp}{s:Shared}(I:Inv X (pins++pl) σ H s):Inv X pins σ H s:=I.wM λp hp=>I.pin p (LJ _ (LW _ hp))
theorem bq{iter:Expr}{body:List Stmt}{wi:TI}{g:TG}{tb:TS}{pos:Pos}(hp:PassesOwn (model X.prog X.w) X.A X.env X.xe)(hc:X.calm=true)(hi:PI X tg iter wi)(hg:PG X tg g)(hb:PSs X body tb)
    (hs:∀ x,foldedSetIterable iter X.env x=pure x:=by intro _;rfl):PS X (.For tg iter body [] pos) (Jt wi g tb):=by
  intro pins s σ H D I h;refine wpAny_For (thn (hi pins s σ H _ I h) λv s1 h1=>thn h1 λitv s2 h2=>?_) hs;obtain⟨it,fp,tn,J,H2,e,I2,T,st2,f2,W,⟨m0,w0⟩,turn⟩:=h2;subst e;have yW:∀ {H':Hp},(∀ b∈fp,H' b=none)→∀ b∈fp,rn X pins H' b:=λhn b hb=>⟨hn b hb,(f2 b hb).2⟩;refine codeAny_forLoop_any (λn s'=>∃ i σ' H',Inv X pins σ' H' s'∧tn i s'.heap∧(∀ b∈fp,H' b=none)∧W i n σ' H') ?_ m0 ⟨0,σ,H2,I2,st2,λb hb=>(f2 b hb).1,w0⟩;rintro n s3 ⟨i,σ3,H3,I3,st3,fr3,w3⟩;rcases turn i n σ3 H3 w3 with⟨stop,qn⟩|⟨go,N,hN,step⟩
  · refine wpAny_passesOwn hp (thn (T.done X rfl rfl rfl hc i pins s3 σ3 H3 X.xe I3 (yW fr3) st3 stop) λr s4 ⟨hr,I4⟩=>?_)
    subst hr;exact wpAny_execs_nil ⟨σ3,H3,I4,qn⟩
  · refine wpAny_passesOwn hp (thn (T.item X rfl rfl rfl hc i pins s3 σ3 H3 X.xe I3 (yW fr3) st3 go) λr s4 ⟨u,hr,h4⟩=>?_)
    subst hr;refine wpAny_passesOwn hp (thn h4 λ_ s5 ⟨x,H5,I5,r5,y5,st5,fr5⟩=>?_);have I5':=I5.pinned (yW fr5) (T.obj _ _ st5);refine wpAny_passesOwn hp (thn (hg _ s5 σ3 H5 x u _ I5' r5 (step x H5 y5)) λ_ s6 ⟨σ6,H6,I6,q6⟩=>?_);refine wpAny_passesOwn hp (thn (hb _ s6 σ6 H6 _ I6 q6) λf s7 q7=>?_);have again:∀ {σ7:St} {H7:Hp},Inv X (pins++qF fp s5.heap) σ7 H7 s7→N σ7 H7→∃ m,m<n∧∃ i σ' H',Inv X pins σ' H' s7∧tn i s7.heap∧(∀ b∈fp,H' b=none)∧W i m σ' H':=λ{σ7 H7} I7 n7=>by
      obtain⟨m',hm,w7⟩:=hN σ7 H7 n7;refine⟨m',hm,i+1,σ7,H7,I7.js,T.keep _ _ _ st5 λb hb o e=>(I7.pin (b,o) (LJ _ (LJ _ (fM hb e)))).1,λb hb=>?_,w7⟩;obtain⟨o,e,d⟩:=T.obj _ _ st5 b hb;exact(I7.pin (b,o) (LJ _ (LJ _ (fM hb e)))).2.1
    cases f with
    | next=>obtain⟨σ7,H7,I7,n7⟩:=q7;exact again I7 n7
    | cont=>obtain⟨σ7,H7,I7,n7⟩:=q7;exact again I7 n7
    | brk=>obtain⟨σ7,H7,I7,q7⟩:=q7;exact⟨σ7,H7,I7.js,q7⟩
    | ret v=>obtain⟨x7,σ7,H7,I7,r7,q7⟩:=q7;exact⟨x7,σ7,H7,I7.js,r7,q7⟩
end
abbrev vi(J:It)(g:TG)(tb:TS)(D:Ends)(σ:St)(H:Hp):Prop:=∃ W:Nat→Nat→St→Hp→Prop,(∃ m,W 0 m σ H)∧∀ i m σ H,W i m σ H →
  (J.stop i H∧D.nx σ H)∨(J.go i H∧∃ N:St→Hp→Prop,(∀ σ' H',N σ' H'→∃ m',m'<m∧W (i+1) m' σ' H')∧∀ x H',J.yld i H x H'→g x σ H' λσ2 H2=>tb {D with nx:=N,ct:=N,bk:=D.nx} σ2 H2)
theorem tL{J:It}{g:TG}{tb:TS}{D:Ends}{σ:St}{H:Hp}(n:Nat)(Pv:Nat→St→Hp→Prop)(h0:Pv 0 σ H)
    (hs:∀ i σ H,i<n→Pv i σ H→J.go i H∧∀ x H',J.yld i H x H'→g x σ H' λσ2 H2=>tb {D with nx:=Pv (i+1),ct:=Pv (i+1),bk:=D.nx} σ2 H2) (hd:∀ σ H,Pv n σ H→J.stop n H∧D.nx σ H):vi J g tb D σ H:=by
  refine⟨λi m σ H=>m=n-i∧i≤n∧Pv i σ H,⟨n,by simp,L8 _,h0⟩,?_⟩;rintro i m σ H ⟨rfl,hi,p⟩;by_cases hlt:i<n
  · exact .inr ⟨(hs i σ H hlt p).1,Pv (i+1),λσ' H' p'=>⟨n-(i+1),by omega,rfl,hlt,p'⟩,(hs i σ H hlt p).2⟩
  · have e:i=n:=by omega
    subst e;exact .inl (hd σ H p)
theorem cJ{K:W.Frag}{a:Addr}{xs:List V}{g:TG}{tb:TS}{D:Ends}{σ:St}{H:Hp}(Pv:Nat→St→Hp→Prop)(h0:Pv 0 σ H)(hl:∀ i σ H,i≤xs.length→Pv i σ H→SqL K H a xs)
    (hs:∀ i x σ H,xs[i]?=some x→Pv i σ H→g x σ H λσ2 H2=>tb {D with nx:=Pv (i+1),ct:=Pv (i+1),bk:=D.nx} σ2 H2) (hd:∀ σ H,Pv xs.length σ H→D.nx σ H) :
    vi (Itl K a) g tb D σ H :=
  tL xs.length Pv h0 (λi σ H hi p=>⟨⟨xs,xs[i],hl i σ H (Me hi) p,by simp[hi]⟩,λx H' y=>by obtain⟨e,y⟩:=y;subst e;exact hs i x σ _ (y xs (hl i σ _ (Me hi) p)) p⟩) λσ H p=>⟨⟨xs,hl _ σ H (Lu _) p,Lu _⟩,hd σ H p⟩
theorem jF{lo:Int}{n:Nat}{g:TG}{tb:TS}{D:Ends}{σ:St}{H:Hp}(Pv:Nat→St→Hp→Prop)(h0:Pv 0 σ H)
    (hs:∀ i σ H,i<n→Pv i σ H→g (.int (lo+i)) σ H λσ2 H2=>tb {D with nx:=Pv (i+1),ct:=Pv (i+1),bk:=D.nx} σ2 H2) (hd:∀ σ H,Pv n σ H→D.nx σ H) :
    vi (Itr lo n) g tb D σ H :=
  tL n Pv h0 (λi σ H hi p=>⟨hi,λx H' y=>by obtain⟨e,y⟩:=y;subst e y;exact hs i σ _ hi p⟩) λσ H p=>⟨Lu _,hd σ H p⟩
end L2
namespace L2
open PySem PySem.Spec PyProof.Rows
abbrev R2:=V→V→Hp→VK→Prop
def OpR(X:Cx)(f:Value→Value→Sem Value)(r:R2):Prop :=
  ∀(pins:List (Addr×Obj)) (s:Shared) (σ:St) (H:Hp) (x y:V) (v u:Value) (Q:VK),Inv X pins σ H s→RelV x v→RelV y u→r x y H Q →
    wpAny (model X.prog X.w) X.A (f v u) (EP X pins σ Q) X.xe s
def UnR(X:Cx)(f:Value→Sem Value)(r:V→Hp→VK→Prop):Prop :=
  ∀(pins:List (Addr×Obj)) (s:Shared) (σ:St) (H:Hp) (x:V) (v:Value) (Q:VK),Inv X pins σ H s→RelV x v→r x H Q →
    wpAny (model X.prog X.w) X.A (f v) (EP X pins σ Q) X.xe s
def eR(X:Cx)(f:Value)(r:List V→Hp→VK→Prop):Prop :=
  ∀(pins:List (Addr×Obj)) (s:Shared) (σ:St) (H:Hp) (xs:List V) (us:List Value) (Q:VK),Inv X pins σ H s→Vals xs us→r xs H Q →
    wpAny (model X.prog X.w) X.A (call f us) (EP X pins σ Q) X.xe s
def tOp(r:R2)(ta tb:TE):TE:=λσ H Q=>ta σ H λx H1=>tb σ H1 λy H2=>r x y H2 Q
def tUn(r:V→Hp→VK→Prop)(ta:TE):TE:=λσ H Q=>ta σ H λx H1=>r x H1 Q
inductive IrI(C:Int→Int→Prop)(g:Int→Int→V)(x y:V)(H:Hp)(Q:VK):Prop where
  | mk (i j:Int):x=.int i→y=.int j→C i j→Q (g i j) H→IrI C g x y H Q
def rI(C:Int→Int→Prop)(g:Int→Int→V):R2:=λx y H Q=>IrI C g x y H Q
inductive II(g:Int→Int→V)(x y:V)(H:Hp)(Q:VK):Prop where
  | mk (i j:Int):x=.int i→y=.int j→Q (g i j) H→II g x y H Q
def rI0(g:Int→Int→V):R2:=λx y H Q=>II g x y H Q
def rU(g:Int→V):V→Hp→VK→Prop:=λx H Q=>∃ i,x=.int i∧Q (g i) H
section
variable{X:Cx}{a b c:Expr}{ta tb tc:TE}{pos:Pos}
theorem E3(ha:PE X a ta)(hb:PE X b tb){pins:List (Addr×Obj)}{s:Shared}{σ:St}{H:Hp}{R:V→V→Hp→Prop}(I:Inv X pins σ H s)
    (h:ta σ H λx H1=>tb σ H1 λy H2=>R x y H2) {Q:Value→Shared→Prop} {f:Value→Value→Sem Value}
    (hf:∀ v u s2 x y H2,Inv X pins σ H2 s2→RelV x v→RelV y u→R x y H2→wpAny (model X.prog X.w) X.A (f v u) Q X.xe s2) :
    wpAny (model X.prog X.w) X.A (eval a X.env) (λv s₁=>wpAny (model X.prog X.w) X.A (eval b X.env) (λu s₂=>wpAny (model X.prog X.w) X.A (f v u) Q X.xe s₂) X.xe s₁) X.xe s:=by
  refine thn (ha pins s σ H _ I h) λv s1 ⟨x,H1,I1,r1,q1⟩=>?_;refine thn (hb pins s1 σ H1 _ I1 q1) λu s2 ⟨y,H2,I2,r2,q2⟩=>?_;exact hf v u s2 x y H2 I2 r1 r2 q2
theorem ay{op:Operator}{r:R2}(ho:OpR X (binaryOp op) r)(ha:PE X a ta)(hb:PE X b tb):PE X (.BinOp a op b pos) (tOp r ta tb):=by
  intro pins s σ H Q I h;exact wpAny_BinOp (E3 ha hb I h λv u s2 x y H2 I2 rx ry q=>ho pins s2 σ H2 x y v u Q I2 rx ry q)
theorem Dn{op:UnaryOp}{r:V→Hp→VK→Prop}(ho:UnR X (unaryOp op) r)(ha:PE X a ta):PE X (.UnaryOp op a pos) (tUn r ta):=by
  intro pins s σ H Q I h;exact UnaryOp_ (thn (ha pins s σ H _ I h) λv s1 ⟨x,H1,I1,r1,q1⟩=>ho pins s1 σ H1 x v Q I1 r1 q1)
theorem opI{f:Value→Value→Sem Value}{C:Int→Int→Prop}{g:Int→Int→Int}
    (rule:∀(i j:Int) (t u:Tok) (s:Shared) (Q:Value→Shared→Prop) (E:Value→Shared→Prop),C i j→Q (.int (g i j) s.toks) {s with toks:=s.toks+1}→wpAny (model X.prog X.w) X.A (f (.int i t) (.int j u)) Q E s) :
    OpR X f (rI C λi j=>.int (g i j)):=by
  intro pins s σ H x y v u Q I rx ry h;obtain⟨i,j,rfl,rfl,hc,q⟩:=h;obtain⟨t,rfl⟩:=rx;obtain⟨t',rfl⟩:=ry;exact rule i j t t' s _ _ hc ⟨.int (g i j),H,I.tok _,⟨_,rfl⟩,q⟩
theorem IJ{f:Value→Value→Sem Value}{g:Int→Int→Int}
    (rule:∀(i j:Int) (t u:Tok) (s:Shared) (Q:Value→Shared→Prop) (E:Value→Shared→Prop),Q (.int (g i j) s.toks) {s with toks:=s.toks+1}→wpAny (model X.prog X.w) X.A (f (.int i t) (.int j u)) Q E s) :
    OpR X f (rI0 λi j=>.int (g i j)):=by
  intro pins s σ H x y v u Q I rx ry h;obtain⟨i,j,rfl,rfl,q⟩:=h;obtain⟨t,rfl⟩:=rx;obtain⟨t',rfl⟩:=ry;exact rule i j t t' s _ _ ⟨.int (g i j),H,I.tok _,⟨_,rfl⟩,q⟩
theorem Dp{f:Value→Value→Sem Value}{g:Int→Int→Bool}
    (rule:∀(i j:Int) (t u:Tok) (s:Shared) (Q:Value→Shared→Prop) (E:Value→Shared→Prop),Q (.bool (g i j)) s→wpAny (model X.prog X.w) X.A (f (.int i t) (.int j u)) Q E s) :
    OpR X f (rI0 λi j=>.bl (g i j)):=by
  intro pins s σ H x y v u Q I rx ry h;obtain⟨i,j,rfl,rfl,q⟩:=h;obtain⟨t,rfl⟩:=rx;obtain⟨t',rfl⟩:=ry;exact rule i j t t' s _ _ ⟨.bl (g i j),H,I,rfl,q⟩
def Ju(i j:Int):Prop:=0<j∧j<1073741824
def Jv(i j:Int):Prop:=0≤j∧j≤1000000∧i.natAbs<2 ^ 64
def E4(i j:Int):Prop:=(-(2 ^ 64)<i∧i<2 ^ 64)∨(-(2 ^ 64)<j∧j<2 ^ 64)
theorem E4.ok{i j:Int}(h:E4 i j):IntMulOk i j:=by
  rcases h with⟨h1,h2⟩|⟨h1,h2⟩
  · exact .of_left (intBits_le_64 h1 h2)
  · exact .of_right (intBits_le_64 h1 h2)
theorem bZ:OpR X (binaryOp .Add) (rI0 λi j=>.int (i+j)):=IJ λ_ _ _ _ _ _ _ q=>add_int q
theorem qG:OpR X (binaryOp .Sub) (rI0 λi j=>.int (i-j)):=IJ λ_ _ _ _ _ _ _ q=>sub_int q
theorem dX:OpR X (binaryOp .Mult) (rI E4 λi j=>.int (i*j)):=opI λ_ _ _ _ _ _ _ hc q=>mul_int q hc.ok
theorem bB:OpR X (binaryOp .FloorDiv) (rI Ju λi j=>.int (i/j)):=opI λi j _ _ _ _ _ hc q=>by
  have h1:(0:Int)<j:=hc.1;have h2:j<1073741824:=hc.2;exact floordiv_int (by omega) (by rw[Int.fdiv_eq_ediv_of_nonneg i (by omega)];exact q) (.inl (PyProof.noPylong_small (by omega)))
theorem aW:OpR X (binaryOp .Mod) (rI (λ_ j=>0<j) λi j=>.int (i%j)):=opI λi j _ _ _ _ _ hc q=>by
  have h1:(0:Int)<j:=hc;exact mod_int' (by omega) (by rw[Int.fmod_eq_emod_of_nonneg i (by omega)];exact q)
theorem tM:OpR X (binaryOp .Pow) (rI Jv λi j=>.int (i ^ j.toNat)):=opI λ_ _ _ _ _ _ _ hc q=>pow_int_small hc.1 hc.2.1 hc.2.2 q
theorem unI{f:Value→Sem Value}{g:Int→Int}
    (rule:∀(i:Int) (t:Tok) (s:Shared) (Q:Value→Shared→Prop) (E:Value→Shared→Prop),Q (.int (g i) s.toks) {s with toks:=s.toks+1}→wpAny (model X.prog X.w) X.A (f (.int i t)) Q E s) :
    UnR X f (rU λi=>.int (g i)):=by
  intro pins s σ H x v Q I rx h;obtain⟨i,rfl,q⟩:=h;obtain⟨t,rfl⟩:=rx;exact rule i t s _ _ ⟨.int (g i),H,I.tok _,⟨_,rfl⟩,q⟩
theorem AD:UnR X (unaryOp .USub) (rU λi=>.int (-i)):=unI λ_ _ _ _ _ q=>neg_int q
end
def IK:V→V→Bool
  | .non,.non=>true|.non,.int _=>true|.int _,.non=>true|.non,.bl _=>true|.bl _,.non=>true|.non,.str _=>true|.str _,.non=>true
  | .int _,.int _=>true|.bl _,.bl _=>true|.str _,.str _=>true|.byt _,.byt _=>true
  | .int _,.str _=>true|.str _,.int _=>true|.bl _,.str _=>true|.str _,.bl _=>true
  | _,_=>false
def rEq:R2:=λx y H Q=>IK x y=true∧Q (.bl (decide (x=y))) H
def rNe:R2:=λx y H Q=>IK x y=true∧Q (.bl (!decide (x=y))) H
theorem wO{i j:Int}:decide (V.int i=V.int j)=(i == j):=by
  rw[MX];simp
theorem AE{i j:Bool}:decide (V.bl i=V.bl j)=(i == j):=by
  rw[MX];simp
theorem wQ{i j:Str}:decide (V.str i=V.str j)=(i == j):=by
  rw[MX];simp
theorem wR{i j:Array UInt8}:decide (V.byt i=V.byt j)=(i.toList == j.toList):=by
  rw[MX];cases i;cases j;simp
section
variable{X:Cx}{a b c:Expr}{ta tb tc:TE}{pos:Pos}
theorem ba{pins:List (Addr×Obj)}{σ:St}{H:Hp}{s:Shared}{Q:VK}{k k':Bool}(I:Inv X pins σ H s)(q:Q (.bl k) H)(e:k=k'):EP X pins σ Q (.bool k') s:=by
  subst e;exact⟨.bl k,H,I,rfl,q⟩
theorem cL:OpR X (compareOp .Eq) rEq:=by
  intro pins s σ H x y v u Q I rx ry h;obtain⟨hs,q⟩:=h;cases x with
  | non =>
    cases rx;cases y with
    | non=>cases ry;exact PySem.EqNone.eq_none_none (ba I q (by simp))
    | bl j=>cases ry;exact PySem.EqNone.eq_none_bool (ba I q (by simp))
    | int j=>obtain⟨t',rfl⟩:=ry;exact PySem.EqNone.eq_none_int (ba I q (by simp))
    | str j=>obtain⟨t',rfl⟩:=ry;exact PySem.EqNone.eq_none_str (ba I q (by simp))
    | _=>exact absurd (show false=true from hs) Lv
  | bl i =>
    cases rx;cases y with
    | non=>cases ry;exact PySem.EqNone.eq_bool_none (ba I q (by simp))
    | bl j=>cases ry;exact eq_bool (ba I q AE)
    | str j=>obtain⟨t',rfl⟩:=ry;exact PySem.EqMixed.eq_bool_str (ba I q (by simp))
    | _=>exact absurd (show false=true from hs) Lv
  | int i =>
    obtain⟨t,rfl⟩:=rx;cases y with
    | non=>cases ry;exact PySem.EqNone.eq_int_none (ba I q (by simp))
    | int j=>obtain⟨t',rfl⟩:=ry;exact eq_int (ba I q wO)
    | str j=>obtain⟨t',rfl⟩:=ry;exact PySem.EqMixed.eq_int_str (ba I q (by simp))
    | _=>exact absurd (show false=true from hs) Lv
  | str i =>
    obtain⟨t,rfl⟩:=rx;cases y with
    | non=>cases ry;exact PySem.EqNone.eq_str_none (ba I q (by simp))
    | bl j=>cases ry;exact PySem.EqMixed.eq_str_bool (ba I q (by simp))
    | int j=>obtain⟨t',rfl⟩:=ry;exact PySem.EqMixed.eq_str_int (ba I q (by simp))
    | str j=>obtain⟨t',rfl⟩:=ry;exact eq_str (ba I q wQ)
    | _=>exact absurd (show false=true from hs) Lv
  | byt i =>
    obtain⟨t,rfl⟩:=rx;cases y with
    | byt j=>obtain⟨t',rfl⟩:=ry;exact PySem.W.eq_bytes (ba I q wR)
    | _=>exact absurd (show false=true from hs) Lv
  | _=>cases y<;>exact absurd (show false=true from hs) Lv
theorem vj:OpR X (compareOp .NotEq) rNe:=by
  intro pins s σ H x y v u Q I rx ry h;obtain⟨hs,q⟩:=h;cases x with
  | non =>
    cases rx;cases y with
    | non=>cases ry;exact PySem.EqNone.ne_none_none (ba I q (by simp))
    | bl j=>cases ry;exact PySem.EqNone.ne_none_bool (ba I q (by simp))
    | int j=>obtain⟨t',rfl⟩:=ry;exact PySem.EqNone.ne_none_int (ba I q (by simp))
    | str j=>obtain⟨t',rfl⟩:=ry;exact PySem.EqNone.ne_none_str (ba I q (by simp))
    | _=>exact absurd (show false=true from hs) Lv
  | bl i =>
    cases rx;cases y with
    | non=>cases ry;exact PySem.EqNone.ne_bool_none (ba I q (by simp))
    | bl j=>cases ry;exact ne_bool (ba I q (congrArg not AE))
    | str j=>obtain⟨t',rfl⟩:=ry;exact PySem.EqMixed.ne_bool_str (ba I q (by simp))
    | _=>exact absurd (show false=true from hs) Lv
  | int i =>
    obtain⟨t,rfl⟩:=rx;cases y with
    | non=>cases ry;exact PySem.EqNone.ne_int_none (ba I q (by simp))
    | int j=>obtain⟨t',rfl⟩:=ry;exact ne_int (ba I q (congrArg not wO))
    | str j=>obtain⟨t',rfl⟩:=ry;exact PySem.EqMixed.ne_int_str (ba I q (by simp))
    | _=>exact absurd (show false=true from hs) Lv
  | str i =>
    obtain⟨t,rfl⟩:=rx;cases y with
    | non=>cases ry;exact PySem.EqNone.ne_str_none (ba I q (by simp))
    | bl j=>cases ry;exact PySem.EqMixed.ne_str_bool (ba I q (by simp))
    | int j=>obtain⟨t',rfl⟩:=ry;exact PySem.EqMixed.ne_str_int (ba I q (by simp))
    | str j=>obtain⟨t',rfl⟩:=ry;exact ne_str (ba I q (congrArg not wQ))
    | _=>exact absurd (show false=true from hs) Lv
  | byt i =>
    obtain⟨t,rfl⟩:=rx;cases y with
    | byt j=>obtain⟨t',rfl⟩:=ry;exact PySem.W.ne_bytes (ba I q (congrArg not wR))
    | _=>exact absurd (show false=true from hs) Lv
  | _=>cases y<;>exact absurd (show false=true from hs) Lv
theorem kq:OpR X (compareOp .Lt) (rI0 λi j=>.bl (decide (i<j))):=Dp λ_ _ _ _ _ _ _ q=>lt_int q
theorem lV:OpR X (compareOp .LtE) (rI0 λi j=>.bl (decide (i≤j))):=Dp λ_ _ _ _ _ _ _ q=>le_int q
theorem vk:OpR X (compareOp .Gt) (rI0 λi j=>.bl (decide (j<i))):=Dp λ_ _ _ _ _ _ _ q=>gt_int q
theorem Ho:OpR X (compareOp .GtE) (rI0 λi j=>.bl (decide (j≤i))):=Dp λ_ _ _ _ _ _ _ q=>ge_int q
theorem tN:OpR X (compareOp .Is) (λx y H Q=>y=.non∧Q (.bl (decide (x=.non))) H):=by
  intro pins s σ H x y v u Q I rx ry h;obtain⟨rfl,q⟩:=h;cases ry;refine is_none_gen (ba I q ?_);cases x<;>first
    | (cases rx;rfl)
    | (obtain⟨t,rfl⟩:=rx;rfl)
theorem gF:OpR X (compareOp .IsNot) (λx y H Q=>y=.non∧Q (.bl (!decide (x=.non))) H):=by
  intro pins s σ H x y v u Q I rx ry h;obtain⟨rfl,q⟩:=h;cases ry;refine isnot_none_gen (ba I q ?_);cases x<;>first
    | (cases rx;rfl)
    | (obtain⟨t,rfl⟩:=rx;rfl)
theorem aF(b:Expr){op:CmpOp}(h:op≠.In:=by decide)(h2:op≠.NotIn:=by decide):behindInMarks op b=false:=by
  have e1:(op == CmpOp.In)=false:=by cases op<;>first|rfl|exact absurd rfl h
  have e2:(op == CmpOp.NotIn)=false:=by cases op<;>first|rfl|exact absurd rfl h2
  cases b<;>simp[behindInMarks,e1,e2]
theorem pQ{op:CmpOp}{r:R2}(ho:OpR X (compareOp op) r)(ha:PE X a ta)(hb:PE X b tb)(hm:behindInMarks op b=false):PE X (.Compare a [op] [b] pos) (tOp r ta tb):=by
  intro pins s σ H Q I h;exact wpAny_Compare1 (E3 ha hb I h λv u s2 x y H2 I2 rx ry q=>ho pins s2 σ H2 x y v u Q I2 rx ry q) hm
def Dr(t:TE):TT:=λσ H Q=>t σ H λx H'=>E0 x H' Q
theorem az{op:CmpOp}{r:R2}(ho:OpR X (compareOp op) r)(ha:PE X a ta)(hb:PE X b tb)(hm:behindInMarks op b=false):PT X (.Compare a [op] [b] pos) (Dr (tOp r ta tb)):=by
  intro pins s σ H Q I h;refine wpAny_isTrue_Compare1 (thn (ha pins s σ H _ I h) λv s1 ⟨x,H1,I1,r1,q1⟩=>thn (hb pins s1 σ H1 _ I1 q1) λu s2 ⟨y,H2,I2,r2,q2⟩ =>
    thn (ho pins s2 σ H2 x y v u _ I2 r1 r2 q2) λc s3 ⟨z,H3,I3,r3,k,e,q3⟩=>?_) hm
  subst e;cases r3;exact wpAny_truthy_bool ⟨H3,I3,q3⟩
def D6(r r':R2)(ta tb tc:TE):TE:=λσ H Q=>ta σ H λx H1=>tb σ H1 λy H2=>r x y H2 λz H3=>∃ k,z=.bl k ∧
  (if k=true then tc σ H3 λw' H4=>r' y w' H4 Q else Q (.bl false) H3)
theorem hU{op op':CmpOp}{r r':R2}(ho:OpR X (compareOp op) r)(ho':OpR X (compareOp op') r')(ha:PE X a ta)(hb:PE X b tb)(hc:PE X c tc)
    (hm:lastMarks [op,op'] [b,c]=false:=by with_unfolding_all rfl):PT X (.Compare a [op,op'] [b,c] pos) (Dr (D6 r r' ta tb tc)):=by
  intro pins s σ H Q I h;refine isTrue_chain (thn (ha pins s σ H _ I h) λv s1 ⟨x,H1,I1,r1,q1⟩=>test_link (thn (hb pins s1 σ H1 _ I1 q1) λu s2 ⟨y,H2,I2,r2,q2⟩ =>
    thn (ho pins s2 σ H2 x y v u _ I2 r1 r2 q2) λd s3 ⟨z,H3,I3,r3,k,e,q3⟩=>?_)) hm
  subst e;cases r3;refine wpAny_truthy_bool ?_;cases k with
  | false =>
    obtain⟨k',e',q'⟩:=q3;cases e';exact ite_ff ⟨H3,I3,q'⟩
  | true =>
    refine ite_tt (test_last (thn (hc pins s3 σ H3 _ I3 q3) λw' s4 ⟨z',H4,I4,r4,q4⟩=>thn (ho' pins s4 σ H4 y z' u w' _ I4 r2 r4 q4) λd' s5 ⟨z2,H5,I5,r5,k2,e2,q5⟩=>?_));subst e2;cases r5;exact wpAny_truthy_bool ⟨H5,I5,q5⟩
theorem tO:(sizeLine:Nat)<2 ^ 63:=by rw[sizeLine_eq];decide
theorem vals1{x:V}{us:List Value}(r:Vals [x] us):∃ u,us=[u]∧RelV x u:=by
  cases r with
  | cons r1 r2=>cases r2;exact⟨_,rfl,r1⟩
theorem vals2{x y:V}{us:List Value}(r:Vals [x,y] us):∃ u w',us=[u,w']∧RelV x u∧RelV y w':=by
  cases r with
  | cons r1 r2 =>
    cases r2 with
    | cons r3 r4=>cases r4;exact⟨_,_,rfl,r1,r3⟩
theorem zh:eR X (.builtin "abs") (λxs H Q=>∃ i,xs=[.int i]∧Q (.int (if i<0 then -i else i)) H):=by
  intro pins s σ H xs us Q I r h;obtain⟨i,rfl,q⟩:=h;obtain⟨u,rfl,t,rfl⟩:=vals1 r;exact call_abs_int λu tk=>⟨.int (if i<0 then -i else i),H,I.tok _,⟨_,rfl⟩,q⟩
end
end L2
namespace L2
open PySem PySem.Spec PyProof.Rows
structure yX(h:Heap)(x dx C:Addr)(mA:Str→Option Value):Prop where
  obj:h.get? x=some (PySem.W.instObj C dx)
  ns:h.Ns1 dx mA
  ne:dx≠x
theorem xS{h:Heap}{dx:Addr}{mA:Str→Option Value}(n:h.Ns1 dx mA):∃ od,h.get? dx=some od∧∀ name,PySem.W.lookIn name od=some (mA name):=by
  obtain⟨o,es,ep,ho,hd,hk,_,hm⟩:=n;refine⟨o,ho,λname=>?_⟩;have e:=hm name;unfold nsFind findBy at e;rw[←Array.find?_toList]at e;unfold PySem.W.lookIn;rw[hd];dsimp only;split
  · rename_i y q
    rw[q]at e;exact congrArg some e
  · rename_i q
    rw[q]at e;have a:es.toList.any (·.refKey)=false:=by
      rw[List.any_eq_false];intro y hy;obtain⟨z,t,Jw⟩:=hk y (Array.mem_toList_iff.mp hy);simp[DictEntry.refKey,Jw]
    have a':¬es.toList.any (·.refKey)=true:=(by rw[a];exact Lv);rw[if_neg a'];exact congrArg some e
theorem yX.look{h:Heap}{x dx C:Addr}{mA:Str→Option Value}(I:yX h x dx C mA):∃ od,PySem.W.InstAt h x (PySem.W.instObj C dx) C (some od)∧∀ name,PySem.W.lookIn name od=some (mA name) :=
  let ⟨od,ho,hl⟩:=xS I.ns
  ⟨od,⟨I.obj,rfl,rfl,ho⟩,hl⟩
section
variable{prog:Program}{w:World}{A:Around}{E:Value→Shared→Prop}{s:Shared}{K:W.Frag}{x dx C f:Addr}{mA:Str→Option Value}{name:Str}{v:Value}
theorem get_map{expr:Bool}{Q:Value→Shared→Prop}(X:K.In s.heap)(I:yX s.heap x dx C mA)(hg:PySem.W.plainGet K C name=true)(hh:PySem.W.hasDictIn K C=true)
    (ha:PySem.W.findIn K (.ref C) name=some none) (hv:mA name=some v) (hv':PySem.W.handedIn v=true) (h:Q v {s with toks:=s.toks+1}) :
    wpAny (model prog w) A (getAttr (.ref x) name expr) Q E s:=by
  obtain⟨od,J,hl⟩:=I.look;exact PySem.W.get_value X J (PySem.W.plainGet_of hg).1 (PySem.W.findObj_own hh ha rfl (by rw[hl,hv])) hv' h
theorem zj{pl:Sem Bool}{Q:Value×List Value→Shared→Prop}(X:K.In s.heap)(I:yX s.heap x dx C mA)(hg:PySem.W.plainGet K C name=true)
    (hf:PySem.W.findIn K (.ref C) name=some (some (.ref f))) (ht:PySem.W.isFn K (.ref f)=true) (hv:mA name=none) (h:Q (.ref f,[.ref x]) s) :
    wpAny (model prog w) A (getMethod (.ref x) name pl) Q E s:=by
  obtain⟨od,J,hl⟩:=I.look;exact PySem.W.method_fn X J (PySem.W.plainGet_of hg).1 (PySem.W.plainGet_of hg).2 hf (beq_iff_eq.mp ht) (by show(PySem.W.lookIn name od).map (·.isSome)=some false;rw[hl,hv];rfl) h
theorem BR{ns:List Str}{Q:Unit→Shared→Prop}(X:K.In s.heap)(I:yX s.heap x dx C mA)
    (hs:PySem.W.findIn K (.ref C) "__setattr__" = some (some (.builtin "object.__setattr__"))) (hp:PySem.W.plainOver K C=true) (ht:PySem.W.takerIn K C name=some none) (hh:PySem.W.hasDictIn K C=true)
    (hw:PySem.Within mA ns) (hsz:ns.length≤sizeLine)
    (h:∀ h',yX h' x dx C (λy=>if y=name then some v else mA y)→Heap.SameBut dx s.heap h'→Q () {s with heap:=h',toks:=s.toks+2}) :
    wpAny (model prog w) A (setAttr (.ref x) name v) Q E s:=by
  obtain⟨od,J,hl⟩:=I.look;refine PySem.W.set_plain X J hs (PySem.W.osa_open (s:={s with toks:=s.toks+1}) (r:=none) X J hp ht λb=>?_);obtain⟨cd,hc,hd'⟩:=PySem.W.any_some hh;have hx:s.heap.get? x=some ⟨.ref C,some dx,.plain,#[]⟩:=I.obj;refine wpAny_bind (wpAny_pure (wpAny_bind (wpAny_bind (wpAny_loadPart hx (wpAny_bind (PySem.W.Looks.here (s:={s with toks:=s.toks+1}) (PySem.W.looks_clsIn X hc) ?_))))));rw[hd'];refine wpAny_pure (a:=some dx) (wpAny_bind (wpAny_pure (wpAny_bind ?_)));refine wpAny_nsSet1 (s:={s with toks:=s.toks+1}) I.ns λh' hn2 hs2=>?_;obtain⟨oD,esD,epD,hoD,hdD,hcD⟩:=hn2.count (PySem.Within.cons name v hw);refine wpAny_bind (wpAny_lookBehind hoD (by rw[hdD];exact pastItsLine_dict (LL hcD (by rw[Ma];omega))) ?_);exact wpAny_pure (h _ ⟨(hs2.2 _ (L4 I.ne)).trans I.obj,hn2,I.ne⟩ hs2)
theorem zk{R:Result→Shared→Prop}{vs:List Value}{kw:List (Str×Value)}(X:K.In s.heap)(hm:PySem.W.makesIn K C=true)
    (hi:PySem.W.findIn K (.ref C) "__init__" = some (some (.ref f))) (hf:PySem.W.typeIn K (.ref f)=some (.type "function"))
    (h:codeAny (model prog w) (A.under (.builtin "type.__call__" ⟨.ref C::vs,kw⟩)) (.call (.ref f) ⟨.ref (s.heap.objs.size+1)::vs,kw⟩) (PySem.W.InitBack (s.heap.objs.size+1) R)
      {s with heap:=(s.heap.push PySem.W.emptyDict).push (PySem.W.instObj C s.heap.objs.size)}) :
    codeAny (model prog w) A (.call (.ref C) ⟨vs,kw⟩) R s:=by
  obtain⟨hh,g,d,t,os⟩:=s;exact PySem.W.make_core (PySem.W.makes_of X hm) (PySem.W.looks_findIn X hi) (λself=>PySem.W.bind_fn X self hf) (.inl rfl) h
end
def cB(f:Str)(v:V):List (Str×V)→List (Str×V)
  | []=>[(f,v)]
  | (g,x)::r=>if g=f then(g,v)::r else(g,x)::cB f v r
theorem nH(f g:Str)(v:V):∀ fs:List (Str×V),(cB f v fs).lookup g=if g=f then some v else fs.lookup g
  | []=>by
    show List.lookup g [(f,v)]=_;by_cases h:g=f
    · have hb:(g == f)=true:=beq_iff_eq.mpr h
      simp only[List.lookup,hb,if_pos h]
    · have hb:(g == f)=false:=beq_eq_false_iff_ne.mpr h
      simp only[List.lookup,hb,if_neg h]
  | (k,x)::r=>by
    have ih:=nH f g v r;rw[show cB f v ((k,x)::r)=(if k=f then(k,v)::r else(k,x)::cB f v r) from rfl];by_cases hk:k=f
    · rw[if_pos hk]
      by_cases h:g=k
      · have hb:(g == k)=true:=beq_iff_eq.mpr h
        simp only[List.lookup,hb,if_pos (h.trans hk)]
      · have hb:(g == k)=false:=beq_eq_false_iff_ne.mpr h
        simp only[List.lookup,hb,if_neg (λe:g=f=>h (e.trans hk.symm))]
    · rw[if_neg hk]
      by_cases h:g=k
      · have hb:(g == k)=true:=beq_iff_eq.mpr h
        simp only[List.lookup,hb,if_neg (λe:g=f=>hk (h.symm.trans e))]
      · have hb:(g == k)=false:=beq_eq_false_iff_ne.mpr h
        simp only[List.lookup,hb];exact ih
theorem ny(f:Str)(v:V):∀ fs:List (Str×V),f∈(cB f v fs).map (·.1)∧∀ g,g∈fs.map (·.1)→g∈(cB f v fs).map (·.1)
  | []=>⟨by simp[cB],λg h=>by simp at h⟩
  | (k,x)::r=>by
    obtain⟨i1,i2⟩:=ny f v r;rw[show cB f v ((k,x)::r)=(if k=f then(k,v)::r else(k,x)::cB f v r) from rfl];by_cases hk:k=f
    · rw[if_pos hk]
      subst hk;exact⟨by simp,λg h=>by simpa using h⟩
    · rw[if_neg hk]
      refine⟨?_,λg h=>?_⟩
      · rw[L1]
        exact LU _ i1
      · rw[L1]at h ⊢
        rcases LQ.mp h with e|e
        · exact LQ.mpr (.inl e)
        · exact LU _ (i2 g e)
theorem nI(f:Str)(v:V):∀ fs:List (Str×V),(cB f v fs).length≤fs.length+1
  | []=>by simp[cB]
  | (k,x)::r=>by
    have ih:=nI f v r;rw[show cB f v ((k,x)::r)=(if k=f then(k,v)::r else(k,x)::cB f v r) from rfl];by_cases hk:k=f
    · rw[if_pos hk,Ma,Ma];omega
    · rw[if_neg hk,Ma,Ma];omega
theorem mj.some_of{v:V}{o:Option Value}(r:mj (some v) o):∃ u,o=some u∧RelV v u:=by
  cases o with
  | none=>exact(show False from r).elim
  | some u=>exact⟨u,rfl,r⟩
theorem mj.none_of{o:Option Value}(r:mj none o):o=none:=by
  cases o with
  | none=>rfl
  | some u=>exact(show False from r).elim
theorem xT{v:V}{u:Value}(r:RelV v u):PySem.W.handedIn u=true:=by
  cases v with
  | non=>cases (show u=Value.none from r);rfl
  | bl b=>cases (show u=Value.bool b from r);rfl
  | int i=>obtain⟨t,e⟩:=(show ∃ t,u=Value.int i t from r);cases e;rfl
  | str x=>obtain⟨t,e⟩:=(show ∃ t,u=Value.str x t from r);cases e;rfl
  | byt b=>obtain⟨t,e⟩:=(show ∃ t,u=Value.bytes b t from r);cases e;rfl
  | flt b=>obtain⟨t,e⟩:=(show ∃ t,u=Value.float b t from r);cases e;rfl
  | ref a=>cases (show u=Value.ref a from r);rfl
  | ty n=>cases (show u=Value.type n from r);rfl
section
variable{P:Program}{w:World}{H H':Hp}{h h':Heap}{a C dx:Addr}{fs fs':List (Str×V)}
theorem pR(hok:HOk P w H h)(e:H a=some (.ins C dx fs)):∃ mA,yX h a dx C mA∧(∀ f,mj (fs.lookup f) (mA f))∧PySem.Within mA (fs.map (·.1))∧fs.length≤1000∧H dx=some (.own a):=by
  obtain⟨d,z,ne,ob,mA,n,r,q⟩:=(show bJ P w H h a (.ins C dx fs) from hok a _ e);exact⟨mA,⟨ob,n,ne⟩,r,q,z,d⟩
end
structure Cls(K:W.Frag)(C:Addr):Prop where
  pg:PySem.W.plainGet K C Str.empty=true
  hd:PySem.W.hasDictIn K C=true
  po:PySem.W.plainOver K C=true
  sa:PySem.W.findIn K (.ref C) "__setattr__" = some (some (.builtin "object.__setattr__"))
theorem Cls.get{K:W.Frag}{C:Addr}(c:Cls K C)(f:Str):PySem.W.plainGet K C f=true:=c.pg
def lT(K:W.Frag)(C:Addr)(f:Str):Prop:=PySem.W.findIn K (.ref C) f=some none
theorem lT.Hr{K:W.Frag}{C:Addr}{f:Str}(n:lT K C f):PySem.W.takerIn K C f=some none:=by
  unfold PySem.W.takerIn;rw[show PySem.W.findIn K (.ref C) f=some none from n];rfl
structure Meth(K:W.Frag)(C:Addr)(m:Str)(f:Addr):Prop where
  at_:PySem.W.findIn K (.ref C) m=some (some (.ref f))
  fn:PySem.W.isFn K (.ref f)=true
  kp:PySem.W.keepIn K (.ref f)=true
section
variable{X:Cx}{pins:List (Addr×Obj)}{σ:St}{H:Hp}{s:Shared}{a C dx:Addr}{fs:List (Str×V)}{f:Str}{v:V}{A:Around}{E:Value→Shared→Prop}
theorem vm{b:Bool}{Q:Value→Shared→Prop}(I:Inv X pins σ H s)(e:H a=some (.ins C dx fs))(c:Cls X.K C)(n:lT X.K C f)(l:fs.lookup f=some v)
    (h:∀ u s',Inv X pins σ H s'→RelV v u→Q u s'):wpAny (model X.prog X.w) A (getAttr (.ref a) f b) Q E s:=by
  obtain⟨mA,O,r,_,_,_⟩:=pR I.hok e;obtain⟨u,hu,ru⟩:=mj.some_of (v:=v) (o:=mA f) (by rw[←l];exact r f);exact get_map I.kIn O (c.get f) c.hd n hu (xT ru) (h u _ (I.tok _) ru)
theorem pS{m:Str}{g:Addr}{pl:Sem Bool}{Q:Value×List Value→Shared→Prop}(I:Inv X pins σ H s)(e:H a=some (.ins C dx fs))(c:Cls X.K C)(k:Meth X.K C m g)(l:fs.lookup m=none)
    (h:Q (.ref g,[.ref a]) s):wpAny (model X.prog X.w) A (getMethod (.ref a) m pl) Q E s:=by
  obtain⟨mA,O,r,_,_,_⟩:=pR I.hok e;have hn:mA m=none:=mj.none_of (by rw[←l];exact r m);exact zj I.kIn O (c.get m) k.at_ k.fn hn h
theorem vo{y:V}{u:Value}{Q:Unit→Shared→Prop}(I:Inv X pins σ H s)(e:H a=some (.ins C dx fs))(c:Cls X.K C)(n:lT X.K C f)(hl:fs.length<1000)(ry:RelV y u)
    (h:∀ s',Inv X pins σ (upd H a (.ins C dx (cB f y fs))) s'→Q () s'):wpAny (model X.prog X.w) A (setAttr (.ref a) f u) Q E s:=by
  obtain⟨mA,O,r,wi,_,ho⟩:=pR I.hok e;have hz:(fs.map (·.1)).length≤sizeLine:=by rw[Lp,sizeLine_eq];omega
  refine BR I.kIn O c.sa c.po n.Hr c.hd wi hz λh' O' sb=>h _ ?_;have hd:∃ o,h'.get? dx=some o:=let ⟨o,_,_,e',_⟩:=O'.ns;⟨o,e'⟩;refine I.write (x:=a) (e:=dx) (by rw[e];exact True.intro) (.inr ho) (λb q hb z=>(sb.2 b hb).trans z) hd ?_;refine⟨by rw[ak O.ne];exact ho,?_,O.ne,O'.obj,_,O'.ns,λg=>?_,λg hg=>?_⟩
  · have:=nI f y fs;omega
  · show mj ((cB f y fs).lookup g) (if g=f then some u else mA g)
    rw[nH];by_cases q:g=f
    · rw[if_pos q,if_pos q];exact ry
    · rw[if_neg q,if_neg q];exact r g
  · by_cases q:g=f
    · rw[q];exact(ny f y fs).1
    · refine(ny f y fs).2 g (wi g λz=>hg ?_)
      show(if g=f then some u else mA g)=none;rw[if_neg q];exact z
theorem Inv.made(I:Inv X pins σ H s):Inv X pins σ (upd (upd H s.heap.objs.size (.own (s.heap.objs.size+1))) (s.heap.objs.size+1) (.ins C s.heap.objs.size []))
    {s with heap:=(s.heap.push PySem.W.emptyDict).push (PySem.W.instObj C s.heap.objs.size)}:=by
  have e1:(s.heap.push PySem.W.emptyDict).get? s.heap.objs.size=some PySem.W.emptyDict:=LY s.heap rfl;have e2:((s.heap.push PySem.W.emptyDict).push (PySem.W.instObj C s.heap.objs.size)).get? (s.heap.objs.size+1)=some (PySem.W.instObj C s.heap.objs.size):=by
    have:=LY (s.heap.push PySem.W.emptyDict) (o:=PySem.W.instObj C s.heap.objs.size) rfl
    rwa[Nr]at this
  have e3:(s.heap.push PySem.W.emptyDict).Ns s.heap.objs.size (λ_=>none):=⟨PySem.W.emptyDict,#[],_,e1,rfl,(λe he=>absurd he (by simp)),λ_=>rfl⟩;have I1:=I.laid (a:=s.heap.objs.size) (o:=.own (s.heap.objs.size+1)) (h':=s.heap.push PySem.W.emptyDict) (t':=s.toks) (λb u q=>Lx _ q) (Lu _) ⟨_,e1⟩;refine I1.laid (a:=s.heap.objs.size+1) (o:=.ins C s.heap.objs.size []) (t':=s.toks) (λb u q=>Lx _ q) (Nat.le_of_eq (Nr _ _)) ?_;have ne:s.heap.objs.size≠s.heap.objs.size+1:=LN (Ng _);refine⟨by rw[ak ne,ab],L8 _,ne,e2,λ_=>none,(Heap.Ns1.of_empty e3).at λo q=>Lx _ q,λ_=>True.intro,λy hy=>absurd rfl hy⟩
theorem BS{prog:Program}{w:World}{env:Env}{e:Expr}{f:Str}{pos:Pos}{s:Shared}{Q:Value→Shared→Prop}(hb:attributeBase e f env (eval e env)=eval e env)
    (h:wpAny (model prog w) A (eval e env) (λo s₁=>wpAny (model prog w) A (getAttr o f true) Q E s₁) E s):wpAny (model prog w) A (eval (.Attribute e f pos) env) Q E s :=
  Attribute_any_ h (by rw[arm_eval_Attribute,hb])
end
inductive IL(K:W.Frag)(f:Str)(x:V)(H:Hp)(Q:VK):Prop where
  | mk (a C dx:Addr) (fs:List (Str×V)) (v:V):x=.ref a→H a=some (.ins C dx fs)→Cls K C→lT K C f→fs.lookup f=some v→Q v H→IL K f x H Q
def IM(K:W.Frag)(ta:TE)(f:Str):TE:=λσ H Q=>ta σ H λx H1=>IL K f x H1 Q
def Jx(K:W.Frag)(ta tv:TE)(f:Str):TS:=λD σ H=>tv σ H λy H1=>ta σ H1 λx H2=>∃ a C dx fs,x=.ref a∧H2 a=some (.ins C dx fs)∧Cls K C∧lT K C f∧fs.length<1000 ∧
  D.nx σ (upd H2 a (.ins C dx (cB f y fs)))
section
variable{X:Cx}{o e value:Expr}{f:Str}{pos pos' E5:Pos}{ta tv:TE}
theorem aE(he:PE X e ta)(hb:attributeBase e f X.env (eval e X.env)=eval e X.env):PE X (.Attribute e f pos) (IM X.K ta f):=by
  intro pins s σ H Q I h;refine BS hb (thn (he pins s σ H _ I h) λu s1 ⟨x,H1,I1,rx,a,C,dx,fs,v,ex,ea,c,n,l,q⟩=>?_);subst ex;obtain rfl:u=Value.ref a:=rx;exact vm I1 ea c n l λu' s2 I2 ru=>⟨v,H1,I2,ru,q⟩
theorem b8(ha:PE X o ta)(hv:PE X value tv)(hs:swapsWith value (some (.Attribute o f pos')) pos.line X.env=pure false):PS X (.Assign [.Attribute o f pos'] value pos) (Jx X.K ta tv f):=by
  intro pins s σ H D I h;refine plainObj_wpAny_Assign_Attribute (thn (hv pins s σ H _ I h) λu s1 ⟨y,H1,I1,ry,q⟩=>thn (ha pins s1 σ H1 _ I1 q) λov s2 ⟨x,H2,I2,rx,a,C,dx,fs,ex,ea,c,n,l,q2⟩=>?_) hs;subst ex;obtain rfl:ov=Value.ref a:=rx;exact vo I2 ea c n l ry λs3 I3=>⟨σ,_,I3,q2⟩
end
section
variable{X:Cx}{pins:List (Addr×Obj)}{σ:St}{H:Hp}{s:Shared}{A:Around}{E:Value→Shared→Prop}{Q:Value→Shared→Prop}{c:Value}{b:Bool}
inductive qH(K:W.Frag)(H:Hp):V→Value→Prop where
  | non:qH K H .non (.type "NoneType")
  | bl (x:Bool):qH K H (.bl x) (.type "bool")
  | int (i:Int):qH K H (.int i) (.type "int")
  | str (x:Str):qH K H (.str x) (.type "str")
  | flt (x:UInt64):qH K H (.flt x) (.type "float")
  | lst {a:Addr} {xs:List V} (e:H a=some (.lst xs)):qH K H (.ref a) (.type "list")
  | frz {a:Addr} {o:Obj} {xs:List V} (e:H a=some (.frz o (.lst xs))):qH K H (.ref a) (.type "list")
  | tup {a:Addr} {xs:List V} (e:H a=some (.tup xs)):qH K H (.ref a) (.type "tuple")
  | dK {a:Addr} {kvs:List (Key×V)} (e:H a=some (.dK kvs)):qH K H (.ref a) (.type "dict")
  | dT {a:Addr} {kvs:List (List Key×V)} (e:H a=some (.dT kvs)):qH K H (.ref a) (.type "dict")
  | ins {a C dx:Addr} {fs:List (Str×V)} (e:H a=some (.ins C dx fs)) (cl:Cls K C) (ha:PySem.W.findIn K (.ref C) "__class__" = some (some (.builtin "object.__class__")))
      (hn:PySem.W.specialIn K (.builtin "object.__class__") "__get__" = some (some (.builtin "getset_descriptor.__get__"))) (htk:PySem.W.takesIn K (.builtin "object.__class__")=some true)
      (hm:PySem.W.mroIn K C (.type "object")=some true):qH K H (.ref a) (.ref C)
theorem xU{x:V}{u t:Value}(I:Inv X pins σ H s)(rx:RelV x u)(ty:qH X.K H x t)(e:PySem.W.kitOne X.K t c=some b)(h:∀ tk,Q (.bool b) {s with toks:=tk}) :
    wpAny (model X.prog X.w) A (call (.builtin "isinstance") [u,c]) Q E s:=by
  cases ty with
  | non=>cases (show u=Value.none from rx);exact PySem.W.kia_one PySem.W.kitx_none I.kIn True.intro e (λz=>nomatch z) h
  | bl y=>cases (show u=Value.bool y from rx);exact PySem.W.kia_one PySem.W.kitx_bool I.kIn True.intro e (λz=>nomatch z) h
  | int i=>obtain⟨t,q⟩:=(show ∃ t,u=Value.int i t from rx);cases q;exact PySem.W.kia_one PySem.W.kitx_int I.kIn True.intro e (λz=>nomatch z) h
  | str y=>obtain⟨t,q⟩:=(show ∃ t,u=Value.str y t from rx);cases q;exact PySem.W.kia_one PySem.W.kitx_str I.kIn True.intro e (λz=>nomatch z) h
  | flt y=>obtain⟨t,q⟩:=(show ∃ t,u=Value.float y t from rx);cases q;exact PySem.W.kia_one PySem.W.kitx_float I.kIn True.intro e (λz=>nomatch z) h
  | @lst a xs ea =>
    cases (show u=Value.ref a from rx);obtain⟨_,_,n,_,h1⟩:=(show bJ X.prog X.w H s.heap a (.lst xs) from I.hok a _ ea);exact PySem.W.kia_one PySem.W.kitx_list I.kIn ⟨_,h1,rfl⟩ e (λz=>nomatch z) h
  | @frz a ob xs ea =>
    cases (show u=Value.ref a from rx);obtain⟨_,_,_,n,_,h1⟩:=(show bJ X.prog X.w H s.heap a (.frz ob (.lst xs)) from I.hok a _ ea);exact PySem.W.kia_one PySem.W.kitx_list I.kIn ⟨_,h1,rfl⟩ e (λz=>nomatch z) h
  | @tup a xs ea =>
    cases (show u=Value.ref a from rx);obtain⟨_,_,_,p⟩:=(show bJ X.prog X.w H s.heap a (.tup xs) from I.hok a _ ea);obtain⟨o,h1,h2,_⟩:=p;exact PySem.W.kia_one PySem.W.kitx_tuple I.kIn ⟨o,h1,h2⟩ e (λz=>nomatch z) h
  | @dK a kvs ea =>
    cases (show u=Value.ref a from rx);obtain⟨_,_,vs,_,p⟩:=(show bJ X.prog X.w H s.heap a (.dK kvs) from I.hok a _ ea);obtain⟨o,es,ep,h1,h2,_⟩:=p;exact PySem.W.kia_one PySem.W.kitx_dict I.kIn ⟨o,h1,h2.1⟩ e (λz=>nomatch z) h
  | @dT a kvs ea =>
    cases (show u=Value.ref a from rx);obtain⟨_,_,xs,_,o,es,ep,h1,h2,_⟩:=(show bJ X.prog X.w H s.heap a (.dT kvs) from I.hok a _ ea);exact PySem.W.kia_one PySem.W.kitx_dict I.kIn ⟨o,h1,h2.1⟩ e (λz=>nomatch z) h
  | @ins a C dx fs ea cl ha hn htk hm =>
    cases (show u=Value.ref a from rx);obtain⟨mA,O,_⟩:=pR I.hok ea;obtain⟨od,J,_⟩:=O.look;exact PySem.W.kia_one (PySem.W.kitx_own (cl.get _) cl.hd ha hn htk hm) I.kIn J e (λz=>nomatch z) h
end
end L2
namespace L2
open PySem PySem.Spec PyProof.Rows
structure dF(k:Nat)(A:Around):Prop where
  hd:A.handled=none
  dp:A.depth+3*k+5<recursionLimit
  un:A.units+16*k+200<cLine
theorem dF.mono{j k:Nat}{A:Around}(r:dF k A)(h:j≤k):dF j A:=⟨r.hd,by have:=r.dp;omega,by have:=r.un;omega⟩
theorem dF.deeper{k:Nat}{A:Around}(r:dF (k+1) A)(env:Env):dF k (A.deeper env) :=
  ⟨r.hd,by have:=r.dp;show A.depth+1+3*k+5<_;omega,by have:=r.un;show A.units+3+16*k+200<_;omega⟩
theorem vp{A:Around}{C:Addr}{us:List Value}{kw:List (Str×Value)}:(A.under (.builtin "type.__call__" ⟨.ref C::us,kw⟩)).depth=A.depth+1:=by
  first|rfl|simp[Around.under,Code.weight,Code.isCreation,Code.isGuard,Code.isCaller,Code.frames,Code.isFrame,guardIds]
theorem vq{A:Around}{C:Addr}{us:List Value}{kw:List (Str×Value)}:(A.under (.builtin "type.__call__" ⟨.ref C::us,kw⟩)).units=A.units+1:=by
  first|rfl|simp[Around.under,Code.cUnits,Code.frames,Code.isFrame]
theorem dF.make{k:Nat}{A:Around}(r:dF (k+1) A)(C:Addr)(us:List Value)(kw:List (Str×Value)):dF k (A.under (.builtin "type.__call__" ⟨.ref C::us,kw⟩)) :=
  ⟨r.hd,by have:=r.dp;rw[vp];omega,by have:=r.un;rw[vq];omega⟩
theorem dF.depth{k:Nat}{A:Around}(r:dF k A):A.depth<recursionLimit:=by have:=r.dp;omega
theorem dF.units{k:Nat}{A:Around}(r:dF k A):A.units+64<cLine:=by have:=r.un;omega
def tu:TA:=λ_ H Q=>Q [] H
def cD(ta:TE)(tr:TA):TA:=λσ H Q=>ta σ H λx H1=>tr σ H1 λxs H2=>Q (x::xs) H2
section
variable{X:Cx}{e:Expr}{es:List Expr}{te:TE}{t:TA}{pos:Pos}
theorem ah:PA X [] tu:=λ_ _ _ _ H Q I h=>Nb ⟨[],H,I,.nil,h⟩
theorem aa(ha:PE X e te)(hr:PA X es t)(hs:starEach (e::es) X.env=(false,eval e X.env)::starEach es X.env:=by rfl):PA X (e::es) (cD te t):=by
  intro pos pins s σ H Q I h;rw[hs];show wpAny _ _ (spliced ((false,eval e X.env)::backTo pos (starEach es X.env))) _ _ s;refine MY (thn (ha pins s σ H _ I h) λu s1 ⟨x,H1,I1,r1,q1⟩=>?_);exact thn (hr pos pins s1 σ H1 _ I1 q1) λus s2 ⟨xs,H2,I2,r2,q2⟩=>⟨x::xs,H2,I2,.cons r1 r2,q2⟩
def AF(t:TA):TE:=λσ H Q=>t σ H λxs H1=>xs.length≤sizeLine∧∀ p,H1 p=none→Q (.ref p) (upd H1 p (.tup xs))
def IP(t:TA):TE:=λσ H Q=>t σ H λxs H1=>xs.length≤sizeLine∧∀ p,H1 p=none→Q (.ref p) (upd H1 p (.lst xs))
theorem aX{x1}(h:PA X es t):PE X (.Tuple es x1 pos) (AF t):=by
  intro pins s σ H Q I hq;refine wpAny_Tuple_spliced (thn (h pos pins s σ H _ I hq) λus s1 ⟨xs,H1,I1,r,z,q⟩=>⟨by rw[←r.length];exact z,?_⟩);have hf:H1 s1.heap.objs.size=none:=I1.hok.fresh (Lu _);refine⟨.ref s1.heap.objs.size,upd H1 s1.heap.objs.size (.tup xs),I1.laid (t':=s1.toks) (λb u e=>Lx _ e) (Lu _) ?_,rfl,q _ hf⟩;exact⟨z,us,r,⟨_,LY _ rfl,rfl,_,rfl⟩⟩
theorem bM(h:PA X es t):PE X (.List es pos) (IP t):=by
  intro pins s σ H Q I hq;refine wpAny_List_spliced (thn (h pos pins s σ H _ I hq) λus s1 ⟨xs,H1,I1,r,z,q⟩=>⟨by rw[←r.length];exact z,?_⟩);have hf:H1 s1.heap.objs.size=none:=I1.hok.fresh (Lu _);refine⟨.ref s1.heap.objs.size,upd H1 s1.heap.objs.size (.lst xs),I1.laid (t':=s1.toks) (λb u e=>Lx _ e) (Lu _) ?_,rfl,q _ hf⟩;exact⟨z,us,0,r,LY _ rfl⟩
end
abbrev Sp:=List V→Hp→VK→XK→Prop
abbrev CXT:=List Env→Hp→Shared→XK→Value→Shared→Prop
structure vt(P:Program)(w:World)(K:W.Frag)(mg:Str→Option Value)(base:Heap)(A:Around)(outer:List Env)(s:Shared)(H:Hp):Prop where
  frames:A.frames=some outer
  mod:Mod K mg base
  bs:∀ b o,base.get? b=some o→s.heap.get? b=some o∧H b=none
  bsz:base.objs.size≤s.heap.objs.size
  mz:s.heap.FunFrames base outer
  frf:∀ b∈frs outer,H b=none
  hok:HOk P w H s.heap
  bare:AllBare s.gens
def CE(outer:List Env)(P:Program)(w:World)(H:Hp)(s:Shared)(Q:VK)(u:Value)(s':Shared):Prop :=
  ∃ v H',s'.os=s.os∧AllBare s'.gens∧Un (frs outer) [] H H' s.heap s'.heap∧HOk P w H' s'.heap∧RelV v u∧Q v H'
def CR(CX:CXT)(outer:List Env)(P:Program)(w:World)(H:Hp)(s:Shared)(Q:VK)(E:XK)(r:Result)(s':Shared):Prop :=
  match r with
  | .ok (.ret u)=>CE outer P w H s Q u s'
  | .ok _=>False
  | .error e=>CX outer H s E e s'
structure gZ(P:Program)(w:World)(K:W.Frag)(mg:Str→Option Value)(base:Heap)(CX:CXT)(k:Nat)(f:Addr)(fd:FuncData)(ps:List Str)(sp:Sp):Prop where
  len:∀ vs H Q E,sp vs H Q E→vs.length=ps.length
  run:∀(A:Around) (outer:List Env) (s:Shared) (H:Hp) (args:Args) (us:List Value) (vs:List V) (Q:VK) (E:XK),dF k A→vt P w K mg base A outer s H→BindsTo s fd args (ps.zip us)→Vals vs us→sp vs H Q E →
    codeAny (model P w) A (.call (.ref f) args) (CR CX outer P w H s Q E) s
theorem vt.make{P:Program}{w:World}{K:W.Frag}{mg:Str→Option Value}{base:Heap}{A:Around}{outer:List Env}{s:Shared}{H:Hp}(e:vt P w K mg base A outer s H)(C:Addr)(us:List Value)(kw:List (Str×Value)) :
    vt P w K mg base (A.under (.builtin "type.__call__" ⟨.ref C::us,kw⟩)) outer s H:=⟨by first|exact e.frames|(simpa[Around.under,Code.envs,Code.isFrame,pushEnvs] using e.frames),e.mod,e.bs,e.bsz,e.mz,e.frf,e.hok,e.bare⟩
section
variable{X:Cx}{pins:List (Addr×Obj)}{σ:St}{H:Hp}{s s':Shared}
theorem Inv.Ds(I:Inv X pins σ H s):vt X.prog X.w X.K X.mg X.base X.A X.stack s H :=
  ⟨I.ok.frames,I.ok.mod,I.bs,LL I.ok.bsz I.sz,I.stack,I.jK,I.hok,I.bare⟩
theorem Inv.after{Q:VK}{u:Value}(I:Inv X pins σ H s)(h:CE X.stack X.prog X.w H s Q u s'):EP X pins σ Q u s':=by
  obtain⟨v,H',os,bare,un,hok,r,q⟩:=h;obtain⟨hh,g,d,t,os'⟩:=s';obtain rfl:os'=s.os:=os;exact⟨v,H',I.call (h':=hh) (g':=g) (d':=d) (t':=t) (ch:=[]) un hok bare (λb z=>absurd z (by simp)),r,q⟩
end
def Dt(C:Addr)(sp:Sp)(dvs:List V)(E:XK)(t:TA):TE:=λσ H Q=>t σ H λvs H1=>∀ x dx,H1 x=none→H1 dx=none→dx≠x →
  sp (.ref x::(vs++dvs)) (upd (upd H1 dx (.own x)) x (.ins C dx [])) (λv H2=>v=.non∧Q (.ref x) H2) E
def Binds(K:W.Frag)(fd:FuncData)(ps:List Str)(ds:List Value):Prop :=
  ∀(s:Shared) (us:List Value),K.In s.heap→(us++ds).length=ps.length→BindsTo s fd ⟨us,[]⟩ (ps.zip (us++ds))
theorem Binds.all{K:W.Frag}{fd:FuncData}{ps:List Str}(h:∀ us:List Value,us.length=ps.length→bindArgs fd ⟨us,[]⟩=pure (ps.zip us)):Binds K fd ps []:=λs us _ hl=>by
  rw[Ms]at hl ⊢;exact .of_eq (h us hl)
def Passes(CX:CXT)(X:Cx)(E:XK):Prop:=∀(pins:List (Addr×Obj)) (σ:St) (H:Hp) (s:Shared) (e:Value) (s':Shared),Inv X pins σ H s→CX X.stack H s E e s'→X.xe e s'
section
variable{X:Cx}{CX:CXT}{k:Nat}{f C:Addr}{fd:FuncData}{ps:List Str}{sp:Sp}{dvs:List V}{ds:List Value}{E:XK}{x m:Str}{p pos apos:Pos}{e o:Expr}{es:List Expr}{ta:TE}{t:TA}
structure Mk(K:W.Frag)(C f:Addr):Prop where
  makes:PySem.W.makesIn K C=true
  init:PySem.W.findIn K (.ref C) "__init__" = some (some (.ref f))
  fn:PySem.W.isFn K (.ref f)=true
  kp:PySem.W.keepIn K (.ref C)=true
theorem uC{pins:List (Addr×Obj)}{σ:St}{H:Hp}{s:Shared}{Q:VK}{us:List Value}{vs:List V}(M:Mk X.K C f)(F:gZ X.prog X.w X.K X.mg X.base CX k f fd ps sp)(hr:dF (k+1) X.A)(hb:Binds X.K fd ps ds)(hd:Vals dvs ds)
    (hx:Passes CX X E) (I:Inv X pins σ H s) (r:Vals vs us)
    (h:∀ x dx,H x=none→H dx=none→dx≠x→sp (.ref x::(vs++dvs)) (upd (upd H dx (.own x)) x (.ins C dx [])) (λv H2=>v=.non∧Q (.ref x) H2) E) :
    wpAny (model X.prog X.w) X.A (call (.ref C) us) (EP X pins σ Q) X.xe s:=by
  have hq:=h (s.heap.objs.size+1) s.heap.objs.size (I.hok.fresh (MV _)) (I.hok.fresh (Lu _)) (LN (Ng _));have I2:=Inv.made (C:=C) I;have r2:Vals (V.ref (s.heap.objs.size+1)::(vs++dvs)) (Value.ref (s.heap.objs.size+1)::(us++ds)):=.cons rfl (r.append hd);have hl:(Value.ref (s.heap.objs.size+1)::us++ds).length=ps.length:=by
    have e:=r2.length;rw[F.len _ _ _ _ hq]at e;exact e.symm
  refine wpAny_call (zk (f:=f) I.kIn M.makes M.init (beq_iff_eq.mp M.fn) (codeAny_mono (F.run _ X.stack _ _ ⟨Value.ref (s.heap.objs.size+1)::us,[]⟩ (Value.ref (s.heap.objs.size+1)::(us++ds)) _ _ E (hr.make C us [])
    (I2.Ds.make C us []) (hb _ (Value.ref (s.heap.objs.size+1)::us) I2.kIn hl) r2 hq) λr s' hq'=>?_))
  cases r with
  | error e=>exact hx pins σ _ _ e s' I2 hq'
  | ok fl =>
    cases fl with
    | ret u =>
      obtain⟨v,H',I3,rv,ev,q3⟩:=I2.after hq';subst ev;exact⟨rv,⟨V.ref (s.heap.objs.size+1),H',I3,rfl,q3⟩⟩
    | next=>exact False.elim hq'
    | brk=>exact False.elim hq'
    | cont=>exact False.elim hq'
theorem BU(M:Mk X.K C f)(F:gZ X.prog X.w X.K X.mg X.base CX k f fd ps sp)(hr:dF (k+1) X.A)(hg:Gl X x)(hm:X.mg x=some (.ref C))(hb:Binds X.K fd ps ds)(hd:Vals dvs ds)(hx:Passes CX X E)
    (ha:PA X (e::es) t) (hdb:(x == ("__debug__" : Str))=false:=by decide) (he:starEach (e::es) X.env=(false,eval e X.env)::starEach es X.env:=by rfl) (hpl:(backTo pos (starEach es X.env)).any (·.1)=false:=by rfl) :
    PE X (.Call (.Name x p) (e::es) [] pos) (Dt C sp dvs E t):=by
  intro pins s σ H Q I h;refine wpAny_Call_Name_kw (iL I hg hm ?_ hdb);refine PySem.W.callWith_K (h₀:=X.base) I.ok.mod.kin M.kp (thn (ha pos pins s σ H _ I h) λus s1 ⟨vs,H1,I1,r,q⟩=>⟨I1.kIn,?_⟩) he hpl;exact uC M F hr hb hd hx I1 r q
theorem qu(M:Mk X.K C f)(F:gZ X.prog X.w X.K X.mg X.base CX k f fd ps sp)(hr:dF (k+1) X.A)(hg:Gl X x)(hm:X.mg x=some (.ref C))(hb:Binds X.K fd ps ds)(hd:Vals dvs ds)(hx:Passes CX X E)
    (hdb:(x == ("__debug__" : Str))=false:=by decide):PE X (.Call (.Name x p) [] [] pos) (Dt C sp dvs E tu):=by
  intro pins s σ H Q I h;refine wpAny_Call_Name_kw (iL I hg hm ?_ hdb);exact PySem.W.callWith_K0 I.kIn M.kp (uC (us:=[]) M F hr hb hd hx I .nil h)
end
section
variable{X:Cx}{CX:CXT}{k:Nat}{f C:Addr}{fd:FuncData}{ps ks:List Str}{sp:Sp}{E:XK}{x m:Str}{p pos apos Ln:Pos}{e o:Expr}{es:List Expr}{kws:List Keyword}{te ta:TE}{t tk:TA}{nm:Option Str}
variable{g:List Value→List Value→List Value}{gV:List V→List V→List V}
end
structure ar(N P:List Str)(sc:Scope):Prop where
  kind:sc.kind=.function
  co:sc.isCoroutine=false
  gen:sc.isGenerator=false
  nd:N.Nodup
  pre:N.take P.length=P
  par:∀ x∈P,sc.names.lookup x=some .local∨sc.names.lookup x=some .cell
  D7:∀ y∈sc.names,y.2≠.free
theorem rq{kindOf:Str→Option NameKind}{x:Str}:∀ {binds:List (Str×Value)} {m:Str→Option Value},(∀ v,(x,v)∉binds)→bindL kindOf binds m x=m x
  | [],_,_=>rfl
  | (n,v)::r,m,h=>by
    unfold bindL;rw[rq λw hw=>h w (LU _ hw)];split
    · have:x≠n:=by rintro rfl;exact h v LR
      simp[this]
    · rfl
theorem rz{kindOf:Str→Option NameKind}{x:Str}:∀ {binds:List (Str×Value)} {m:Str→Option Value},(∀ v,(x,v)∉binds)→bindC kindOf binds m x=m x
  | [],_,_=>rfl
  | (n,v)::r,m,h=>by
    unfold bindC;rw[rz λw hw=>h w (LU _ hw)];split
    · rfl
    · have:x≠n:=by rintro rfl;exact h v LR
      simp[this]
theorem rA{kindOf:Str→Option NameKind}{x:Str}{v:Value}:∀ {P:List Str} {vs:List Value} {i:Nat} {m:Str→Option Value},P.Nodup→P[i]?=some x→vs[i]?=some v→kindOf x=some .local →
    bindL kindOf (P.zip vs) m x=some v
  | [],_,_,_,_,h,_,_=>by simp at h
  | _::_,[],_,_,_,_,h,_=>by simp at h
  | p::P,w::vs,0,m,nd,h1,h2,hk=>by
    simp at h1 h2;subst h1;subst h2;show bindL kindOf ((p,w)::P.zip vs) m p=_;unfold bindL;rw[rq λv hv=>(Mw.mp nd).1 (Nl hv).1,if_pos hk];simp
  | p::P,w::vs,i+1,m,nd,h1,h2,hk=>by
    show bindL kindOf ((p,w)::P.zip vs) m x=_;unfold bindL;exact rA (i:=i) (Mw.mp nd).2 (by simpa using h1) (by simpa using h2) hk
theorem rB{kindOf:Str→Option NameKind}{x:Str}{v:Value}:∀ {P:List Str} {vs:List Value} {i:Nat} {m:Str→Option Value},P.Nodup→P[i]?=some x→vs[i]?=some v→kindOf x≠some .local →
    bindC kindOf (P.zip vs) m x=some v
  | [],_,_,_,_,h,_,_=>by simp at h
  | _::_,[],_,_,_,_,h,_=>by simp at h
  | p::P,w::vs,0,m,nd,h1,h2,hk=>by
    simp at h1 h2;subst h1;subst h2;show bindC kindOf ((p,w)::P.zip vs) m p=_;unfold bindC;rw[rz λv hv=>(Mw.mp nd).1 (Nl hv).1,if_neg hk];simp
  | p::P,w::vs,i+1,m,nd,h1,h2,hk=>by
    show bindC kindOf ((p,w)::P.zip vs) m x=_;unfold bindC;exact rB (i:=i) (Mw.mp nd).2 (by simpa using h1) (by simpa using h2) hk
def start(N:List Str)(vs:List V):St:=vs.map some++List.replicate (N.length-vs.length) none
def yY(CX:CXT)(P:Program)(w:World)(K:W.Frag)(mg:Str→Option Value)(base:Heap)(N:List Str)(qual:Str)(scope:Scope)(f:Addr)(cd:Value)(A:Around)(outer:List Env)(s:Shared)(H:Hp)(E:XK):Cx where
  prog:=P
  w:=w
  K:=K
  mg:=mg
  base:=base
  A:=A.deeper (envOfC qual scope s.heap.objs.size f cd)
  N:=N
  s₀:=s
  H₀:=H
  env:=envOfC qual scope s.heap.objs.size f cd
  outer:=outer
  stack:=envOfC qual scope s.heap.objs.size f cd::outer
  ex:=[]
  calm:=true
  fn:=λ_=>true
  pn:=[]
  xe:=λe s'=>wpAny (model P w) (A.deeper (envOfC qual scope s.heap.objs.size f cd)) (leaving (envOfC qual scope s.heap.objs.size f cd) e) (λ_ s''=>CX outer H s E e s'') (λe' s''=>CX outer H s E e' s'') s'
theorem uD{sc:Scope}{n:Nat}{x:Str}(h:sc.names.lookup x=some .cell):∃ c,(cellsFrom n sc.names []).lookup x=some c:=by
  have q:=PySem.W.cellsFrom_some sc.names n [] (.inl h);exact Option.isSome_iff_exists.mp q
theorem rC{CX:CXT}{P:Program}{w:World}{K:W.Frag}{mg:Str→Option Value}{base:Heap}{N ps:List Str}{qual:Str}{scope:Scope}{f:Addr}{cd:Value}{A:Around}{outer:List Env}{s s1:Shared}{H:Hp}{E:XK}{us:List Value}{vs:List V}
    (S:ar N ps scope) (hd:A.handled=none) (e0:vt P w K mg base A outer s H) (hl:vs.length=ps.length) (r:Vals vs us)
    (x:InCallC s s.heap.objs.size (bindL (envOfC qual scope s.heap.objs.size f cd).kindOf (ps.zip us) λ_=>none) (cellsFrom (s.heap.objs.size+1) scope.names []) (bindC (envOfC qual scope s.heap.objs.size f cd).kindOf (ps.zip us) λ_=>none) s1) :
    Inv (yY CX P w K mg base N qual scope f cd A outer s H E) [] (start N vs) H s1:=by
  have hpl:ps.length≤N.length:=by have:=congrArg List.length S.pre;rw[LM]at this;omega
  obtain⟨h1,tk,rfl,hk⟩:=x.done;have noA:∀ b:Addr,b∉(yY CX P w K mg base N qual scope f cd A outer s H E).ex:=λb z=>absurd (show b∈([]:List Addr) from z) (by simp);refine⟨⟨e0.mod,S.kind,rfl,rfl,Lu _,λy z c h1 h2=>?_,λy hy=>?_,λy c _ h=>?_,λ_=>hd,Around.frames_deeper e0.frames,.inr ⟨rfl,rfl⟩,λb z=>absurd z (noA b),e0.bs,e0.bsz,λb _ _=>noA b,λb z=>absurd z (noA b),e0.mz,e0.frf⟩,
    rfl,e0.bare,Un.kept hk,⟨_,x.toInCall.ns,λi y v h1 h2 h3=>?_⟩,λy c h=>⟨_,x.cell y c h⟩,e0.hok.fresh (Lu _),λy c h=>?_,λp hp=>absurd (show p∈([]:List (Addr×Obj)) from hp) (by simp),e0.hok.kept hk,?_⟩
  · exact name_of_addr x.apart (Ml h1) (Ml h2)
  · have hy:scope.names.lookup y=some .cell∨scope.names.lookup y=some .free:=hy
    rcases hy with hy|hy
    · exact uD hy
    · exact absurd rfl (S.D7 _ (Ml hy))
  · exact Me (x.above y c (Ml h))
  · have hi:i<vs.length:=by
      unfold start at h2;by_cases hi:i<vs.length
      · exact hi
      · rw[Mc (by simpa using hi)]at h2
        rw[List.getElem?_replicate]at h2;split at h2<;>cases h2
    have ha:vs[i]?=some v:=by
      unfold start at h2;rw[MB (by simpa using hi),Lz]at h2;cases e:vs[i]? with
      | none=>rw[e]at h2;cases h2
      | some a=>rw[e]at h2;cases h2;rfl
    obtain⟨u,hu,rv⟩:=r.get ha;have hp:ps[i]?=some y:=by
      rw[←S.pre,MW (by omega)];exact h1
    have ndP:ps.Nodup:=(by rw[←S.pre];exact S.nd.sublist (Nu _ _));refine⟨u,rv,?_⟩;rcases S.par y (LD hp) with k|k
    · exact .inl ⟨k,rA ndP hp hu k⟩
    · obtain⟨c,e⟩:=uD (n:=s.heap.objs.size+1) k
      refine .inr ⟨.inl k,c,e,?_⟩;have q:=x.cell y c e;rw[rB ndP hp hu (by show scope.names.lookup y≠_;rw[k];decide)]at q;exact q
  · exact e0.hok.fresh (Me (x.above y c (Ml h)))
  · unfold start
    show _=N.length;rw[Lw,Lp,List.length_replicate];omega
theorem Hs{CX:CXT}{P:Program}{w:World}{K:W.Frag}{mg:Str→Option Value}{base:Heap}{k:Nat}{f:Addr}{name qual:Str}{params:Arguments}{body:List Stmt}{scope:Scope}{dV kV doc pm cdv ct oc:Value}{an od:Option Addr}
    {osl:Array (Option Value)} {N ps:List Str} {sp:Sp} (lk:K.lookup f=some ⟨oc,od,.func (PySem.W.fnOf name qual params body scope dV kV doc pm an cdv ct),osl⟩) (hcd:PySem.W.codeIn K cdv qual=true) (S:ar N ps scope)
    (len:∀ vs H Q E,sp vs H Q E→vs.length=ps.length)
    (gX:∀(A:Around) (outer:List Env) (s:Shared) (H:Hp) (vs:List V) (Q:VK) (E:XK),dF k (A.deeper (envOfC qual scope s.heap.objs.size f cdv))→sp vs H Q E →
      ∃ t,PSs (yY CX P w K mg base N qual scope f cdv A outer s H E) body t∧t {nx:=λ_ H'=>Q .non H',rt:=Q} (start N vs) H) :
    gZ P w K mg base CX (k+1) f (PySem.W.fnOf name qual params body scope dV kV doc pm an cdv ct) ps sp:=by
  refine⟨len,λA outer s H args us vs Q E hr e0 hb r hsp=>?_⟩;have hl:=len _ _ _ _ hsp;have KX:K.In s.heap:=e0.mod.kin.keeps λb o e=>(e0.bs b o e).1;have lim:s.heap.NoLimit:=e0.mod.nolimit.keeps λb o e=>(e0.bs b o e).1;have Bb:∀ y∈ps.zip us,scope.names.lookup y.1=some .local∨(scope.names.lookup y.1=some .cell∧((cellsFrom (s.heap.objs.size+1) scope.names []).lookup y.1).isSome=true):=λ⟨n,v⟩ hy=>by
    rcases S.par n (Nl hy).1 with q|q
    · exact .inl q
    · exact .inr ⟨q,PySem.W.cellsFrom_some _ _ _ (.inl q)⟩
  refine codeAny_call_function hr.depth (KX _ _ lk) rfl S.co S.gen rfl (PySem.W.codeRec_of KX hcd) (hb _ _ _ _ ?_);refine wpAny_newFunctionEnv_cells S.kind Bb λenv he s1 x=>?_;subst he;refine⟨lim.keeps x.toInCall.keep,codeAny_func ?_⟩;obtain⟨t,ht,hq⟩:=gX A outer s H vs Q E (hr.deeper _) hsp;have I:Inv (yY CX P w K mg base N qual scope f cdv A outer s H E) [] (start N vs) H s1:=rC S hr.hd e0 hl r x;refine wpAny_mono (ht [] s1 (start N vs) H _ I hq) (λfl s' hs=>?_) λe s' hs=>hs;have fin:∀ {σ':St} {H':Hp} {v:V} {u:Value},Inv (yY CX P w K mg base N qual scope f cdv A outer s H E) [] σ' H' s'→RelV v u→Q v H'→CE outer P w H s Q u s' :=
    λ{σ' H' v u} J rv q=>⟨v,H',J.os,J.bare,J.base,J.hok,rv,q⟩
  cases fl with
  | ret u =>
    obtain⟨v,σ',H',J,rv,q⟩:=hs;exact fin J rv q
  | next =>
    obtain⟨σ',H',J,q⟩:=hs;exact fin (v:=V.non) (u:=Value.none) J rfl q
  | brk =>
    obtain⟨_,_,_,q⟩:=hs;exact False.elim q
  | cont =>
    obtain⟨_,_,_,q⟩:=hs;exact False.elim q
end L2
namespace L2
open PySem PySem.Spec PyProof.Rows
section
variable{X:Cx}{x:Str}{p pos:Pos}{e:Expr}{es:List Expr}{t:TA}{id T:String}{r:List V→Hp→VK→Prop}
def tCB(r:List V→Hp→VK→Prop)(t:TA):TE:=λσ H Q=>t σ H λvs H1=>r vs H1 Q
theorem aK(hc:eR X (.builtin id) r)(hg:Gl X x)(hm:X.mg x=none)(hv:bootBuiltins x=some (.builtin id))(ha:PA X (e::es) t)(hn:x ≠ "__name__" := by decide)(hdb:(x == ("__debug__" : Str))=false:=by decide)
    (he:starEach (e::es) X.env=(false,eval e X.env)::starEach es X.env:=by rfl) (hpl:(backTo pos (starEach es X.env)).any (·.1)=false:=by rfl):PE X (.Call (.Name x p) (e::es) [] pos) (tCB r t):=by
  intro pins s σ H Q I h;refine wpAny_Call_Name_kw (jL I hg hm hv ?_ hn hdb);exact PyProof.Rows.callWith_builtin1 (thn (ha pos pins s σ H _ I h) λus s1 ⟨vs,H1,I1,r1,q1⟩=>hc pins s1 σ H1 vs us Q I1 r1 q1) he hpl
theorem cM(hc:eR X (.type T) r)(hg:Gl X x)(hm:X.mg x=none)(hv:bootBuiltins x=some (.type T))(ha:PA X (e::es) t)(hn:x ≠ "__name__" := by decide)(hdb:(x == ("__debug__" : Str))=false:=by decide)
    (he:starEach (e::es) X.env=(false,eval e X.env)::starEach es X.env:=by rfl) (hpl:(backTo pos (starEach es X.env)).any (·.1)=false:=by rfl):PE X (.Call (.Name x p) (e::es) [] pos) (tCB r t):=by
  intro pins s σ H Q I h;refine wpAny_Call_Name_kw (jL I hg hm hv ?_ hn hdb);exact PyProof.Rows.callWith_type1 (thn (ha pos pins s σ H _ I h) λus s1 ⟨vs,H1,I1,r1,q1⟩=>hc pins s1 σ H1 vs us Q I1 r1 q1) he hpl
end
end L2
namespace HT
open PySem PyProof.Rows
def lexLt:List Int→List Int→Bool
  | [],[]=>false
  | [],_::_=>true
  | _::_,[]=>false
  | x::xs,y::ys=>if x=y then lexLt xs ys else decide (x<y)
theorem bN(x y:Int)(xs ys:List Int):lexLt (x::xs) (y::ys)=if x=y then lexLt xs ys else decide (x<y):=rfl
section
open PySem.SeqAt
open PySem.AutoSeq1 (wpAny_loadPart')
open PySem.MeetsSeq PySem.MeetsSeq2 PySem.MeetsSeq3
end
section
variable{prog:Program}{w:World}{A:Around}{E:Value→Shared→Prop}{s:Shared}
def sIx(n d:Nat):Option Int→Nat
  | none=>d
  | some v=>if v<0 then(v+(n:Int)).toNat else min v.toNat n
end
end HT
namespace L2
open PySem PySem.Spec PyProof.Rows
abbrev TO:=St→Hp→(Option Int→Hp→Prop)→Prop
def PO(X:Cx)(e:Option Expr)(t:TO):Prop :=
  ∀(pins:List (Addr×Obj)) (s:Shared) (σ:St) (H:Hp) (Q:Option Int→Hp→Prop),Inv X pins σ H s→t σ H Q →
    wpAny (model X.prog X.w) X.A (evalPart e X.env) (λu s'=>∃ o H',Inv X pins σ H' s'∧IsPart u o∧Q o H') X.xe s
def BV:TO:=λ_ H Q=>Q none H
def Ht(t:TE):TO:=λσ H Q=>t σ H λx H1=>∃ i,x=.int i∧Q (some i) H1
theorem intsAre_of{ns:List Int}:∀ {us:List Value},Vals (ns.map V.int) us→IntsAre us ns:=by
  induction ns with
  | nil=>intro us r;rw[ML]at r;cases r;exact .nil
  | cons n ns ih =>
    intro us r;rw[L1]at r;cases r with
    | cons r1 r2 =>
      obtain⟨t,e⟩:=r1;subst e;exact .cons n t (ih r2)
section
variable{X:Cx}{e:Expr}{te:TE}{lo hi:Option Expr}{tl th:TO}{pos p2:Pos}
theorem pT:PO X none BV:=by
  intro pins s σ H Q I h;rw[evalPart_none];exact wpAny_pure ⟨none,H,I,.none,h⟩
theorem jN(h:PE X e te):PO X (some e) (Ht te):=by
  intro pins s σ H Q I hw;rw[evalPart_some];refine thn (h pins s σ H _ I hw) λu s1 ⟨x,H1,I1,r1,q1⟩=>?_;obtain⟨i,rfl,q⟩:=q1;obtain⟨t,rfl⟩:=r1;exact⟨some i,H1,I1,.int i t,q⟩
def SlR(X:Cx)(r:V→Option Int→Option Int→Hp→VK→Prop):Prop :=
  ∀(pins:List (Addr×Obj)) (s:Shared) (σ:St) (H:Hp) (x:V) (v vl vu:Value) (lo hi:Option Int) (sl:Addr) (Q:VK),Inv X pins σ H s→RelV x v→s.heap.IsSliceOf sl vl vu .none→IsPart vl lo→IsPart vu hi→r x lo hi H Q →
    ∃ T id,typeLookup (.type T) "__getitem__" = pure (some (.builtin id))∧s.TypeIs v T∧wpAny (model X.prog X.w) X.A (getItem v (.ref sl)) (EP X pins σ Q) X.xe s
def tSl(r:V→Option Int→Option Int→Hp→VK→Prop)(te:TE)(tl th:TO):TE:=λσ H Q=>te σ H λx H1=>tl σ H1 λl H2=>th σ H2 λu H3=>r x l u H3 Q
theorem jt{r:V→Option Int→Option Int→Hp→VK→Prop}(hr:SlR X r)(he:PE X e te)(hl:PO X lo tl)(hu:PO X hi th):PE X (.Subscript e (.Slice lo hi none p2) pos) (tSl r te tl th):=by
  intro pins s σ H Q I h;refine Subscript_ (thn (he pins s σ H _ I h) λv s1 ⟨x,H1,I1,r1,q1⟩=>?_);refine wpAny_Slice (thn (hl pins s1 σ H1 _ I1 q1) λvl s2 ⟨l,H2,I2,pl,q2⟩=>thn (hu pins s2 σ H2 _ I2 q2) λvu s3 ⟨u,H3,I3,pu,q3⟩=>?_);rw[evalPart_none];refine wpAny_pure ?_;have I4:Inv X pins σ H3 {s3 with heap:=s3.heap.push {cls:=.type "slice",data:=.fields #[vl,vu,.none]}}:=I3.kept (t':=s3.toks) λb ob q=>Lx _ q;obtain⟨T,id,hT,ht,hg⟩:=hr pins {s3 with heap:=s3.heap.push {cls:=.type "slice",data:=.fields #[vl,vu,.none]}} σ H3 x v vl vu l u s3.heap.objs.size Q I4 r1 (Heap.IsSliceOf.new ..) pl pu q3;show wpAny (model X.prog X.w) X.A (subscriptTail e (.Slice lo hi none p2) v (.ref s3.heap.objs.size)) (EP X pins σ Q) X.xe {s3 with heap:=s3.heap.push {cls:=.type "slice",data:=.fields #[vl,vu,.none]}};exact tail_any (ops:=[.ref s3.heap.objs.size,v]) ht hT hg (by with_unfolding_all rfl)
def rD(xs:List V)(lo hi:Option Int):List V:=(xs.drop (HT.sIx xs.length 0 lo)).take (HT.sIx xs.length xs.length hi-HT.sIx xs.length 0 lo)
theorem tY(xs:List V)(lo hi:Option Int):(rD xs lo hi).length≤xs.length:=by
  unfold rD;rw[LM,MI];omega
end
end L2
namespace L2
open PySem PySem.Spec PyProof.Rows
def ixN(n:Nat)(i:Int):Option Nat:=if 0≤i then(if i<n then some i.toNat else none) else if -(n:Int)≤i then some (i+n).toNat else none
def atI{α:Type}(xs:List α)(i:Int):Option α:=(ixN xs.length i).bind λj=>xs[j]?
theorem wU{n:Nat}{i:Int}{j:Nat}(h:ixN n i=some j):seqIndex? i n=some j∧j<n∧-(n:Int)≤i∧i<n:=by
  unfold ixN at h;by_cases h0:0≤i
  · rw[if_pos h0]at h
    by_cases h1:i<n
    · rw[if_pos h1]at h
      have e:i.toNat=j:=LS h;exact⟨by rw[seqIndex_of h0 h1,e],by omega,by omega,h1⟩
    · rw[if_neg h1]at h;cases h
  · rw[if_neg h0]at h
    by_cases h1:-(n:Int)≤i
    · rw[if_pos h1]at h
      have e:(i+n).toNat=j:=LS h;exact⟨by rw[seqIndex_neg (by omega) h1,e],by omega,h1,by omega⟩
    · rw[if_neg h1]at h;cases h
theorem wV{α:Type}{xs:List α}{i:Int}{v:α}(h:atI xs i=some v):∃ j,seqIndex? i xs.length=some j∧xs[j]?=some v∧j<xs.length∧-(xs.length:Int)≤i∧i<xs.length:=by
  unfold atI at h;cases e:ixN xs.length i with
  | none=>rw[e]at h;cases h
  | some j =>
    rw[e]at h;obtain⟨h1,h2,h3,h4⟩:=wU e;exact⟨j,h1,h,h2,h3,h4⟩
theorem bK{α:Type}{xs:List α}{j:Nat}{v:α}(h:xs[j]?=some v):atI xs (j:Int)=some v:=by
  have hj:j<xs.length:=(Lq.mp h).1;have e:ixN xs.length (j:Int)=some j:=by
    unfold ixN;rw[if_pos (by omega),if_pos (by omega)];simp
  unfold atI;rw[e];exact h
def BW(b:Expr):Prop:=∀ o i,subscripted b false o i=operate [o,i] (getItem o i)
def IxR(X:Cx)(r:R2):Prop :=
  ∀(value slice:Expr) (pins:List (Addr×Obj)) (s:Shared) (σ:St) (H:Hp) (x y:V) (v u:Value) (Q:VK),Inv X pins σ H s→RelV x v→RelV y u→r x y H Q →
    subscripted slice false v u=operate [v,u] (getItem v u)→wpAny (model X.prog X.w) X.A (subscriptTail value slice v u) (EP X pins σ Q) X.xe s
def MtR(X:Cx)(id:String)(r:V→List V→Hp→VK→Prop):Prop :=
  ∀(pins:List (Addr×Obj)) (s:Shared) (σ:St) (H:Hp) (x:V) (xs:List V) (v:Value) (us:List Value) (Q:VK),Inv X pins σ H s→RelV x v→Vals xs us→r x xs H Q →
    wpAny (model X.prog X.w) X.A (call (.builtin id) (v::us)) (EP X pins σ Q) X.xe s
section
variable{X:Cx}{a b:Expr}{ta tb:TE}{pos:Pos}
theorem aD{r:R2}(hr:IxR X r)(ha:PE X a ta)(hb:PE X b tb)(hs:BW b):PE X (.Subscript a b pos) (tOp r ta tb):=by
  intro pins s σ H Q I h;exact Subscript_ (E3 ha hb I h λv u s2 x y H2 I2 rx ry q=>hr a b pins s2 σ H2 x y v u Q I2 rx ry q (hs _ _))
inductive IQ(K:W.Frag)(x y:V)(H:Hp)(Q:VK):Prop where
  | mk (p:Addr) (xs:List V) (i:Int) (v:V):x=.ref p→y=.int i→SqL K H p xs→atI xs i=some v→Q v H→IQ K x y H Q
def E6(K:W.Frag):R2:=λx y H Q=>IQ K x y H Q
inductive IS(K:W.Frag)(x y:V)(H:Hp)(Q:VK):Prop where
  | mk (p:Addr) (xs:List V) (i:Int) (v:V):x=.ref p→y=.int i→SqT K H p xs→atI xs i=some v→Q v H→IS K x y H Q
def Du(K:W.Frag):R2:=λx y H Q=>IS K x y H Q
theorem bE:IxR X (E6 X.K):=by
  intro value slice pins s σ H x y v u Q I rx ry h hs;obtain⟨p,xs,i,z,rfl,rfl,hq,he,q⟩:=h;cases rx;obtain⟨t,rfl⟩:=ry;obtain⟨its,r,pl,hz⟩:=I.list hq;obtain⟨j,h1,h2,h3,h4,h5⟩:=wV he;obtain⟨w,ew,rw'⟩:=r.get h2;have hl:=r.length;have hn:=tO;have fin:EP X pins σ Q w s:=⟨z,H,I,rw',q⟩;by_cases h0:0≤i
  · have hj:i.toNat=j:=by
      rw[seqIndex_of h0 h5]at h1;exact LS h1
    exact item_listR pl.isList h0 (by omega) (by rw[hj];simpa using ew) fin hs
  · have hj:(i+(its.toArray.size:Int)).toNat=j:=by
      rw[seqIndex_neg (by omega) h4]at h1;rw[Ly,←hl];exact LS h1
    exact subscriptTail_builtinR (x:=w) pl.isList.typeIs slot_list_getitem.lookup
      (wpAny_getItem_list_neg (Q:=λr s'=>r=w∧EP X pins σ Q r s') pl.isList (by omega) (by rw[Ly]<;>omega) (by omega) (by rw[hj];simpa using ew) ⟨rfl,fin⟩) hs
theorem aB:IxR X (Du X.K):=by
  intro value slice pins s σ H x y v u Q I rx ry h hs;obtain⟨p,xs,i,z,rfl,rfl,hq,he,q⟩:=h;cases rx;obtain⟨t,rfl⟩:=ry;obtain⟨its,r,pl,hz⟩:=I.tuple hq;obtain⟨j,h1,h2,h3,h4,h5⟩:=wV he;obtain⟨w,ew,rw'⟩:=r.get h2;have hl:=r.length;have hn:=tO;have fin:EP X pins σ Q w s:=⟨z,H,I,rw',q⟩;exact subscriptTail_builtinR (x:=w) pl.typeIs slot_tuple_getitem.lookup
    (getItem_tuple (j:=j) (Q:=λr s'=>r=w∧EP X pins σ Q r s') pl (by omega) (by omega) (by rw[Ly,←hl];exact h1) (by simpa using ew) ⟨rfl,fin⟩) hs
theorem vv(its:List Value)(n j:Nat)(u:Value):Obj.mapSeq (·.setIfInBounds j u) {cls:=.type "list",data:=.seq its.toArray n}={cls:=.type "list",data:=.seq (its.set j u).toArray n}:=by
  simp[Obj.mapSeq]
theorem Inv.lst{pins:List (Addr×Obj)}{σ:St}{H:Hp}{s:Shared}{p:Addr}{xs:List V}(I:Inv X pins σ H s)(h:H p=some (.lst xs)) :
    ∃(its:List Value) (n:Nat),Vals xs its∧s.heap.get? p=some {cls:=.type "list",data:=.seq its.toArray n}∧xs.length≤sizeLine:=by
  obtain⟨z,its,n,r,e⟩:=I.hok p _ h;exact⟨its,n,r,e,z⟩
theorem Inv.D8{pins:List (Addr×Obj)}{σ:St}{H:Hp}{s:Shared}{p:Addr}{xs ys:List V}{its qD:List Value}{n n':Nat}{f:Obj→Obj}(I:Inv X pins σ H s)(h:H p=some (.lst xs))
    (ho:s.heap.get? p=some {cls:=.type "list",data:=.seq its.toArray n}) (hf:f {cls:=.type "list",data:=.seq its.toArray n}={cls:=.type "list",data:=.seq qD.toArray n'}) (r:Vals ys qD) (hz:ys.length≤sizeLine) (t:Nat) :
    Inv X pins σ (upd H p (.lst ys)) {s with heap:=s.heap.update p f,toks:=t}:=by
  have e:(s.heap.update p f).get? p=some {cls:=.type "list",data:=.seq qD.toArray n'}:=by
    rw[Heap.get?_update_self f ho (by rw[hf]<;>rfl),hf]
  refine I.write (x:=p) (e:=p) (by rw[h];trivial) (.inl rfl) (λb u hb q=>(L9 _ _ (L4 hb)).trans q) ⟨_,e⟩ ?_;exact⟨hz,qD,n',r,e⟩
def Hu:V→V→V→Hp→(Hp→Prop)→Prop:=λo i v H Q=>∃ p xs k j,o=.ref p∧i=.int k∧H p=some (.lst xs)∧ixN xs.length k=some j∧Q (upd H p (.lst (xs.set j v)))
theorem set_list:IG X Hu:=by
  intro pins s σ H o i v ov iv u Q I ro ri rv h;obtain⟨p,xs,k,j,rfl,rfl,hp,hj,q⟩:=h;cases ro;obtain⟨t,rfl⟩:=ri;obtain⟨its,n,r,ho,hz⟩:=I.lst hp;obtain⟨h1,h2,h3,h4⟩:=wU hj;have hl:=r.length;have hn:=tO;have I':Inv X pins σ (upd H p (.lst (xs.set j v))) {s with heap:=s.heap.update p (Obj.mapSeq (·.setIfInBounds j u))} :=
    I.D8 hp ho (vv its n j u) (r.set rv j) (by rw[Mt];exact hz) s.toks
  by_cases h0:0≤k
  · have hk:k.toNat=j:=by
      rw[seqIndex_of h0 h4]at h1;exact LS h1
    exact PySem.W.ki_setAt ho h0 (by omega) (by rw[Ly,←hl];exact h4) (by rw[hk];exact⟨_,I',q⟩)
  · have hk:(k+(its.toArray.size:Int)).toNat=j:=by
      rw[seqIndex_neg (by omega) h3]at h1;rw[Ly,←hl];exact LS h1
    exact PySem.W.ki_setBack ho (by omega) (by rw[Ly,←hl];exact h3) (by omega) (by rw[hk];exact⟨_,I',q⟩)
theorem sh(lo hi:Option Int)(n:Nat):(sliceBounds lo hi none n).1=((HT.sIx n 0 lo:Nat):Int)∧(sliceBounds lo hi none n).2.1=((HT.sIx n n hi:Nat):Int)∧(sliceBounds lo hi none n).2.2=1:=by
  refine⟨?_,?_,rfl⟩
  · cases lo with
    | none=>simp[sliceBounds,HT.sIx]
    | some i =>
      simp only[sliceBounds,HT.sIx,Option.getD_none,show(1:Int)>0 by decide,if_true];by_cases h:i<0
      · simp only[h,if_true]<;>omega
      · simp only[h,if_false]<;>omega
  · cases hi with
    | none=>simp[sliceBounds,HT.sIx]
    | some i =>
      simp only[sliceBounds,HT.sIx,Option.getD_none,show(1:Int)>0 by decide,if_true];by_cases h:i<0
      · simp only[h,if_true]<;>omega
      · simp only[h,if_false]<;>omega
theorem qI(its:List Value)(lo hi:Option Int):slicePick its.toArray lo hi none=((its.drop (HT.sIx its.length 0 lo)).take (HT.sIx its.length its.length hi-HT.sIx its.length 0 lo)).toArray:=by
  obtain⟨h1,h2,h3⟩:=sh lo hi its.toArray.size;unfold slicePick;rw[h1,h2,h3];simp only[sliceRange_one,pick_run,Ly]<;>rfl
def Jy(K:W.Frag):V→Option Int→Option Int→Hp→VK→Prop:=λx lo hi H Q=>∃ a xs,x=.ref a∧SqL K H a xs∧∀ p,H p=none→Q (.ref p) (upd H p (.lst (rD xs lo hi)))
theorem mB:SlR X (Jy X.K):=by
  intro pins s σ H x v vl vu lo hi sl Q I rx hs pl pu h;obtain⟨a,xs,rfl,hx,q⟩:=h;cases rx;obtain⟨its,r,ht,hz⟩:=I.list hx;have hlen:=r.length;refine⟨"list",_,slot_list_getitem.lookup,ht.isList.typeIs,?_⟩;refine wpAny_getItem_list_slice ht.isList hs pl pu .none (by simp) ?_ (by rw[Ly]<;>omega);rw[qI,←hlen];refine⟨.ref s.heap.objs.size,_,I.laid (t':=s.toks) (o:=.lst (rD xs lo hi)) (λb ob q=>Lx _ q) (Lu _) ?_,rfl,q _ (I.hok.fresh (Lu _))⟩;exact⟨LL (tY xs lo hi) hz,_,0,(r.drop (HT.sIx xs.length 0 lo)).take (HT.sIx xs.length xs.length hi-HT.sIx xs.length 0 lo),LY _ rfl⟩
def cE:V→Bool
  | .non=>true
  | .bl _=>true
  | .int _=>true
  | .str _=>true
  | _=>false
def eqV:V→V→Bool
  | .non,.non=>true
  | .bl a,.bl b=>a == b
  | .bl a,.int b=>(if a then 1 else 0) == b
  | .int a,.bl b=>a == (if b then 1 else 0)
  | .int a,.int b=>a == b
  | .str a,.str b=>a == b
  | _,_=>false
theorem qJ{A:Around}{s:Shared}{y x:V}{u v:Value}(ry:RelV y u)(rx:RelV x v)(fy:cE y=true)(fx:cE x=true):SeqAt.EqAt A s u v (eqV y x):=by
  cases y with
  | non =>
    cases ry;cases x with
    | non=>cases rx;exact MZ _
    | bl b=>cases rx;exact SeqAt.EqAt.none_bool b
    | int b=>obtain⟨t,rfl⟩:=rx;exact SeqAt.EqAt.none_int b t
    | str b=>obtain⟨t,rfl⟩:=rx;exact SeqAt.EqAt.none_str b t
    | _=>exact absurd (show false=true from fx) Lv
  | bl a =>
    cases ry;cases x with
    | non=>cases rx;exact SeqAt.EqAt.bool_none a
    | bl b=>cases rx;exact SeqAt.EqAt.bool_bool a b
    | int b=>obtain⟨t,rfl⟩:=rx;exact SeqAt.EqAt.bool_int a b t
    | str b=>obtain⟨t,rfl⟩:=rx;exact SeqAt.EqAt.bool_str a b t
    | _=>exact absurd (show false=true from fx) Lv
  | int a =>
    obtain⟨t',rfl⟩:=ry;cases x with
    | non=>cases rx;exact SeqAt.EqAt.int_none a t'
    | bl b=>cases rx;exact SeqAt.EqAt.int_bool a t' b
    | int b=>obtain⟨t,rfl⟩:=rx;exact SeqAt.EqAt.int_int a t' b t
    | str b=>obtain⟨t,rfl⟩:=rx;exact SeqAt.EqAt.int_str a t' b t
    | _=>exact absurd (show false=true from fx) Lv
  | str a =>
    obtain⟨t',rfl⟩:=ry;cases x with
    | non=>cases rx;exact SeqAt.EqAt.str_none a t'
    | bl b=>cases rx;exact SeqAt.EqAt.str_bool a t' b
    | int b=>obtain⟨t,rfl⟩:=rx;exact SeqAt.EqAt.str_int a t' b t
    | str b=>obtain⟨t,rfl⟩:=rx;exact SeqAt.EqAt.str_str a t' b t
    | _=>exact absurd (show false=true from fx) Lv
  | _=>exact absurd (show false=true from fy) Lv
def eqU(x:V)(u:Value):Bool:=match u with
  | .none=>eqV .non x
  | .bool b=>eqV (.bl b) x
  | .int i _=>eqV (.int i) x
  | .str z _=>eqV (.str z) x
  | _=>false
theorem AG{x y:V}{u:Value}(r:RelV y u)(f:cE y=true):eqU x u=eqV y x:=by
  cases y with
  | non=>cases r;rfl
  | bl b=>cases r;rfl
  | int i=>obtain⟨t,rfl⟩:=r;rfl
  | str z=>obtain⟨t,rfl⟩:=r;rfl
  | _=>exact absurd (show false=true from f) Lv
theorem tw{x:V}:∀ {xs:List V} {us:List Value},Vals xs us→xs.all cE=true→us.any (eqU x)=xs.any λy=>eqV y x
  | _,_,.nil,_=>rfl
  | y::xs,u::us,.cons r t,f=>by
    rw[List.all_cons,Nh]at f;rw[M8,M8,AG r f.1,tw t f.2]
theorem qv{A:Around}{s:Shared}{x:V}{v:Value}(rx:RelV x v)(fx:cE x=true):∀ {xs:List V} {us:List Value},Vals xs us→xs.all cE=true→∀ u∈us,SeqAt.EqAt A s u v (eqU x u)
  | _,_,.nil,_=>λu hu=>by cases hu
  | y::xs,u::us,.cons r t,f=>λu' hu=>by
    rw[List.all_cons,Nh]at f;rcases LQ.mp hu with rfl|hu
    · rw[AG r f.1];exact qJ r rx f.1 fx
    · exact qv rx fx t f.2 u' hu
def inV(x:V)(xs:List V):Bool:=xs.any λy=>eqV y x
def rIn(K:W.Frag)(neg:Bool):R2:=λx y H Q=>∃ p xs,y=.ref p∧(SqL K H p xs∨SqT K H p xs)∧cE x=true∧xs.all cE=true∧Q (.bl (if neg then !inV x xs else inV x xs)) H
theorem nz:OpR X (compareOp .In) (rIn X.K false):=by
  intro pins s σ H x y v u Q I rx ry h;obtain⟨p,xs,rfl,hq,fx,fs,q⟩:=h;cases ry;rcases hq with hq|hq
  · obtain⟨its,r,pl,hz⟩:=I.list hq
    refine SeqAt.in_listAt (eqU x) pl.isList (λw hw=>qv rx fx r fs w (by simpa using hw)) ⟨.bl _,H,I,rfl,?_⟩;rw[show its.toArray.any (eqU x)=its.any (eqU x) by simp,tw r fs];exact q
  · obtain⟨its,r,pl,hz⟩:=I.tuple hq
    refine SeqAt.in_tupleAt (eqU x) pl (λw hw=>qv rx fx r fs w (by simpa using hw)) ⟨.bl _,H,I,rfl,?_⟩;rw[show its.toArray.any (eqU x)=its.any (eqU x) by simp,tw r fs];exact q
theorem aU:eR X (.builtin "len") (λxs H Q=>∃ p ys,xs=[.ref p]∧(SqL X.K H p ys∨SqT X.K H p ys)∧Q (.int ys.length) H):=by
  intro pins s σ H xs us Q I r h;obtain⟨p,ys,rfl,hq,q⟩:=h;obtain⟨u,rfl,rx⟩:=vals1 r;cases rx;have hn:=tO;rcases hq with hq|hq
  · obtain⟨its,r',pl,hz⟩:=I.list hq
    have hlen:=r'.length;exact Calls.call_len_list pl.isList (by simp only[Ly]<;>omega) ⟨.int ys.length,H,I.tok _,⟨s.toks+1,by rw[Ly,hlen]⟩,q⟩
  · obtain⟨its,r',pl,hz⟩:=I.tuple hq
    have hlen:=r'.length;exact len_tuple pl (by simp only[Ly]<;>omega) ⟨.int ys.length,H,I.tok _,⟨s.toks+1,by rw[Ly,hlen]⟩,q⟩
theorem dC:eR X (.type "list") (λxs H Q=>∃ p ys,xs=[.ref p]∧(SqL X.K H p ys∨SqT X.K H p ys)∧∀ l,H l=none→Q (.ref l) (upd H l (.lst ys))):=by
  intro pins s σ H xs us Q I r h;obtain⟨p,ys,rfl,hq,q⟩:=h;obtain⟨u,rfl,rx⟩:=vals1 r;cases rx;have fin:∀(its:List Value),Vals ys its→ys.length≤sizeLine→∀(h':Heap) (c':Nat),(∀ b o',s.heap.get? b=some o'→h'.get? b=some o') →
      h'.get? s.heap.objs.size=some {cls:=.type "list",dict:=none,data:=.seq its.toArray c',slots:=#[]}→EP X pins σ Q (.ref s.heap.objs.size) {s with heap:=h'}:=λits r' hz h' c' kp e =>
    ⟨.ref s.heap.objs.size,_,I.laid (t':=s.toks) kp (Lu _) (show bJ X.prog X.w _ h' _ (.lst ys) from⟨hz,its,c',r',e⟩),rfl,q _ (I.hok.fresh (Lu _))⟩
  rcases hq with hq|hq
  · obtain⟨its,r',pl,hz⟩:=I.list hq
    have hlen:=r'.length;obtain⟨o,ho,hc,n,hd⟩:=pl.isList;exact call_list_seq p (.inl rfl) ho hc hd (λh' c' kp e=>fin its r' hz h' c' kp e) (by simp only[Ly]<;>omega)
  · obtain⟨its,r',pl,hz⟩:=I.tuple hq
    have hlen:=r'.length;obtain⟨o,ho,hc,n,hd⟩:=pl;exact call_list_seq p (.inr rfl) ho hc hd (λh' c' kp e=>fin its r' hz h' c' kp e) (by simp only[Ly]<;>omega)
def tyV(K:W.Frag)(T:String)(x:V)(H:Hp):Prop:=match x with
  | .str _=>T = "str"
  | .int _=>T = "int"
  | .ref p=>(T = "list" ∧ ∃ xs,SqL K H p xs)∨(T = "tuple" ∧ ∃ o,K.lookup p=some o∧o.cls=.type "tuple" ∧ o.dict=none) ∨
      (T = "dict" ∧ ((∃ kvs,H p=some (.dK kvs))∨∃ kvs,H p=some (.dT kvs)))∨(T = "set" ∧ ∃ S n,H p=some (.set S n))
  | _=>False
theorem D9{pins:List (Addr×Obj)}{σ:St}{H:Hp}{s:Shared}{T:String}{x:V}{v:Value}(I:Inv X pins σ H s)(r:RelV x v)(ty:tyV X.K T x H) :
    s.TypeIs v T∧∀ a,v=.ref a→∃ ob,s.heap.get? a=some ob∧ob.dict=none:=by
  cases x with
  | str z =>
    obtain⟨t,rfl⟩:=r;cases (show T = "str" from ty);exact⟨typeIs_str s z t,λ_ e=>nomatch e⟩
  | int i =>
    obtain⟨t,rfl⟩:=r;cases (show T = "int" from ty);exact⟨typeIs_int s i t,λ_ e=>nomatch e⟩
  | ref p =>
    cases r;rcases ty with⟨rfl,xs,hq⟩|⟨rfl,o,hk,hc,hd⟩|⟨rfl,hk⟩|⟨rfl,S,n,hk⟩
    · obtain⟨its,_,pl,_⟩:=I.list hq
      refine⟨pl.isList.typeIs,λa e=>?_⟩;cases e;obtain⟨o,n,e,c,hd,_⟩:=pl;exact⟨o,e,hd⟩
    · refine⟨⟨o,I.kIn p o hk,hc⟩,λa e=>?_⟩
      cases e;exact⟨o,I.kIn _ o hk,hd⟩
    · have z:∃ o,s.heap.get? p=some o∧o.ExactDict:=by
        rcases hk with⟨kvs,hk⟩|⟨kvs,hk⟩
        · obtain⟨_,_,_,_,o,_,_,e,ex,_⟩:=I.hok p _ hk
          exact⟨o,e,ex⟩
        · obtain⟨_,_,_,_,o,_,_,e,ex,_⟩:=I.hok p _ hk
          exact⟨o,e,ex⟩
      obtain⟨o,e,ex⟩:=z;refine⟨⟨o,e,ex.1⟩,λa e2=>?_⟩;cases e2;exact⟨o,e,ex.2.1⟩
    · obtain⟨o,_,_,_,e,ex,_⟩:=I.hok p _ hk
      refine⟨⟨o,e,ex.1⟩,λa e2=>?_⟩;cases e2;exact⟨o,e,ex.2.1⟩
  | _=>exact False.elim ty
def tBM(K:W.Frag)(T:String)(r:V→List V→Hp→VK→Prop)(to:TE)(t:TA):TE:=λσ H Q=>to σ H λx H1=>tyV K T x H1∧t σ H1 λxs H2=>r x xs H2 Q
variable{o e:Expr}{es:List Expr}{to:TE}{t:TA}{name:Str}{apos pq:Pos}{T id:String}{r:V→List V→Hp→VK→Prop}
theorem kr(pa:PlainAttrs T)(slot:Slot T name id)(hty:typeOf (.builtin id)=pure (.type "method_descriptor"))(hm:MtR X id r)(ho:PE X o to)(ha:PA X (e::es) t)
    (Hv:attributeBase o name X.env (eval o X.env)=eval o X.env:=by rfl)
    (BX:((backTo pq (starEach (e::es) X.env)).all (λx=>!x.1)&&(backToKw pq (keywordEach [] X.env)).all (λx=>x.1.isSome)
      && decide ((e::es).length+([]:List Keyword).length+(if([]:List Keyword).isEmpty then 0 else 1)<30))=true:=by rfl)
    (HB:(apos.endLine == pq.line)=true:=by rfl) (hs:starEach (e::es) X.env=(false,eval e X.env)::starEach es X.env:=by rfl) (Ea:(backTo pq (starEach es X.env)).any (·.1)=false:=by rfl) :
    PE X (.Call (.Attribute o name apos) (e::es) [] pq) (tBM X.K T r to t):=by
  intro pins s σ H Q I h;refine wpAny_Call_method_late Hv BX HB rfl (thn (ho pins s σ H _ I h) λv s1 ⟨x,H1,I1,r1,ty,q1⟩=>?_);obtain⟨h1,h2⟩:=D9 I1 r1 ty;refine⟨T,id,pa,slot,hty,h1,h2,?_⟩;have hA:=ha pq pins s1 σ H1 _ I1 q1;rw[hs]at hA ⊢;refine Calls.callWith_builtin (by show(false||(backTo pq (starEach es X.env)).any (·.1))=false;rw[Ea]<;>rfl) (Calls.evalArgs_plain ?_);exact thn hA λus s2 ⟨vs,H2,I2,r2,q2⟩=>hm pins s2 σ H2 x vs v us Q I2 r1 r2 q2
end
end L2
namespace L2
open PySem PySem.Spec PyProof.Rows
def MtM(X:Cx)(id:String)(r:V→List V→Hp→VK→Prop):Prop :=
  ∀(pins:List (Addr×Obj)) (s:Shared) (σ:St) (H:Hp) (x:V) (xs:List V) (v:Value) (us:List Value) (Q:VK),Inv X pins σ H s→RelV x v→Vals xs us→r x xs H Q →
    wpAny (model X.prog X.w) X.A (call (.builtin id) (v::us)) (EP X pins σ Q) X.xe s
theorem Vals.one:∀ {x:V} {us:List Value},Vals [x] us→∃ u,us=[u]∧RelV x u
  | _,_,.cons r .nil=>⟨_,rfl,r⟩
theorem Vals.reverse{xs:List V}{us:List Value}(h:Vals xs us):Vals xs.reverse us.reverse:=by
  induction h with
  | nil=>exact .nil
  | cons r t ih=>rw[List.reverse_cons,List.reverse_cons];exact Vals.append ih (.cons r .nil)
theorem Vals.rep{xs:List V}{us:List Value}(h:Vals xs us):∀ k:Nat,Vals (List.replicate k xs).flatten (List.replicate k us).flatten
  | 0=>.nil
  | k+1=>by
    rw[Mp,Mp,MQ,MQ];exact Vals.append h (Vals.rep h k)
theorem foldl_rep(its:List Value):∀(k:Nat) (acc:List Value),
    List.foldl (λx1 x2=>x1++x2) acc.toArray (List.replicate k its.toArray)=(acc++(List.replicate k its).flatten).toArray
  | 0,acc=>by simp
  | k+1,acc=>by
    have e:acc.toArray++its.toArray=(acc++its).toArray:=(by simp);have e2:(acc++its)++(List.replicate k its).flatten=acc++(List.replicate (k+1) its).flatten:=by
      rw[Mp,MQ,Nc]
    rw[←e2,←foldl_rep its k (acc++its),←e,Mp,List.foldl_cons]
section
variable{X:Cx}{pins:List (Addr×Obj)}{σ:St}{H:Hp}{s:Shared}{l b:Addr}{xs ys zs:List V}
theorem Inv.E7{its qD:List Value}{n:Nat}{f:Array Value→Array Value}{t':Nat}(I:Inv X pins σ H s)(hH:H l=some (.lst xs))
    (e:s.heap.get? l=some {cls:=.type "list",data:=.seq its.toArray n}) (hf:f its.toArray=qD.toArray) (hv:Vals ys qD) (hz:ys.length≤sizeLine) :
    Inv X pins σ (upd H l (.lst ys)) {s with heap:=s.heap.update l (Obj.mapSeq f),toks:=t'}:=by
  have q:=PySem.IsL.update e f;rw[hf]at q;refine I.write (x:=l) (e:=l) (by rw[hH];exact trivial) (.inl rfl) (λb' u hb hu=>(L9 s.heap (Obj.mapSeq f) (L4 hb)).trans hu) ⟨_,q⟩ ?_;exact⟨hz,qD,_,hv,q⟩
theorem Inv.Dv{its:List Value}{t':Nat}(I:Inv X pins σ H s)(hv:Vals ys its)(hz:ys.length≤sizeLine) :
    Inv X pins σ (upd H s.heap.objs.size (.lst ys)) {s with heap:=s.heap.push {cls:=.type "list",data:=.seq its.toArray},toks:=t'} :=
  I.laid (λ_ _ q=>Lx _ q) (Lu _) ⟨hz,its,0,hv,LY _ rfl⟩
theorem Inv.fresh(I:Inv X pins σ H s):H s.heap.objs.size=none:=I.hok.fresh (Lu _)
theorem Inv.yZ(I:Inv X pins σ H s)(hH:H l=some (.lst xs)):xs.length≤sizeLine∧∃(its:List Value) (n:Nat),Vals xs its∧xs.length=its.length∧s.heap.get? l=some {cls:=.type "list",data:=.seq its.toArray n}:=by
  obtain⟨z,its,n,r,e⟩:=I.hok l _ hH;exact⟨z,its,n,r,r.length,e⟩
theorem uE{n:Nat}(h:n≤sizeLine):Builtin.List.listTooLong n=false:=by
  unfold Builtin.List.listTooLong;exact decide_eq_false (by omega)
end
section
variable{X:Cx}
def BY:V→List V→Hp→VK→Prop:=λx vs H Q=>∃ l xs y,x=.ref l∧vs=[y]∧H l=some (.lst xs)∧xs.length<sizeLine∧Q .non (upd H l (.lst (xs++[y])))
theorem cw:MtM X "list.append" BY:=by
  intro pins s σ H x vs v us Q I rx rv h;obtain⟨l,xs,y,rfl,rfl,hH,hz,q⟩:=h;cases rx;obtain⟨u,rfl,ru⟩:=rv.one;obtain⟨z,its,n,r,hl,e⟩:=I.yZ hH;refine call_meets F.slot_list_append ⟨_,e,rfl⟩ F.entry_list_append (F.args_list_append_2 _ _) (PySem.list_append l its.toArray n u (by rw[Ly];omega)) ⟨e,?_⟩;refine⟨.non,_,I.E7 (qD:=its++[u]) hH e (by simp) (r.append (.cons ru .nil)) ?_,rfl,q⟩;rw[Lw,Mf];omega
def BZ:V→List V→Hp→VK→Prop:=λx vs H Q=>∃ l b xs zs,x=.ref l∧vs=[.ref b]∧H l=some (.lst xs)∧H b=some (.lst zs)∧xs.length+zs.length≤sizeLine∧Q .non (upd H l (.lst (xs++zs)))
theorem xV:MtM X "list.extend" BZ:=by
  intro pins s σ H x vs v us Q I rx rv h;obtain⟨l,b,xs,zs,rfl,rfl,hH,hB,hz,q⟩:=h;cases rx;obtain⟨u,rfl,ru⟩:=rv.one;cases ru;obtain⟨z,its,n,r,hl,e⟩:=I.yZ hH;obtain⟨z2,y8,n2,r2,hl2,e2⟩:=I.yZ hB;have hsz:its.toArray.size+y8.toArray.size≤sizeLine:=by rw[Ly,Ly];omega
  have Bc:¬(!its.toArray.isEmpty&&Builtin.List.listTooLong (its.toArray.size+y8.toArray.size))=true:=by
    rw[uE hsz,MS];exact Lv
  refine call_meets F.slot_list_extend ⟨_,e,rfl⟩ F.entry_list_extend (F.args_list_extend_2 _ _)
    (AutoSeq1.list_extend_list_list_0 l its.toArray n b y8.toArray n2 Bc (by rw[Ly];omega) (by omega)) ⟨e,e2,?_⟩
  refine⟨.non,_,I.E7 (qD:=its++y8) hH e (by simp) (r.append r2) ?_,rfl,q⟩;rw[Lw];omega
def Jz:R2:=λx y H Q=>∃ l b xs zs,x=.ref l∧y=.ref b∧H l=some (.lst xs)∧H b=some (.lst zs)∧xs.length+zs.length≤sizeLine∧∀ p,H p=none→Q (.ref p) (upd H p (.lst (xs++zs)))
theorem AH:OpR X (binaryOp .Add) Jz:=by
  intro pins s σ H x y v u Q I rx ry h;obtain⟨l,b,xs,zs,rfl,rfl,hH,hB,hz,q⟩:=h;cases rx;cases ry;obtain⟨z,its,n,r,hl,e⟩:=I.yZ hH;obtain⟨z2,y8,n2,r2,hl2,e2⟩:=I.yZ hB;refine PySem.P.add_list e e2 ?_ (by rw[Ly,Ly];omega);have ea:its.toArray++y8.toArray=(its++y8).toArray:=by simp
  rw[ea];exact⟨.ref _,_,I.Dv (t':=s.toks) (r.append r2) (by rw[Lw];omega),rfl,q _ I.fresh⟩
def JA:R2:=λx y H Q=>∃ l k xs,x=.ref l∧y=.int k∧H l=some (.lst xs)∧-(2 ^ 63)≤k∧k<2 ^ 63∧xs.length*k.toNat≤sizeLine ∧
  ∀ p,H p=none→Q (.ref p) (upd H p (.lst (List.replicate k.toNat xs).flatten))
theorem len_rep{α:Type}(xs:List α)(k:Nat):(List.replicate k xs).flatten.length=k*xs.length:=by
  induction k with
  | zero=>simp
  | succ k ih=>rw[Mp,MQ,Lw,ih,Nat.succ_mul,Nat.add_comm]
theorem wk:OpR X (binaryOp .Mult) JA:=by
  intro pins s σ H x y v u Q I rx ry h;obtain⟨l,k,xs,rfl,rfl,hH,h1,h2,hz,q⟩:=h;cases rx;obtain⟨t,rfl⟩:=ry;obtain⟨z,its,n,r,hl,e⟩:=I.yZ hH;have hlen:its.toArray.size*k.toNat≤sizeLine:=by rw[Ly,←hl];exact hz
  have JB:¬its.toArray.size*k.toNat>(2 ^ 63-1)/8:=by
    have:(sizeLine:Nat)≤(2 ^ 63-1)/8:=by decide
    omega
  have JC:¬(!Builtin.List.listFitsIndex k)=true:=by
    rw[fitsIndex_both h1 h2];exact Lv
  have Bc:¬Builtin.List.listTooLong (its.toArray.size*k.toNat)=true:=by
    rw[uE hlen];exact Lv
  have JD:List.foldl (λx1 x2=>x1++x2) #[] (List.replicate (if its.toArray.isEmpty=true then 0 else k.toNat) its.toArray)=(List.replicate k.toNat its).flatten.toArray:=by
    have f0:∀ m:Nat,List.foldl (λx1 x2=>x1++x2) #[] (List.replicate m its.toArray)=(List.replicate m its).flatten.toArray:=λm=>by
      have:=foldl_rep its m []
      rw[List.nil_append]at this;exact this
    rw[f0];cases its with
    | nil=>simp
    | cons a r'=>rw[if_neg (by simp)]
  refine wpAny_binaryOp_repeat_ref (T := "list") (U := "int") (by decide) ⟨_,e,rfl⟩ (λs'=>typeIs_int s' k t) noFill_list_mul F.fills_int_mul F.slot_int_rmul repeat_list F.slot_int_index.lookup
    (call_meets F.slot_int_rmul (typeIs_int s k t) F.entry_int_rmul (F.args_int_rmul_2 _ _) (int___rmul___int_list k t l its.toArray n)
      ⟨e,rfl,⟨_,e,rfl⟩,call_meets F.slot_list_mul ⟨_,e,rfl⟩ F.entry_list_mul (F.args_list_mul_2 _ _) (AutoListH.list___mul___list_int_3 l its.toArray n k t JC JB Bc) ⟨e,?_⟩⟩)
  rw[JD];exact⟨.ref _,_,I.Dv (t':=s.toks) (r.rep k.toNat) (by rw[len_rep,Nat.mul_comm];exact hz),rfl,q _ I.fresh⟩
end
section
variable{prog:Program}{w:World}{A:Around}{E:Value→Shared→Prop}{s:Shared}
end
section
variable{X:Cx}
end
end L2
namespace Att
open PySem PySem.W PySem.Calls PyProof.Rows
theorem oi{P:Params}{h:Heap}:∀(ns:List Int) (vs:List Value),WellAll P h vs (ns.map WData.int)→IntsAre vs ns:=by
  intro ns;induction ns with
  | nil =>
    intro vs w;rw[ML]at w;cases w;exact .nil
  | cons n ns ih =>
    intro vs w;rw[L1]at w;cases w with
    | cons a b =>
      cases a;exact .cons _ _ (ih _ b)
theorem xW{l:OpenLaw}{n:Nat}(hn:l.most=some n){P:Params}{h:Heap}{args:List WData}{vals:List Value}
    (Dw:l.row.toRowW.claim.pre args=true) (hwl:WellAll P h vals args) :
    ∃ a vs ns,vals=[Value.ref a]∧args=[WData.list (ns.map WData.int)]∧h.get? a=some {cls:=.type "list",data:=.seq vs.toArray}∧IntsAre vs ns∧ns.length≤n:=by
  have hsh:WShape.hasAll [] args [.list .int]=true:=(pre_splitW Dw).1;have hc:l.pre.holds [] {args:=args}=true:=(pre_splitW Dw).2;obtain⟨d,r,rfl,h1,h2⟩:=hasAllW_cons hsh;obtain rfl:=hasAllW_nil h2;obtain⟨xs,rfl,h3⟩:=hasW_list h1;obtain⟨ns,rfl⟩:=items_int h3;have hlen:ns.length≤n:=by
    unfold OpenLaw.pre at hc;have h4:(WTm.not (.lt (.lit (.int (n:Int))) (.len (.arg 0)))).holds [] {args:=[.list (ns.map .int)]}=true:=by
      have h4:=(holds_andW hc).1;rw[hn]at h4;exact h4
    have h5:=condW_of h4 (w_not (w_lt w_lit (w_len_list (w_arg rfl))));rw[Lp]at h5;refine Nat.le_of_not_lt λq=>?_;have q':(n:Int)<((ns.length:Nat):Int):=by omega
    first
      | (rw[decide_eq_true q']at h5;exact absurd h5 (by decide))
      | (simp at h5;omega)
  cases hwl with
  | cons w1 w2 =>
    cases w2;cases w1 with
    | list ho fN=>exact⟨_,_,ns,rfl,rfl,ho,oi ns _ fN,hlen⟩
theorem xX(l:OpenLaw)(args:List WData):l.row.toRowW.claim.post args (.bool true) args=true :=
  postW_of (r:=l.row.toRowW) (X:=(true == true))
    (show WShape.has [] (.bool true) .bool=true by first|rfl|decide|simp[WShape.has,WShape.arms,WShape.armsAll])
    (show(WTm.eq .res (.lit (.bool true))).value [] {args:=args,res:=some (.bool true),after:=args}=some (.bool (true == true)) from w_eq_bool (w_res rfl) w_lit) rfl
theorem tZ{l:OpenLaw}{n:Nat}{q:Program}{loose:List Str}{XP:(Str→Option Value)→Heap→Prop}{YP:World→Heap→Prop}{d:DefRec}
    (hn:l.most=some n) (hdf:d.params.defaults=[])
    (call:∀(w:World) (s₀ s₁:Shared) (mg mb:Str→Option Value) (fa:Addr) (o:Obj) (pm cd doc:Value) (a:Addr) (vs:List Value) (ns:List Int),
      Ground q loose [] XP w s₀ mg mb s₁.heap→YP w s₁.heap →
      s₁.heap.get? fa=some o→o.data=.func (docDef d.name d.params d.body d.scope pm cd doc)→s₁.heap.CodeRec cd d.name→mg d.name=some (.ref fa) →
      s₁.heap.get? a=some {cls:=.type "list",data:=.seq vs.toArray}→IntsAre vs ns→ns.length≤n→s₁.gens=#[] →
      codeAny (model l.prog w) callerA (.call (.ref fa) ⟨[.ref a],[]⟩) (λr s'=>r=.ok (.ret (.bool true))∧OldK s₁.heap s'.heap∧s'.os=s₁.os∧AllBare s'.gens) s₁) :
    WalkO q loose XP YP l.row.toRowW d [] (λf vs=>PySem.call f vs):=by
  intro w s₀ s₁ mg mb G Y fa o pm cd doc dV kV ho hd hcd hD hmg hg args vals as Dw hlay hrd hwl hlo;obtain rfl:dV=.none:=Dflts.none hD hdf;obtain rfl:kV=.none:=Dflts.noKw hD;obtain⟨a,vs,ns,rfl,rfl,E8,hints,hlen⟩:=xW hn Dw hwl;refine enter_call (codeAny_mono (call w s₀ s₁ mg mb fa o pm cd doc a vs ns G Y ho (fd_plain hd) hcd hmg E8 hints hlen hg) λr s' hq=>?_);obtain⟨rfl,h2,h3,h4⟩:=hq;exact⟨.inl ⟨.bool true,.bool true,[],rfl,λ_=>rfl,.bool true,xX l _,λ_=>⟨List.Pairwise.nil,λ_ hm=>(nomatch hm)⟩⟩,h2,h3,h4⟩
section
variable{prog:Program}{w:World}{A:Around}{E:Value→Shared→Prop}{s:Shared}{K:Frag}
end
end Att
namespace L2
open PySem PySem.Spec PyProof.Rows
theorem d9:∀ {vs:List Value} {ns:List Int},IntsAre vs ns→Vals (ns.map V.int) vs
  | _,_,.nil=>.nil
  | _,_,.cons n t h=>.cons ⟨t,rfl⟩ (d9 h)
def E9(H:Hp):Prop:=∀ b,H b=none∨∃ o xs,H b=some (.frz o (.lst xs))
theorem zo{P:Program}{w:World}{K:W.Frag}{mg mb:Str→Option Value}{CX:CXT}{k:Nat}{fa a:Addr}{fd:FuncData}{x:Str}{sp:Sp}{s₁:Shared}{vs:List Value}{ns:List Int}
    (KX:K.In s₁.heap) (hns:s₁.heap.Ns mainGlobals mg) (hb:s₁.heap.Ns builtinsNs mb) (hbb:∀ x:Str,x ≠ "__name__" → mb x=bootBuiltins x) (JE:s₁.heap.NoLimit) (hg:s₁.gens=#[])
    (ha:s₁.heap.get? a=some {cls:=.type "list",data:=.seq vs.toArray}) (hi:IntsAre vs ns) (hl:ns.length≤sizeLine) (hr:dF k callerA)
    (F:∀ base:Heap,K.In base→base.Ns mainGlobals mg→gZ P w K mg base CX k fa fd [x] sp) (HC:∀(s:Shared) (u:Value),BindsTo s fd ⟨[u],[]⟩ [(x,u)])
    (hsp:∀ H:Hp,E9 H→SqL K H a (ns.map V.int)→sp [.ref a] H (λv _=>v=.bl true) λ_ _ _=>False)
    (hCX:∀ H e s',CX [] H s₁ (λ_ _ _=>False) e s'→False) :
    codeAny (model P w) callerA (.call (.ref fa) ⟨[.ref a],[]⟩) (λr s'=>r=.ok (.ret (.bool true))∧OldK s₁.heap s'.heap∧s'.os=s₁.os∧AllBare s'.gens) s₁:=by
  have rv:=d9 hi;have JF:=hi.length;have core:∀ H:Hp,E9 H→SqL K H a (ns.map V.int)→HOk P w H s₁.heap→(∀ b,H b≠none→b=a)→(H a≠none→K.lookup a=none) →
      codeAny (model P w) callerA (.call (.ref fa) ⟨[.ref a],[]⟩) (λr s'=>r=.ok (.ret (.bool true))∧OldK s₁.heap s'.heap∧s'.os=s₁.os∧AllBare s'.gens) s₁:=by
    intro H hO hS hok hA hK;have wW:∀ {b:Addr} {o:Obj},s₁.heap.get? b=some o→H b=none→(va s₁.heap H).get? b=some o:=λe n=>zc e n;have noA:∀ {b:Addr} {o:Obj} {es:Array DictEntry} {ep:Nat},s₁.heap.get? b=some o→o.data=.dict es ep→H b=none:=λ{b o es ep} e d=>by
      cases q:H b with
      | none=>rfl
      | some u =>
        have e':b=a:=hA b (by rw[q];simp);subst e';rw[ha]at e;cases e;have d':Data.seq vs.toArray _=Data.dict es ep:=d;cases d'
    have nsK:∀ {b:Addr} {m:Str→Option Value},s₁.heap.Ns b m→(va s₁.heap H).Ns b m:=λ{b m} ⟨o,es,ep,e,d,r⟩=>⟨o,es,ep,wW e (noA e d),d,r⟩;have hKb:K.In (va s₁.heap H):=λb o e=>wW (KX b o e) (by
      cases q:H b with
      | none=>rfl
      | some u =>
        have e':b=a:=hA b (by rw[q];simp);subst e';rw[hK (by rw[q];simp)]at e;cases e)
    have hM:Mod K mg (va s₁.heap H):=⟨hKb,nsK hns,⟨mb,nsK hb,hbb⟩,let ⟨mc,h1,h2⟩:=JE;⟨mc,nsK h1,h2⟩⟩;have e0:vt P w K mg (va s₁.heap H) callerA [] s₁ H:=⟨rfl,hM,λb o e=>BO e,Nat.le_of_eq (xO _ _),trivial,λb hb=>absurd (show b∈([]:List Addr) from hb) (by simp),hok,.of_eq hg⟩;refine codeAny_mono ((F _ hKb (nsK hns)).run callerA [] s₁ H ⟨[.ref a],[]⟩ [.ref a] [.ref a] _ _ hr e0 (HC s₁ (.ref a)) (.cons rfl .nil) (hsp H hO hS)) λr s' h=>?_;cases r with
    | error e=>exact(hCX H e s' h).elim
    | ok fl =>
      cases fl with
      | next=>exact False.elim h
      | brk=>exact False.elim h
      | cont=>exact False.elim h
      | ret u =>
        obtain⟨v,H',os,bare,un,JG,r',q⟩:=h;have q':v=.bl true:=q;subst q';obtain rfl:u=Value.bool true:=r';refine⟨rfl,OldK.of_keep λb o e=>?_,os,bare⟩;cases q:H b with
        | none=>exact un.keep b o e q (by intro z;exact absurd (show b∈([]:List Addr) from z) (by simp)) (by simp)
        | some u =>
          rcases hO b with z|⟨ob,xs,z⟩
          · rw[q]at z;cases z
          · have z2:=un.nG b ob _ z
            obtain⟨e1,_⟩:=hok b _ z;obtain⟨e2,_⟩:=JG b _ z2;rw[e]at e1;cases e1;exact e2
  cases hk:K.lookup a with
  | some o =>
    have e:=KX a o hk;rw[ha]at e;cases e;refine core (λ_=>none) (λ_=>.inl rfl) (.inr ⟨_,vs.toArray,_,hk,rfl,rfl,rfl,by rw[Ly,JF];exact hl,by simpa using rv⟩) (λb u z=>by have z':(none:Option HO)=some u:=z;cases z') (λb z=>absurd rfl z) λz=>absurd rfl z
  | none =>
    refine core (λb=>if b=a then some (.frz {cls:=.type "list",data:=.seq vs.toArray} (.lst (ns.map V.int))) else none) (λb=>?_) (.inl (.inr ⟨{cls:=.type "list",data:=.seq vs.toArray},if_pos rfl⟩)) (λb u z=>?_) (λb z=>?_) λ_=>hk
    · by_cases hb:b=a
      · exact .inr ⟨_,_,if_pos hb⟩
      · exact .inl (if_neg hb)
    · by_cases hb:b=a
      · have z':=(if_pos hb).symm.trans z
        cases z';subst hb;exact⟨ha,by rw[Lp];exact hl,vs,_,rv,ha⟩
      · have z':=(if_neg hb).symm.trans z
        cases z'
    · by_cases hb:b=a
      · exact hb
      · exact absurd (if_neg hb) z
end L2
namespace L2
open PySem PySem.Spec PyProof.Rows
theorem B7{l:PySem.W.OpenLaw}{n k:Nat}{q:Program}{loose:List Str}{XP:(Str→Option Value)→Heap→Prop}{YP:World→Heap→Prop}{d:DefRec}{K:Params→W.Frag}{CX:World→CXT}{sp:World→Sp}{x:Str}
    (hn:l.most=some n) (hn2:n≤sizeLine) (hdf:d.params.defaults=[]) (hr:dF k callerA)
    (hY:∀(w:World) (h:Heap),YP w h→(K w.params).In h)
    (F:∀(w:World) (mg:Str→Option Value) (fa:Addr) (h:Heap),(K w.params).In h→h.Ns mainGlobals mg→mg d.name=some (.ref fa) →
      ∃ fd:FuncData,(∀(s:Shared) (u:Value),BindsTo s fd ⟨[u],[]⟩ [(x,u)]) ∧
        ∀ base:Heap,(K w.params).In base→base.Ns mainGlobals mg→gZ l.prog w (K w.params) mg base (CX w) k fa fd [x] (sp w))
    (hsp:∀(w:World) (H:Hp) (a:Addr) (ns:List Int),ns.length≤n→E9 H→SqL (K w.params) H a (ns.map V.int)→sp w [.ref a] H (λv _=>v=.bl true) λ_ _ _=>False)
    (hCX:∀(w:World) (H:Hp) (s:Shared) (e:Value) (s':Shared),CX w [] H s (λ_ _ _=>False) e s'→False) :
    PySem.W.WalkO q loose XP YP l.row.toRowW d [] (λf vs=>PySem.call f vs):=by
  refine Att.tZ hn hdf λw s₀ s₁ mg mb fa o pm cd doc a vs ns G Y ho hd hcd hmg E8 hints hlen hg=>?_;have KX:=hY w _ Y;obtain⟨fd,hb,hF⟩:=F w mg fa _ KX G.T.g hmg;exact zo KX G.T.g G.T.b G.T.builtins G.T.nolimit hg E8 hints (LL hlen hn2) hr hF hb (λH hO hS=>hsp w H a ns hlen hO hS) λH e s'=>hCX w H s₁ e s'
end L2
namespace L2
open PySem PySem.Spec PyProof.Rows
def inClass(s:Stmt)(j:Nat):Stmt:=match s with
  | .ClassDef _ _ _ body _ _ _ _ _ _ _=>body.getD j (.Pass ⟨0,0,0,0⟩)
  | _=>.Pass ⟨0,0,0,0⟩
def di(s:Stmt):Arguments:=match s with
  | .FunctionDef _ a _ _ _ _ _ _ _ _=>a
  | _=>{posonlyargs:=[],args:=[],vararg:=none,kwonlyargs:=[],kw_defaults:=[],kwarg:=none,defaults:=[]}
def aN(s:Stmt):List Stmt:=match s with
  | .FunctionDef _ _ b _ _ _ _ _ _ _=>b
  | _=>[]
def ao(s:Stmt):Scope:=match s with
  | .FunctionDef _ _ _ _ _ _ sc _ _ _=>sc
  | _=>{kind:=.function,names:=[],isGenerator:=false,isCoroutine:=false}
structure Fun(K:W.Frag)(x qual:Str)(st:Stmt)(f:Addr)(fd:FuncData):Prop where
  ex:∃(oc:Value) (od:Option Addr) (kV doc pm:Value) (an:Option Addr) (cdv ct:Value) (osl:Array (Option Value)),
    fd=PySem.W.fnOf x qual (di st) (aN st) (ao st) .none kV doc pm an cdv ct∧K.lookup f=some ⟨oc,od,.func fd,osl⟩∧PySem.W.codeIn K cdv qual=true
  kp:PySem.W.keepIn K (.ref f)=true
section
variable{P:Program}{w:World}{K:W.Frag}{mg:Str→Option Value}{base:Heap}
theorem Fun.binds{x qual:Str}{st:Stmt}{f:Addr}{fd:FuncData}{ps:List Str}(F:Fun K x qual st f fd)
    (h:∀(kV doc pm:Value) (an:Option Addr) (cdv ct:Value) (us:List Value),us.length=ps.length→bindArgs (PySem.W.fnOf x qual (di st) (aN st) (ao st) .none kV doc pm an cdv ct) ⟨us,[]⟩=pure (ps.zip us)):Binds K fd ps []:=by
  obtain⟨oc,od,kV,doc,pm,an,cdv,ct,osl,rfl,lk,hcd⟩:=F.ex;exact .all (h kV doc pm an cdv ct)
end
theorem bX{A:Around}{k:Nat}(hr:dF k A):A.units+1<cLine:=L6 (Nat.add_le_add_left (by decide:1≤64) _) hr.units
section
variable{X:Cx}
theorem pv(i:Nat){x:Str}{pos:Pos}(hN:X.N[i]?=some x:=by rfl)(hv:Vis X.env.scope x:=by first|exact Or.inl rfl|exact Or.inr (Or.inl rfl)|exact Or.inr (Or.inr rfl))(hd:(x == ("__debug__" : Str))=false:=by decide)
    (hcd:(x == ("__classdict__" : Str))=false:=by decide):PE X (.Name x pos) (BP i):=D2 hN hv hd hcd
end
theorem b4{A B:Prop}(h:B):if false=true then A else B:=by
  rw[if_neg Lv];exact h
theorem cZ{A B:Prop}(h:A):if true=true then A else B:=by
  rw[if_pos rfl];exact h
theorem aH{c A B:Prop}[Decidable c](h1:c→A)(h2:¬c→B):if c then A else B:=by
  by_cases h:c
  · rw[if_pos h]
    exact h1 h
  · rw[if_neg h]
    exact h2 h
def aq(H H':Hp):Prop:=∀ b o,H b=some o→H' b=some o
theorem aq.trans{H H1 H2:Hp}(a:aq H H1)(b:aq H1 H2):aq H H2:=λc o h=>b c o (a c o h)
theorem aq.free{H H':Hp}(e:aq H H'){l:Addr}(h:H' l=Option.none):H l=Option.none:=by
  cases q:H l with
  | none=>rfl
  | some o =>
    rw[e l o q]at h;cases h
theorem aq.seq{K:W.Frag}{H H':Hp}{a:Addr}{xs:List V}(e:aq H H')(h:SqL K H a xs):SqL K H' a xs:=by
  rcases h with(h|⟨o,h⟩)|h
  · exact .inl (.inl (e _ _ h))
  · exact .inl (.inr ⟨o,e _ _ h⟩)
  · exact .inr h
end L2
end
section
namespace K21
open PySem PySem.W L2 PySem.PyData
def top(i:Nat):Stmt:=PySem.Challenge.pw_stillheap_k21_no_views_and_heaps_viewed.main.body.getD i (.Pass ⟨0,0,0,0⟩)
abbrev dY:Stmt:=inClass (top 2) 0
abbrev dN:Stmt:=inClass (top 3) 0
abbrev dO:Stmt:=inClass (top 4) 0
abbrev dw:Stmt:=inClass (top 5) 0
abbrev dz:Stmt:=inClass (top 6) 0
abbrev eu:Stmt:=inClass (top 7) 0
abbrev cn:Stmt:=inClass (top 8) 0
abbrev dP:Stmt:=inClass (top 9) 0
abbrev dQ:Stmt:=inClass (top 10) 0
abbrev dR:Stmt:=inClass (top 12) 0
abbrev i3:Stmt:=top 23
abbrev jO:Stmt:=top 24
abbrev rE:Stmt:=top 25
abbrev pU:Stmt:=top 26
abbrev gG:Stmt:=top 27
abbrev i4:Stmt:=top 28
abbrev i5:Stmt:=top 29
abbrev ia:Stmt:=top 30
abbrev gH:Stmt:=top 31
abbrev jG:Stmt:=top 33
abbrev rF:Stmt:=top 34
abbrev uF:Stmt:=top 35
abbrev uG:Stmt:=top 36
abbrev pV:Stmt:=top 37
abbrev i6:Stmt:=top 38
abbrev i7:Stmt:=top 39
abbrev ib:Stmt:=top 40
abbrev eS:Stmt:=top 41
abbrev gx:Stmt:=top 43
abbrev nJ:Stmt:=top 44
abbrev i8:Stmt:=top 45
abbrev nA:Stmt:=top 46
abbrev jm:Stmt:=top 47
abbrev fz:Stmt:=top 48
abbrev rG:Stmt:=top 49
abbrev vw:Stmt:=top 50
abbrev gI:Stmt:=inClass (top 52) 0
abbrev ic:Stmt:=inClass (top 52) 1
abbrev fQ:Stmt:=inClass (top 52) 2
abbrev nK:Stmt:=inClass (top 52) 3
abbrev lE:Stmt:=inClass (top 52) 4
abbrev i9:Stmt:=inClass (top 52) 5
abbrev lF:Stmt:=inClass (top 52) 6
abbrev qK:Stmt:=inClass (top 52) 7
abbrev fR:Stmt:=inClass (top 52) 9
abbrev dZ:Stmt:=inClass (top 55) 0
abbrev gJ:Stmt:=inClass (top 55) 1
abbrev eX:Stmt:=inClass (top 55) 4
abbrev d3:Stmt:=inClass (top 57) 0
abbrev gK:Stmt:=inClass (top 57) 1
abbrev fT:Stmt:=inClass (top 57) 2
abbrev iD:Stmt:=inClass (top 57) 3
abbrev cR:Stmt:=inClass (top 57) 4
abbrev ie:Stmt:=inClass (top 59) 0
abbrev gL:Stmt:=inClass (top 59) 1
abbrev nM:Stmt:=inClass (top 59) 2
abbrev lG:Stmt:=inClass (top 59) 3
abbrev nN:Stmt:=inClass (top 59) 4
abbrev nO:Stmt:=inClass (top 59) 5
abbrev jP:Stmt:=inClass (top 59) 6
abbrev nP:Stmt:=inClass (top 59) 7
abbrev fU:Stmt:=inClass (top 59) 8
abbrev nQ:Stmt:=inClass (top 59) 9
abbrev cT:Stmt:=inClass (top 59) 10
abbrev jQ:Stmt:=inClass (top 59) 11
abbrev eD:Stmt:=inClass (top 59) 12
abbrev cU:Stmt:=inClass (top 59) 15
abbrev cF:Stmt:=inClass (top 59) 16
abbrev jR:Stmt:=top 60
abbrev d6:Stmt:=inClass (top 62) 0
abbrev gM:Stmt:=inClass (top 62) 1
abbrev gN:Stmt:=inClass (top 62) 2
abbrev mE:Stmt:=inClass (top 62) 4
abbrev kI:Stmt:=inClass (top 62) 5
abbrev j4:Stmt:=inClass (top 62) 6
abbrev gO:Stmt:=inClass (top 62) 8
abbrev fV:Stmt:=inClass (top 62) 9
abbrev fW:Stmt:=inClass (top 62) 10
abbrev ig:Stmt:=inClass (top 62) 11
abbrev d7:Stmt:=inClass (top 62) 12
abbrev fX:Stmt:=inClass (top 62) 13
abbrev kJ:Stmt:=inClass (top 62) 14
abbrev eY:Stmt:=inClass (top 62) 15
abbrev dG:Stmt:=inClass (top 62) 16
abbrev mF:Stmt:=inClass (top 62) 21
abbrev fY:Stmt:=inClass (top 62) 22
abbrev jn:Stmt:=top 64
abbrev gy:Stmt:=top 66
abbrev gz:Stmt:=top 67
abbrev jo:Stmt:=top 68
abbrev jq:Stmt:=top 69
abbrev lH:Stmt:=top 70
abbrev nR:Stmt:=top 71
abbrev ku:Stmt:=top 72
abbrev pW:Stmt:=top 73
abbrev fZ:Stmt:=top 74
abbrev ja:Stmt:=top 75
abbrev nU:Stmt:=top 76
abbrev lI:Stmt:=top 77
abbrev nV:Stmt:=top 78
abbrev il:Stmt:=top 79
abbrev d8:Stmt:=top 80
abbrev b5:Stmt:=top 81
noncomputable section
abbrev OO:=Params→Obj
abbrev FN:=Str×Str×Stmt
def oF(f:FN)(m:Value)(r:Addr):OO:=λ_=>⟨.type "function",none,.func (fnOf f.1 f.2.1 (di f.2.2) (aN f.2.2) (ao f.2.2) .none .none .none m none (.ref r) .none),#[]⟩
def oG(f:FN):OO:=λ_=>⟨.none,none,.func ⟨f.1,f.2.1,di f.2.2,.stmts (aN f.2.2),ao f.2.2,0,[],.none,.none,.none,.none,none,.none,.none,0⟩,#[]⟩
def oT(l:List Value):OO:=λ_=>⟨.type "tuple",none,.seq (List.toArray l) 0,#[]⟩
def oS:List Str→Tok→List Value
 | [],_=>[]
 | x::r,k=>.str x k::oS r (k+1)
def oD(l:List (Str×Tok×Value))(n:Nat):OO:=λP=>⟨.type "dict",none,.dict (List.toArray (l.map λe=>⟨keyHash P e.1,.str e.1 e.2.1,e.2.2⟩)) n,#[]⟩
def zB:List String→Tok→List (Str×Tok×Value)
 | [],_=>[]
 | x::r,k=>(Str.ofString x,k,.builtin x)::zB r (k+1)
def zT:List String→Tok→List (Str×Tok×Value)
 | [],_=>[]
 | x::r,k=>(Str.ofString x,k,.type x)::zT r (k+1)
def ap(a b:List (Str×Tok×Value)):List (Str×Tok×Value):=a++b
def oC(f:FN)(t:Tok)(l a b c d:Int)(r:Addr)(e:Int)(g h i j:Addr)(z:Int)(u:Tok):OO:=λ_=>⟨.type "code",none,.fields (List.toArray [.str f.1 t,.str f.2.1 (t+1),.str "/claim/cut.py" (t+2),.int l 0,.int a 0,.int b 0,.int c 0,.int d 0,.ref r,.bool true,.int e 0,.ref g,.none,.ref h,.ref i,.ref j,.int z 0,.int l 0,.str "/claim/cut.py" u]),#[]⟩
def oN(f:FN)(t:Tok)(l a b c d:Int)(r:Addr)(e:Int)(g j:Addr)(z:Int)(u:Tok):OO:=λ_=>⟨.type "code",none,.fields (List.toArray [.str f.1 t,.str f.2.1 (t+1),.str "/claim/cut.py" (t+2),.int l 0,.int a 0,.int b 0,.int c 0,.int d 0,.ref r,.bool true,.int e 0,.ref g,.none,.none,.none,.ref j,.int z 0,.int l 0,.str "/claim/cut.py" u]),#[]⟩
def oM(n:Str)(t:Tok)(l:Int)(r:Addr)(e:Int)(f:Addr)(z:Int)(u:Tok):OO:=λ_=>⟨.type "code",none,.fields (List.toArray [.str n t,.str n (t+1),.str "/claim/cut.py" (t+2),.int l 0,.int 0 0,.int 0 0,.int 0 0,.int 0 0,.ref r,.bool false,.int e 0,.ref f,.none,.none,.none,.none,.int z 0,.int l 0,.str "/claim/cut.py" u]),#[]⟩
def oI:List Nat→List Value
 | a::b::c::r=>.int a 0::.int b 0::.ref c::oI r
 | _=>[]
def oX(l:List Nat):OO:=λ_=>⟨.none,none,.fields (List.toArray (oI l)),#[]⟩
def oR(a b c:Addr)(m:Value):OO:=λ_=>⟨.type "frame",none,.plain,List.toArray [some (.ref a),some (.ref b),some (.ref c),none,some m,none,some (.ref 0)]⟩
def oP(a b:Value):OO:=λ_=>⟨.type "builtin_function_or_method",none,.fields (List.toArray [a,b]),#[]⟩
def oY(n:Str)(b m:List Value)(d:Addr)(u:List Value)(k:Option Value)(t1 t2:Tok)(w:Value):OO:=λ_=>⟨.type "type",none,.cls ⟨n,b,m,d,n,true,[],u,false,none,false⟩,List.toArray [k,none,some (.str n t1),some (.str n t2),some w,some (.bool true)]⟩
def oU(a:Addr):OO:=λ_=>⟨.type "super",none,.fields (List.toArray [.ref a,.ref a,.ref a]),#[]⟩
def spl:List OO→List OO×List OO
 | []=>([],[])
 | [a]=>([a],[])
 | a::b::r=>(a::(spl r).1,b::(spl r).2)
def mkT(P:Params):Nat→List OO→BT
 | 0,_=>.nil
 | _+1,[]=>.nil
 | n+1,x::r=>.node (x P) (mkT P n (spl r).1) (mkT P n (spl r).2)
def stT(l:List OO)(c:List (Nat×OO)):List OO:=c.foldl (λl p=>l.set p.1 p.2) l
def fn0:FN:=("_wall","_wall",top 0)
def fn1:FN:=("__init__","HeapError.__init__",dY)
def fn2:FN:=("called","HeapError.called",inClass (top 2) 1)
def fn3:FN:=("called","BadHand.called",dN)
def fn4:FN:=("called","BadName.called",dO)
def fn5:FN:=("called","BadField.called",dw)
def fn6:FN:=("called","BadCount.called",dz)
def fn7:FN:=("called","NoRoom.called",eu)
def fn8:FN:=("called","TooManyWords.called",cn)
def fn9:FN:=("called","RoundOn.called",dP)
def Fb:FN:=("called","NoRound.called",dQ)
def Fc:FN:=("__init__","BadText.__init__",inClass (top 11) 0)
def Fd:FN:=("called","BadText.called",inClass (top 11) 1)
def Fe:FN:=("called","BadView.called",dR)
def Ff:FN:=("called","BadAddress.called",inClass (top 13) 0)
def Fg:FN:=("called","BadPaper.called",inClass (top 14) 0)
def Fh:FN:=("__init__","BadLog.__init__",inClass (top 15) 0)
def Fi:FN:=("called","BadLog.called",inClass (top 15) 1)
def Fj:FN:=("number_value","number_value",i3)
def Fl:FN:=("thing_value","thing_value",jO)
def Fm:FN:=("kind_of","kind_of",rE)
def Fn:FN:=("words_of","words_of",pU)
def Fo:FN:=("look_at_number","look_at_number",gG)
def Fp:FN:=("look_at_hand","look_at_hand",i4)
def Fq:FN:=("look_at_name","look_at_name",i5)
def Ft:FN:=("look_at_field","look_at_field",ia)
def Fu:FN:=("look_at_limits","look_at_limits",gH)
def Fv:FN:=("view_of","view_of",jG)
def Fw:FN:=("reached","reached",rF)
def Fx:FN:=("way_to","way_to",uF)
def Fy:FN:=("led_to","led_to",uG)
def Fz:FN:=("thing_in","thing_in",pV)
def FA:FN:=("look_at_view","look_at_view",i6)
def FC:FN:=("look_at_told","look_at_told",i7)
def FD:FN:=("look_at_thing","look_at_thing",ib)
def FE:FN:=("last_steps","last_steps",eS)
def FF:FN:=("reach_paper","reach_paper",gx)
def FG:FN:=("is_closed","is_closed",nJ)
def FH:FN:=("paper_judged","paper_judged",i8)
def FI:FN:=("only_by","only_by",nA)
def FJ:FN:=("closed_in","closed_in",jm)
def FK:FN:=("tells_within","tells_within",fz)
def FL:FN:=("is_step","is_step",rG)
def FO:FN:=("tells_at","tells_at",vw)
def FP:FN:=("__init__","Hands.__init__",gI)
def FQ:FN:=("word_in","Hands.word_in",ic)
def FR:FN:=("all_words","Hands.all_words",fQ)
def FT:FN:=("put","Hands.put",nK)
def FU:FN:=("copy","Hands.copy",lE)
def FV:FN:=("number","Hands.number",i9)
def FW:FN:=("kind","Hands.kind",lF)
def FX:FN:=("value","Hands.value",qK)
def FY:FN:=("same","Hands.same",inClass (top 52) 8)
def FZ:FN:=("thing_due","Hands.thing_due",fR)
def F5:FN:=("__init__","WordTable.__init__",dZ)
def F6:FN:=("bear","WordTable.bear",gJ)
def F7:FN:=("word_of","WordTable.word_of",inClass (top 55) 2)
def F8:FN:=("bearers","WordTable.bearers",inClass (top 55) 3)
def F9:FN:=("settle","WordTable.settle",eX)
def Ga:FN:=("take","WordTable.take",inClass (top 55) 5)
def Gb:FN:=("said","WordTable.said",inClass (top 55) 6)
def Ge:FN:=("__init__","NameTable.__init__",d3)
def Gf:FN:=("name","NameTable.name",gK)
def Gg:FN:=("named","NameTable.named",fT)
def Gh:FN:=("all_named","NameTable.all_named",iD)
def Gi:FN:=("settle","NameTable.settle",cR)
def Gj:FN:=("__init__","Heap.__init__",ie)
def Gk:FN:=("add_thing","Heap.add_thing",gL)
def Gm:FN:=("load","Heap.load",nM)
def Gn:FN:=("store","Heap.store",lG)
def Gp:FN:=("copy","Heap.copy",nN)
def Gq:FN:=("drop","Heap.drop",nO)
def Gr:FN:=("number","Heap.number",jP)
def Gu:FN:=("name","Heap.name",nP)
def Gv:FN:=("read_thing","Heap.read_thing",fU)
def Gw:FN:=("word","Heap.word",nQ)
def Gx:FN:=("small_round","Heap.small_round",cT)
def Gy:FN:=("let_go","Heap.let_go",jQ)
def Gz:FN:=("look_at_held","Heap.look_at_held",eD)
def GA:FN:=("field_value","Heap.field_value",inClass (top 59) 13)
def GB:FN:=("counts_held","Heap.counts_held",inClass (top 59) 14)
def GF:FN:=("words_among","Heap.words_among",cU)
def GG:FN:=("led_among","Heap.led_among",cF)
def GH:FN:=("thing_among","thing_among",jR)
def GI:FN:=("__init__","IdealHeap.__init__",d6)
def GJ:FN:=("make","IdealHeap.make",gM)
def GK:FN:=("read","IdealHeap.read",gN)
def GL:FN:=("take","IdealHeap.take",inClass (top 62) 3)
def GN:FN:=("kind","IdealHeap.kind",mE)
def GO:FN:=("value","IdealHeap.value",kI)
def GP:FN:=("fields","IdealHeap.fields",j4)
def GQ:FN:=("same","IdealHeap.same",inClass (top 62) 7)
def GR:FN:=("held","IdealHeap.held",gO)
def GU:FN:=("small","IdealHeap.small",fV)
def GV:FN:=("begin","IdealHeap.begin",fW)
def GW:FN:=("end","IdealHeap.end",ig)
def GX:FN:=("round_on","IdealHeap.round_on",d7)
def GY:FN:=("hands","IdealHeap.hands",fX)
def GZ:FN:=("names","IdealHeap.names",kJ)
def G0:FN:=("things","IdealHeap.things",eY)
def Bd:FN:=("fields_of","IdealHeap.fields_of",dG)
def Be:FN:=("is_old","IdealHeap.is_old",inClass (top 62) 17)
def Bg:FN:=("word_of","IdealHeap.word_of",inClass (top 62) 18)
def Bh:FN:=("doomed","IdealHeap.doomed",inClass (top 62) 19)
def Bi:FN:=("said","IdealHeap.said",inClass (top 62) 20)
def Bj:FN:=("made","IdealHeap.made",mF)
def Bk:FN:=("spare","IdealHeap.spare",fY)
def Bl:FN:=("_law_cell","_law_cell",jn)
def Bm:FN:=("_law_whole","_law_whole",top 65)
def Bn:FN:=("_law_digits","_law_digits",gy)
def Bo:FN:=("_law_stream","_law_stream",gz)
def Bp:FN:=("_law_view","_law_view",jo)
def Bq:FN:=("_law_copy","_law_copy",jq)
def Br:FN:=("_law_asked","_law_asked",lH)
def Bs:FN:=("_law_word","_law_word",nR)
def Bt:FN:=("_law_bad","_law_bad",ku)
def Bu:FN:=("_law_put","_law_put",pW)
def Bv:FN:=("_law_views_good","_law_views_good",fZ)
def Bw:FN:=("_law_numbers","_law_numbers",ja)
def Bx:FN:=("_law_deed","_law_deed",nU)
def By:FN:=("_law_plain","_law_plain",lI)
def Bz:FN:=("_law_done","_law_done",nV)
def BA:FN:=("_law_thing_in","_law_thing_in",il)
def BB:FN:=("_law_viewed","_law_viewed",d8)
def BC:FN:=("law","law",b5)
def xs0:List Nat:=[1,0,20,5,0,27,12,0,54,16,0,73,20,0,92,24,0,111,28,0,130,32,0,149,36,0,168,40,0,187,44,0,206,52,0,232,56,0,251,60,0,270,64,0,289,79,0,315,82,0,322,86,0,329,88,0,336,92,0,343,95,0,350,98,0,357,101,0,364,104,0,371,110,0,376,115,0,383,118,0,390,130,0,397,135,0,404,137,0,411,144,0,418,148,0,425,151,0,432,166,0,437,170,0,444,173,0,451,181,0,456,188,0,461,198,0,466,200,0,473,208,0,480,211,0,487,253,0,571,281,0,634,300,0,681,390,0,808,395,0,815,494,0,988,498,0,995,500,0,1002,512,0,1007,519,0,1012,533,0,1019,538,0,1026,552,0,1033,563,0,1038,568,0,1045,579,0,1052,593,0,1059,605,0,1066,618,0,1073,643,0,1080,650,0,1087,654,0,1092,659,0,1097]
def v0:Value:=.str "stillheap.errors" 194
def v1:Value:=.type "object"
def v2:Value:=.str "stillheap.ideal" 1202
def v3:Value:=.builtin "object.__init_subclass__"
def v4:Value:=.str "stillheap.heaps" 1017
def v5:Value:=.type "ValueError"
def v6:Value:=.str "law_stillheap_k21_no_views_and_heaps_viewed" 1407
def v7:Value:=.type "Exception"
def v8:Value:=.type "BaseException"
def v9:Value:=.builtin "ValueError.__new__"
def v10:Value:=.str "stillheap.hands" 771
def v11:Value:=.type "getset_descriptor"
def v12:Value:=.str "stillheap.values" 548
def v13:Value:=.str "stillheap.reach" 627
def v14:Value:=.str "stillheap.cuts" 707
def v15:Value:=.str "stillheap.lastwords" 877
def v16:Value:=.builtin "object.__new__"
def v17:Value:=.str "stillheap.weaknames" 957
def v18:Value:=.builtin "ExceptionGroup.__weakref__"
def v19:Value:=.builtin "function.__dict__"
def v20:Value:=.builtin "function.__dict__#set"
def v21:Value:=.str "__main__" 164
def o3:OO:=oD [("__name__",165,.str "__main__" 164),("__doc__",166,.none),("__package__",167,.none),("__loader__",168,.builtin "__main__.__loader__#opaque"),("__spec__",169,.none),("__annotations__",170,.ref 6),("__builtins__",171,.ref 4),("__file__",173,.str "/claim/cut.py" 172),("__cached__",174,.none)] 9
def o7:OO:=λ_=>⟨(.type "tuple"),none,(.seq #[] 0),#[]⟩
def o8:OO:=λ_=>⟨.none,none,(.fields #[]),#[]⟩
def o13:OO:=oD [("__name__",165,.str "stillheap.errors" 194),("__doc__",166,.none),("__package__",167,.none),("__loader__",168,.builtin "__main__.__loader__#opaque"),("__spec__",169,.none),("__annotations__",170,.ref 6),("__builtins__",171,.ref 4),("__file__",173,.str "/claim/cut.py" 172),("__cached__",174,.none),("_wall",193,.ref 21),("HeapError",228,.ref 45),("BadHand",251,.ref 65),("BadName",274,.ref 84),("BadField",297,.ref 103),("BadCount",320,.ref 122),("NoRoom",343,.ref 141),("TooManyWords",366,.ref 160)] 17
def o14:OO:=oX (xs0.take 24)
def o20:OO:=oP (.builtin "type.__prepare__") (.type "type")
def o34:OO:=oY "HeapError" [v5] [(.ref 45),v5,v7,v8,v1] 44 [(.ref 65),(.ref 84),(.ref 103),(.ref 122),(.ref 141),(.ref 160)] (.some (.ref 22)) 196 204 v9
def o38:OO:=oT [(.ref 45)]
def JH:OO:=oD [("__name__",165,.str "stillheap.values" 548),("__doc__",166,.none),("__package__",167,.none),("__loader__",168,.builtin "__main__.__loader__#opaque"),("__spec__",169,.none),("__annotations__",170,.ref 6),("__builtins__",171,.ref 4),("__file__",173,.str "/claim/cut.py" 172),("__cached__",174,.none),("_wall",193,.ref 21),("HeapError",228,.ref 45),("BadHand",251,.ref 65),("BadName",274,.ref 84),("BadField",297,.ref 103),("BadCount",320,.ref 122),("NoRoom",343,.ref 141),("TooManyWords",366,.ref 160),("RoundOn",389,.ref 179),("NoRound",412,.ref 198),("BadText",445,.ref 224),("BadView",468,.ref 243),("BadAddress",491,.ref 262),("BadPaper",514,.ref 281),("BadLog",547,.ref 307),("HANDS",551,.int 8 550),("WEAK_NAMES",553,.int 8 552)] 26
def JI:OO:=oX (xs0.take 45)
def JJ:OO:=oD (ap [("__name__",165,.str "stillheap.weaknames" 957),("__doc__",166,.none),("__package__",167,.none),("__loader__",168,.builtin "__main__.__loader__#opaque"),("__spec__",169,.none),("__annotations__",170,.ref 6),("__builtins__",171,.ref 4),("__file__",173,.str "/claim/cut.py" 172),("__cached__",174,.none),("_wall",193,.ref 21),("HeapError",228,.ref 45),("BadHand",251,.ref 65),("BadName",274,.ref 84),("BadField",297,.ref 103),("BadCount",320,.ref 122),("NoRoom",343,.ref 141),("TooManyWords",366,.ref 160),("RoundOn",389,.ref 179),("NoRound",412,.ref 198),("BadText",445,.ref 224),("BadView",468,.ref 243),("BadAddress",491,.ref 262),("BadPaper",514,.ref 281),("BadLog",547,.ref 307),("HANDS",551,.int 8 550),("WEAK_NAMES",553,.int 8 552),("MOST_FIELDS",555,.int 6 554),("LEAST_ROOM",557,.int 7 556)] (ap [("MOST_YOUNG",559,.int 64 558),("MOST_LIMIT",561,.int 400 560),("number_value",568,.ref 316),("thing_value",575,.ref 323),("kind_of",582,.ref 330),("words_of",589,.ref 337),("look_at_number",596,.ref 344),("look_at_hand",603,.ref 351),("look_at_name",610,.ref 358),("look_at_field",618,.ref 365),("look_at_limits",626,.ref 372),("view_of",634,.ref 377),("reached",641,.ref 384),("way_to",652,.ref 391),("led_to",661,.ref 398),("thing_in",668,.ref 405),("look_at_view",677,.ref 412),("look_at_told",686,.ref 419),("look_at_thing",694,.ref 426),("last_steps",706,.ref 433),("reach_paper",714,.ref 438),("is_closed",722,.ref 445),("paper_judged",732,.ref 452),("only_by",738,.ref 457),("closed_in",744,.ref 462),("tells_within",750,.ref 467),("is_step",761,.ref 474),("tells_at",770,.ref 481)] [("Hands",876,.ref 561),("MOST_BEARERS",880,.int 12 879),("WordTable",956,.ref 624)])) 59
def JK:OO:=oX (xs0.take 129)
def JL:OO:=oD (ap [("__name__",165,.str "stillheap.ideal" 1202),("__doc__",166,.none),("__package__",167,.none),("__loader__",168,.builtin "__main__.__loader__#opaque"),("__spec__",169,.none),("__annotations__",170,.ref 6),("__builtins__",171,.ref 4),("__file__",173,.str "/claim/cut.py" 172),("__cached__",174,.none),("_wall",193,.ref 21),("HeapError",228,.ref 45),("BadHand",251,.ref 65),("BadName",274,.ref 84),("BadField",297,.ref 103),("BadCount",320,.ref 122),("NoRoom",343,.ref 141),("TooManyWords",366,.ref 160),("RoundOn",389,.ref 179),("NoRound",412,.ref 198),("BadText",445,.ref 224),("BadView",468,.ref 243),("BadAddress",491,.ref 262),("BadPaper",514,.ref 281),("BadLog",547,.ref 307),("HANDS",551,.int 8 550),("WEAK_NAMES",553,.int 8 552),("MOST_FIELDS",555,.int 6 554),("LEAST_ROOM",557,.int 7 556)] (ap [("MOST_YOUNG",559,.int 64 558),("MOST_LIMIT",561,.int 400 560),("number_value",568,.ref 316),("thing_value",575,.ref 323),("kind_of",582,.ref 330),("words_of",589,.ref 337),("look_at_number",596,.ref 344),("look_at_hand",603,.ref 351),("look_at_name",610,.ref 358),("look_at_field",618,.ref 365),("look_at_limits",626,.ref 372),("view_of",634,.ref 377),("reached",641,.ref 384),("way_to",652,.ref 391),("led_to",661,.ref 398),("thing_in",668,.ref 405),("look_at_view",677,.ref 412),("look_at_told",686,.ref 419),("look_at_thing",694,.ref 426),("last_steps",706,.ref 433),("reach_paper",714,.ref 438),("is_closed",722,.ref 445),("paper_judged",732,.ref 452),("only_by",738,.ref 457),("closed_in",744,.ref 462),("tells_within",750,.ref 467),("is_step",761,.ref 474),("tells_at",770,.ref 481)] [("Hands",876,.ref 561),("MOST_BEARERS",880,.int 12 879),("WordTable",956,.ref 624),("NameTable",1016,.ref 671),("Heap",1193,.ref 798),("thing_among",1201,.ref 809)])) 62
def JM:OO:=oX (xs0.take 138)
def JN:OO:=oY "Heap" [v1] [(.ref 798),v1] 797 [] none 1019 1027 v16
def hl0:List OO:=[oD (ap [("__name__",1,.str "builtins" 160),("__doc__",2,.builtin "builtins.__doc__:str#opaque"),("__package__",3,.builtin "builtins.__package__:str#opaque"),("__loader__",4,.builtin "builtins.__loader__:shared#opaque"),("__spec__",5,.builtin "builtins.__spec__#opaque")] (ap (zB ["__build_class__","__import__","abs","all","any","ascii","bin","breakpoint","callable","chr","compile","delattr","dir","divmod","eval","exec","format","getattr","globals","hasattr","hash","hex","id","input","isinstance","issubclass","iter","aiter","len","locals","max","min","next","anext","oct","ord","pow","print","repr","round","setattr","sorted","sum","vars"] 6) (ap [("None",50,.none),("Ellipsis",51,.ellipsis),("NotImplemented",52,.notImplemented),("False",53,.bool false),("True",54,.bool true)] (ap (zT ["bool","memoryview","bytearray","bytes","classmethod","complex","dict","enumerate","filter","float","frozenset","property","int","list","map","object","range","reversed","set","slice","staticmethod","str","super","tuple","type","zip"] 55) (ap [("__debug__",81,.bool true)] (ap (zT ["BaseException","BaseExceptionGroup","Exception","GeneratorExit","KeyboardInterrupt","SystemExit","ArithmeticError","AssertionError","AttributeError","BufferError","EOFError","ImportError","LookupError","MemoryError","NameError","OSError","ReferenceError","RuntimeError","StopAsyncIteration","StopIteration","SyntaxError","SystemError","TypeError","ValueError","Warning","FloatingPointError","OverflowError","ZeroDivisionError","BytesWarning","DeprecationWarning","EncodingWarning","FutureWarning","ImportWarning","PendingDeprecationWarning","ResourceWarning","RuntimeWarning","SyntaxWarning","UnicodeWarning","UserWarning","BlockingIOError","ChildProcessError","ConnectionError","FileExistsError","FileNotFoundError","InterruptedError","IsADirectoryError","NotADirectoryError","PermissionError","ProcessLookupError","TimeoutError","IndentationError","_IncompleteInputError","IndexError","KeyError","ModuleNotFoundError","NotImplementedError","PythonFinalizationError","RecursionError","UnboundLocalError","UnicodeError"] 82) (ap (zT ["BrokenPipeError","ConnectionAbortedError","ConnectionRefusedError","ConnectionResetError","TabError","UnicodeDecodeError","UnicodeEncodeError","UnicodeTranslateError","ExceptionGroup"] 142) [("EnvironmentError",151,.type "OSError"),("IOError",152,.type "OSError"),("open",153,.builtin "open"),("quit",154,.builtin "builtins.quit#opaque"),("exit",155,.builtin "builtins.exit#opaque"),("copyright",156,.builtin "builtins.copyright#opaque"),("credits",157,.builtin "builtins.credits#opaque"),("license",158,.builtin "builtins.license#opaque"),("help",159,.builtin "builtins.help#opaque")]))))))) 159,oD [("builtins",162,.ref 4),("__main__",163,.ref 5)] 2,λ_=>⟨.none,none,(.dict #[] 0),#[]⟩,oD (ap [("__name__",165,.str "law_stillheap_k21_no_views_and_heaps_viewed" 1407),("__doc__",166,.none),("__package__",167,.none),("__loader__",168,.builtin "__main__.__loader__#opaque"),("__spec__",169,.none),("__annotations__",170,.ref 6),("__builtins__",171,.ref 4),("__file__",173,.str "/claim/cut.py" 172),("__cached__",174,.none),("_wall",193,.ref 21),("HeapError",228,.ref 45),("BadHand",251,.ref 65),("BadName",274,.ref 84),("BadField",297,.ref 103),("BadCount",320,.ref 122),("NoRoom",343,.ref 141),("TooManyWords",366,.ref 160),("RoundOn",389,.ref 179),("NoRound",412,.ref 198),("BadText",445,.ref 224),("BadView",468,.ref 243),("BadAddress",491,.ref 262),("BadPaper",514,.ref 281),("BadLog",547,.ref 307),("HANDS",551,.int 8 550),("WEAK_NAMES",553,.int 8 552),("MOST_FIELDS",555,.int 6 554),("LEAST_ROOM",557,.int 7 556)] (ap [("MOST_YOUNG",559,.int 64 558),("MOST_LIMIT",561,.int 400 560),("number_value",568,.ref 316),("thing_value",575,.ref 323),("kind_of",582,.ref 330),("words_of",589,.ref 337),("look_at_number",596,.ref 344),("look_at_hand",603,.ref 351),("look_at_name",610,.ref 358),("look_at_field",618,.ref 365),("look_at_limits",626,.ref 372),("view_of",634,.ref 377),("reached",641,.ref 384),("way_to",652,.ref 391),("led_to",661,.ref 398),("thing_in",668,.ref 405),("look_at_view",677,.ref 412),("look_at_told",686,.ref 419),("look_at_thing",694,.ref 426),("last_steps",706,.ref 433),("reach_paper",714,.ref 438),("is_closed",722,.ref 445),("paper_judged",732,.ref 452),("only_by",738,.ref 457),("closed_in",744,.ref 462),("tells_within",750,.ref 467),("is_step",761,.ref 474),("tells_at",770,.ref 481)] [("Hands",876,.ref 561),("MOST_BEARERS",880,.int 12 879),("WordTable",956,.ref 624),("NameTable",1016,.ref 671),("Heap",1193,.ref 798),("thing_among",1201,.ref 809),("IdealHeap",1406,.ref 980),("_law_cell",1416,.ref 989),("_law_whole",1423,.ref 996),("_law_digits",1434,.ref 1003),("_law_stream",1440,.ref 1008),("_law_view",1446,.ref 1013),("_law_copy",1455,.ref 1020),("_law_asked",1464,.ref 1027),("_law_word",1476,.ref 1034),("_law_bad",1482,.ref 1039),("_law_put",1494,.ref 1046),("_law_views_good",1508,.ref 1053),("_law_numbers",1520,.ref 1060),("_law_deed",1532,.ref 1067),("_law_plain",1540,.ref 1074),("_law_done",1550,.ref 1081),("_law_thing_in",1557,.ref 1088),("_law_viewed",1563,.ref 1093),("law",1569,.ref 1098)])) 81,λ_=>⟨(.type "module"),(.some 0),.plain,#[]⟩,λ_=>⟨(.type "module"),(.some 3),.plain,#[]⟩,λ_=>⟨(.type "dict"),none,(.dict #[] 0),#[]⟩,o7,o8,oM "<module>" 176 1 7 175 8 179 180,oR 9 3 3 v21,o7,oX (xs0.take 195),oM "<module>" 182 1 11 181 12 185 186,oR 13 3 3 v21,o7,o8,oT (oS ["k"] 190),o7,oG fn0,oC fn0 187 1 1 0 0 3 15 181 16 17 18 19 191 192,oF fn0 v21 20,oT [v5],o20]
def hl1:List OO:=[oD [("__module__",203,.str "stillheap.errors" 194),("__qualname__",205,.str "HeapError" 204),("__firstlineno__",207,.int 5 206),("__init__",215,.ref 35),("called",222,.ref 42),("__static_attributes__",223,.ref 43)] 6,o7,oX [7,4,34,10,4,41],oM "HeapError" 198 5 25 181 26 201 202,oR 27 3 24 v0,o7,o8,oT (oS ["self","text"] 211),o7,oG fn1,oC fn1 208 7 2 0 0 3 29 181 30 31 32 33 213 214,oF fn1 v0 34,o7,o8,oT (oS ["self"] 219),o7,oG fn2,oC fn2 216 10 1 0 0 3 36 181 37 38 39 40 220 221,oF fn2 v0 41,o7,oD [("__module__",203,.str "stillheap.errors" 194),("__firstlineno__",207,.int 5 206),("__init__",215,.ref 35),("called",222,.ref 42),("__static_attributes__",223,.ref 43),("__weakref__",225,.ref 46),("__doc__",226,.none)] 3,oY "HeapError" [v5] [(.ref 45),v5,v7,v8,v1] 44 [(.ref 65),(.ref 84),(.ref 103),(.ref 122),(.ref 141),(.ref 160),(.ref 179),(.ref 198),(.ref 224),(.ref 243),(.ref 262),(.ref 281),(.ref 307)] (.some (.ref 22)) 196 204 v9,λ_=>⟨v11,none,(.fields (List.toArray [(.str "__weakref__" 224),(.ref 45),v18,.none])),#[]⟩,oU 45]
def hl2:List OO:=[oP v3 (.ref 45),o38,o20,oD [("__module__",236,.str "stillheap.errors" 194),("__qualname__",238,.str "BadHand" 237),("__firstlineno__",240,.int 12 239),("called",247,.ref 62),("__static_attributes__",248,.ref 63)] 5,o7,oX [14,4,61],oM "BadHand" 231 12 52 181 53 234 235,oR 54 3 51 v0,o7,o8,oT (oS ["self"] 244),o7,oG fn3,oC fn3 241 14 1 0 0 3 56 181 57 58 59 60 245 246,oF fn3 v0 61,o7,oD [("__module__",236,.str "stillheap.errors" 194),("__firstlineno__",240,.int 12 239),("called",247,.ref 62),("__static_attributes__",248,.ref 63),("__doc__",249,.none)] 2,oY "BadHand" [(.ref 45)] [(.ref 65),(.ref 45),v5,v7,v8,v1] 64 [] (.some (.ref 49)) 229 237 v9,oU 65,oP v3 (.ref 65),o38,o20,oD [("__module__",259,.str "stillheap.errors" 194),("__qualname__",261,.str "BadName" 260),("__firstlineno__",263,.int 16 262),("called",270,.ref 81),("__static_attributes__",271,.ref 82)] 5,o7]
def hl3:List OO:=[oX [18,4,80],oM "BadName" 254 16 71 181 72 257 258,oR 73 3 70 v0,o7,o8,oT (oS ["self"] 267),o7,oG fn4,oC fn4 264 18 1 0 0 3 75 181 76 77 78 79 268 269,oF fn4 v0 80,o7,oD [("__module__",259,.str "stillheap.errors" 194),("__firstlineno__",263,.int 16 262),("called",270,.ref 81),("__static_attributes__",271,.ref 82),("__doc__",272,.none)] 2,oY "BadName" [(.ref 45)] [(.ref 84),(.ref 45),v5,v7,v8,v1] 83 [] (.some (.ref 68)) 252 260 v9,oU 84,oP v3 (.ref 84),o38,o20,oD [("__module__",282,.str "stillheap.errors" 194),("__qualname__",284,.str "BadField" 283),("__firstlineno__",286,.int 20 285),("called",293,.ref 100),("__static_attributes__",294,.ref 101)] 5,o7,oX [22,4,99],oM "BadField" 277 20 90 181 91 280 281,oR 92 3 89 v0,o7,o8]
def hl4:List OO:=[oT (oS ["self"] 290),o7,oG fn5,oC fn5 287 22 1 0 0 3 94 181 95 96 97 98 291 292,oF fn5 v0 99,o7,oD [("__module__",282,.str "stillheap.errors" 194),("__firstlineno__",286,.int 20 285),("called",293,.ref 100),("__static_attributes__",294,.ref 101),("__doc__",295,.none)] 2,oY "BadField" [(.ref 45)] [(.ref 103),(.ref 45),v5,v7,v8,v1] 102 [] (.some (.ref 87)) 275 283 v9,oU 103,oP v3 (.ref 103),o38,o20,oD [("__module__",305,.str "stillheap.errors" 194),("__qualname__",307,.str "BadCount" 306),("__firstlineno__",309,.int 24 308),("called",316,.ref 119),("__static_attributes__",317,.ref 120)] 5,o7,oX [26,4,118],oM "BadCount" 300 24 109 181 110 303 304,oR 111 3 108 v0,o7,o8,oT (oS ["self"] 313),o7,oG fn6,oC fn6 310 26 1 0 0 3 113 181 114 115 116 117 314 315,oF fn6 v0 118]
def hl5:List OO:=[o7,oD [("__module__",305,.str "stillheap.errors" 194),("__firstlineno__",309,.int 24 308),("called",316,.ref 119),("__static_attributes__",317,.ref 120),("__doc__",318,.none)] 2,oY "BadCount" [(.ref 45)] [(.ref 122),(.ref 45),v5,v7,v8,v1] 121 [] (.some (.ref 106)) 298 306 v9,oU 122,oP v3 (.ref 122),o38,o20,oD [("__module__",328,.str "stillheap.errors" 194),("__qualname__",330,.str "NoRoom" 329),("__firstlineno__",332,.int 28 331),("called",339,.ref 138),("__static_attributes__",340,.ref 139)] 5,o7,oX [30,4,137],oM "NoRoom" 323 28 128 181 129 326 327,oR 130 3 127 v0,o7,o8,oT (oS ["self"] 336),o7,oG fn7,oC fn7 333 30 1 0 0 3 132 181 133 134 135 136 337 338,oF fn7 v0 137,o7,oD [("__module__",328,.str "stillheap.errors" 194),("__firstlineno__",332,.int 28 331),("called",339,.ref 138),("__static_attributes__",340,.ref 139),("__doc__",341,.none)] 2,oY "NoRoom" [(.ref 45)] [(.ref 141),(.ref 45),v5,v7,v8,v1] 140 [] (.some (.ref 125)) 321 329 v9,oU 141,oP v3 (.ref 141)]
def hl6:List OO:=[o38,o20,oD [("__module__",351,.str "stillheap.errors" 194),("__qualname__",353,.str "TooManyWords" 352),("__firstlineno__",355,.int 32 354),("called",362,.ref 157),("__static_attributes__",363,.ref 158)] 5,o7,oX [34,4,156],oM "TooManyWords" 346 32 147 181 148 349 350,oR 149 3 146 v0,o7,o8,oT (oS ["self"] 359),o7,oG fn8,oC fn8 356 34 1 0 0 3 151 181 152 153 154 155 360 361,oF fn8 v0 156,o7,oD [("__module__",351,.str "stillheap.errors" 194),("__firstlineno__",355,.int 32 354),("called",362,.ref 157),("__static_attributes__",363,.ref 158),("__doc__",364,.none)] 2,oY "TooManyWords" [(.ref 45)] [(.ref 160),(.ref 45),v5,v7,v8,v1] 159 [] (.some (.ref 144)) 344 352 v9,oU 160,oP v3 (.ref 160),o38,o20,oD [("__module__",374,.str "stillheap.errors" 194),("__qualname__",376,.str "RoundOn" 375),("__firstlineno__",378,.int 36 377),("called",385,.ref 176),("__static_attributes__",386,.ref 177)] 5,o7,oX [38,4,175]]
def hl7:List OO:=[oM "RoundOn" 369 36 166 181 167 372 373,oR 168 3 165 v0,o7,o8,oT (oS ["self"] 382),o7,oG fn9,oC fn9 379 38 1 0 0 3 170 181 171 172 173 174 383 384,oF fn9 v0 175,o7,oD [("__module__",374,.str "stillheap.errors" 194),("__firstlineno__",378,.int 36 377),("called",385,.ref 176),("__static_attributes__",386,.ref 177),("__doc__",387,.none)] 2,oY "RoundOn" [(.ref 45)] [(.ref 179),(.ref 45),v5,v7,v8,v1] 178 [] (.some (.ref 163)) 367 375 v9,oU 179,oP v3 (.ref 179),o38,o20,oD [("__module__",397,.str "stillheap.errors" 194),("__qualname__",399,.str "NoRound" 398),("__firstlineno__",401,.int 40 400),("called",408,.ref 195),("__static_attributes__",409,.ref 196)] 5,o7,oX [42,4,194],oM "NoRound" 392 40 185 181 186 395 396,oR 187 3 184 v0,o7,o8,oT (oS ["self"] 405)]
def hl8:List OO:=[o7,oG Fb,oC Fb 402 42 1 0 0 3 189 181 190 191 192 193 406 407,oF Fb v0 194,o7,oD [("__module__",397,.str "stillheap.errors" 194),("__firstlineno__",401,.int 40 400),("called",408,.ref 195),("__static_attributes__",409,.ref 196),("__doc__",410,.none)] 2,oY "NoRound" [(.ref 45)] [(.ref 198),(.ref 45),v5,v7,v8,v1] 197 [] (.some (.ref 182)) 390 398 v9,oU 198,oP v3 (.ref 198),o38,o20,oD [("__module__",420,.str "stillheap.errors" 194),("__qualname__",422,.str "BadText" 421),("__firstlineno__",424,.int 44 423),("__init__",433,.ref 214),("called",440,.ref 221),("__static_attributes__",442,.ref 222)] 6,o7,oX [46,4,213,50,4,220],oM "BadText" 415 44 204 181 205 418 419,oR 206 3 203 v0,o7,o8,oT (oS ["self","text","row"] 428),o7,oG Fc,oC Fc 425 46 3 0 0 3 208 181 209 210 211 212 431 432,oF Fc v0 213,o7]
def hl9:List OO:=[o8,oT (oS ["self"] 437),o7,oG Fd,oC Fd 434 50 1 0 0 3 215 181 216 217 218 219 438 439,oF Fd v0 220,oT (oS ["row"] 441),oD [("__module__",420,.str "stillheap.errors" 194),("__firstlineno__",424,.int 44 423),("__init__",433,.ref 214),("called",440,.ref 221),("__static_attributes__",442,.ref 222),("__doc__",443,.none)] 2,oY "BadText" [(.ref 45)] [(.ref 224),(.ref 45),v5,v7,v8,v1] 223 [] (.some (.ref 201)) 413 421 v9,oU 224,oP v3 (.ref 224),o38,o20,oD [("__module__",453,.str "stillheap.errors" 194),("__qualname__",455,.str "BadView" 454),("__firstlineno__",457,.int 52 456),("called",464,.ref 240),("__static_attributes__",465,.ref 241)] 5,o7,oX [54,4,239],oM "BadView" 448 52 230 181 231 451 452,oR 232 3 229 v0,o7,o8,oT (oS ["self"] 461),o7,oG Fe,oC Fe 458 54 1 0 0 3 234 181 235 236 237 238 462 463]
def JO:List OO:=[oF Fe v0 239,o7,oD [("__module__",453,.str "stillheap.errors" 194),("__firstlineno__",457,.int 52 456),("called",464,.ref 240),("__static_attributes__",465,.ref 241),("__doc__",466,.none)] 2,oY "BadView" [(.ref 45)] [(.ref 243),(.ref 45),v5,v7,v8,v1] 242 [] (.some (.ref 227)) 446 454 v9,oU 243,oP v3 (.ref 243),o38,o20,oD [("__module__",476,.str "stillheap.errors" 194),("__qualname__",478,.str "BadAddress" 477),("__firstlineno__",480,.int 56 479),("called",487,.ref 259),("__static_attributes__",488,.ref 260)] 5,o7,oX [58,4,258],oM "BadAddress" 471 56 249 181 250 474 475,oR 251 3 248 v0,o7,o8,oT (oS ["self"] 484),o7,oG Ff,oC Ff 481 58 1 0 0 3 253 181 254 255 256 257 485 486,oF Ff v0 258,o7,oD [("__module__",476,.str "stillheap.errors" 194),("__firstlineno__",480,.int 56 479),("called",487,.ref 259),("__static_attributes__",488,.ref 260),("__doc__",489,.none)] 2,oY "BadAddress" [(.ref 45)] [(.ref 262),(.ref 45),v5,v7,v8,v1] 261 [] (.some (.ref 246)) 469 477 v9,oU 262]
def JP:List OO:=[oP v3 (.ref 262),o38,o20,oD [("__module__",499,.str "stillheap.errors" 194),("__qualname__",501,.str "BadPaper" 500),("__firstlineno__",503,.int 60 502),("called",510,.ref 278),("__static_attributes__",511,.ref 279)] 5,o7,oX [62,4,277],oM "BadPaper" 494 60 268 181 269 497 498,oR 270 3 267 v0,o7,o8,oT (oS ["self"] 507),o7,oG Fg,oC Fg 504 62 1 0 0 3 272 181 273 274 275 276 508 509,oF Fg v0 277,o7,oD [("__module__",499,.str "stillheap.errors" 194),("__firstlineno__",503,.int 60 502),("called",510,.ref 278),("__static_attributes__",511,.ref 279),("__doc__",512,.none)] 2,oY "BadPaper" [(.ref 45)] [(.ref 281),(.ref 45),v5,v7,v8,v1] 280 [] (.some (.ref 265)) 492 500 v9,oU 281,oP v3 (.ref 281),o38,o20,oD [("__module__",522,.str "stillheap.errors" 194),("__qualname__",524,.str "BadLog" 523),("__firstlineno__",526,.int 64 525),("__init__",535,.ref 297),("called",542,.ref 304),("__static_attributes__",544,.ref 305)] 6,o7]
def JQ:List OO:=[oX [66,4,296,70,4,303],oM "BadLog" 517 64 287 181 288 520 521,oR 289 3 286 v0,o7,o8,oT (oS ["self","text","row"] 530),o7,oG Fh,oC Fh 527 66 3 0 0 3 291 181 292 293 294 295 533 534,oF Fh v0 296,o7,o8,oT (oS ["self"] 539),o7,oG Fi,oC Fi 536 70 1 0 0 3 298 181 299 300 301 302 540 541,oF Fi v0 303,oT (oS ["row"] 543),oD [("__module__",522,.str "stillheap.errors" 194),("__firstlineno__",526,.int 64 525),("__init__",535,.ref 297),("called",542,.ref 304),("__static_attributes__",544,.ref 305),("__doc__",545,.none)] 2,oY "BadLog" [(.ref 45)] [(.ref 307),(.ref 45),v5,v7,v8,v1] 306 [] (.some (.ref 284)) 515 523 v9,oU 307,oP v3 (.ref 307),o7,o8]
def JR:List OO:=[oT (oS ["x"] 565),o7,oG Fj,oC Fj 562 79 1 0 0 3 310 181 311 312 313 314 566 567,oF Fj v12 315,o7,o8,oT (oS ["t"] 572),o7,oG Fl,oC Fl 569 82 1 0 0 3 317 181 318 319 320 321 573 574,oF Fl v12 322,o7,o8,oT (oS ["value"] 579),o7,oG Fm,oC Fm 576 86 1 0 0 3 324 181 325 326 327 328 580 581,oF Fm v12 329,o7,o8,oT (oS ["fields"] 586),o7,oG Fn]
def JS:List OO:=[oC Fn 583 88 1 0 0 3 331 181 332 333 334 335 587 588,oF Fn v12 336,o7,o8,oT (oS ["x"] 593),o7,oG Fo,oC Fo 590 92 1 0 0 3 338 181 339 340 341 342 594 595,oF Fo v12 343,o7,o8,oT (oS ["h"] 600),o7,oG Fp,oC Fp 597 95 1 0 0 3 345 181 346 347 348 349 601 602,oF Fp v12 350,o7,o8,oT (oS ["w"] 607),o7,oG Fq,oC Fq 604 98 1 0 0 3 352 181 353 354 355 356 608 609,oF Fq v12 357,o7]
def JT:List OO:=[o8,oT (oS ["k","fields"] 614),o7,oG Ft,oC Ft 611 101 2 0 0 3 359 181 360 361 362 363 616 617,oF Ft v12 364,o7,o8,oT (oS ["young","limit"] 622),o7,oG Fu,oC Fu 619 104 2 0 0 3 366 181 367 368 369 370 624 625,oF Fu v12 371,o7,o8,oG Fv,oN Fv 629 110 1 0 0 3 373 181 374 375 632 633,oF Fv v13 376,o7,o8,oT (oS ["view"] 638),o7,oG Fw,oC Fw 635 115 1 0 0 3 378 181 379 380 381 382 639 640]
def JU:List OO:=[oF Fw v13 383,o7,o8,oT (oS ["view","thing","steps","places","step"] 645),o7,oG Fx,oC Fx 642 118 2 0 0 3 385 181 386 387 388 389 650 651,oF Fx v13 390,o7,o8,oT (oS ["view","things","thing"] 656),o7,oG Fy,oC Fy 653 130 2 0 0 3 392 181 393 394 395 396 659 660,oF Fy v13 397,o7,o8,oT (oS ["value"] 665),o7,oG Fz,oC Fz 662 135 1 0 0 3 399 181 400 401 402 403 666 667,oF Fz v13 404,o7,o8]
def JV:List OO:=[oT (oS ["view","fields","t"] 672),o7,oG FA,oC FA 669 137 1 0 0 3 406 181 407 408 409 410 675 676,oF FA v13 411,o7,o8,oT (oS ["told","fields","t"] 681),o7,oG FC,oC FC 678 144 2 0 0 3 413 181 414 415 416 417 684 685,oF FC v13 418,o7,o8,oT (oS ["view","thing"] 690),o7,oG FD,oC FD 687 148 2 0 0 3 420 181 421 422 423 424 692 693,oF FD v13 425,o7,o8,oT (oS ["view","steps","place","thing","met","done"] 698),o7,oG FE]
def JW:List OO:=[oC FE 695 151 1 0 0 3 427 181 428 429 430 431 704 705,oF FE v13 432,o7,o8,oG FF,oN FF 709 166 1 0 0 3 434 181 435 436 712 713,oF FF v14 437,o7,o8,oT (oS ["view","things"] 718),o7,oG FG,oC FG 715 170 2 0 0 3 439 181 440 441 442 443 720 721,oF FG v14 444,o7,o8,oT (oS ["view","triples","ahead","triple"] 726),o7,oG FH,oC FH 723 173 2 0 0 3 446 181 447 448 449 450 730 731,oF FH v14 451,o7,o8,oG FI]
def JX:List OO:=[oN FI 733 181 2 0 0 3 453 181 454 455 736 737,oF FI v14 456,o7,o8,oG FJ,oN FJ 739 188 2 0 0 3 458 181 459 460 742 743,oF FJ v14 461,o7,o8,oG FK,oN FK 745 198 2 0 0 3 463 181 464 465 748 749,oF FK v14 466,o7,o8,oT (oS ["view","ahead","triple","thing","origin"] 754),o7,oG FL,oC FL 751 200 3 0 0 3 468 181 469 470 471 472 759 760,oF FL v14 473,o7,o8,oT (oS ["told","place","thing"] 765),o7,oG FO]
def JY:List OO:=[oC FO 762 208 3 0 0 3 475 181 476 477 478 479 768 769,oF FO v14 480,o7,o20,oD [("__module__",780,.str "stillheap.hands" 771),("__qualname__",782,.str "Hands" 781),("__firstlineno__",784,.int 211 783),("__init__",791,.ref 495),("word_in",799,.ref 502),("all_words",806,.ref 509),("put",815,.ref 516),("copy",824,.ref 523),("number",833,.ref 530),("kind",842,.ref 537),("value",850,.ref 544),("same",859,.ref 551),("thing_due",867,.ref 558),("__static_attributes__",869,.ref 559)] 14,o7,oX [213,4,494,216,4,501,220,4,508,223,4,515,227,4,522,231,4,529,235,4,536,239,4,543,244,4,550,247,4,557],oM "Hands" 775 211 485 181 486 778 779,oR 487 3 484 v10,o7,o8,oT (oS ["self"] 788),o7,oG FP,oC FP 785 213 1 0 0 3 489 181 490 491 492 493 789 790,oF FP v10 494,o7,o8,oT (oS ["self","h"] 795),o7,oG FQ,oC FQ 792 216 2 0 0 3 496 181 497 498 499 500 797 798,oF FQ v10 501,o7]
def JZ:List OO:=[o8,oT (oS ["self"] 803),o7,oG FR,oC FR 800 220 1 0 0 3 503 181 504 505 506 507 804 805,oF FR v10 508,o7,o8,oT (oS ["self","h","word"] 810),o7,oG FT,oC FT 807 223 3 0 0 3 510 181 511 512 513 514 813 814,oF FT v10 515,o7,o8,oT (oS ["self","h","g"] 819),o7,oG FU,oC FU 816 227 3 0 0 3 517 181 518 519 520 521 822 823,oF FU v10 522,o7,o8,oT (oS ["self","h","x"] 828),o7]
def J8:List OO:=[oG FV,oC FV 825 231 3 0 0 3 524 181 525 526 527 528 831 832,oF FV v10 529,o7,o8,oT (oS ["self","h","kind"] 837),o7,oG FW,oC FW 834 235 2 0 0 3 531 181 532 533 534 535 840 841,oF FW v10 536,o7,o8,oT (oS ["self","h"] 846),o7,oG FX,oC FX 843 239 2 0 0 3 538 181 539 540 541 542 848 849,oF FX v10 543,o7,o8,oT (oS ["self","h","g"] 854),o7,oG FY,oC FY 851 244 3 0 0 3 545 181 546 547 548 549 857 858,oF FY v10 550]
def J9:List OO:=[o7,o8,oT (oS ["self","h"] 863),o7,oG FZ,oC FZ 860 247 2 0 0 3 552 181 553 554 555 556 865 866,oF FZ v10 557,oT (oS ["words_held"] 868),oD [("__module__",780,.str "stillheap.hands" 771),("__firstlineno__",784,.int 211 783),("__init__",791,.ref 495),("word_in",799,.ref 502),("all_words",806,.ref 509),("put",815,.ref 516),("copy",824,.ref 523),("number",833,.ref 530),("kind",842,.ref 537),("value",850,.ref 544),("same",859,.ref 551),("thing_due",867,.ref 558),("__static_attributes__",869,.ref 559),("__dict__",871,.ref 562),("__weakref__",873,.ref 563),("__doc__",874,.none)] 4,oY "Hands" [v1] [(.ref 561),v1] 560 [] none 773 781 v16,λ_=>⟨v11,none,(.fields (List.toArray [(.str "__dict__" 870),(.ref 561),v19,v20])),#[]⟩,λ_=>⟨v11,none,(.fields (List.toArray [(.str "__weakref__" 872),(.ref 561),v18,.none])),#[]⟩,oU 561,oP v3 (.ref 561),o7,o20,oD [("__module__",888,.str "stillheap.lastwords" 877),("__qualname__",890,.str "WordTable" 889),("__firstlineno__",892,.int 253 891),("__init__",899,.ref 579),("bear",908,.ref 586),("word_of",916,.ref 593),("bearers",923,.ref 600),("settle",932,.ref 607),("take",939,.ref 614),("said",946,.ref 621),("__static_attributes__",949,.ref 622)] 11,o7,oX [255,4,578,259,4,585,264,4,592,267,4,599,270,4,606,275,4,613,278,4,620],oM "WordTable" 883 253 569 181 570 886 887,oR 571 3 568 v15,o7,o8,oT (oS ["self"] 896)]
def Ka:List OO:=[o7,oG F5,oC F5 893 255 1 0 0 3 573 181 574 575 576 577 897 898,oF F5 v15 578,o7,o8,oT (oS ["self","t","x"] 903),o7,oG F6,oC F6 900 259 3 0 0 3 580 181 581 582 583 584 906 907,oF F6 v15 585,o7,o8,oT (oS ["self","t"] 912),o7,oG F7,oC F7 909 264 2 0 0 3 587 181 588 589 590 591 914 915,oF F7 v15 592,o7,o8,oT (oS ["self"] 920),o7,oG F8,oC F8 917 267 1 0 0 3 594 181 595 596 597 598 921 922]
def Kb:List OO:=[oF F8 v15 599,o7,o8,oT (oS ["self","things","t"] 927),o7,oG F9,oC F9 924 270 2 0 0 3 601 181 602 603 604 605 930 931,oF F9 v15 606,o7,o8,oT (oS ["self"] 936),o7,oG Ga,oC Ga 933 275 1 0 0 3 608 181 609 610 611 612 937 938,oF Ga v15 613,o7,o8,oT (oS ["self"] 943),o7,oG Gb,oC Gb 940 278 1 0 0 3 615 181 616 617 618 619 944 945,oF Gb v15 620,oT (oS ["words_borne","words_said"] 947),oD [("__module__",888,.str "stillheap.lastwords" 877),("__firstlineno__",892,.int 253 891),("__init__",899,.ref 579),("bear",908,.ref 586),("word_of",916,.ref 593),("bearers",923,.ref 600),("settle",932,.ref 607),("take",939,.ref 614),("said",946,.ref 621),("__static_attributes__",949,.ref 622),("__dict__",951,.ref 625),("__weakref__",953,.ref 626),("__doc__",954,.none)] 4]
def Kc:List OO:=[oY "WordTable" [v1] [(.ref 624),v1] 623 [] none 881 889 v16,λ_=>⟨v11,none,(.fields (List.toArray [(.str "__dict__" 950),(.ref 624),v19,v20])),#[]⟩,λ_=>⟨v11,none,(.fields (List.toArray [(.str "__weakref__" 952),(.ref 624),v18,.none])),#[]⟩,oU 624,oP v3 (.ref 624),o7,o20,oD [("__module__",966,.str "stillheap.weaknames" 957),("__qualname__",968,.str "NameTable" 967),("__firstlineno__",970,.int 281 969),("__init__",977,.ref 642),("name",986,.ref 649),("named",994,.ref 656),("all_named",1001,.ref 663),("settle",1007,.ref 668),("__static_attributes__",1009,.ref 669)] 9,o7,oX [283,4,641,286,4,648,290,4,655,294,4,662,297,4,667],oM "NameTable" 961 281 632 181 633 964 965,oR 634 3 631 v17,o7,o8,oT (oS ["self"] 974),o7,oG Ge,oC Ge 971 283 1 0 0 3 636 181 637 638 639 640 975 976,oF Ge v17 641,o7,o8,oT (oS ["self","w","t"] 981),o7,oG Gf]
def Kd:List OO:=[oC Gf 978 286 3 0 0 3 643 181 644 645 646 647 984 985,oF Gf v17 648,o7,o8,oT (oS ["self","w"] 990),o7,oG Gg,oC Gg 987 290 2 0 0 3 650 181 651 652 653 654 992 993,oF Gg v17 655,o7,o8,oT (oS ["self"] 998),o7,oG Gh,oC Gh 995 294 1 0 0 3 657 181 658 659 660 661 999 1000,oF Gh v17 662,o7,o8,oG Gi,oN Gi 1002 297 2 0 0 3 664 181 665 666 1005 1006,oF Gi v17 667,oT (oS ["things_named"] 1008),oD [("__module__",966,.str "stillheap.weaknames" 957),("__firstlineno__",970,.int 281 969),("__init__",977,.ref 642),("name",986,.ref 649),("named",994,.ref 656),("all_named",1001,.ref 663),("settle",1007,.ref 668),("__static_attributes__",1009,.ref 669),("__dict__",1011,.ref 672),("__weakref__",1013,.ref 673),("__doc__",1014,.none)] 4,oY "NameTable" [v1] [(.ref 671),v1] 670 [] none 959 967 v16]
def Ke:List OO:=[λ_=>⟨v11,none,(.fields (List.toArray [(.str "__dict__" 1010),(.ref 671),v19,v20])),#[]⟩,λ_=>⟨v11,none,(.fields (List.toArray [(.str "__weakref__" 1012),(.ref 671),v18,.none])),#[]⟩,oU 671,oP v3 (.ref 671),o7,o20,oD [("__module__",1026,.str "stillheap.heaps" 1017),("__qualname__",1028,.str "Heap" 1027),("__firstlineno__",1030,.int 300 1029),("__init__",1038,.ref 689),("add_thing",1048,.ref 696),("load",1059,.ref 703),("store",1071,.ref 710),("copy",1080,.ref 717),("drop",1088,.ref 724),("number",1097,.ref 731),("name",1107,.ref 738),("read_thing",1117,.ref 745),("word",1127,.ref 752),("small_round",1133,.ref 757),("let_go",1142,.ref 764),("look_at_held",1150,.ref 771),("field_value",1159,.ref 778),("counts_held",1166,.ref 785),("words_among",1172,.ref 790),("led_among",1178,.ref 795),("__static_attributes__",1186,.ref 796)] 21,o7,oX [302,4,688,311,4,695,319,4,702,325,4,709,331,4,716,334,4,723,337,4,730,340,4,737,344,4,744,350,4,751,355,4,756,366,4,763,372,4,770,376,4,777,379,4,784,382,4,789,385,4,794],oM "Heap" 1021 300 679 181 680 1024 1025,oR 681 3 678 v4,o7,o8,oT (oS ["self","makes_young"] 1034),o7,oG Gj,oC Gj 1031 302 2 0 0 3 683 181 684 685 686 687 1036 1037,oF Gj v4 688,o7,o8,oT (oS ["self","h","n","t"] 1042),o7,oG Gk,oC Gk 1039 311 3 0 0 3 690 181 691 692 693 694 1046 1047]
def Kf:List OO:=[oF Gk v4 695,o7,o8,oT (oS ["self","h","g","k","fields"] 1052),o7,oG Gm,oC Gm 1049 319 4 0 0 3 697 181 698 699 700 701 1057 1058,oF Gm v4 702,o7,o8,oT (oS ["self","g","k","h","fields","value"] 1063),o7,oG Gn,oC Gn 1060 325 4 0 0 3 704 181 705 706 707 708 1069 1070,oF Gn v4 709,o7,o8,oT (oS ["self","h","g"] 1075),o7,oG Gp,oC Gp 1072 331 3 0 0 3 711 181 712 713 714 715 1078 1079,oF Gp v4 716,o7,o8]
def Kg:List OO:=[oT (oS ["self","h"] 1084),o7,oG Gq,oC Gq 1081 334 2 0 0 3 718 181 719 720 721 722 1086 1087,oF Gq v4 723,o7,o8,oT (oS ["self","h","x"] 1092),o7,oG Gr,oC Gr 1089 337 3 0 0 3 725 181 726 727 728 729 1095 1096,oF Gr v4 730,o7,o8,oT (oS ["self","w","h","t"] 1101),o7,oG Gu,oC Gu 1098 340 3 0 0 3 732 181 733 734 735 736 1105 1106,oF Gu v4 737,o7,o8,oT (oS ["self","h","w","t"] 1111),o7,oG Gv]
def Kh:List OO:=[oC Gv 1108 344 3 0 0 3 739 181 740 741 742 743 1115 1116,oF Gv v4 744,o7,o8,oT (oS ["self","h","x","t"] 1121),o7,oG Gw,oC Gw 1118 350 3 0 0 3 746 181 747 748 749 750 1125 1126,oF Gw v4 751,o7,o8,oG Gx,oN Gx 1128 355 1 0 0 3 753 181 754 755 1131 1132,oF Gx v4 756,o7,o8,oT (oS ["self","gone","t"] 1137),o7,oG Gy,oC Gy 1134 366 2 0 0 3 758 181 759 760 761 762 1140 1141,oF Gy v4 763,o7,o8,oT (oS ["self","t"] 1146)]
def Ki:List OO:=[o7,oG Gz,oC Gz 1143 372 2 0 0 3 765 181 766 767 768 769 1148 1149,oF Gz v4 770,o7,o8,oT (oS ["self","t","k"] 1154),o7,oG GA,oC GA 1151 376 3 0 0 3 772 181 773 774 775 776 1157 1158,oF GA v4 777,o7,o8,oT (oS ["self"] 1163),o7,oG GB,oC GB 1160 379 1 0 0 3 779 181 780 781 782 783 1164 1165,oF GB v4 784,o7,o8,oG GF,oN GF 1167 382 2 0 0 3 786 181 787 788 1170 1171,oF GF v4 789,o7]
def Kj:List OO:=[o8,oG GG,oN GG 1173 385 3 0 0 3 791 181 792 793 1176 1177,oF GG v4 794,oT (oS ["fields_held","in_hands","last_words","makes_young","next_thing","weak_names","young_things"] 1179),oD [("__module__",1026,.str "stillheap.heaps" 1017),("__firstlineno__",1030,.int 300 1029),("__init__",1038,.ref 689),("add_thing",1048,.ref 696),("load",1059,.ref 703),("store",1071,.ref 710),("copy",1080,.ref 717),("drop",1088,.ref 724),("number",1097,.ref 731),("name",1107,.ref 738),("read_thing",1117,.ref 745),("word",1127,.ref 752),("small_round",1133,.ref 757),("let_go",1142,.ref 764),("look_at_held",1150,.ref 771),("field_value",1159,.ref 778),("counts_held",1166,.ref 785),("words_among",1172,.ref 790),("led_among",1178,.ref 795),("__static_attributes__",1186,.ref 796),("__dict__",1188,.ref 799),("__weakref__",1190,.ref 800),("__doc__",1191,.none)] 4,oY "Heap" [v1] [(.ref 798),v1] 797 [(.ref 980)] none 1019 1027 v16,λ_=>⟨v11,none,(.fields (List.toArray [(.str "__dict__" 1187),(.ref 798),v19,v20])),#[]⟩,λ_=>⟨v11,none,(.fields (List.toArray [(.str "__weakref__" 1189),(.ref 798),v18,.none])),#[]⟩,oU 798,oP v3 (.ref 798),o7,o8,oT (oS ["value","things"] 1197),o7,oG GH,oC GH 1194 390 2 0 0 3 803 181 804 805 806 807 1199 1200,oF GH v4 808,oT [(.ref 798)],o20,oD [("__module__",1211,.str "stillheap.ideal" 1202),("__qualname__",1213,.str "IdealHeap" 1212),("__firstlineno__",1215,.int 395 1214),("__init__",1224,.ref 823),("make",1234,.ref 830),("read",1244,.ref 837),("take",1251,.ref 844),("kind",1259,.ref 851),("value",1267,.ref 858),("fields",1275,.ref 865),("same",1284,.ref 872),("held",1291,.ref 879),("small",1298,.ref 886),("begin",1307,.ref 893),("end",1315,.ref 900),("round_on",1322,.ref 907),("hands",1329,.ref 914),("names",1336,.ref 921),("things",1343,.ref 928),("fields_of",1351,.ref 935),("is_old",1359,.ref 942),("word_of",1367,.ref 949),("doomed",1374,.ref 956),("said",1381,.ref 963),("made",1388,.ref 970),("spare",1398,.ref 977),("__static_attributes__",1403,.ref 978)] 27,o7,oX [397,4,822,405,4,829,414,4,836,419,4,843,422,4,850,425,4,857,428,4,864,431,4,871,434,4,878,437,4,885,440,4,892,450,4,899,458,4,906,461,4,913,464,4,920,467,4,927,470,4,934,474,4,941,477,4,948,480,4,955,483,4,962,486,4,969,489,4,976],oM "IdealHeap" 1206 395 813 181 814 1209 1210]
def Kk:List OO:=[oR 815 3 812 v2,o7,o8,oT (oS ["self","young","limit"] 1219),o7,oG GI,oC GI 1216 397 3 0 0 3 817 181 818 819 820 821 1222 1223,oF GI v2 822,o7,o8,oT (oS ["self","h","n","size"] 1228),o7,oG GJ,oC GJ 1225 405 3 0 0 3 824 181 825 826 827 828 1232 1233,oF GJ v2 829,o7,o8,oT (oS ["self","h","w","t"] 1238),o7,oG GK,oC GK 1235 414 3 0 0 3 831 181 832 833 834 835 1242 1243,oF GK v2 836,o7,o8]
def Kl:List OO:=[oT (oS ["self"] 1248),o7,oG GL,oC GL 1245 419 1 0 0 3 838 181 839 840 841 842 1249 1250,oF GL v2 843,o7,o8,oT (oS ["self","h"] 1255),o7,oG GN,oC GN 1252 422 2 0 0 3 845 181 846 847 848 849 1257 1258,oF GN v2 850,o7,o8,oT (oS ["self","h"] 1263),o7,oG GO,oC GO 1260 425 2 0 0 3 852 181 853 854 855 856 1265 1266,oF GO v2 857,o7,o8,oT (oS ["self","h"] 1271),o7,oG GP]
def Km:List OO:=[oC GP 1268 428 2 0 0 3 859 181 860 861 862 863 1273 1274,oF GP v2 864,o7,o8,oT (oS ["self","h","g"] 1279),o7,oG GQ,oC GQ 1276 431 3 0 0 3 866 181 867 868 869 870 1282 1283,oF GQ v2 871,o7,o8,oT (oS ["self"] 1288),o7,oG GR,oC GR 1285 434 1 0 0 3 873 181 874 875 876 877 1289 1290,oF GR v2 878,o7,o8,oT (oS ["self"] 1295),o7,oG GU,oC GU 1292 437 1 0 0 3 880 181 881 882 883 884 1296 1297,oF GU v2 885,o7]
def Kn:List OO:=[o8,oT (oS ["self","kept","t"] 1302),o7,oG GV,oC GV 1299 440 1 0 0 3 887 181 888 889 890 891 1305 1306,oF GV v2 892,o7,o8,oT (oS ["self","gone"] 1311),o7,oG GW,oC GW 1308 450 1 0 0 3 894 181 895 896 897 898 1313 1314,oF GW v2 899,o7,o8,oT (oS ["self"] 1319),o7,oG GX,oC GX 1316 458 1 0 0 3 901 181 902 903 904 905 1320 1321,oF GX v2 906,o7,o8,oT (oS ["self"] 1326),o7]
def Ko:List OO:=[oG GY,oC GY 1323 461 1 0 0 3 908 181 909 910 911 912 1327 1328,oF GY v2 913,o7,o8,oT (oS ["self"] 1333),o7,oG GZ,oC GZ 1330 464 1 0 0 3 915 181 916 917 918 919 1334 1335,oF GZ v2 920,o7,o8,oT (oS ["self"] 1340),o7,oG G0,oC G0 1337 467 1 0 0 3 922 181 923 924 925 926 1341 1342,oF G0 v2 927,o7,o8,oT (oS ["self","t"] 1347),o7,oG Bd,oC Bd 1344 470 2 0 0 3 929 181 930 931 932 933 1349 1350,oF Bd v2 934]
def Kp:List OO:=[o7,o8,oT (oS ["self","t"] 1355),o7,oG Be,oC Be 1352 474 2 0 0 3 936 181 937 938 939 940 1357 1358,oF Be v2 941,o7,o8,oT (oS ["self","t"] 1363),o7,oG Bg,oC Bg 1360 477 2 0 0 3 943 181 944 945 946 947 1365 1366,oF Bg v2 948,o7,o8,oT (oS ["self"] 1371),o7,oG Bh,oC Bh 1368 480 1 0 0 3 950 181 951 952 953 954 1372 1373,oF Bh v2 955,o7,o8,oT (oS ["self"] 1378)]
def Kq:List OO:=[o7,oG Bi,oC Bi 1375 483 1 0 0 3 957 181 958 959 960 961 1379 1380,oF Bi v2 962,o7,o8,oT (oS ["self"] 1385),o7,oG Bj,oC Bj 1382 486 1 0 0 3 964 181 965 966 967 968 1386 1387,oF Bj v2 969,o7,o8,oT (oS ["self","t","spared","other"] 1392),o7,oG Bk,oC Bk 1389 489 2 0 0 3 971 181 972 973 974 975 1396 1397,oF Bk v2 976,oT (oS ["doomed_things","in_round","limit","young_room"] 1399),oD [("__module__",1211,.str "stillheap.ideal" 1202),("__firstlineno__",1215,.int 395 1214),("__init__",1224,.ref 823),("make",1234,.ref 830),("read",1244,.ref 837),("take",1251,.ref 844),("kind",1259,.ref 851),("value",1267,.ref 858),("fields",1275,.ref 865),("same",1284,.ref 872),("held",1291,.ref 879),("small",1298,.ref 886),("begin",1307,.ref 893),("end",1315,.ref 900),("round_on",1322,.ref 907),("hands",1329,.ref 914),("names",1336,.ref 921),("things",1343,.ref 928),("fields_of",1351,.ref 935),("is_old",1359,.ref 942),("word_of",1367,.ref 949),("doomed",1374,.ref 956),("said",1381,.ref 963),("made",1388,.ref 970),("spare",1398,.ref 977),("__static_attributes__",1403,.ref 978),("__doc__",1404,.none)] 2,oY "IdealHeap" [(.ref 798)] [(.ref 980),(.ref 798),v1] 979 [] (.some (.ref 810)) 1204 1212 v16,oU 980,oP v3 (.ref 980),o7]
def Kr:List OO:=[o8,oT (oS ["script","k"] 1412),o7,oG Bl,oC Bl 1409 494 2 0 0 3 983 181 984 985 986 987 1414 1415,oF Bl v6 988,o7,o8,oT (oS ["found"] 1420),o7,oG Bm,oC Bm 1417 498 1 0 0 3 990 181 991 992 993 994 1421 1422,oF Bm v6 995,o7,o8,oT (oS ["cell","rest","told","k","near"] 1427),o7,oG Bn,oC Bn 1424 500 1 0 0 3 997 181 998 999 1000 1001 1432 1433,oF Bn v6 1002,o7,o8,oG Bo,oN Bo 1435 512 2 0 0 3 1004 181 1005 1006 1438 1439]
def Ks:List OO:=[oF Bo v6 1007,o7,o8,oG Bp,oN Bp 1441 519 1 0 0 3 1009 181 1010 1011 1444 1445,oF Bp v6 1012,o7,o8,oT (oS ["view","fields","thing"] 1450),o7,oG Bq,oC Bq 1447 533 1 0 0 3 1014 181 1015 1016 1017 1018 1453 1454,oF Bq v6 1019,o7,o8,oT (oS ["way","view","thing"] 1459),o7,oG Br,oC Br 1456 538 3 0 0 3 1021 181 1022 1023 1024 1025 1462 1463,oF Br v6 1026,o7,o8,oT (oS ["way","view","thing","word","e","others"] 1468),o7]
def Kt:List OO:=[oG Bs,oC Bs 1465 552 3 0 0 3 1028 181 1029 1030 1031 1032 1474 1475,oF Bs v6 1033,o7,o8,oG Bt,oN Bt 1477 563 1 0 0 3 1035 181 1036 1037 1480 1481,oF Bt v6 1038,o7,o8,oT (oS ["view","cell","made","far","names","row"] 1486),o7,oG Bu,oC Bu 1483 568 2 0 0 3 1040 181 1041 1042 1043 1044 1492 1493,oF Bu v6 1045,o7,o8,oT (oS ["view","cells","names","cell","made","thing","way","due"] 1498),o7,oG Bv,oC Bv 1495 579 2 0 0 3 1047 181 1048 1049 1050 1051 1506 1507,oF Bv v6 1052,o7,o8]
def Ku:List OO:=[oT (oS ["script","most","found","k","near","turn"] 1512),o7,oG Bw,oC Bw 1509 593 2 0 0 3 1054 181 1055 1056 1057 1058 1518 1519,oF Bw v6 1059,o7,o8,oT (oS ["number","a","b","c","kind","some"] 1524),o7,oG Bx,oC Bx 1521 605 1 0 0 3 1061 181 1062 1063 1064 1065 1530 1531,oF Bx v6 1066,o7,o8,oT (oS ["hall","deed"] 1536),o7,oG By,oC By 1533 618 2 0 0 3 1068 181 1069 1070 1071 1072 1538 1539,oF By v6 1073,o7,o8,oT (oS ["hall","deed","word","e"] 1544),o7,oG Bz]
def Kw:List OO:=[oC Bz 1541 643 2 0 0 3 1075 181 1076 1077 1078 1079 1548 1549,oF Bz v6 1080,o7,o8,oT (oS ["value"] 1554),o7,oG BA,oC BA 1551 650 1 0 0 3 1082 181 1083 1084 1085 1086 1555 1556,oF BA v6 1087,o7,o8,oG BB,oN BB 1558 654 1 0 0 3 1089 181 1090 1091 1561 1562,oF BB v6 1092,o7,o8,oG BC,oN BC 1564 659 1 0 0 3 1094 181 1095 1096 1567 1568,oF BC v6 1097]
def hL:List OO:=hl0++(hl1++(hl2++(hl3++(hl4++(hl5++(hl6++(hl7++(hl8++(hl9++(JO++(JP++(JQ++(JR++(JS++(JT++(JU++(JV++(JW++(JX++(JY++(JZ++(J8++(J9++(Ka++(Kb++(Kc++(Kd++(Ke++(Kf++(Kg++(Kh++(Ki++(Kj++(Kk++(Kl++(Km++(Kn++(Ko++(Kp++(Kq++(Kr++(Ks++(Kt++(Ku++(Kw++([]))))))))))))))))))))))))))))))))))))))))))))))
def hAs:List Addr:=[2,3,15,17,18,20,21,22,29,31,32,34,35,36,38,39,41,42,43,44,45,46,49,56,58,59,61,62,63,64,65,68,75,77,78,80,81,82,83,84,87,94,96,97,99,100,101,102,103,106,113,115,116,118,119,120,121,122,125,132,134,135,137,138,139,140,141,144,151,153,154,156,157,158,159,160,163,170,172,173,175,176,177,178,179,182,189,191,192,194,195,196,197,198,201,208,210,211,213,214,215,217,218,220,221,222,223,224,227,234,236,237,239,240,241,242,243,246,253,255,256,258,259,260,261,262,265,272,274,275,277,278,279,280,281,284,291,293,294,296,297,298,300,301,303,304,305,306,307,310,312,313,315,316,317,319,320,322,323,324,326,327,329,330,331,333,334,336,337,338,340,341,343,344,345,347,348,350,351,352,354,355,357,358,359,361,362,364,365,366,368,369,371,372,373,376,377,378,380,381,383,384,385,387,388,390,391,392,394,395,397,398,399,401,402,404,405,406,408,409,411,412,413,415,416,418,419,420,422,423,425,426,427,429,430,432,433,434,437,438,439,441,442,444,445,446,448,449,451,452,453,456,457,458,461,462,463,466,467,468,470,471,473,474,475,477,478,480,481,489,491,492,494,495,496,498,499,501,502,503,505,506,508,509,510,512,513,515,516,517,519,520,522,523,524,526,527,529,530,531,533,534,536,537,538,540,541,543,544,545,547,548,550,551,552,554,555,557,558,559,560,561,562,563,573,575,576,578,579,580,582,583,585,586,587,589,590,592,593,594,596,597,599,600,601,603,604,606,607,608,610,611,613,614,615,617,618,620,621,622,623,624,625,626,636,638,639,641,642,643,645,646,648,649,650,652,653,655,656,657,659,660,662,663,664,667,668,669,670,671,672,673,683,685,686,688,689,690,692,693,695,696,697,699,700,702,703,704,706,707,709,710,711,713,714,716,717,718,720,721,723,724,725,727,728,730,731,732,734,735,737,738,739,741,742,744,745,746,748,749,751,752,753,756,757,758,760,761,763,764,765,767,768,770,771,772,774,775,777,778,779,781,782,784,785,786,789,790,791,794,795,796,797,798,799,800,803,805,806,808,809,810,817,819,820,822,823,824,826,827,829,830,831,833,834,836,837,838,840,841,843,844,845,847,848,850,851,852,854,855,857,858,859,861,862,864,865,866,868,869,871,872,873,875,876,878,879,880,882,883,885,886,887,889,890,892,893,894,896,897,899,900,901,903,904,906,907,908,910,911,913,914,915,917,918,920,921,922,924,925,927,928,929,931,932,934,935,936,938,939,941,942,943,945,946,948,949,950,952,953,955,956,957,959,960,962,963,964,966,967,969,970,971,973,974,976,977,978,979,980,983,985,986,988,989,997,999,1000,1002,1003,1004,1007,1008,1009,1012,1013,1014,1016,1017,1019,1020,1021,1023,1024,1026,1027,1028,1030,1031,1033,1034,1035,1038,1039,1040,1042,1043,1045,1046,1047,1049,1050,1052,1053,1054,1056,1057,1059,1060,1061,1063,1064,1066,1067,1068,1070,1071,1073,1074,1075,1077,1078,1080,1081,1082,1084,1085,1087,1088,1089,1092,1093,1094,1097,1098]
def pk(P:Params):List OO→Nat→List Addr→Frag
 | [],_,_=>[]
 | _::_,_,[]=>[]
 | x::l,i,a::r=>bif i == a then(a,x P)::pk P l (i+1) r else pk P l (i+1) (a::r)
def hK(P:Params):Frag:=pk P hL 0 hAs
theorem gA(P:Params):hAs=(hK P).map (·.1):=by kernel_rfl
end
theorem wsd:PySem.Challenge.rw_stillheap_k21_no_views_and_heaps_viewed.wellSaid=true:=by kernel_rfl
noncomputable section
def hTa(P:Params):BT:=mkT P 12 (stT (hL.take 15) [(3,o3),(12,o8)])
def hSa(w:World)(os:OsState):SharedT:=⟨hTa w.params,15,⟨[],[],[],0,[],[],false,(List.toArray []),[],0,false,false,false,0,[2000,10,10],false,0,true,[],[],0,false⟩,#[],⟨0,0,0,0⟩,187,os⟩
def hTb(P:Params):BT:=mkT P 12 (stT (hL.take 15) [(3,o3),(12,o8)])
def hSb(w:World)(os:OsState):SharedT:=⟨hTb w.params,15,⟨[],[],[],0,[],[],false,(List.toArray []),[],0,false,false,false,0,[2000,10,10],false,0,true,[],[],0,false⟩,#[],⟨0,0,0,0⟩,187,os⟩
def hT0(P:Params):BT:=mkT P 12 (stT (hL.take 163) [(3,o13),(12,o14),(45,o34)])
def hS0(w:World)(os:OsState):SharedT:=⟨hT0 w.params,163,⟨[],[],[],0,[],[],false,(List.toArray []),[],0,false,false,false,0,[2000,10,10],false,0,true,[],[],0,false⟩,#[],⟨0,0,0,0⟩,367,os⟩
def hT1(P:Params):BT:=mkT P 12 (stT (hL.take 310) [(3,JH),(12,JI)])
def hS1(w:World)(os:OsState):SharedT:=⟨hT1 w.params,310,⟨[],[],[],0,[],[],false,(List.toArray []),[],0,false,false,false,0,[2000,10,10],false,0,true,[],[],0,false⟩,#[],⟨0,0,0,0⟩,554,os⟩
def hT2(P:Params):BT:=mkT P 12 (stT (hL.take 629) [(3,JJ),(12,JK)])
def hS2(w:World)(os:OsState):SharedT:=⟨hT2 w.params,629,⟨[],[],[],0,[],[],false,(List.toArray []),[],0,false,false,false,0,[2000,10,10],false,0,true,[],[],0,false⟩,#[],⟨0,0,0,0⟩,959,os⟩
def hT3(P:Params):BT:=mkT P 12 (stT (hL.take 810) [(3,JL),(12,JM),(798,JN)])
def hS3(w:World)(os:OsState):SharedT:=⟨hT3 w.params,810,⟨[],[],[],0,[],[],false,(List.toArray []),[],0,false,false,false,0,[2000,10,10],false,0,true,[],[],0,false⟩,#[],⟨0,0,0,0⟩,1204,os⟩
def hT4(P:Params):BT:=mkT P 12 hL
def hS4(w:World)(os:OsState):SharedT:=⟨hT4 w.params,1099,⟨[],[],[],0,[],[],false,(List.toArray []),[],0,false,false,false,0,[2000,10,10],false,0,true,[],[],0,false⟩,#[],⟨0,0,0,0⟩,1570,os⟩
def hTf(P:Params):BT:=mkT P 12 hL
def hSf(w:World)(os:OsState):SharedT:=⟨hTf w.params,1099,⟨[],[],[],0,[],[],false,(List.toArray []),[],0,false,false,false,0,[2000,10,10],false,0,true,[],[],0,false⟩,#[],⟨0,0,0,0⟩,1570,os⟩
def y9:Env:={scope:=(PySem.Challenge.pw_stillheap_k21_no_views_and_heaps_viewed).main.scope,locals:=mainNs,globals:=mainNs,cells:=[],code:=(.ref 13),frame:=some 14}
def hG0:List Stmt:=[top 0,top 1,top 2,top 3,top 4,top 5,top 6,top 7,top 8]
def hG1:List Stmt:=[top 9,top 10,top 11,top 12,top 13,top 14,top 15,top 16,top 17,top 18]
def hG2:List Stmt:=[top 19,top 20,top 21,top 22,top 23,top 24,top 25,top 26,top 27,top 28,top 29,top 30,top 31,top 32,top 33,top 34,top 35,top 36,top 37,top 38,top 39,top 40,top 41,top 42,top 43,top 44,top 45,top 46,top 47,top 48,top 49,top 50,top 51,top 52,top 53,top 54,top 55,top 56]
def hG3:List Stmt:=[top 57,top 58,top 59,top 60,top 61]
def hG4:List Stmt:=[top 62,top 63,top 64,top 65,top 66,top 67,top 68,top 69,top 70,top 71,top 72,top 73,top 74,top 75,top 76,top 77,top 78,top 79,top 80,top 81]
def hB:List Stmt:=hG0++(hG1++(hG2++(hG3++(hG4++[]))))
def hC:Code:=.body hB y9
abbrev hF:List Frame:=[topFrame ⟨0,0,0,0⟩]
theorem Kx(w:World)(os:OsState):topGo treeTable PySem.Challenge.pw_stillheap_k21_no_views_and_heaps_viewed w 11 (.some (.ref 6)) 12 ⟨boot_heap w.params,#[],boot_drawn,boot_toks,os⟩ (topStub PySem.Challenge.pw_stillheap_k21_no_views_and_heaps_viewed)=some ((hSa w os).abs,⟨denote treeTable hC,hC,⟨0,0,0,0⟩,hF⟩):=by kernel_rfl
theorem Ky(w:World)(os:OsState):segRun treeTable PySem.Challenge.pw_stillheap_k21_no_views_and_heaps_viewed w 11 (.some (.ref 6)) 1 1 (hSa w os).abs (blockOf hB y9 hC ⟨0,0,0,0⟩ hF)=some (.next,(hSb w os).abs,hC,⟨0,0,0,0⟩):=by kernel_rfl
theorem hR0(w:World)(os:OsState):segRunT treeTable PySem.Challenge.pw_stillheap_k21_no_views_and_heaps_viewed w 11 (.some (.ref 6)) 1 1745 (hSb w os) (piecesOf hG0 y9 hC ⟨0,0,0,0⟩ hF)=some (.next,hS0 w os,hC,⟨32,0,35,29⟩):=by kernel_rfl
theorem hR1(w:World)(os:OsState):segRunT treeTable PySem.Challenge.pw_stillheap_k21_no_views_and_heaps_viewed w 11 (.some (.ref 6)) 1 1797 (hS0 w os) (piecesOf hG1 y9 hC ⟨32,0,35,29⟩ hF)=some (.next,hS1 w os,hC,⟨74,0,74,10⟩):=by kernel_rfl
theorem hR2(w:World)(os:OsState):segRunT treeTable PySem.Challenge.pw_stillheap_k21_no_views_and_heaps_viewed w 11 (.some (.ref 6)) 1 1784 (hS1 w os) (piecesOf hG2 y9 hC ⟨74,0,74,10⟩ hF)=some (.next,hS2 w os,hC,⟨280,0,280,8⟩):=by kernel_rfl
theorem hR3(w:World)(os:OsState):segRunT treeTable PySem.Challenge.pw_stillheap_k21_no_views_and_heaps_viewed w 11 (.some (.ref 6)) 1 1140 (hS2 w os) (piecesOf hG3 y9 hC ⟨280,0,280,8⟩ hF)=some (.next,hS3 w os,hC,⟨394,0,394,8⟩):=by kernel_rfl
theorem hR4(w:World)(os:OsState):segRunT treeTable PySem.Challenge.pw_stillheap_k21_no_views_and_heaps_viewed w 11 (.some (.ref 6)) 1 1508 (hS3 w os) (piecesOf hG4 y9 hC ⟨394,0,394,8⟩ hF)=some (.next,hS4 w os,hC,⟨659,0,673,45⟩):=by kernel_rfl
theorem Kz(w:World)(os:OsState):topRun treeTable PySem.Challenge.pw_stillheap_k21_no_views_and_heaps_viewed w 11 (.some (.ref 6)) 2 (hS4 w os).abs ⟨doneF .next,hC,⟨659,0,673,45⟩,hF⟩=some (hSf w os).abs:=by kernel_rfl
theorem KA(w:World)(os:OsState):topRun treeTable PySem.Challenge.pw_stillheap_k21_no_views_and_heaps_viewed w 11 (.some (.ref 6)) (12+(1+(1745+(1797+(1784+(1140+(1508+2))))))) ⟨boot_heap w.params,#[],boot_drawn,boot_toks,os⟩ (topStub PySem.Challenge.pw_stillheap_k21_no_views_and_heaps_viewed)=some (hSf w os).abs:=go_top (Kx w os) (piece_block (Ky w os) (piece_app (segRun_of (hR0 w os)) (piece_app (segRun_of (hR1 w os)) (piece_app (segRun_of (hR2 w os)) (piece_app (segRun_of (hR3 w os)) (piece_app (segRun_of (hR4 w os)) (Kz w os)))))))
def hQ:Program:={PySem.Challenge.pw_stillheap_k21_no_views_and_heaps_viewed with main:={(PySem.Challenge.pw_stillheap_k21_no_views_and_heaps_viewed).main with body:=[top 0,top 2,top 3,top 4,top 5,top 6,top 7,top 8,top 9,top 10,top 11,top 12,top 13,top 14,top 15,top 17,top 18,top 19,top 20,top 21,top 22,top 23,top 24,top 25,top 26,top 27,top 28,top 29,top 30,top 31,top 33,top 34,top 35,top 36,top 37,top 38,top 39,top 40,top 41,top 43,top 44,top 45,top 46,top 47,top 48,top 49,top 50,top 52,top 54,top 55,top 57,top 59,top 60,top 62,top 64,top 65,top 66,top 67,top 68,top 69,top 70,top 71,top 72,top 73,top 74,top 75,top 76,top 77,top 78,top 79,top 80,top 81]}}
def hLo:List Str:=[]
theorem HD(w:World):(fencedOpening treeTable PySem.Challenge.pw_stillheap_k21_no_views_and_heaps_viewed w 16064).map (λs=>(s.heap,s.gens,s.drawn,s.toks))=some (boot_heap w.params,#[],boot_drawn,boot_toks):=by kernel_rfl
theorem HE(w:World):((boot_heap w.params).isNs mainGlobals&&(#[]:Array GenState).size == 0,(boot_heap w.params).objs.size,(boot_heap w.params).nsMap mainGlobals "__annotations__")=(true,11,((.some (.ref 6)):Option Value)):=by kernel_rfl
abbrev hXt(s:Shared):Bool:=xlAt hQ [] s&&recOk (RowW.records (OpenRow.toRowW (OpenLaw.row PySem.Challenge.rw_stillheap_k21_no_views_and_heaps_viewed))) s
abbrev hFH(w:World):Heap:=(absHeap (hTf w.params) 1099 ⟨[],[],[],0,[],[],false,(List.toArray []),[],0,false,false,false,0,[2000,10,10],false,0,true,[],[],0,false⟩)
abbrev hFS(w:World)(os:OsState):Shared:=⟨hFH w,#[],⟨0,0,0,0⟩,1570,os⟩
theorem hK1(w:World)(os:OsState):staticsOk (importedModules (PySem.Challenge.pw_stillheap_k21_no_views_and_heaps_viewed).main.body) (boot_heap w.params) (hFH w)=true:=by kernel_rfl
theorem hK2(w:World)(os:OsState):namesBound PySem.Challenge.pw_stillheap_k21_no_views_and_heaps_viewed (hFH w)=true:=by kernel_rfl
theorem hK3(w:World)(os:OsState):gensDone (hFS w os)=true:=by kernel_rfl
theorem hK4(w:World)(os:OsState):laidKept (boot_heap w.params) (hFH w)=true:=by kernel_rfl
theorem hK5(w:World)(os:OsState):openSeen hQ hLo (importedModules (PySem.Challenge.pw_stillheap_k21_no_views_and_heaps_viewed).main.body) hXt true (hFS w os)=openGood hQ hLo:=by kernel_rfl
theorem hK6(w:World)(os:OsState):Hook.obs (kHook hK hAs gA) (hFS w os)=Hook.val (kHook hK hAs gA) w:=by kernel_rfl
theorem Eb(w:World):(λos:OsState=>((staticsOk (importedModules (PySem.Challenge.pw_stillheap_k21_no_views_and_heaps_viewed).main.body) (boot_heap w.params) (hFH w)&&namesBound PySem.Challenge.pw_stillheap_k21_no_views_and_heaps_viewed (hFH w)&&gensDone (hFS w os)&&laidKept (boot_heap w.params) (hFH w)),
  openSeen hQ hLo (importedModules (PySem.Challenge.pw_stillheap_k21_no_views_and_heaps_viewed).main.body) hXt true (hFS w os),Hook.obs (kHook hK hAs gA) (hFS w os)))=λ_=>(true,openGood hQ hLo,Hook.val (kHook hK hAs gA) w):=by
 funext os
 rw[hK1 w os,hK2 w os,hK3 w os,hK4 w os,hK5 w os,hK6 w os];rfl
theorem HG:LeftO PySem.Challenge.pw_stillheap_k21_no_views_and_heaps_viewed hQ hLo hXt (Hook.obs (kHook hK hAs gA)) (Hook.val (kHook hK hAs gA)) 16064 :=
 LeftO.of_pieces (H₁:=λP=>absHeap (hTf P) 1099 ⟨[],[],[],0,[],[],false,(List.toArray []),[],0,false,false,false,0,[2000,10,10],false,0,true,[],[],0,false⟩) HD HE KA (by rfl) Eb
end
end K21
end
section
namespace L2
open PySem PySem.Spec PyProof.Rows
section
variable{κ:Type}[DecidableEq κ]
def cC(kvs:List (κ×V))(k:κ):Option V:=(kvs.find? λkv=>decide (kv.1=k)).map (·.2)
def putK(kvs:List (κ×V))(k:κ)(v:V):List (κ×V) :=
  if(kvs.any λkv=>decide (kv.1=k))=true then kvs.map (λkv=>if kv.1=k then(kv.1,v) else kv) else kvs++[(k,v)]
def iQ(kvs:List (κ×V))(k:κ):List (κ×V):=kvs.filter λkv=>decide (kv.1≠k)
theorem eE{p:κ×V}{r:List (κ×V)}{k:κ}(e:p.1=k):cC (p::r) k=some p.2:=by simp[cC,MM,e]
theorem eF{p:κ×V}{r:List (κ×V)}{k:κ}(e:¬p.1=k):cC (p::r) k=cC r k:=by simp[cC,MM,e]
theorem ju(k:κ):∀ kvs:List (κ×V),(kvs.any λkv=>decide (kv.1=k))=(cC kvs k).isSome
  | []=>rfl
  | p::r=>by
    rw[M8];by_cases e:p.1=k
    · simp only[eE e,decide_eq_true e,Bool.true_or,Option.isSome_some]
    · rw[eF e,decide_eq_false e,Bool.false_or];exact ju k r
theorem nW(kvs:List (κ×V))(k:κ)(v:V):(putK kvs k v).length≤kvs.length+1:=by
  unfold putK;split
  · rw[Lp];omega
  · rw[Lw,Ma,List.length_nil];omega
theorem dM{kvs:List (κ×V)}{k:κ}(v:V)(h:cC kvs k=none):putK kvs k v=kvs++[(k,v)]:=by
  unfold putK;rw[ju,h];exact if_neg (by decide)
theorem mj.fI{o:Option V}{u:Option Value}(r:mj o u):o.isSome=u.isSome:=by
  cases o with
  | none=>cases u with
    | none=>rfl
    | some _=>exact(show False from r).elim
  | some _=>cases u with
    | none=>exact(show False from r).elim
    | some _=>rfl
theorem KV.val{kvs:List (κ×V)}{vs:List (κ×Value)}(r:KV kvs vs)(k:κ):mj (cC kvs k) (valueAt vs k):=by
  unfold KV at r;induction r with
  | nil=>exact True.intro
  | @cons p q ps qs h t ih =>
    obtain⟨h1,h2⟩:=h;by_cases e:p.1=k
    · have e':q.1=k:=h1.symm.trans e
      have b:valueAt (q::qs) k=some q.2:=(by simp[valueAt,MM,e']);rw[eE e,b];exact h2
    · have e':¬q.1=k:=λz=>e (h1.trans z)
      have b:valueAt (q::qs) k=valueAt qs k:=(by simp[valueAt,MM,e']);rw[eF e,b];exact ih
theorem KV.any{kvs:List (κ×V)}{vs:List (κ×Value)}(r:KV kvs vs)(k:κ):(kvs.any λkv=>decide (kv.1=k))=vs.any λkv=>decide (kv.1=k):=by
  unfold KV at r;induction r with
  | nil=>rfl
  | cons h t ih=>rw[M8,M8,ih,h.1]
theorem KV.G4{kvs:List (κ×V)}{vs:List (κ×Value)}(r:KV kvs vs)(k:κ){y:V}{u:Value}(ry:RelV y u) :
    KV (kvs.map λkv=>if kv.1=k then(kv.1,y) else kv) (vs.map λkv=>if kv.1=k then(kv.1,u) else kv):=by
  unfold KV at r ⊢;induction r with
  | nil=>exact .nil
  | @cons p q ps qs h t ih =>
    rw[L1,L1];refine .cons ?_ ih;obtain⟨h1,h2⟩:=h;by_cases e:p.1=k
    · rw[if_pos e,if_pos (h1.symm.trans e)];exact⟨h1,ry⟩
    · rw[if_neg e,if_neg (λz=>e (h1.trans z))];exact⟨h1,h2⟩
theorem KV.put{kvs:List (κ×V)}{vs:List (κ×Value)}(r:KV kvs vs)(k:κ){y:V}{u:Value}(ry:RelV y u):KV (putK kvs k y) (stored vs k u):=by
  unfold putK stored;rw[r.any k];by_cases e:(vs.any λkv=>decide (kv.1=k))=true
  · rw[if_pos e,if_pos e];exact r.G4 k ry
  · rw[if_neg e,if_neg e];exact Paired.snoc r ⟨rfl,ry⟩
theorem KV.drop{kvs:List (κ×V)}{vs:List (κ×Value)}(r:KV kvs vs)(k:κ):KV (iQ kvs k) (without vs k):=by
  unfold KV at r ⊢;unfold iQ without;induction r with
  | nil=>exact .nil
  | @cons p q ps qs h t ih =>
    obtain⟨h1,h2⟩:=h;rw[List.filter_cons,List.filter_cons];by_cases e:p.1=k
    · have a:¬decide (p.1≠k)=true:=by simp[e]
      have b:¬decide (q.1≠k)=true:=(by simp[h1.symm.trans e]);rw[if_neg a,if_neg b];exact ih
    · have e':¬q.1=k:=λz=>e (h1.trans z)
      have a:decide (p.1≠k)=true:=(by simp[e]);have b:decide (q.1≠k)=true:=(by simp[e']);rw[if_pos a,if_pos b];exact .cons ⟨h1,h2⟩ ih
theorem KV.keys{kvs:List (κ×V)}{vs:List (κ×Value)}(r:KV kvs vs):kvs.map (·.1)=vs.map (·.1):=by
  unfold KV at r;induction r with
  | nil=>rfl
  | cons h t ih=>rw[L1,L1,ih,h.1]
theorem KV.length{kvs:List (κ×V)}{vs:List (κ×Value)}(r:KV kvs vs):kvs.length=vs.length:=Paired.length r
theorem zq(kvs:List (κ×V))(k:κ):(iQ kvs k).length≤kvs.length:=MA _ _
end
theorem rj{P:Program}{w:World}{k:Key}{u:Value}(r:RelV (kV k) u):(aR P w).is k u=true:=by
  cases k with
  | inl i=>obtain⟨t,e⟩:=(show ∃ t,u=Value.int i t from r);subst e;exact tW P w i t
  | inr x=>obtain⟨t,e⟩:=(show ∃ t,u=Value.str x t from r);subst e;exact tX P w x t
theorem rH{P:Program}{w:World}:∀ {ks:List Key} {us:List Value},Vals (ks.map kV) us→ItemsAre (aR P w) ks us
  | [],_,r=>by rw[ML]at r;cases r;exact .nil
  | k::ks,_,r=>by
    rw[L1]at r;cases r with
    | cons h t=>exact .cons (rj h) (rH t)
abbrev KT(H:Hp):List (List Key×V)→List (List Key×Addr×Value)→Prop:=Paired λp q=>p.1=q.1∧H q.2.1=some (.tup (p.1.map kV))∧RelV p.2 q.2.2
theorem KT.val{H:Hp}{kvs:List (List Key×V)}{xs:List (List Key×Addr×Value)}(r:KT H kvs xs)(k:List Key):mj (cC kvs k) ((atKey xs k).map (·.2)):=by
  induction r with
  | nil=>exact True.intro
  | @cons p q ps qs h t ih =>
    obtain⟨h1,_,h2⟩:=h;by_cases e:p.1=k
    · have e':q.1=k:=h1.symm.trans e
      have b:atKey (q::qs) k=some q.2:=(by simp[atKey,MM,e']);rw[eE e,b];exact h2
    · have e':¬q.1=k:=λz=>e (h1.trans z)
      have b:atKey (q::qs) k=atKey qs k:=(by simp[atKey,MM,e']);rw[eF e,b];exact ih
theorem KT.G4{H:Hp}{kvs:List (List Key×V)}{xs:List (List Key×Addr×Value)}(r:KT H kvs xs)(k:List Key){y:V}{u:Value}(ry:RelV y u) :
    KT H (kvs.map λkv=>if kv.1=k then(kv.1,y) else kv) (xs.map (putAt k u)):=by
  induction r with
  | nil=>exact .nil
  | @cons p q ps qs h t ih =>
    rw[L1,L1];refine .cons ?_ ih;obtain⟨h1,h2,h3⟩:=h;unfold putAt;by_cases e:p.1=k
    · rw[if_pos e,if_pos (h1.symm.trans e)];exact⟨h1,h2,ry⟩
    · rw[if_neg e,if_neg (λz=>e (h1.trans z))];exact⟨h1,h2,h3⟩
theorem KT.put{H:Hp}{kvs:List (List Key×V)}{xs:List (List Key×Addr×Value)}(r:KT H kvs xs)(k:List Key){b:Addr}{y:V}{u:Value}(hb:H b=some (.tup (k.map kV)))(ry:RelV y u) :
    KT H (putK kvs k y) (storedH xs k b u):=by
  have e:(kvs.any λkv=>decide (kv.1=k))=(atKey xs k).isSome:=by
    rw[ju,(r.val k).fI,ME]
  unfold putK storedH;rw[e];by_cases q:(atKey xs k).isSome=true
  · rw[if_pos q,if_pos q];exact r.G4 k ry
  · rw[if_neg q,if_neg q];exact Paired.snoc r ⟨rfl,hb,ry⟩
theorem KT.keeps{H H':Hp}{kvs:List (List Key×V)}{xs:List (List Key×Addr×Value)}(r:KT H kvs xs)(ht:∀ b ys,H b=some (.tup ys)→H' b=some (.tup ys)):KT H' kvs xs :=
  Paired.EY r λ_ _ z=>⟨z.1,ht _ _ z.2.1,z.2.2⟩
section
variable{P:Program}{w:World}{H:Hp}{h:Heap}{a:Addr}
theorem Dx{u:HO}(ok:HOk P w H h)(e:Rd H a u):bJ P w H h a u:=e.ok ok
theorem ip{kvs:List (Key×V)}(ok:HOk P w H h)(e:Rd H a (.dK kvs)):kvs.length≤sizeLine∧(a == sysModules)=false∧∃ vs,KV kvs vs∧h.DictOf (aR P w) a vs :=
  show bJ P w H h a (.dK kvs) from Dx ok e
theorem BD{kvs:List (Key×V)}(ok:HOk P w H h)(e:H a=some (.dK kvs)):kvs.length≤sizeLine∧(a == sysModules)=false∧∃ vs,KV kvs vs∧h.DictOf (aR P w) a vs:=ip ok (.inl e)
theorem qL{ks:List Key}(ok:HOk P w H h)(e:H a=some (.tup (ks.map kV))):(tupleKind (aR P w)).is h ks a:=by
  obtain⟨_,its,r,o,h1,h2,n,h3⟩:=(show bJ P w H h a (.tup (ks.map kV)) from ok a _ e);exact⟨o,its.toArray,n,h1,h2,h3,by simpa using rH r⟩
theorem tP{kvs:List (List Key×V)}(ok:HOk P w H h)(e:Rd H a (.dT kvs)):kvs.length≤sizeLine∧(a == sysModules)=false ∧
    ∃ xs,KT H kvs xs∧h.DictOfH (tupleKind (aR P w)) a xs:=by
  obtain⟨z,y,xs,r,o,es,ep,h1,h2,h3,h4,h5⟩:=(show bJ P w H h a (.dT kvs) from Dx ok e);refine⟨z,y,xs,r,o,es,ep,h1,h2,h3,h4,λx hx=>?_,h5⟩;have all:∀ {l:List (List Key×V)} {m:List (List Key×Addr×Value)},KT H l m→∀ x∈m,(tupleKind (aR P w)).is h x.1 x.2.1:=by
    intro l m q;induction q with
    | nil=>intro x hx;exact nomatch hx
    | @cons p q ps qs hq t ih =>
      intro x hx;rcases LQ.mp hx with e|hx
      · subst e
        exact qL ok (by rw[←hq.1];exact hq.2.1)
      · exact ih x hx
  exact all r x hx
theorem HH{kvs:List (List Key×V)}(ok:HOk P w H h)(e:H a=some (.dT kvs)):kvs.length≤sizeLine∧(a == sysModules)=false ∧
    ∃ xs,KT H kvs xs∧h.DictOfH (tupleKind (aR P w)) a xs:=tP ok (.inl e)
end
def eG(H:Hp)(a:Addr)(y:V)(r:Option V):Prop :=
  (∃ kvs k,Rd H a (.dK kvs)∧y=kV k∧r=cC kvs k)∨∃ kvs k b,Rd H a (.dT kvs)∧y=.ref b∧H b=some (.tup (k.map kV))∧r=cC kvs k
def jS(H:Hp)(a:Addr)(y v:V)(H':Hp):Prop :=
  (∃ kvs k,H a=some (.dK kvs)∧y=kV k∧kvs.length<sizeLine∧H'=upd H a (.dK (putK kvs k v))) ∨
  ∃ kvs k b,H a=some (.dT kvs)∧y=.ref b∧H b=some (.tup (k.map kV))∧kvs.length<sizeLine∧H'=upd H a (.dT (putK kvs k v))
theorem eG.k{H:Hp}{a:Addr}{kvs:List (Key×V)}{k:Key}(e:H a=some (.dK kvs)):eG H a (kV k) (cC kvs k):=.inl ⟨kvs,k,.inl e,rfl,rfl⟩
theorem jS.k{H:Hp}{a:Addr}{kvs:List (Key×V)}{k:Key}{v:V}(e:H a=some (.dK kvs))(hl:kvs.length<sizeLine):jS H a (kV k) v (upd H a (.dK (putK kvs k v))):=.inl ⟨kvs,k,e,rfl,hl,rfl⟩
section
variable{X:Cx}{pins:List (Addr×Obj)}{σ:St}{H:Hp}{s:Shared}{a:Addr}{y v:V}{u r:Value}{o:Option V}{A:Around}{E:Value→Shared→Prop}
theorem Inv.big(I:Inv X pins σ H s):sysModules<s.heap.objs.size:=by
  have h:mainGlobals<s.heap.objs.size:=(I.mod.glob.keeps I.bk).lt;exact Nat.lt_trans (by decide) h
theorem xY{Q:Value→Shared→Prop}(hu:A.units+1<cLine)(I:Inv X pins σ H s)(g:eG H a y (some v))(ry:RelV y u)(h:∀ w' s',Inv X pins σ H s'→RelV v w'→Q w' s') :
    wpAny (model X.prog X.w) A (getItem (.ref a) u) Q E s:=by
  rcases g with⟨kvs,k,e,ey,l⟩|⟨kvs,k,b,e,ey,eb,l⟩
  · subst ey
    obtain⟨z,hd,vs,rel,dd⟩:=ip I.hok e;obtain⟨w',hw,rw'⟩:=mj.some_of (v:=v) (o:=valueAt vs k) (by rw[l];exact rel.val k);exact wpAny_getItem_of (rj ry) dd.mapOf hw (h w' _ (I.tok _) rw')
  · subst ey
    cases (show u=Value.ref b from ry);obtain⟨z,hd,xs,rel,dd⟩:=tP I.hok e;obtain⟨w',hw,rw'⟩:=mj.some_of (v:=v) (o:=(atKey xs k).map (·.2)) (by rw[l];exact rel.val k);obtain⟨p,hp,hp2⟩:=LG.mp hw;refine wpAny_getItem_heap (tupleKind_room_in1 hu) (qL I.hok eb) dd hp ?_;rw[hp2];exact h w' _ (I.tok _) rw'
theorem KC{Q:Value→Shared→Prop}(hu:A.units+1<cLine)(I:Inv X pins σ H s)(g:eG H a y o)(ry:RelV y u)(h:∀ s',Inv X pins σ H s'→Q (.bool o.isSome) s') :
    wpAny (model X.prog X.w) A (compareOp .In u (.ref a)) Q E s:=by
  rcases g with⟨kvs,k,e,ey,l⟩|⟨kvs,k,b,e,ey,eb,l⟩
  · subst ey
    obtain⟨z,hd,vs,rel,dd⟩:=ip I.hok e;refine wpAny_in_of (rj ry) hd dd.mapOf ?_;rw[←(rel.val k).fI,←l];exact h _ (I.tok _)
  · subst ey
    cases (show u=Value.ref b from ry);obtain⟨z,hd,xs,rel,dd⟩:=tP I.hok e;refine wpAny_in_heap (tupleKind_room_in1 hu) (qL I.hok eb) hd dd ?_;have q:=(rel.val k).fI;rw[ME]at q;rw[←q,←l];exact h _ (I.tok _)
theorem B8{Q:Value→Shared→Prop}(hu:A.units+1<cLine)(I:Inv X pins σ H s)(g:eG H a y o)(ry:RelV y u)(h:∀ s',Inv X pins σ H s'→Q (.bool (!o.isSome)) s') :
    wpAny (model X.prog X.w) A (compareOp .NotIn u (.ref a)) Q E s:=by
  rcases g with⟨kvs,k,e,ey,l⟩|⟨kvs,k,b,e,ey,eb,l⟩
  · subst ey
    obtain⟨z,hd,vs,rel,dd⟩:=ip I.hok e;refine wpAny_notIn_of (rj ry) hd dd.mapOf ?_;rw[←(rel.val k).fI,←l];exact h _ (I.tok _)
  · subst ey
    cases (show u=Value.ref b from ry);obtain⟨z,hd,xs,rel,dd⟩:=tP I.hok e;refine wpAny_notIn_heap (tupleKind_room_in1 hu) (qL I.hok eb) hd dd ?_;have q:=(rel.val k).fI;rw[ME]at q;rw[←q,←l];exact h _ (I.tok _)
theorem tD{h':Heap}{t':Nat}{ob:HO}(I:Inv X pins σ H s)(mu:Mut (H a))(hs:Heap.SameBut a s.heap h')(he:∃ q,h'.get? a=some q)(new:bJ X.prog X.w (upd H a ob) h' a ob) :
    Inv X pins σ (upd H a ob) {s with heap:=h',toks:=t'} :=
  I.write (x:=a) (e:=a) mu (.inl rfl) (λb q hb z=>(hs.2 b hb).trans z) he new
theorem wm{P:Program}{w:World}{H':Hp}{h':Heap}{kvs:List (Key×V)}{vs:List (Key×Value)}(z:kvs.length≤sizeLine)(hd:(a == sysModules)=false)(rel:KV kvs vs)(dd:h'.DictOf (aR P w) a vs) :
    bJ P w H' h' a (.dK kvs):=⟨z,hd,vs,rel,dd⟩
theorem xZ{H':Hp}{Q:Unit→Shared→Prop}(hu:A.units+1<cLine)(I:Inv X pins σ H s)(g:jS H a y v H')(ry:RelV y u)(rv:RelV v r)(h:∀ s',Inv X pins σ H' s'→Q () s') :
    wpAny (model X.prog X.w) A (setItem (.ref a) u r) Q E s:=by
  rcases g with⟨kvs,k,e,ey,l,eH⟩|⟨kvs,k,b,e,ey,eb,l,eH⟩
  · subst ey eH
    obtain⟨z,hd,vs,rel,dd⟩:=BD I.hok e;have hz:vs.length≤sizeLine:=(by rw[←rel.length];exact z);have hl:(putK kvs k v).length≤sizeLine:=(by have:=nW kvs k v;omega);refine wpAny_setItem_pairs (hsz:=hz) (rj ry) dd λh' dd' hs=>h _ ?_;have he:∃ q,h'.get? a=some q:=let ⟨q,_,_,hq,_⟩:=dd';⟨q,hq⟩;exact tD I (by rw[e];exact True.intro) hs he (wm hl hd (rel.put k rv) dd')
  · subst ey eH
    cases (show u=Value.ref b from ry);obtain⟨z,hd,xs,rel,dd⟩:=HH I.hok e;have hz:xs.length≤sizeLine:=(by rw[←Paired.length rel];exact z);have hl:(putK kvs k v).length≤sizeLine:=(by have:=nW kvs k v;omega);refine wpAny_setItem_heap (hsz:=hz) (tupleKind_room_in1 hu) (qL I.hok eb) dd λh' dd' hs=>h _ ?_;obtain⟨q,es,ep,hq,h2,h3,h4,_,h5⟩:=dd';refine tD I (by rw[e];exact True.intro) hs ⟨q,hq⟩ ⟨hl,hd,_,(rel.put k eb rv).keeps λc ys ec=>?_,q,es,ep,hq,h2,h3,h4,h5⟩;rw[ak (bI ec e (λz=>nomatch z))];exact ec
end
section
variable{X:Cx}{pins:List (Addr×Obj)}{σ:St}{H:Hp}{s:Shared}{a:Addr}{kvs:List (Key×V)}{k:Key}{u:Value}{A:Around}{E:Value→Shared→Prop}
theorem HI{v:V}{more:List Value}{Q:Value→Shared→Prop}(I:Inv X pins σ H s)(e:H a=some (.dK kvs))(ry:RelV (kV k) u)(l:cC kvs k=some v)(hm:more=[]∨∃ x,more=[x])
    (h:∀ w' s',Inv X pins σ (upd H a (.dK (iQ kvs k))) s'→RelV v w'→Q w' s'):wpAny (model X.prog X.w) A (call (.builtin "dict.pop") (.ref a::u::more)) Q E s:=by
  obtain⟨z,hd,vs,rel,dd⟩:=BD I.hok e;obtain⟨w',hw,rw'⟩:=mj.some_of (v:=v) (o:=valueAt vs k) (by rw[←l];exact rel.val k);have hp:(keyPart u).isSome=true:=by
    cases k with
    | inl i=>obtain⟨t,q⟩:=(show ∃ t,u=Value.int i t from ry);subst q;rfl
    | inr x=>obtain⟨t,q⟩:=(show ∃ t,u=Value.str x t from ry);subst q;rfl
  have ha:argsOk "dict.pop" ⟨.ref a::u::more,[]⟩:=by
    rcases hm with q|⟨x,q⟩
    · subst q;exact PySem.F.args_dict_pop_2 _ _
    · subst q;exact PySem.F.args_dict_pop_3 _ _ _
  refine call_meetsIn PySem.F.slot_dict_pop dd.typeIs PySem.F.entry_dict_pop ha (meets_dict_pop_there (aR X.prog X.w) a (rj ry) more hm hp)
    ⟨vs,w',dd,by rw[←rel.length];exact z,hw,λh' dd' hs=>h w' _ ?_ rw'⟩
  have he:∃ q,h'.get? a=some q:=let ⟨q,_,_,hq,_⟩:=dd';⟨q,hq⟩;exact tD I (by rw[e];exact True.intro) hs he (wm (LL (zq kvs k) z) hd (rel.drop k) dd')
theorem HJ{Q:Value→Shared→Prop}(I:Inv X pins σ H s)(e:Rd H a (.dK kvs))(h:∀ t s',Inv X pins σ H s'→Q (.int kvs.length t) s'):wpAny (model X.prog X.w) A (call (.builtin "len") [.ref a]) Q E s:=by
  obtain⟨z,hd,vs,rel,dd⟩:=ip I.hok e;refine call_len_dict hd dd (by rw[←rel.length];rw[sizeLine_eq]at z;omega) ?_;rw[←rel.length];exact h _ _ (I.tok _)
end
def IT(i:Expr):Prop:=∀ ov iv,subscripted i false ov iv=operate [ov,iv] (getItem ov iv)
theorem B9{prog:Program}{w:World}{A:Around}{E:Value→Shared→Prop}{s:Shared}{env:Env}{value slice:Expr}{pos:Pos}{T id:String}{Q:Value→Shared→Prop}
    (hl:typeLookup (.type T) "__getitem__" = pure (some (.builtin id))) (hs:IT slice)
    (h:wpAny (model prog w) A (eval value env) (λo s₁=>wpAny (model prog w) A (eval slice env) (λi s₂=>s₂.TypeIs o T∧wpAny (model prog w) A (getItem o i) Q E s₂) E s₁) E s) :
    wpAny (model prog w) A (eval (.Subscript value slice pos) env) Q E s:=by
  refine Subscript_ (wpAny_mono h (λo s₁ h₁=>wpAny_mono h₁ (λi s₂ h₂=>?_) λ_ _ x=>x) λ_ _ x=>x);obtain⟨hT,h₂⟩:=h₂;unfold subscriptTail;refine wpAny_bind ?_;rw[getitemInPython_of_ne hT.not_modules];refine wpAny_bind (wpAny_specialOf hT hl ?_);have fin:wpAny (model prog w) A (subscripted slice false o i) (λr s₃=>wpAny (model prog w) A (letTemporaryGo value o r >>= λ_=>pure r) Q E s₃) E s₂:=by
    rw[hs o i];exact wpAny_operating (wpAny_mono h₂ (λr s₃ h₃=>wpAny_bind (wpAny_letTemporaryGo (wpAny_pure h₃))) λ_ _ x=>x)
  first
    | exact wpAny_pure (wpAny_bind fin)
    | exact wpAny_bind (wpAny_pure (wpAny_bind fin))
    | exact wpAny_bind fin
theorem t9{X:Cx}{pins:List (Addr×Obj)}{σ:St}{H:Hp}{s:Shared}{a:Addr}{y:V}{o:Option V}(I:Inv X pins σ H s)(g:eG H a y o):s.TypeIs (.ref a) "dict" := by
  rcases g with⟨kvs,k,e,_,_⟩|⟨kvs,k,b,e,_,_,_⟩
  · obtain⟨_,_,vs,_,dd⟩:=ip I.hok e
    exact dd.typeIs
  · obtain⟨_,_,xs,_,dd⟩:=tP I.hok e
    exact dd.typeIs
def HK(td ty:TE):TE:=λσ H Q=>td σ H λx H1=>ty σ H1 λy H2=>∃ a v,x=.ref a∧eG H2 a y (some v)∧Q v H2
def KD(ty td:TE):TE:=λσ H Q=>ty σ H λy H1=>td σ H1 λx H2=>∃ a o,x=.ref a∧eG H2 a y o∧Q (.bl o.isSome) H2
def Ca(ty td:TE):TE:=λσ H Q=>ty σ H λy H1=>td σ H1 λx H2=>∃ a o,x=.ref a∧eG H2 a y o∧Q (.bl (!o.isSome)) H2
def HL(td ty tv:TE):TS:=λD σ H=>tv σ H λv H1=>td σ H1 λx H2=>ty σ H2 λy H3=>∃ a H4,x=.ref a∧jS H3 a y v H4∧D.nx σ H4
section
variable{X:Cx}{o i e value:Expr}{pos pos' E5:Pos}{td ty tv:TE}
theorem bU(hu:X.A.units+1<cLine)(ho:PE X o td)(hi:PE X i ty)(hs:IT i):PE X (.Subscript o i pos) (HK td ty):=by
  intro pins s σ H Q I h;refine B9 PySem.F.slot_dict_getitem.lookup hs (thn (ho pins s σ H _ I h) λu s1 ⟨x,H1,I1,rx,q1⟩=>thn (hi pins s1 σ H1 _ I1 q1) λiv s2 ⟨y,H2,I2,ry,a,v,ex,g,q2⟩=>?_);subst ex;obtain rfl:u=Value.ref a:=rx;exact⟨t9 I2 g,xY hu I2 g ry λw' s3 I3 rw'=>⟨v,H2,I3,rw',q2⟩⟩
theorem wq(hu:X.A.units+1<cLine)(hi:PE X i ty)(ho:PE X o td):PC X .In i o (KD ty td):=by
  intro pins s σ H Q I h;refine thn (hi pins s σ H _ I h) λiv s1 ⟨y,H1,I1,ry,q1⟩=>thn (ho pins s1 σ H1 _ I1 q1) λu s2 ⟨x,H2,I2,rx,a,ov,ex,g,q2⟩=>?_;subst ex;obtain rfl:u=Value.ref a:=rx;exact KC hu I2 g ry λs3 I3=>⟨.bl ov.isSome,H2,I3,rfl,q2⟩
theorem bo(hu:X.A.units+1<cLine)(hi:PE X i ty)(ho:PE X o td):PC X .NotIn i o (Ca ty td):=by
  intro pins s σ H Q I h;refine thn (hi pins s σ H _ I h) λiv s1 ⟨y,H1,I1,ry,q1⟩=>thn (ho pins s1 σ H1 _ I1 q1) λu s2 ⟨x,H2,I2,rx,a,ov,ex,g,q2⟩=>?_;subst ex;obtain rfl:u=Value.ref a:=rx;exact B8 hu I2 g ry λs3 I3=>⟨.bl (!ov.isSome),H2,I3,rfl,q2⟩
theorem bY(hu:X.A.units+1<cLine)(ho:PE X o td)(hi:PE X i ty)(hv:PE X value tv)(hs:swapsWith value (some (.Subscript o i pos')) pos.line X.env=pure false) :
    PS X (.Assign [.Subscript o i pos'] value pos) (HL td ty tv):=by
  intro pins s σ H D I h;refine wpAny_Assign_Subscript (thn (hv pins s σ H _ I h) λr s1 ⟨v,H1,I1,rv,q1⟩=>thn (ho pins s1 σ H1 _ I1 q1) λu s2 ⟨x,H2,I2,rx,q2⟩=>thn (hi pins s2 σ H2 _ I2 q2) λiv s3 ⟨y,H3,I3,ry,a,H4,ex,g,q3⟩=>?_) hs;subst ex;obtain rfl:u=Value.ref a:=rx;exact xZ hu I3 g ry rv λs4 I4=>⟨σ,H4,I4,q3⟩
end
theorem zu{P:Program}{w:World}{H:Hp}(h:Heap)(hb:sysModules<h.objs.size):bJ P w H (h.push {cls:=.type "dict",data:=.dict #[]}) h.objs.size (.dK []) :=
  ⟨L8 _,beq_eq_false_iff_ne.mpr (L4 (LN hb)),[],.nil,Heap.DictOf.new h⟩
def Ec:TE:=λ_ H Q=>∀ p,H p=none→Q (.ref p) (upd H p (.dK []))
section
variable{X:Cx}{pos:Pos}
theorem bQ:PE X (.Dict [] [] pos) Ec:=λpins s σ H Q I h =>
  wpAny_Dict_empty ⟨.ref s.heap.objs.size,_,I.laid (a:=s.heap.objs.size) (o:=.dK []) (t':=s.toks) (λ_ _ q=>Lx _ q) (Lu _) (zu s.heap I.big),rfl,h _ (I.hok.fresh (Lu _))⟩
end
structure M1(X:Cx)(o:Expr)(m:Str)(apos:Pos)(e:Expr)(pq:Pos):Prop where
  base:attributeBase o m X.env (eval o X.env)=eval o X.env
  few:((backTo pq (starEach [e] X.env)).all (λx=>!x.1)&&(backToKw pq (keywordEach [] X.env)).all (λx=>x.1.isSome)
    && decide (([e]:List Expr).length+([]:List Keyword).length+(if([]:List Keyword).isEmpty then 0 else 1)<30))=true
  line:(apos.endLine == pq.line)=true
  trees:backTo pq (starEach [e] X.env)=[(false,eval e X.env)]
def IsD(H:Hp)(a:Addr):Prop:=(∃ kvs,Rd H a (.dK kvs))∨∃ kvs,Rd H a (.dT kvs)
theorem Ed{X:Cx}{pins:List (Addr×Obj)}{σ:St}{H:Hp}{s:Shared}{a:Addr}(I:Inv X pins σ H s)(d:IsD H a) :
    s.TypeIs (.ref a) "dict" ∧ (∀ b,Value.ref a=.ref b→∃ ob,s.heap.get? b=some ob∧ob.dict=none)∧(a == sysModules)=false:=by
  rcases d with⟨kvs,e⟩|⟨kvs,e⟩
  · obtain⟨_,hd,vs,_,dd⟩:=ip I.hok e
    refine⟨dd.typeIs,λb q=>?_,hd⟩;cases q;obtain⟨ob,_,_,h1,h2,_⟩:=dd;exact⟨ob,h1,h2.2.1⟩
  · obtain⟨_,hd,xs,_,dd⟩:=tP I.hok e
    refine⟨dd.typeIs,λb q=>?_,hd⟩;cases q;obtain⟨ob,_,_,h1,h2,_⟩:=dd;exact⟨ob,h1,h2.2.1⟩
section
variable{X:Cx}{pins:List (Addr×Obj)}{σ:St}{H:Hp}{s:Shared}{a:Addr}{y d:V}{u r:Value}{o:Option V}{A:Around}{E:Value→Shared→Prop}
end
def Ee(td ty:TE):TE:=λσ H Q=>td σ H λx H1=>∃ a,x=.ref a∧IsD H1 a∧ty σ H1 λy H2=>∃ kvs k v,H2 a=some (.dK kvs)∧y=kV k∧cC kvs k=some v∧Q v (upd H2 a (.dK (iQ kvs k)))
section
variable{X:Cx}{o e f:Expr}{apos pq:Pos}{td ty tx:TE}
theorem qw(ho:PE X o td)(he:PE X e ty)(m:M1 X o "pop" apos e pq):PE X (.Call (.Attribute o "pop" apos) [e] [] pq) (Ee td ty):=by
  intro pins s σ H Q I h;refine wpAny_Call_method m.base m.few m.line PySem.F.plainAttrs_dict PySem.F.slot_dict_pop PySem.F.type_dict_pop (thn (ho pins s σ H _ I h) λu s1 ⟨x,H1,I1,rx,a,ex,d,q1⟩=>?_);subst ex;obtain rfl:u=Value.ref a:=rx;obtain⟨t1,t2,_⟩:=Ed I1 d;refine⟨t1,t2,?_⟩;rw[m.trees];refine Calls.callWith_builtin rfl (Calls.evalArgs_plain (MY (thn (he pins s1 σ H1 _ I1 q1) λiv s2 ⟨y,H2,I2,ry,kvs,k,v,ea,ey,l,q2⟩=>Nb ?_)));subst ey;exact HI I2 ea ry l (.inl rfl) λw' s3 I3 rw'=>⟨v,_,I3,rw',q2⟩
end
section
variable{X:Cx}{pins:List (Addr×Obj)}{σ:St}{H:Hp}{s:Shared}{a:Addr}{kvs:List (Key×V)}{A:Around}{E:Value→Shared→Prop}
theorem zw{Q:Value→Shared→Prop}(I:Inv X pins σ H s)(e:Rd H a (.dK kvs))(h:∀ p s',H p=none→Inv X pins σ (upd H p (.dK kvs)) s'→Q (.ref p) s'):wpAny (model X.prog X.w) A (call (.type "dict") [.ref a]) Q E s:=by
  obtain⟨z,hd,vs,rel,dd⟩:=ip I.hok e;refine kt_call_dict hd dd (by rw[←rel.length];exact z) λh' dd' hs=>?_;refine h _ _ (I.hok.fresh (Lu _)) (I.laid (a:=s.heap.objs.size) (o:=.dK kvs) (t':=s.toks) (λb q hq=>?_) (Lu _) (wm z (beq_eq_false_iff_ne.mpr (L4 (LN I.big))) rel dd'));exact(hs.2 b (LN (LC hq))).trans (Lx _ hq)
end
section
variable{X:Cx}{pins:List (Addr×Obj)}{σ:St}{H:Hp}{s:Shared}{a:Addr}{y:V}{u:Value}{A:Around}{E:Value→Shared→Prop}
end
end L2
namespace L2
open PySem PySem.Spec PyProof.Rows
section
variable{X:Cx}
theorem x8:eR X (.builtin "len") (λxs H Q=>∃ a kvs,xs=[V.ref a]∧H a=some (.dK kvs)∧Q (.int kvs.length) H):=by
  intro pins s σ H xs us Q I r h;obtain⟨a,kvs,rfl,ha,q⟩:=h;obtain⟨u,rfl,ru⟩:=vals1 r;cases ru;exact HJ I (.inl ha) λt s' I'=>⟨.int kvs.length,H,I',⟨t,rfl⟩,q⟩
end
end L2
end
section
namespace LX
open PySem PySem.W
def a5(c:Value)(od:Option Addr)(fs:Array Value)(sl:Array (Option Value)):Obj:={cls:=c,dict:=od,data:=.fields fs,slots:=sl}
def AI(dd:Option Addr)(cd:ClassData)(k0 k1 k2 k3 k5:Option Value):Obj:={cls:=.type "type",dict:=dd,data:=.cls cd,slots:=#[k0,k1,k2,k3,some (.builtin "ValueError.__new__"),k5]}
structure cK(K:Frag)(C:Addr)(cd:ClassData):Prop where
 ob:∃ dd k0 k1 k2 k3 k5,K.lookup C=some (AI dd cd k0 k1 k2 k3 k5)
 del:cd.hasDel=false
 line:∃ r,cd.mro=.ref C::r
 val:cd.mro.contains (.type "ValueError")=true
 bas:cd.mro.contains (.type "BaseException")=true
 obj:cd.mro.contains (.type "object")=true
 atr:cd.mro.contains (.type "AttributeError")=false
 nam:cd.mro.contains (.type "NameError")=false
def iR(K:Frag)(C:Addr):Bool:=match K.lookup C with
 | some ⟨.type "type",_,.cls cd,sl⟩=>(match cd.mro,sl.toList with
  | .ref D::_,[_,_,_,_,some (.builtin n),_]=>D == C&&n == "ValueError.__new__" && !cd.hasDel&&cd.mro.contains (.type "ValueError")&&cd.mro.contains (.type "BaseException") &&
    cd.mro.contains (.type "object")&&!cd.mro.contains (.type "AttributeError")&&!cd.mro.contains (.type "NameError")
  | _,_=>false)
 | _=>false
theorem wX{K:Frag}{C:Addr}(e:iR K C=true):∃ cd,clsIn K C=some cd∧cK K C cd:=by
 unfold iR at e;split at e
 ·rename_i dd cd sl ho
  split at e
  ·rename_i D r k0 k1 k2 k3 n k5 hm hs
   simp only[Nh,beq_iff_eq,Bool.not_eq_true']at e;obtain⟨⟨⟨⟨⟨⟨⟨rfl,rfl⟩,e1⟩,e2⟩,e3⟩,e4⟩,e5⟩,e6⟩:=e;obtain⟨sl⟩:=sl;simp only at hs;subst hs;exact⟨cd,by unfold clsIn;rw[ho],⟨dd,k0,k1,k2,k3,k5,ho⟩,e1,⟨r,hm⟩,e2,e3,e4,e5,e6⟩
  ·cases e
 ·cases e
section
variable{K:Frag}{C:Addr}{cd:ClassData}{M:Model}{h:Heap}
theorem cK.cls(x:cK K C cd):clsIn K C=some cd:=by
 obtain⟨dd,k0,k1,k2,k3,k5,e⟩:=x.ob;unfold clsIn;rw[e];rfl
theorem cK.lW(x:cK K C cd):cd.mro.isEmpty=false:=by
 obtain⟨r,e⟩:=x.line;rw[e];rfl
theorem cK.sub(x:cK K C cd)(X:K.In h)(v:Value):Looks M h (isSubtype (.ref C) v) (cd.mro.contains v) :=
 looks_mroIn X (by unfold mroIn;rw[x.cls,MJ,if_neg (by rw[x.lW];decide)])
theorem cK.mro(x:cK K C cd)(X:K.In h):Looks M h (mroOf (.ref C)) cd.mro:=(looks_clsIn X x.cls).andThen .now
theorem cK.typ(x:cK K C cd)(X:K.In h):Looks M h (typeOf (.ref C)) (.type "type"):=by
 obtain⟨dd,k0,k1,k2,k3,k5,e⟩:=x.ob;exact(Looks.ld (X _ _ e)).andThen .now
theorem cK.G5(x:cK K C cd)(X:K.In h):Looks M h (isType (.ref C)) true:=by
 obtain⟨dd,k0,k1,k2,k3,k5,e⟩:=x.ob;intro A Q E s k q;unfold isType loadHead;exact wpAny_bind (wpAny_loadPart (k _ _ (X _ _ e)) (wpAny_pure q))
theorem cK.madeBy(x:cK K C cd)(X:K.In h):Looks M h (Bind.madeBy (.ref C)) (some "ValueError.__new__"):=by
 obtain⟨dd,k0,k1,k2,k3,k5,e⟩:=x.ob;obtain⟨r,hr⟩:=x.line;intro A Q E s k q;unfold Bind.madeBy;refine wpAny_bind (x.mro X A _ E s k ?_);rw[hr,List.forIn_cons];refine wpAny_bind (wpAny_bind (wpAny_bind (wpAny_bind (wpAny_loadPart (k _ _ (X _ _ e)) (wpAny_pure ?_)))));exact wpAny_pure (wpAny_pure (wpAny_pure q))
theorem cK.static(x:cK K C cd)(X:K.In h):Looks M h (Bind.staticBase (.ref C)) (.ref C):=by
 obtain⟨r,hr⟩:=x.line;intro A Q E s k q;unfold Bind.staticBase;refine wpAny_bind (x.mro X A _ E s k ?_);rw[hr,List.forIn_cons];exact wpAny_bind (wpAny_bind (wpAny_bind (x.madeBy X A _ E s k (wpAny_pure (wpAny_pure (wpAny_pure q))))))
theorem Cb:Manifest.canonical "ValueError.__new__" = Manifest.canonical "BaseException.__new__" := PySem.F.excBase_ValueError.canon
theorem cK.here(x:cK K C cd)(X:K.In h):Looks M h (Bind.madeHere "BaseException.__new__" (.ref C)) () :=
 (x.static X).andThen ((x.madeBy X).andThen (Looks.of_pure (by simp only[Nm,Cb,bne_self_eq_false,Md,if_false])))
end
def Back(x:Addr)(R:Result→Shared→Prop)(r:Result)(s':Shared):Prop:=match r with
 | .ok (.ret v)=>v=.none∧R (.ok (.ret (.ref x))) s'
 | .ok _=>False
 | .error e=>R (.error e) s'
abbrev wu(C t:Addr):Obj:=a5 (.ref C) none #[.ref t,.none,.none,.none,.bool false,.none] #[]
abbrev jT(vs:List Value):Obj:={cls:=.type "tuple",data:=.seq vs.toArray}
abbrev gP(h:Heap)(C:Addr)(vs:List Value):Heap:=(h.push (jT vs)).push (wu C h.objs.size)
section
variable{prog:Program}{w:World}{A:Around}{R:Result→Shared→Prop}{h:Heap}{g:Array GenState}{d:Drawn}{t:Nat}{os:OsState}{K:Frag}{C:Addr}{cd:ClassData}{vs:List Value}
theorem zA(x:cK K C cd)(X:K.In h)(hv:vs.length≤sizeLine)(k:R (.ok (.ret (.ref (h.objs.size+1)))) ⟨gP h C vs,g,d,t,os⟩) :
  codeAny (model prog w) A (.call (.builtin "ValueError.__new__") ⟨.ref C::vs,[]⟩) R ⟨h,g,d,t,os⟩:=by
 have F:=PySem.F.excBase_ValueError;have st:=x.static (M:=model prog w) X;have ty:=x.G5 (M:=model prog w) X;have mb:=x.madeBy (M:=model prog w) X;have hh:=x.here (M:=model prog w) X;have s1:=x.sub (M:=model prog w) X (.type "ValueError");rw[x.val]at s1;have s2:=x.sub (M:=model prog w) X (.type "AttributeError");rw[x.atr]at s2;have s3:=x.sub (M:=model prog w) X (.type "NameError");rw[x.nam]at s3;refine codeAny_call_builtin_code (Code.quiet_builtin _ F.quiet) ?_;have star:=F.noStar;simp only[checkBuiltinCall,F.newKind,F.newSplit,F.newRow]
 repeat (first|simp only[bne_self_eq_false,Md,if_false,Bool.not_true]|lk)
 refine codeAny_builtinAt F.entry ?_;unfold Builtin.«BaseException.__new__»;refine wpAt_bind ?_;show wpAt _ _ _ (stack >>= _) _ _ _;refine wpAt_bind (wpAt_stack λp below=>wpAt_of_wpAny ?_);have Lm:=F.ends;wp_walk
 refine wpAt_of_wpAny ?_;rw[F.owner]
 repeat (first|simp only[bne_self_eq_false,Md,if_false,Bool.not_true]|lk)
 rw[if_neg (by rw[Ly];omega)];obtain⟨dd,k0,k1,k2,k3,k5,ho⟩:=x.ob
 repeat lk
 refine nd_load (Lx _ (Lx _ (X _ _ ho))) (wpAny_pure (wpAny_pure ?_));rw[x.del,if_neg Lv];refine wpAny_pure (wpAny_pure ?_);show R _ _;rw[Nr];exact k
theorem zC{f:Addr}(x:cK K C cd)(X:K.In h)(hi:findIn K (.ref C) "__init__" = some (some (.ref f)))(hf:typeIn K (.ref f)=some (.type "function"))(hv:vs.length≤sizeLine)
  (k:codeAny (model prog w) (A.under (.builtin "type.__call__" ⟨.ref C::vs,[]⟩)) (.call (.ref f) ⟨.ref (h.objs.size+1)::vs,[]⟩) (Back (h.objs.size+1) R) ⟨gP h C vs,g,d,t,os⟩) :
  codeAny (model prog w) A (.call (.ref C) ⟨vs,[]⟩) R ⟨h,g,d,t,os⟩:=by
 obtain⟨dd,k0,k1,k2,k3,k5,ho⟩:=x.ob;have hC:=X _ _ ho;have ht:=x.typ (M:=model prog w) X;refine codeAny_of_tree ?_;show wpAny _ _ (callAny (.ref C) _) _ _ _;refine nd_load hC ?_;show wpAny _ _ (callAny.viaDunder (.ref C) _) _ _ _;unfold callAny.viaDunder;have sp:Looks (model prog w) h (specialOf (.ref C) "__call__") (some (.builtin "type.__call__")):=ht.andThen (Looks.of_pure tc_lookup);refine wpAny_bind (sp.at ?_);dsimp only;rw[tc_bind];refine wpAny_bind (wpAny_pure (wpAny_bind (wpAny_pure ?_)));refine wpAny_pure (a:=Fin.again (.call (.builtin "type.__call__") ⟨.ref C::vs,[]⟩)) (And.intro rfl ?_);refine codeAny_call_builtin_at (Code.quiet_builtin _ (by decide +kernel)) entry_typeCall (check_slot tc_kind tc_split (ht.andThen (Looks.of_pure tc_sub)) (tc_args _ _ _) ?_);unfold Builtin.«type.__call__»;have hm:=x.mro (M:=model prog w) X;have em:=x.lW;have mb:=x.madeBy (M:=model prog w) X
 repeat (first|simp only[em,Md,if_false]|with_reducible refine wpAny_call ?_|lk)
 refine zA x X hv ?_;have kp:∀ b o,h.get? b=some o→(gP h C vs).get? b=some o:=λb o e=>Lx _ (Lx _ e);have X1:K.In (gP h C vs):=X.keeps kp;have hx:(gP h C vs).get? (h.objs.size+1)=some (wu C h.objs.size):=by heap_get
 have t1:Looks (model prog w) (gP h C vs) (typeOf (.ref (h.objs.size+1))) (.ref C):=(Looks.ld hx).andThen .now;have s1:=x.sub (M:=model prog w) X1 (.ref C);obtain⟨r,hr⟩:=x.line;rw[show cd.mro.contains (.ref C)=true by rw[hr];simp]at s1;have i1:=looks_findIn (M:=model prog w) X1 hi;have b1:=bind_fn (M:=model prog w) X1 (.ref (h.objs.size+1)) hf;unfold isInstance callSpecial? specialOf
 repeat (first|with_reducible refine wpAny_call ?_|lk)
 refine codeAny_mono k λr s' z=>?_;rcases r with e|(v|_|_|_)<;>first|exact z|exact z.elim|skip;obtain⟨rfl,z⟩:=z;exact wpAny_pure (wpAny_pure z)
end
section
variable{prog:Program}{w:World}{A:Around}{E:Value→Shared→Prop}{h:Heap}{g:Array GenState}{d:Drawn}{t:Nat}{os:OsState}{K:Frag}{C e t0:Addr}{cd:ClassData}{vs:List Value}{od:Option Addr}{fs:Array Value}{sl:Array (Option Value)}
theorem qx{M:Model}(he:h.get? e=some (a5 (.ref C) od fs sl)):Looks M h (typeOf (.ref e)) (.ref C):=(Looks.ld he).andThen .now
theorem ua{Q:Value→Shared→Prop}(x:cK K C cd)(X:K.In h)(he:h.get? e=some (a5 (.ref C) od fs sl))(h0:fs[0]?=some (.ref t0))(hv:vs.length≤sizeLine)
  (k:Q .none ⟨(h.push (jT vs)).update e (Obj.mapFields (·.setIfInBounds 0 (.ref h.objs.size))),g,d,t,os⟩) :
  wpAny (model prog w) A (call (.builtin "ValueError.__init__") (.ref e::vs)) Q E ⟨h,g,d,t,os⟩:=by
 have F:=PySem.F.excBase_ValueError;have ty:=qx (M:=model prog w) he;have s1:=x.sub (M:=model prog w) X (.type "ValueError");rw[x.val]at s1;obtain⟨dd,k0,k1,k2,k3,k5,ho⟩:=x.ob;have hC:h.get? C=some ⟨.type "type",dd,.cls cd,#[k0,k1,k2,k3,some (.builtin "ValueError.__new__"),k5]⟩:=X _ _ ho;have star:=F.noStar;refine wpAny_call (codeAny_call_builtin F.init.plain F.initEntry ?_);simp only[checkBuiltinCall,F.initKind,F.initSplit,F.initRow];unfold isInstance Bind.checkArgs;refine wpAny_bind (wpAny_bind (ty.at (s1.at ?_)));simp only[Md,if_false,Bool.not_true];refine wpAny_bind (m:=Bind.printed "*" true _ _) ?_;unfold Bind.printed Bind.receiverType typeNameWhole;rw[if_neg (by decide)];dsimp only;rw[if_neg (by decide)];refine wpAny_bind (ty.at ?_);refine wpAny_bind (wpAny_bind ((looks_clsIn X x.cls).at (wpAny_pure (wpAny_pure ?_))));refine wpAny_bind (m:=if("ValueError" != "*")=true then pure "ValueError" else _) ?_;rw[if_pos star];refine wpAny_pure (wpAny_onRaise ?_);show wpAny _ _ (Bind.check _ _ _ _ []) _ _ _;rw[PyProof.Rows.check_varPos];refine wpAny_pure ?_;unfold Builtin.«BaseException.__init__»;dsimp only;rw[if_neg (by simp)];unfold newTuple Builtin.BaseException.bexcPut;have hsz:0<fs.size:=(LZ.mp h0).1;have e1:=Lx (h:=h) (jT vs) he;refine wpAny_bind (wpAny_newObj_type ?_ (by show vs.toArray.size≤sizeLine;rw[Ly];exact hv));refine wpAny_bind (wpAny_bind (wpAny_field (s:=⟨h.push (jT vs),g,d,t,os⟩) e1 rfl h0 ?_));refine wpAny_bind (wpAny_setField (s:=⟨h.push (jT vs),g,d,t,os⟩) e1 rfl hsz ?_);exact wpAny_letGo (wpAny_pure k)
end
section
variable{prog:Program}{w:World}{A:Around}{E:Value→Shared→Prop}{s:Shared}{K:Frag}
theorem Cc:findCls K (.type "ValueError") (.type "type") "__init__" = some (.val (.builtin "ValueError.__init__")):=by kernel_rfl
theorem Dy:findIn K (.type "type") "__getattribute__" = some (some (.builtin "type.__getattribute__")):=by kernel_rfl
theorem AJ{M:Model}{h:Heap}:Looks M h (typeOf (.type "ValueError")) (.type "type"):=Looks.of_pure (by kernel_rfl)
theorem Ef:subIn K (.type "type") (.type "type")=some true:=by kernel_rfl
theorem Eg{M:Model}{h:Heap}:Looks M h (opaqueClassAbove (.type "ValueError")) none:=Looks.of_pure (by kernel_rfl)
theorem Cd{pl:Sem Bool}{Q:Value×List Value→Shared→Prop}(X:K.In s.heap)(k:Q (.builtin "ValueError.__init__",[]) {s with toks:=s.toks+1}) :
  wpAny (model prog w) A (getMethod (.type "ValueError") "__init__" pl) Q E s:=by
 have sp:Looks (model prog w) s.heap (specialOf (.type "ValueError") "__getattribute__") (some (.builtin "type.__getattribute__")):=AJ.andThen (looks_findIn X Dy);unfold getMethod;refine wpAny_bind (sp.here ?_);dsimp only;rw[if_pos canon_tga];refine wpAny_bind (cls_open (hook:=none) X Eg AJ Dy (Looks.of_pure (by kernel_rfl)) Ef Cc ?_);refine wpAny_pure ?_;show wpAny _ _ (handedOut _) _ _ _;rw[handedOut_of (by kernel_rfl)];exact wpAny_pure (wpAny_pure k)
end
section
variable{prog:Program}{w:World}{A:Around}{E:Value→Shared→Prop}{s:Shared}{K:Frag}{env:Env}
def x9(K:Frag)(E:Value→Shared→Prop)(v:Value)(s1:Shared):Prop :=
 ∃(ea C:Addr) (cd:ClassData) (od:Option Addr) (fs:Array Value) (sl:Array (Option Value)),v=.ref ea∧s1.heap.get? ea=some (a5 (.ref C) od fs sl)∧fs[1]?=some .none∧cK K C cd∧K.In s1.heap∧E (.ref ea) s1
theorem ya{e:Expr}{pos:Pos}{Q:Flow→Shared→Prop}(hh:A.handled=none)(k:wpAny (model prog w) A (eval e env) (x9 K E) E s) :
  wpAny (model prog w) A (exec (.Raise (some e) none pos) env) Q E s:=by
 show wpAny (model prog w) A (do standAt pos;raiseStmt env (some (do let v ←eval e env;standAt pos;pure v)) none) Q E s
 refine wpAny_bind (wpAny_standAt ?_);unfold raiseStmt;dsimp only;refine wpAny_bind (wpAny_bind (wpAny_mono k (λv s1 q=>wpAny_bind (wpAny_standAt (wpAny_pure ?_))) λ_ _ z=>z));obtain⟨ea,C,cd,od,fs,sl,rfl,he,h1,x,X,hE⟩:=q;obtain⟨hp,g,d,tk,os⟩:=s1;have ty:=qx (M:=model prog w) he;have nt:Looks (model prog w) hp (isType (.ref ea)) false:=by
  intro A' Q' E' s' kk q;unfold isType loadHead;exact wpAny_bind (wpAny_loadPart (kk _ _ he) (wpAny_pure q))
 have sb:=x.sub (M:=model prog w) X (.type "BaseException");rw[x.bas]at sb;have ct:=x.typ (M:=model prog w) X;have f1:Looks (model prog w) hp (field (.ref ea) 1) .none:=looks_field he 1 h1;refine wpAny_bind (wpAny_pure ?_);dsimp only;refine wpAny_bind (wpAny_holding ?_);unfold excFromValue isExcClass isInstance
 repeat (first|simp only[Md,if_false,if_true]|lk)
 show wpAny _ _ handled _ _ _;refine wpAny_handled ?_;rw[hh];exact wpAny_throw hE
theorem ub{ea C D:Addr}{cd cd':ClassData}{od:Option Addr}{fs:Array Value}{sl:Array (Option Value)}{h:Heap}{g:Array GenState}{d:Drawn}{t:Nat}{os:OsState}{Q:Bool→Shared→Prop}{M:Model}(x:cK K C cd)(y:cK K D cd')(X:K.In h)
  (he:h.get? ea=some (a5 (.ref C) od fs sl)) (q:Q (cd.mro.contains (.ref D)) ⟨h,g,d,t,os⟩):wpAny M A (excMatches (.ref ea) (.ref D)) Q E ⟨h,g,d,t,os⟩:=by
 have ty:=qx (M:=M) he;have td:=y.typ (M:=M) X;have ti:=y.G5 (M:=M) X;have tn:Looks M h (isSubtype (.type "type") (.type "tuple")) false:=Looks.of_pure tc_notTuple;have yb:=y.sub (M:=M) X (.type "BaseException");rw[y.bas]at yb;have xs:=x.sub (M:=M) X (.ref D);unfold excMatches isInstance isExcClass
 repeat (first|simp only[Md,if_false,if_true,Bool.not_true]|lk)
 cases hb:cd.mro.contains (.ref D) with
 | true =>
  rw[hb]at q;simp only[if_true]
  repeat lk
  exact q
 | false =>
  rw[hb]at q;simp only[Md,if_false]
  repeat lk
  exact q
theorem rJ{ea C:Addr}{fs:Array Value}{sl:Array (Option Value)}{h:Heap}(he:h.get? ea=some (a5 (.ref C) none fs sl)):InstAt h ea (a5 (.ref C) none fs sl) C none:=⟨he,rfl,rfl,True.intro⟩
theorem yc{ea C dx:Addr}{o:Obj}{fs:Array Value}{sl:Array (Option Value)}{h:Heap}(he:h.get? ea=some (a5 (.ref C) (some dx) fs sl))(hd:h.get? dx=some o):InstAt h ea (a5 (.ref C) (some dx) fs sl) C (some o):=⟨he,rfl,rfl,hd⟩
theorem Ce:(Manifest.canonical "BaseException.__getattribute__" != "object.__getattribute__")=false:=by decide +kernel
theorem zD{ea C f:Addr}{ox:Obj}{od:Option Obj}{name:Str}{pl:Sem Bool}{Q:Value×List Value→Shared→Prop}(X:K.In s.heap)(I:InstAt s.heap ea ox C od)
  (hg:findIn K (.ref C) "__getattribute__" = some (some (.builtin "BaseException.__getattribute__"))) (hk:findIn K (.ref C) "__getattr__" = some none)
  (hf:findIn K (.ref C) name=some (some (.ref f))) (ht:typeIn K (.ref f)=some (.type "function")) (hs:shadowIn od name=some false) (k:Q (.ref f,[.ref ea]) s) :
  wpAny (model prog w) A (getMethod (.ref ea) name pl) Q E s:=by
 unfold getMethod specialOf;refine wpAny_bind (wpAny_bind (I.type.here ((looks_findIn X hg).here ?_)));dsimp only;rw[Ce,if_neg Lv];refine wpAny_bind (wpAny_bind (I.type.here ((looks_findIn X hk).here ?_)));refine wpAny_bind (wpAny_bind (I.type.here ((looks_findIn X hf).here (wpAny_bind ((looks_typeIn X ht).here ?_)))));rw[if_neg (by decide +kernel)];refine wpAny_bind (wpAny_loadPart I.at_ ?_);have hd:=I.dict;cases e:ox.dict with
 | none=>exact wpAny_bind (wpAny_rule (wpAny_pure k))
 | some dx =>
  cases od with
  | none=>rw[e]at hd;exact hd.elim
  | some o =>
   rw[e]at hd;obtain⟨r,a,b⟩:=LG.mp hs;refine wpAny_bind (wpAny_bind (wpAny_loadPart hd ?_));rw[nsLook_of a];refine wpAny_pure ?_;rw[b];exact wpAny_bind (wpAny_rule (wpAny_pure k))
end
structure wY(K:Frag)(C:Addr):Prop where
 ga:findIn K (.ref C) "__getattribute__" = some (some (.builtin "BaseException.__getattribute__"))
 gt:findIn K (.ref C) "__getattr__" = some none
section
variable{prog:Program}{w:World}{A:Around}{E:Value→Shared→Prop}{h:Heap}{g:Array GenState}{d:Drawn}{t:Nat}{os:OsState}{K:Frag}{C ea:Addr}{cd:ClassData}{ox:Obj}{od:Option Obj}{name:Str}
theorem ye{tk:Tok}{fill expr:Bool}{r:Builtin.ObjectAttr.Found}{Q:Value→Shared→Prop}(x:cK K C cd)(G:wY K C)(X:K.In h)(I:InstAt h ea ox C od)(hf:findObj K C od name=some r)
  (k:match r with
   | .value v=>handedIn v=true∧Q v ⟨h,g,d,t,os⟩
   | .bind gg a=>wpAny (model prog w) A.in1 (call gg [a,.ref ea,.ref C]) (λv s'=>handedIn v=true∧Q v s') (λ_ _=>False) ⟨h,g,d,t,os⟩
   | .missing=>False) :
  wpAny (model prog w) A (getAttrBy (.ref ea) (.str name tk) fill expr) Q E ⟨h,g,d,t,os⟩:=by
 have ty:=I.type (M:=model prog w);have l1:=looks_findIn (M:=model prog w) X G.ga;have l2:=looks_findIn (M:=model prog w) X G.gt;have l3:=looks_find (M:=model prog w) X I hf;have sb:=x.sub (M:=model prog w) X (.type "BaseException");rw[x.bas]at sb;have S:=PySem.F.excAttr_ValueError.ga;unfold getAttrBy;refine wpAny_holding (wpAny_bind (ty.at (wpAny_bind (l1.at ?_))));dsimp only;rw[show(onTheHeap (Value.ref C)&&Value.builtin "BaseException.__getattribute__" == Value.builtin "object.__getattribute__")=false by rw[show(Value.builtin "BaseException.__getattribute__" == Value.builtin "object.__getattribute__")=false by decide +kernel,MS],if_neg Lv];unfold getAttrByItsOwn;have hb:Looks (model prog w) h (hookBefore (.ref C)) none:=looks_hook X (by rw[if_pos (by rfl)];exact G.gt);refine wpAny_bind (hb.at (wpAny_bind (wpAny_attempt (wpAny_holding ?_))));unfold callGetattribute;rw[show(expr&&onTheHeap (Value.builtin "BaseException.__getattribute__"))=false from MS _,if_neg Lv];unfold boundAndCalled;rw[S.bind];refine wpAny_bind (wpAny_pure ?_);show wpAny _ _ (call (.builtin "BaseException.__getattribute__") [.ref ea,.str name tk]) _ _ _;refine wpAny_call (codeAny_call_builtin S.plain PySem.F.entry_bexc_ga ?_);refine @check_slot (model prog w) _ _ ⟨h,g,d,t,os⟩ "BaseException.__getattribute__" "BaseException" "__getattribute__" (.ref ea) [.str name tk] [] _ (by decide +kernel) (by decide +kernel) (ty.andThen sb) (PySem.F.args_bexc_ga (.ref ea) (.str name tk)) ?_;unfold Builtin.«object.__getattribute__»;refine wpAny_bind (wpAny_pure (wpAny_bind (wpAny_pure (wpAny_bind (ty.at (wpAny_bind (l3.at ?_)))))));cases r with
 | value v =>
  refine wpAny_pure ?_;show wpAny _ _ (handedOut v) _ _ _;rw[handedOut_of k.1];exact wpAny_pure k.2
 | bind gg a =>
  refine wpAny_bind (wpAny_holding (wpAny_mono k (λv s' z=>wpAny_pure ?_) λ_ _ z=>z.elim));show wpAny _ _ (handedOut v) _ _ _;rw[handedOut_of z.1];exact wpAny_pure z.2
 | missing=>exact k.elim
theorem yh{Q:Option Value→Shared→Prop}(x:cK K C cd)(G:wY K C)(X:K.In h)(I:InstAt h ea ox C od)(hc:findIn K (.ref C) "__class__" = some (some (.builtin "object.__class__")))
  (k:Q (some (.ref C)) ⟨h,g,d,t+1,os⟩):wpAny (model prog w) A (getAttr? (.ref ea) "__class__") Q E ⟨h,g,d,t,os⟩:=by
 have hn:specialIn K (.builtin "object.__class__") "__get__" = some (some (.builtin "getset_descriptor.__get__")):=by kernel_rfl
 have ht:takesIn K (.builtin "object.__class__")=some true:=by kernel_rfl
 have hf:findObj K C od "__class__" = some (.bind (.builtin "getset_descriptor.__get__") (.builtin "object.__class__")):=by
  unfold findObj;rw[x.cls,MJ,hc,MJ];dsimp only;rw[hn,MJ];dsimp only;rw[ht];rfl
 have mo:mroIn K C (.type "object")=some true:=by
  unfold mroIn;rw[x.cls,MJ,if_neg (by rw[x.lW];decide),x.obj]
 unfold getAttr? getAttrBy?;refine wpAny_bind (wpAny_mkText (wpAny_bind (wpAny_attempt ?_)));refine ye (t:=t+1) x G X I hf ?_;refine wpAny_call ?_;refine class_get (s:=⟨h,g,d,t+1,os⟩) (ox:=ox) (od:=od) X I mo ⟨rfl,?_⟩;exact wpAny_pure k
theorem wZ(x:cK K C cd)(G:wY K C)(hc:findIn K (.ref C) "__class__" = some (some (.builtin "object.__class__"))):KitX K (.ref ea) (.ref C) (λh=>∃ ox od,InstAt h ea ox C od) where
 ty:=λ_ _ _ ⟨_,_,I⟩=>I.type
 it:=λ_ _ X _=>x.G5 X
 ne:=λh tp dd its n sl X htp=>by
  obtain⟨d2,k0,k1,k2,k3,k5,e⟩:=x.ob;refine L7.mpr λq=>?_;have e2:C=tp:=Value.ref.inj (beq_iff_eq.mp q);subst e2;have z:=congrArg (λo:Option Obj=>o.map (·.data)) ((X _ _ e).symm.trans htp);simp[AI]at z
 ca:=λ{_ _ _ _ _ s} X ⟨_,_,I⟩ k=>by
  obtain⟨hh,gg,dd,tt,oo⟩:=s;exact yh x G X I hc k
end
section
variable{prog:Program}{w:World}{A:Around}{E:Value→Shared→Prop}{h:Heap}{g:Array GenState}{d:Drawn}{t:Nat}{os:OsState}{K:Frag}{C CH ea:Addr}{cd:ClassData}{fs:Array Value}{sl:Array (Option Value)}{name:Str}{v:Value}
end
end LX
end
section
namespace LX
open PySem
structure Kept(fr xs:List Addr)(h k:Heap):Prop where
 plain:∀ b o,h.get? b=some o→b∉fr→b∉xs→k.get? b=some o
 frame:∀ b o,h.get? b=some o→b∈fr→b∉xs→∃ sl,k.get? b=some {o with slots:=sl}
theorem Kept.trans{fr xs ys:List Addr}{h k m:Heap}(x:Kept fr xs h k)(y:Kept fr ys k m):Kept fr (xs++ys) h m where
 plain:=λb o e hb hx=>y.plain b o (x.plain b o e hb λz=>hx (LW _ z)) hb λz=>hx (LJ _ z)
 frame:=λb o e hb hx=>by
  obtain⟨sl,e1⟩:=x.frame b o e hb λz=>hx (LW _ z);obtain⟨sm,e2⟩:=y.frame b _ e1 hb λz=>hx (LJ _ z);exact⟨sm,e2⟩
theorem Kept.weak{fr xs ys:List Addr}{h k:Heap}(x:Kept fr xs h k)(s:∀ b o,h.get? b=some o→b∈xs→b∈ys):Kept fr ys h k :=
 ⟨λb o e hb hy=>x.plain b o e hb λz=>hy (s b o e z),λb o e hb hy=>x.frame b o e hb λz=>hy (s b o e z)⟩
abbrev bt(l:List Env):List Addr:=l.filterMap (·.frame)
section
variable{M:Model}{A:Around}{E:Value→Shared→Prop}{s:Shared}{base:Heap}{env:Env}{outer:List Env}{L e:Addr}{c:Value}{od:Option Addr}{fs:Array Value}{sl:Array (Option Value)}
theorem uH{l:List Env}(F:s.heap.FunFrames base l)(he:s.heap.get? e=some (a5 c od fs sl)):e∉bt l:=λz=>by
 obtain⟨_,o,ho,hn⟩:=F.mem z;rw[he]at ho;cases ho;exact hn fs rfl
theorem mG{h:Heap}{a:Addr}{i:Nat}{x:Value}(ha:h.get? a=some (a5 c od fs sl)) :
  (h.update a (Obj.mapFields (·.setIfInBounds i x))).get? a=some (a5 c od (fs.setIfInBounds i x) sl):=Heap.get?_update_self _ ha rfl
theorem pX{head:Value}{had:Bool}{Q:Unit→Shared→Prop}(hA:A.frames=some (env::outer))(F:s.heap.FunFrames base (env::outer))(hL:env.frame=some L)
  (he:s.heap.get? e=some (a5 c od fs sl)) (h1:1<fs.size)
  (k:∀ m T oc ts,s.heap.objs.size≤T→Kept (bt (env::outer)) [e] s.heap m→m.get? e=some (a5 c od (fs.setIfInBounds 1 (.ref T)) sl)→m.get? T=some (a5 oc none ts #[])→ts[3]?=some (rawInt L)→Q () {s with heap:=m}) :
  wpAny M A (do let a ←frameOf env;let pl ←entryPlaceOf L had;let b ←EntryCells.newEntry head a .none (rawInt L) .none pl;setField (.ref e) 1 b) Q E s:=by
 have ne:=uH F he;refine wpAny_bind (wpAny_frameOf_fun hA F hL λg hg=>?_);obtain⟨g0,g1,g2⟩:=hg;refine wpAny_bind (wpAny_entryPlaceOf λpl hp=>?_);unfold EntryCells.newEntry newFields;refine wpAny_bind (wpAny_newObj_type ?_ (hp.sizeOk5 _ _ _ _ _));have e1:g.get? e=some (a5 c od fs sl):=(g1 e ne).trans he;have e2:=Lx (h:=g) {cls:=.type "traceback",dict:=none,data:=.fields ([head,.ref L,.none,rawInt L,.none]++(if pl.isEmpty then List.replicate 6 Value.none else pl)).toArray} e1;refine wpAny_setField e2 rfl h1 ?_;have Te:g.objs.size≠e:=Mz (LC e1);refine k _ g.objs.size (.type "traceback") ([head,.ref L,.none,rawInt L,.none]++(if pl.isEmpty then List.replicate 6 Value.none else pl)).toArray (Nat.le_of_eq g0.symm) ⟨λb o q hb hx=>?_,λb o q hb hx=>?_⟩ (mG e2) ?_ ?_
 ·have be:b≠e:=λz=>hx (by rw[z];exact Lr.mpr rfl)
  rw[L9 _ _ (L4 be)];exact Lx _ ((g1 b hb).trans q)
 ·have be:b≠e:=λz=>hx (by rw[z];exact Lr.mpr rfl)
  obtain⟨sm,q2⟩:=g2 b o q;refine⟨sm,?_⟩;rw[L9 _ _ (L4 be)];exact Lx _ q2
 ·rw[L9 _ _ (L4 Te)]
  exact LY g rfl
 ·first|(simp;done)|(rcases hp with rfl|⟨_,_,_,_,_,_,_,rfl⟩<;>simp)
inductive jH(h:Heap)(e:Addr)(fs:Array Value):Option Addr→Prop where
 | none (h1:fs[1]?=some .none):jH h e fs none
 | some {T:Addr} {oc:Value} {ts:Array Value} {d:Option Addr} {sl:Array (Option Value)} (h1:fs[1]?=some (.ref T)) (ne:T≠e) (hT:h.get? T=some (a5 oc d ts sl)) (h3:ts[3]?=some .none):jH h e fs (some T)
theorem jH.size{h:Heap}{fs:Array Value}{T:Option Addr}(t:jH h e fs T):1<fs.size:=by
 cases t with
 | none h1=>exact(LZ.mp h1).1
 | some h1=>exact(LZ.mp h1).1
theorem tE{T0:Option Addr}{Q:Unit→Shared→Prop}(hA:A.frames=some (env::outer))(F:s.heap.FunFrames base (env::outer))(hL:env.frame=some L)(he:s.heap.get? e=some (a5 c od fs sl))(t:jH s.heap e fs T0)
  (k:∀ m T oc ts,s.heap.objs.size≤T→Kept (bt (env::outer)) (e::T0.toList) s.heap m→m.get? e=some (a5 c od (fs.setIfInBounds 1 (.ref T)) sl)→m.get? T=some (a5 oc none ts #[])→ts[3]?=some (rawInt L)→Q () {s with heap:=m}) :
  wpAny M A (noteFrame (.ref e) env) Q E s:=by
 unfold noteFrame;simp only[hL];have h1s:=t.size;cases t with
 | none h1 =>
  refine wpAny_bind (wpAny_field he rfl h1 ?_);rw[if_neg (by decide)];exact pX hA F hL he h1s k
 | @some T oc ts d sm h1 ne hT h3 =>
  refine wpAny_bind (wpAny_field he rfl h1 ?_);rw[if_pos (show(Value.ref T != Value.none)=true by simp)];refine wpAny_bind (wpAny_field hT rfl h3 ?_);rw[if_neg (show ¬((Value.none == rawInt L)=true) by simp[rawInt])];have h3s:3<ts.size:=(LZ.mp h3).1;refine wpAny_bind (wpAny_setField hT rfl h3s ?_);have oth:∀ b,b≠T→(s.heap.update T (Obj.mapFields (·.setIfInBounds 3 Value.none))).get? b=s.heap.get? b:=λb hb=>L9 _ _ (L4 hb);have nT:=uH F hT;have F1:(s.heap.update T (Obj.mapFields (·.setIfInBounds 3 Value.none))).FunFrames base (env::outer):=F.of_keeps λb o hb hn=>⟨o,(oth b λz=>by rw[z,hT]at hb;cases hb;exact hn ts rfl).trans hb,rfl⟩;refine pX (s:={s with heap:=s.heap.update T (Obj.mapFields (·.setIfInBounds 3 Value.none))}) hA F1 hL ((oth e (L4 ne)).trans he) h1s λm T' oc' ts' z1 z2 z3 z4 z5=>k m T' oc' ts' ?_ ?_ z3 z4 z5
  ·have zz:(s.heap.update T (Obj.mapFields (·.setIfInBounds 3 Value.none))).objs.size=s.heap.objs.size:=(Heap.SameBut.update (h:=s.heap) (a:=T) (f:=Obj.mapFields (·.setIfInBounds 3 Value.none))).1
   rw[←zz];exact z1
  ·have kk:Kept (bt (env::outer)) [T] s.heap (s.heap.update T (Obj.mapFields (·.setIfInBounds 3 Value.none))) :=
    ⟨λb o q _ hx=>(oth b λz=>hx (by rw[z];exact Lr.mpr rfl)).trans q,λb o q _ hx=>⟨o.slots,(oth b λz=>hx (by rw[z];exact Lr.mpr rfl)).trans q⟩⟩
   refine(kk.trans z2).weak λb o _ q=>?_;simp only[LB,Lr]at q;simp only[Option.toList_some,LQ,Mg,or_false];exact q.symm
theorem iq{T:Addr}{oc:Value}{ts:Array Value}{d:Option Addr}{sm:Array (Option Value)}{Q:Unit→Shared→Prop}(he:s.heap.get? e=some (a5 c od fs sl))(h1:fs[1]?=some (.ref T))(ne:T≠e)
  (hT:s.heap.get? T=some (a5 oc d ts sm)) (h3:3<ts.size)
  (k:∀ m,(∀ b o,b≠T→s.heap.get? b=some o→m.get? b=some o)→jH m e fs (some T)→m.get? e=some (a5 c od fs sl)→Q () {s with heap:=m}):wpAny M A (setFlight (.ref e) none) Q E s:=by
 unfold setFlight;refine wpAny_bind (wpAny_field he rfl h1 ?_);rw[if_pos (show(Value.ref T != Value.none)=true by simp)];have oth:∀ b o,b≠T→s.heap.get? b=some o→(s.heap.update T (Obj.mapFields (·.setIfInBounds 3 Value.none))).get? b=some o:=λb o hb q=>(L9 _ _ (L4 hb)).trans q;exact wpAny_setField hT rfl h3 (k _ oth (.some h1 ne (mG hT) (by simp[h3])) (oth e _ (L4 ne) he))
theorem wx{T0:Option Addr}{Q:Unit→Shared→Prop}(hA:A.frames=some (env::outer))(F:s.heap.FunFrames base (env::outer))(hL:env.frame=some L)(he:s.heap.get? e=some (a5 c od fs sl))(t:jH s.heap e fs T0)
  (k:∀ m T fs',s.heap.objs.size≤T→Kept (bt (env::outer)) (e::T0.toList) s.heap m→m.get? e=some (a5 c od fs' sl)→fs'[0]?=fs[0]?→jH m e fs' (some T)→Q () {s with heap:=m}) :
  wpAny M A (leaving env (.ref e)) Q E s:=by
 unfold leaving;refine wpAny_bind (tE hA F hL he t λm T oc ts z1 z2 z3 z4 z5=>?_);have Te:T≠e:=Mz (LK (LC he) z1);have f1:(fs.setIfInBounds 1 (Value.ref T))[1]?=some (.ref T):=by
  have:=t.size
  simp[this]
 refine iq (s:={s with heap:=m}) z3 f1 Te z4 (LZ.mp z5).1 λm' q1 q2 q3=>k m' T _ z1 ⟨λb o q hb hx=>?_,λb o q hb hx=>?_⟩ q3 (by simp) q2
 ·exact q1 b o (LN (LK (LC q) z1)) (z2.plain b o q hb hx)
 ·obtain⟨sm,r⟩:=z2.frame b o q hb hx
  exact⟨sm,q1 b _ (LN (LK (LC q) z1)) r⟩
end
end LX
end
section
namespace L2
open PySem PySem.Spec PyProof.Rows LX
def ExP(fresh:Bool)(C e:Addr)(od:Option Addr)(h:Heap):Prop:=∃ fs sl t0,h.get? e=some (a5 (.ref C) od fs sl)∧fs[0]?=some (.ref t0)∧(fresh=true→fs[1]?=some .none)
def exo(fresh:Bool)(C e:Addr)(od:Option Addr):HO:=.ext (ExP fresh C e od)
section
variable{P:Program}{w:World}{H:Hp}{h:Heap}{b:Bool}{C e:Addr}{od:Option Addr}
theorem wz(x:ExP b C e od h):bJ P w H h e (exo b C e od):=by
 refine⟨x,?_,λh1 h2 p k=>?_⟩
 ·obtain⟨fs,sl,t0,z,_⟩:=x
  exact⟨_,z⟩
 ·obtain⟨fs,sl,t0,z,r⟩:=p
  exact⟨fs,sl,t0,k _ z,r⟩
theorem jU(ok:HOk P w H h)(z:H e=some (exo b C e od)):ExP b C e od h:=(show bJ P w H h e (exo b C e od) from ok e _ z).1
end
def del(H:Hp)(a:Addr):Hp:=λb=>if b=a then none else H b
theorem lX{H:Hp}{a:Addr}:del H a a=none:=by unfold del;rw[if_pos rfl]
theorem eM{H:Hp}{a b:Addr}(h:b≠a):del H a b=H b:=by unfold del;rw[if_neg h]
theorem qy{H:Hp}{a b:Addr}{o:HO}(h:del H a b=some o):H b=some o∧b≠a:=by
 unfold del at h;by_cases q:b=a
 ·rw[if_pos q]at h;cases h
 ·rw[if_neg q]at h;exact⟨h,q⟩
section
variable{P:Program}{w:World}{H H':Hp}{h h':Heap}{a:Addr}
theorem HOk.keeps(ok:HOk P w H h)(k:∀ b u o,H b=some u→h.get? b=some o→h'.get? b=some o):HOk P w H h':=λb u q =>
 (ok b u q).tm (λc v hc r=>by
  rcases hc with rfl|hc
  ·exact k c u v q r
  ·exact k c _ v hc r) (λ_ z=>z) λ_ _ z=>z
theorem HOk.del(ok:HOk P w H h)(ha:∀ y,H a≠some (.own y))(hb:∀ xs,H a≠some (.tup xs)):HOk P w (del H a) h:=λb u q=>by
 obtain⟨q1,q2⟩:=qy q;refine(ok b u q1).tm (λ_ _ _ r=>r) (λc z=>?_) λc xs z=>?_
 ·rw[eM λe=>ha b (by rw[←e];exact z)];exact z
 ·rw[eM λe=>hb xs (by rw[←e];exact z)];exact z
theorem HOk.add(ok:HOk P w H h){o:HO}(ha:H a=none)(new:bJ P w (upd H a o) h a o):HOk P w (upd H a o) h:=λb u q=>by
 by_cases e:b=a
 ·subst e
  rw[ab]at q;cases q;exact new
 ·rw[ak e]at q
  refine(ok b u q).tm (λ_ _ _ r=>r) (λc z=>?_) λc xs z=>?_
  ·rw[ak λe=>by rw[e,ha]at z;cases z];exact z
  ·rw[ak λe=>by rw[e,ha]at z;cases z];exact z
end
theorem jb{h k base:Heap}:∀ {l:List Env},h.FunFrames base l→(∀ b∈frs l,∀ o,h.get? b=some o→∃ sl,k.get? b=some {o with slots:=sl})→k.FunFrames base l
 | [],_,_=>True.intro
 | env::r,⟨h1,⟨L,o,e1,e2,e3,e4⟩,h2⟩,q=>by
  have hm:L∈frs (env::r):=Mh.mpr ⟨env,LR,e1⟩;obtain⟨sl,z⟩:=q L hm o e3;refine⟨h1,⟨L,_,e1,e2,z,e4⟩,jb h2 λb hb o' z'=>q b ?_ o' z'⟩;obtain⟨x,hx,hy⟩:=Mh.mp hb;exact Mh.mpr ⟨x,LU _ hx,hy⟩
structure Lies(P:Program)(w:World)(outer:List Env)(H H':Hp)(s:Shared)(ea C T:Addr)(od:Option Addr)(fs:Array Value)(sl:Array (Option Value))(s':Shared):Prop where
 os:s'.os=s.os
 bare:AllBare s'.gens
 un:Un (frs outer) [] H H' s.heap s'.heap
 hok:HOk P w H' s'.heap
 Cf:s.heap.get? ea=none
 KG:s.heap.get? T=none
 vx:H' ea=none
 HM:H' T=none
 at_:s'.heap.get? ea=some (a5 (.ref C) od fs sl)
 args:∃ t0,fs[0]?=some (.ref t0)
 trail:jH s'.heap ea fs (some T)
def CXE(P:Program)(w:World):CXT:=λouter H s E e s'=>∃ ea C T od fs sl H',e=.ref ea∧Lies P w outer H H' s ea C T od fs sl s'∧E (.ref C) od H'
section
variable{X:Cx}{pins:List (Addr×Obj)}{σ:St}{H H':Hp}{s s':Shared}{ea C T:Addr}{od:Option Addr}{fs:Array Value}{sl:Array (Option Value)}
theorem Lies.frames(I:Inv X pins σ H s)(l:Lies X.prog X.w X.stack H H' s ea C T od fs sl s'):s'.heap.FunFrames X.base X.stack :=
 jb I.stack λb hb o z=>l.un.any z (I.jK b hb) (by simp)
theorem Lies.on{m:Heap}{t':Nat}(I:Inv X pins σ H s)(l:Lies X.prog X.w X.stack H H' s ea C T od fs sl s')(k:Kept (bt X.stack) [ea,T] s'.heap m) :
  Un (frs X.stack) [] H H' s.heap m∧HOk X.prog X.w H' m:=by
 have fr:∀ b,b∈frs X.stack→H' b=none:=λb hb=>by
  obtain⟨_,o,z,_⟩:=I.stack.mem hb;exact l.un.free b o z (I.jK b hb) (by simp)
 have ne:∀ b o,s.heap.get? b=some o→b∉[ea,T]:=λb o z q=>by
  rcases LQ.mp q with e|q
  ·rw[e,l.Cf]at z;cases z
  ·rw[Lr.mp q,l.KG]at z;cases z
 refine⟨⟨λb o z n hb hx=>?_,λb o z n hb hx=>?_,l.un.free,λb o z hx=>?_,l.un.ph,l.un.nG,l.un.pj⟩,?_⟩
 ·exact k.plain b o (l.un.keep b o z n hb hx) hb (ne b o z)
 ·obtain⟨s1,z1⟩:=l.un.slot b o z n hb hx
  obtain⟨s2,z2⟩:=k.frame b _ z1 hb (ne b o z);exact⟨s2,z2⟩
 ·obtain⟨o1,z1⟩:=l.un.there b o z hx
  by_cases hb:b∈bt X.stack
  ·obtain⟨s2,z2⟩:=k.frame b _ z1 hb (ne b o z)
   exact⟨_,z2⟩
  ·exact⟨_,k.plain b _ z1 hb (ne b o z)⟩
 ·refine l.hok.keeps λb u o z q=>k.plain b o q (λhb=>?_) λhx=>?_
  ·rw[fr b hb]at z;cases z
  ·rcases LQ.mp hx with e|hx
   ·rw[e,l.vx]at z;cases z
   ·rw[Lr.mp hx,l.HM]at z;cases z
end
section
variable{P:Program}{w:World}{K:W.Frag}{mg:Str→Option Value}{base:Heap}{N:List Str}{qual:Str}{scope:Scope}{f:Addr}{cdv:Value}{A:Around}{outer:List Env}{s₀:Shared}{H₀:Hp}{E₀:XK}
abbrev cxE(P:Program)(w:World)(K:W.Frag)(mg:Str→Option Value)(base:Heap)(N:List Str)(qual:Str)(scope:Scope)(f:Addr)(cdv:Value)(A:Around)(outer:List Env)(s₀:Shared)(H₀:Hp)(E₀:XK):Cx :=
 yY (CXE P w) P w K mg base N qual scope f cdv A outer s₀ H₀ E₀
theorem vz{pins:List (Addr×Obj)}{σ:St}{H H':Hp}{s s':Shared}{ea C T:Addr}{od:Option Addr}{fs:Array Value}{sl:Array (Option Value)}(I:Inv (cxE P w K mg base N qual scope f cdv A outer s₀ H₀ E₀) pins σ H s)
  (l:Lies P w (cxE P w K mg base N qual scope f cdv A outer s₀ H₀ E₀).stack H H' s ea C T od fs sl s') (hE:E₀ (.ref C) od H'):(cxE P w K mg base N qual scope f cdv A outer s₀ H₀ E₀).xe (.ref ea) s':=by
 refine wx I.ok.frames (Lies.frames I l) rfl l.at_ l.trail λm T' fs' z1 z2 z3 z4 z5=>?_;obtain⟨un,hok⟩:=l.on (t':=s'.toks) I z2;have J:Inv (cxE P w K mg base N qual scope f cdv A outer s₀ H₀ E₀) pins σ H' {s' with heap:=m}:=I.yO l.os un hok l.bare (λb z=>absurd z (by simp));have old:∀ b o,s₀.heap.get? b=some o→∃ o',s.heap.get? b=some o':=λb o z=>I.base.there b o z (Mg);have e0:s₀.heap.get? ea=none:=by
  cases q:s₀.heap.get? ea with
  | none=>rfl
  | some o =>
   obtain⟨o',z⟩:=old ea o q;rw[l.Cf]at z;cases z
 have t0:s₀.heap.get? T'=none:=by
  cases q:s₀.heap.get? T' with
  | none=>rfl
  | some o =>
   obtain⟨o1,y1⟩:=old T' o q;obtain⟨o2,y2⟩:=l.un.there T' o1 y1 (by simp);exact absurd (LC y2) (Nw.mpr z1)
 obtain⟨a0,ha⟩:=l.args;exact⟨ea,C,T',od,fs',sl,H',rfl,⟨J.os,J.bare,J.base,J.hok,e0,t0,l.vx,l.hok.fresh z1,z3,⟨a0,by rw[z4];exact ha⟩,z5⟩,hE⟩
theorem yQ{E:XK}(hE:∀ c od H',E c od H'→E₀ c od H'):Passes (CXE P w) (cxE P w K mg base N qual scope f cdv A outer s₀ H₀ E₀) E:=λpins σ H s e s' I h=>by
 obtain⟨ea,C,T,od,fs,sl,H',rfl,l,q⟩:=h;exact vz I l (hE _ _ _ q)
theorem leave_new{pins:List (Addr×Obj)}{σ:St}{H:Hp}{s:Shared}{ea C:Addr}{od:Option Addr}(I:Inv (cxE P w K mg base N qual scope f cdv A outer s₀ H₀ E₀) pins σ H s)(h1:H ea=some (exo true C ea od))(h0:H₀ ea=none)
  (hE:E₀ (.ref C) od (del H ea)):(cxE P w K mg base N qual scope f cdv A outer s₀ H₀ E₀).xe (.ref ea) s:=by
 obtain⟨fs,sl,a0,z,ha,hf⟩:=jU I.hok h1;have frz:∀ b,b∈frs (cxE P w K mg base N qual scope f cdv A outer s₀ H₀ E₀).stack→H b=none:=I.jK;have e0:s₀.heap.get? ea=none:=by
  cases q:s₀.heap.get? ea with
  | none=>rfl
  | some o =>
   have:=I.base.free ea o q h0 Mg
   rw[h1]at this;cases this
 refine wx I.ok.frames I.stack rfl z (.none (hf rfl)) λm T' fs' z1 z2 z3 z4 z5=>?_;have hd:HOk P w (del H ea) s.heap:=I.hok.del (λy q=>by rw[h1]at q;cases q) λxs q=>by rw[h1]at q;cases q
 have hm:HOk P w (del H ea) m:=hd.keeps λb u o q r=>by
  obtain⟨q1,q2⟩:=qy q;exact z2.plain b o r (λhb=>by rw[frz b hb]at q1;cases q1) (by simpa using q2)
 have neE:∀ b o,s₀.heap.get? b=some o→b≠ea:=λb o q r=>by rw[r,e0]at q;cases q
 have t0:s₀.heap.get? T'=none:=by
  cases q:s₀.heap.get? T' with
  | none=>rfl
  | some o =>
   obtain⟨o2,y2⟩:=I.base.there T' o q Mg;exact absurd (LC y2) (Nw.mpr z1)
 have neL:∀ b o,s₀.heap.get? b=some o→b∈bt (cxE P w K mg base N qual scope f cdv A outer s₀ H₀ E₀).stack→b∈frs outer:=λb o q hb=>by
  rcases LQ.mp (I.o5 b hb) with r|r
  ·exact absurd (LC q) (by rw[r];exact Nw.mpr I.ok.above)
  ·exact r
 have sub:∀ b,b∈frs outer→b∈bt (cxE P w K mg base N qual scope f cdv A outer s₀ H₀ E₀).stack:=λb hb=>by
  obtain⟨x,hx,hy⟩:=Mh.mp hb;exact Mh.mpr ⟨x,LU _ hx,hy⟩
 refine⟨ea,C,T',od,fs',sl,del H ea,rfl,⟨I.os,I.bare,⟨λb o q n hb hx=>?_,λb o q n hb hx=>?_,λb o q n hx=>?_,λb o q hx=>?_,λb xs q=>?_,λb o u q=>?_,λb ps q=>?_⟩,hm,e0,t0,lX,?_,z3,⟨a0,by rw[z4];exact ha⟩,z5⟩,hE⟩
 ·exact z2.plain b o (I.base.keep b o q n hb hx) (λz=>hb (neL b o q z)) (by simpa using neE b o q)
 ·obtain⟨s1,y1⟩:=I.base.slot b o q n hb hx
  obtain⟨s2,y2⟩:=z2.frame b _ y1 (sub b hb) (by simpa using neE b o q);exact⟨s2,y2⟩
 ·rw[eM (neE b o q)]
  exact I.base.free b o q n hx
 ·obtain⟨o1,y1⟩:=I.base.there b o q hx
  by_cases hb:b∈bt (cxE P w K mg base N qual scope f cdv A outer s₀ H₀ E₀).stack
  ·obtain⟨s2,y2⟩:=z2.frame b _ y1 hb (by simpa using neE b o q)
   exact⟨_,y2⟩
  ·exact⟨_,z2.plain b _ y1 hb (by simpa using neE b o q)⟩
 ·have r:=I.base.ph b xs q
  rw[eM λe=>by rw[e,h1]at r;cases r];exact r
 ·have r:=I.base.nG b o u q
  rw[eM λe=>by rw[e,h1]at r;cases r];exact r
 ·obtain⟨more,r⟩:=I.base.pj b ps q
  exact⟨more,by rw[eM λe=>by rw[e,h1]at r;cases r];exact r⟩
 ·by_cases q:T'=ea
  ·rw[q];exact lX
  ·rw[eM q];exact I.hok.fresh z1
end
theorem Fun.okE{P:Program}{w:World}{K:W.Frag}{mg:Str→Option Value}{base:Heap}{x qual:Str}{st:Stmt}{f:Addr}{fd:FuncData}{N ps:List Str}{k:Nat}{sp:Sp}(F:Fun K x qual st f fd)(S:ar N ps (ao st))(len:∀ vs H Q E,sp vs H Q E→vs.length=ps.length)
  (gX:∀(cdv:Value) (A:Around) (outer:List Env) (s:Shared) (H:Hp) (vs:List V) (Q:VK) (E:XK),dF k (A.deeper (envOfC qual (ao st) s.heap.objs.size f cdv))→sp vs H Q E →
   ∃ t,PSs (cxE P w K mg base N qual (ao st) f cdv A outer s H E) (aN st) t∧t {nx:=λ_ H'=>Q .non H',rt:=Q} (start N vs) H):gZ P w K mg base (CXE P w) (k+1) f fd ps sp:=by
 obtain⟨oc,od,kV,doc,pm,an,cdv,ct,osl,rfl,lk,hcd⟩:=F.ex;exact Hs lk hcd S len λA outer s H vs Q E hr hsp=>gX cdv A outer s H vs Q E hr hsp
def qz(X:Cx)(E:XK):Prop:=∀(pins:List (Addr×Obj)) (σ:St) (H:Hp) (s:Shared) (ea C:Addr) (od:Option Addr),Inv X pins σ H s→H ea=some (exo true C ea od)→X.H₀ ea=none→E (.ref C) od (del H ea)→X.xe (.ref ea) s
theorem dE{P:Program}{w:World}{K:W.Frag}{mg:Str→Option Value}{base:Heap}{N:List Str}{qual:Str}{scope:Scope}{f:Addr}{cdv:Value}{A:Around}{outer:List Env}{s₀:Shared}{H₀:Hp}{E₀:XK} :
  qz (cxE P w K mg base N qual scope f cdv A outer s₀ H₀ E₀) E₀:=λ_ _ _ _ _ _ _ I h1 h0 q=>leave_new I h1 h0 q
def Eh(H₀:Hp)(K:W.Frag)(E:XK)(te:TE):TS:=λ_ σ H=>te σ H λv H1=>∃ ea C od,v=.ref ea∧H1 ea=some (exo true C ea od)∧(∃ cd,cK K C cd)∧H₀ ea=none∧E (.ref C) od (del H1 ea)
section
variable{X:Cx}
theorem bF{e:Expr}{te:TE}{pos:Pos}{E:XK}(hc:X.calm=true)(hx:qz X E)(he:PE X e te):PS X (.Raise (some e) none pos) (Eh X.H₀ X.K E te):=by
 intro pins s σ H D I h;refine ya (K:=X.K) (I.ok.hd hc) (thn (he pins s σ H _ I h) λu s1 ⟨v,H1,I1,r,ea,C,od,ev,h1,⟨cd,xc⟩,h0,q⟩=>?_);subst ev;obtain rfl:u=Value.ref ea:=r;obtain⟨fs,sl,a0,z,ha,hf⟩:=jU I1.hok h1;exact⟨ea,C,cd,od,fs,sl,rfl,z,hf rfl,xc,I1.kIn,hx pins σ H1 s1 ea C od I1 h1 h0 q⟩
def bO(CX:CXT)(X:Cx)(EK:St→XK):Prop:=∀(pins:List (Addr×Obj)) (σ:St) (H:Hp) (s:Shared) (e:Value) (s':Shared),Inv X pins σ H s→CX X.stack H s (EK σ) e s'→X.xe e s'
theorem Passes.x{CX:CXT}{E:XK}(h:Passes CX X E):bO CX X (λ_=>E):=λpins σ H s e s' I q=>h pins σ H s e s' I q
def BE(sp:Sp)(dvs:List V)(EK:St→XK)(t:TA):TE:=λσ H Q=>t σ H λvs H1=>sp (vs++dvs) H1 Q (EK σ)
inductive Dz(C:Addr)(m:Str)(x:V)(H:Hp)(k:Prop):Prop where
 | mk (a dx:Addr) (fs:List (Str×V)):x=.ref a→H a=some (.ins C dx fs)→fs.lookup m=none→k→Dz C m x H k
def yR(C:Addr)(m:Str)(sp:Sp)(dvs:List V)(EK:St→XK)(ta:TE)(t:TA):TE:=λσ H Q=>ta σ H λx H1=>Dz C m x H1
 (t σ H1 λvs H2=>sp (x::(vs++dvs)) H2 Q (EK σ))
def IU(C:Addr)(sp:Sp)(EK:St→XK)(t:TA):TE:=λσ H Q=>t σ H λvs H1=>∀ ea,H1 ea=none→sp (.ref ea::vs) (upd H1 ea (exo true C ea none)) (λv H2=>v=.non∧Q (.ref ea) H2) (EK σ)
variable{CX:CXT}{k:Nat}{f C:Addr}{fd:FuncData}{ps:List Str}{sp:Sp}{dvs:List V}{ds:List Value}{EK:St→XK}{x m:Str}{p pos apos:Pos}{e o:Expr}{es:List Expr}{ta:TE}{t:TA}
theorem DA{pins:List (Addr×Obj)}{σ:St}{H:Hp}{s:Shared}{Q:VK}{us:List Value}{vs:List V}(F:gZ X.prog X.w X.K X.mg X.base CX k f fd ps sp)(hr:dF k X.A)(hb:Binds X.K fd ps ds)(hd:Vals dvs ds)(hx:bO CX X EK)
  (I:Inv X pins σ H s) (r:Vals vs us) (h:sp (vs++dvs) H Q (EK σ)):wpAny (model X.prog X.w) X.A (call (.ref f) us) (EP X pins σ Q) X.xe s:=by
 have r2:Vals (vs++dvs) (us++ds):=r.append hd;have hl:(us++ds).length=ps.length:=by rw[←r2.length];exact F.len _ _ _ _ h
 refine wpAny_call (codeAny_mono (F.run X.A X.stack s H ⟨us,[]⟩ (us++ds) (vs++dvs) Q (EK σ) hr I.Ds (hb s us I.kIn hl) r2 h) λr s' hq=>?_);cases r with
 | error e=>exact hx pins σ H s e s' I hq
 | ok fl =>
  cases fl with
  | ret u=>exact I.after hq
  | _=>exact False.elim hq
theorem jV(F:gZ X.prog X.w X.K X.mg X.base CX k f fd ps sp)(hr:dF k X.A)(hg:Gl X x)(hm:X.mg x=some (.ref f))(hk:PySem.W.keepIn X.K (.ref f)=true)(hb:Binds X.K fd ps ds)(hd:Vals dvs ds)(hx:bO CX X EK)
  (ha:PA X (e::es) t) (hdb:(x == ("__debug__" : Str))=false:=by decide) (he:starEach (e::es) X.env=(false,eval e X.env)::starEach es X.env:=by rfl) (hpl:(backTo pos (starEach es X.env)).any (·.1)=false:=by rfl) :
  PE X (.Call (.Name x p) (e::es) [] pos) (BE sp dvs EK t):=by
 intro pins s σ H Q I h;refine wpAny_Call_Name_kw (iL I hg hm ?_ hdb);exact PySem.W.callWith_K (h₀:=X.base) I.ok.mod.kin hk (thn (ha pos pins s σ H _ I h) λus s1 ⟨vs,H1,I1,r,q⟩=>⟨I1.kIn,DA F hr hb hd hx I1 r q⟩) he hpl
theorem Cg{pl:Sem Bool}(he:PE X o ta)(c:Cls X.K C)(hm:Meth X.K C m f)(F:gZ X.prog X.w X.K X.mg X.base CX k f fd ps sp)(hr:dF k X.A)(hb:Binds X.K fd ps ds)(hd:Vals dvs ds)(hx:bO CX X EK)(ha:PA X (e::es) t)
  (hst:starEach (e::es) X.env=(false,eval e X.env)::starEach es X.env:=by rfl) (hpl:(backTo pos (starEach es X.env)).any (·.1)=false:=by rfl)
  (ht:eval (.Call (.Attribute o m apos) (e::es) [] pos) X.env=(do
   let ov ←eval o X.env
   standAt apos.atName
   let (f,first) ←holding [ov] (getMethod ov m pl)
   callWith pos f first (backTo pos (starEach (e::es) X.env)) (backToKw pos (keywordEach [] X.env))):=by rfl) :
  PE X (.Call (.Attribute o m apos) (e::es) [] pos) (yR C m sp dvs EK ta t):=by
 intro pins s σ H Q I h;refine PySem.W.methodCall_KW (pl:=pl) (thn (he pins s σ H _ I h) λu s1 ⟨x,H1,I1,rx,a,dx,fs,ex,ea,l,q⟩=>?_) ht;subst ex;obtain rfl:u=Value.ref a:=rx;refine pS I1 ea c hm l ?_;exact PySem.W.callWith_K (first:=[.ref a]) (h₀:=X.base) I.ok.mod.kin hm.kp (thn (ha pos pins s1 σ H1 _ I1 q) λus s2 ⟨vs,H2,I2,r,q2⟩=>⟨I2.kIn,DA (us:=.ref a::us) (vs:=.ref a::vs) F hr hb hd hx I2 (.cons rfl r) q2⟩) hst hpl
theorem zE{pl:Sem Bool}(he:PE X o ta)(c:Cls X.K C)(hm:Meth X.K C m f)(F:gZ X.prog X.w X.K X.mg X.base CX k f fd ps sp)(hr:dF k X.A)(hb:Binds X.K fd ps ds)(hd:Vals dvs ds)(hx:bO CX X EK)
  (ht:eval (.Call (.Attribute o m apos) [] [] pos) X.env=(do
   let ov ←eval o X.env
   standAt apos.atName
   let (f,first) ←holding [ov] (getMethod ov m pl)
   callWith pos f first (backTo pos (starEach [] X.env)) (backToKw pos (keywordEach [] X.env))):=by rfl) :
  PE X (.Call (.Attribute o m apos) [] [] pos) (yR C m sp dvs EK ta tu):=by
 intro pins s σ H Q I h;refine PySem.W.methodCall_KW (pl:=pl) (thn (he pins s σ H _ I h) λu s1 ⟨x,H1,I1,rx,a,dx,fs,ex,ea,l,q⟩=>?_) ht;subst ex;obtain rfl:u=Value.ref a:=rx;refine pS I1 ea c hm l ?_;exact PySem.W.callWith_K0 (first:=[.ref a]) I1.kIn hm.kp (DA (us:=[.ref a]) (vs:=[.ref a]) F hr hb hd hx I1 (.cons rfl .nil) q)
structure MkX(K:W.Frag)(C f:Addr):Prop where
 cls:∃ cd,cK K C cd
 init:PySem.W.findIn K (.ref C) "__init__" = some (some (.ref f))
 fn:PySem.W.isFn K (.ref f)=true
 kp:PySem.W.keepIn K (.ref C)=true
theorem Ci{pins:List (Addr×Obj)}{σ:St}{H:Hp}{s:Shared}{Q:VK}{us:List Value}{vs:List V}(M:MkX X.K C f)(F:gZ X.prog X.w X.K X.mg X.base CX k f fd ps sp)(hr:dF (k+1) X.A)(hb:Binds X.K fd ps [])(hx:bO CX X EK)(hps:ps.length≤1000)
  (I:Inv X pins σ H s) (r:Vals vs us) (h:∀ ea,H ea=none→sp (.ref ea::vs) (upd H ea (exo true C ea none)) (λv H2=>v=.non∧Q (.ref ea) H2) (EK σ)) :
  wpAny (model X.prog X.w) X.A (call (.ref C) us) (EP X pins σ Q) X.xe s:=by
 have hq:=h (s.heap.objs.size+1) (I.hok.fresh (MV _));obtain⟨cd,xc⟩:=M.cls;have r2:Vals (V.ref (s.heap.objs.size+1)::vs) (Value.ref (s.heap.objs.size+1)::us):=.cons rfl r;have hl:(Value.ref (s.heap.objs.size+1)::us).length=ps.length:=by rw[←r2.length];exact F.len _ _ _ _ hq
 have hz:us.length≤sizeLine:=by rw[Ma]at hl;rw[sizeLine_eq];omega
 have I2:Inv X pins σ (upd H (s.heap.objs.size+1) (exo true C (s.heap.objs.size+1) none)) {s with heap:=gP s.heap C us}:=by
  refine I.laid (t':=s.toks) (λb u q=>Lx _ (Lx _ q)) (MV _) (wz ⟨#[.ref s.heap.objs.size,.none,.none,.none,.bool false,.none],#[],s.heap.objs.size,?_,rfl,λ_=>rfl⟩);show(gP s.heap C us).get? (s.heap.objs.size+1)=some (wu C s.heap.objs.size);heap_get
 obtain⟨hh,g,d,tk,os⟩:=s;refine wpAny_call (zC xc I.kIn M.init (beq_iff_eq.mp M.fn) hz (codeAny_mono (F.run _ X.stack _ _ ⟨Value.ref (hh.objs.size+1)::us,[]⟩ (Value.ref (hh.objs.size+1)::us) _ _ (EK σ) (hr.make C us []) (I2.Ds.make C us [])
  (by have:=hb _ (Value.ref (hh.objs.size+1)::us) I2.kIn (by rw[Ms];exact hl);rw[Ms]at this;exact this) r2 hq) λr s' hq'=>?_))
 cases r with
 | error e=>exact hx pins σ _ _ e s' I2 hq'
 | ok fl =>
  cases fl with
  | ret u =>
   obtain⟨v,H',I3,rv,ev,q3⟩:=I2.after hq';subst ev;exact⟨rv,⟨V.ref (hh.objs.size+1),H',I3,rfl,q3⟩⟩
  | _=>exact False.elim hq'
theorem Ei(M:MkX X.K C f)(F:gZ X.prog X.w X.K X.mg X.base CX k f fd ps sp)(hr:dF (k+1) X.A)(hg:Gl X x)(hm:X.mg x=some (.ref C))(hb:Binds X.K fd ps [])(hx:bO CX X EK)
  (ha:PA X (e::es) t) (hps:ps.length≤1000:=by decide) (hdb:(x == ("__debug__" : Str))=false:=by decide) (he:starEach (e::es) X.env=(false,eval e X.env)::starEach es X.env:=by rfl) (hpl:(backTo pos (starEach es X.env)).any (·.1)=false:=by rfl) :
  PE X (.Call (.Name x p) (e::es) [] pos) (IU C sp EK t):=by
 intro pins s σ H Q I h;refine wpAny_Call_Name_kw (iL I hg hm ?_ hdb);exact PySem.W.callWith_K (h₀:=X.base) I.ok.mod.kin M.kp (thn (ha pos pins s σ H _ I h) λus s1 ⟨vs,H1,I1,r,q⟩=>⟨I1.kIn,Ci M F hr hb hx hps I1 r q⟩) he hpl
end
theorem zF{H:Hp}{a:Addr}{o:HO}(h:H a=some o):upd H a o=H:=by
 funext b
 by_cases e:b=a
 ·rw[e,ab,h]
 ·rw[ak e]
section
variable{X:Cx}
def tVe(K:W.Frag)(t:TA):TE:=λσ H Q=>t σ H λvs H1=>∃ ea C od r,vs=.ref ea::r∧r.length≤1000∧H1 ea=some (exo true C ea od)∧(∃ cd,cK K C cd)∧Q .non H1
theorem HN{p apos pos:Pos}{e:Expr}{es:List Expr}{t:TA}{pl:Sem Bool}(hg:Gl X "ValueError")(hm:X.mg "ValueError" = none)(ha:PA X (e::es) t)
  (hst:starEach (e::es) X.env=(false,eval e X.env)::starEach es X.env:=by rfl) (hpl:(backTo pos (starEach es X.env)).any (·.1)=false:=by rfl)
  (ht:eval (.Call (.Attribute (.Name "ValueError" p) "__init__" apos) (e::es) [] pos) X.env=(do
   let ov ←eval (.Name "ValueError" p) X.env
   standAt apos.atName
   let (f,first) ←holding [ov] (getMethod ov "__init__" pl)
   callWith pos f first (backTo pos (starEach (e::es) X.env)) (backToKw pos (keywordEach [] X.env))):=by rfl) :
  PE X (.Call (.Attribute (.Name "ValueError" p) "__init__" apos) (e::es) [] pos) (tVe X.K t):=by
 intro pins s σ H Q I h;refine PySem.W.methodCall_KW (pl:=pl) (jL I hg hm PyProof.Rows.Boot.«ValueError» ?_) ht;refine Cd I.kIn ?_;refine PyProof.Rows.callWith_builtin1 (thn (ha pos pins _ σ H _ (I.tok _) h) λus s1 ⟨vs,H1,I1,r,ea,C,od,rr,ev,hl,h1,⟨cd,xc⟩,q⟩=>?_) hst hpl;subst ev;cases r with
 | @cons _ u _ us' r1 r2 =>
 obtain rfl:u=Value.ref ea:=r1;obtain⟨fs,sl,a0,z,ha,hf⟩:=jU I1.hok h1;have hz:us'.length≤sizeLine:=by rw[←r2.length,sizeLine_eq];omega
 have I2:Inv X pins σ H1 {s1 with heap:=s1.heap.push (jT us')}:=I1.kept (t':=s1.toks) λb u q=>Lx _ q;have z2:=Lx (h:=s1.heap) (jT us') z;have hs0:0<fs.size:=(LZ.mp ha).1;have I3:Inv X pins σ (upd H1 ea (exo true C ea od)) {s1 with heap:=(s1.heap.push (jT us')).update ea (Obj.mapFields (·.setIfInBounds 0 (.ref s1.heap.objs.size)))}:=by
  refine I2.write (x:=ea) (e:=ea) (t':=s1.toks) (by rw[h1];exact True.intro) (.inl rfl) (λb u hb q=>(L9 _ _ (L4 hb)).trans q) ⟨_,mG z2⟩ (wz ⟨_,_,s1.heap.objs.size,mG z2,by simp[hs0],λ_=>?_⟩)
  have:=hf rfl
  simpa using this
 rw[zF h1]at I3;obtain⟨hh,g,d,tk,os⟩:=s1;exact ua xc I1.kIn z ha hz ⟨.non,H1,I3,rfl,q⟩
abbrev TF:=St→Hp→(Hp→Prop)→Prop
def PF(X:Cx)(e:Expr)(t:TF):Prop :=
 ∀(pins:List (Addr×Obj)) (s:Shared) (σ:St) (H:Hp) (Q:Hp→Prop),Inv X pins σ H s→t σ H Q→wpAny (model X.prog X.w) X.A (eval e X.env) (λv s1=>∃ y tk H1,v=.str y tk∧y.length≤2000∧Inv X pins σ H1 s1∧Q H1) X.xe s
def PFs(X:Cx)(es:List Expr)(t:TF):Prop :=
 ∀(out:Str) (pins:List (Addr×Obj)) (s:Shared) (σ:St) (H:Hp) (Q:V→Hp→Prop),out.length+2000*es.length≤100000→Inv X pins σ H s→t σ H (λH1=>∀ y,y.length≤100000→Q (.str y) H1) →
  wpAny (model X.prog X.w) X.A (joinParts out (evalEach es X.env)) (EP X pins σ Q) X.xe s
def DB:TF:=λ_ H Q=>Q H
def KH(te:TE):TF:=λσ H Q=>te σ H λv H1=>∃ i,v=.int i∧i.natAbs.log2<1920∧Q H1
def Ej(t u:TF):TF:=λσ H Q=>t σ H λH1=>u σ H1 Q
theorem uI:(100000:Nat)≤sizeLine:=by rw[sizeLine_eq];omega
theorem bV{x j pos}(hl:x.length≤2000:=by decide +kernel):PF X (.Constant (.str x) j pos) DB:=λ_ _ _ H _ I h=>Calls.Constant_str ⟨_,_,H,rfl,hl,I.tok _,h⟩
theorem dc{e:Expr}{te:TE}{pos:Pos}(he:PE X e te):PF X (.FormattedValue e (-1) none pos) (KH te):=by
 intro pins s σ H Q I h;refine FormattedValue_plain (thn (he pins s σ H _ I h) λu s1 ⟨v,H1,I1,r,i,ev,hi,q⟩=>?_);subst ev;obtain⟨t,rfl⟩:=(show ∃ t,u=Value.int i t from r);exact formatField_int_small hi ⟨_,_,H1,rfl,LL (int_text_len_1921 hi) (by decide),I1.tok _,q⟩
theorem cq:PFs X [] DB:=λout pins s σ H Q hl I h =>
 joinParts_nil ⟨.str out,H,I.tok _,⟨_,rfl⟩,h out (by simpa using hl)⟩ (LL (by simpa using hl) uI)
theorem aI{e:Expr}{es:List Expr}{t u:TF}(h1:PF X e t)(h2:PFs X es u):PFs X (e::es) (Ej t u):=by
 intro out pins s σ H Q hl I h;rw[Ma]at hl;refine joinParts_consE (joinParts_cons (thn (h1 pins s σ H _ I h) λv s1 ⟨y,tk,H1,ev,hy,I1,q⟩=>?_));subst ev;have hz:(out++y).length+2000*es.length≤100000:=by rw[strLen_append];omega
 exact⟨LL (by omega) uI,h2 (out++y) pins s1 σ H1 Q hz I1 q⟩
def HP(t:TF):TE:=λσ H Q=>t σ H λH1=>∀ y,y.length≤100000→Q (.str y) H1
theorem cu{e e':Expr}{es:List Expr}{t:TF}{pos:Pos}(h:PFs X (e::e'::es) t)(hl:2000*(e::e'::es).length≤100000:=by decide):PE X (.JoinedStr (e::e'::es) pos) (HP t) :=
 λpins s σ H Q I q=>JoinedStr_many (h Str.empty pins s σ H Q (by have z:Str.empty.length=0:=rfl;rw[z];omega) I q)
inductive TyX(K:W.Frag)(H:Hp):V→Value→Prop where
 | of {x:V} {t:Value} (h:qH K H x t):TyX K H x t
 | exc {b:Bool} {a C:Addr} {od:Option Addr} {cd:ClassData} (e:H a=some (exo b C a od)) (hd:od=none∨∃ dx fs,od=some dx∧H dx=some (.xd fs)) (x:cK K C cd) (g:wY K C)
   (hc:PySem.W.findIn K (.ref C) "__class__" = some (some (.builtin "object.__class__"))):TyX K H (.ref a) (.ref C)
def AK:V→Value
 | .ref a=>.ref a
 | .ty n=>.type n
 | _=>.none
theorem uJ{P:Program}{w:World}{H:Hp}{h:Heap}{b:Bool}{C a:Addr}{od:Option Addr}(ok:HOk P w H h)(e:H a=some (exo b C a od))(hd:od=none∨∃ dx fs,od=some dx∧H dx=some (.xd fs)) :
  ∃ ox o,PySem.W.InstAt h a ox C o:=by
 obtain⟨fs,sl,a0,z,_⟩:=jU ok e;rcases hd with rfl|⟨dx,gs,rfl,q⟩
 ·exact⟨_,_,rJ z⟩
 ·obtain⟨mA,n,_⟩:=(show bJ P w H h dx (.xd gs) from ok dx _ q)
  obtain⟨o,_,_,ho,_⟩:=n;exact⟨_,_,yc z ho⟩
def IV(K:W.Frag):List V→Hp→VK→Prop:=λvs H Q=>∃ x c t b,vs=[x,c]∧TyX K H x t∧(∃ a,c=.ref a)∧PySem.W.kitOne K t (AK c)=some b∧Q (.bl b) H
def BF(K:W.Frag):List V→Hp→VK→Prop:=λvs H Q=>∃ x c t b,vs=[x,c]∧TyX K H x t∧(∃ n,c=.ty n)∧PySem.W.kitOne K t (AK c)=some b∧Q (.bl b) H
theorem xa{pins:List (Addr×Obj)}{s:Shared}{σ:St}{H:Hp}{x:V}{u c t:Value}{b:Bool}{Q:VK}(I:Inv X pins σ H s)(rx:RelV x u)(ty:TyX X.K H x t)(e:PySem.W.kitOne X.K t c=some b)(q:Q (.bl b) H) :
  wpAny (model X.prog X.w) X.A (call (.builtin "isinstance") [u,c]) (EP X pins σ Q) X.xe s:=by
 have fin:∀ tk,EP X pins σ Q (.bool b) {s with toks:=tk}:=λtk=>⟨.bl b,H,I.tok tk,rfl,q⟩;cases ty with
 | of h=>exact xU I rx h e fin
 | exc ea hd xc g hc =>
  cases (show u=Value.ref _ from rx);obtain⟨ox,o,J⟩:=uJ I.hok ea hd;exact PySem.W.kia_one (wZ xc g hc) I.kIn ⟨ox,o,J⟩ e (λz=>nomatch z) fin
theorem zG:eR X (.builtin "isinstance") (IV X.K):=by
 rintro pins s σ H xs us Q I r ⟨x,c,t,b,rfl,ty,⟨a,rfl⟩,e,q⟩;obtain⟨u,v,rfl,ru,rv⟩:=vals2 r;cases (show v=Value.ref a from rv);exact xa I ru ty e q
theorem rK:eR X (.builtin "isinstance") (BF X.K):=by
 rintro pins s σ H xs us Q I r ⟨x,c,t,b,rfl,ty,⟨n,rfl⟩,e,q⟩;obtain⟨u,v,rfl,ru,rv⟩:=vals2 r;cases (show v=Value.type n from rv);exact xa I ru ty e q
end
abbrev Cx.tQ(X:Cx)(pins:List (Addr×Obj))(E:Value→Shared→Prop):Cx:={X with xe:=E,pn:=X.pn++pins}
abbrev Cx.iS(X:Cx)(ea:Addr):Cx:={X with A:=X.A.mark (some (.ref ea)),calm:=false,xe:=λ_ _=>False}
section
variable{X:Cx}{pins:List (Addr×Obj)}{σ:St}{H:Hp}{s:Shared}{E:Value→Shared→Prop}{ea:Addr}
theorem Inv.tQ(I:Inv X pins σ H s)(E:Value→Shared→Prop):Inv (X.tQ pins E) [] σ H s :=
 ⟨⟨I.ok.mod,I.ok.kind,I.ok.glob,I.ok.blt,I.ok.above,I.ok.inj,I.ok.has,I.ok.cab,I.ok.hd,I.ok.frames,I.ok.stk,I.ok.exf,I.ok.bs,I.ok.bsz,I.ok.ve,I.ok.wL,I.ok.mz,I.ok.frf⟩,
  I.os,I.bare,I.base,I.loc,I.cell,I.free,I.en,λp hp=>I.pin p (by simpa using hp),I.hok,I.len⟩
theorem Inv.mH{vg:List (Addr×Obj)}(I:Inv (X.tQ pins E) vg σ H s):Inv X pins σ H s :=
 ⟨⟨I.ok.mod,I.ok.kind,I.ok.glob,I.ok.blt,I.ok.above,I.ok.inj,I.ok.has,I.ok.cab,I.ok.hd,I.ok.frames,I.ok.stk,I.ok.exf,I.ok.bs,I.ok.bsz,I.ok.ve,I.ok.wL,I.ok.mz,I.ok.frf⟩,
  I.os,I.bare,I.base,I.loc,I.cell,I.free,I.en,λp hp=>I.pin p (LW _ hp),I.hok,I.len⟩
theorem Inv.iS(I:Inv X pins σ H s)(ea:Addr):Inv (X.iS ea) pins σ H s :=
 ⟨⟨I.ok.mod,I.ok.kind,I.ok.glob,I.ok.blt,I.ok.above,I.ok.inj,I.ok.has,I.ok.cab,(λz=>nomatch z),I.ok.frames,I.ok.stk,I.ok.exf,I.ok.bs,I.ok.bsz,I.ok.ve,I.ok.wL,I.ok.mz,I.ok.frf⟩,
  I.os,I.bare,I.base,I.loc,I.cell,I.free,I.en,I.pin,I.hok,I.len⟩
theorem Inv.uncaught{Y:Cx}(I:Inv (Y.iS ea) pins σ H s)(ok:Y.Ok):Inv Y pins σ H s:=⟨ok,I.os,I.bare,I.base,I.loc,I.cell,I.free,I.en,I.pin,I.hok,I.len⟩
theorem Inv.HQ{o:HO}{c:Value}{od:Option Addr}{fs:Array Value}{sl:Array (Option Value)}(I:Inv X pins σ H s)(hn:H ea=none)(h0:X.s₀.heap.get? ea=none)(hr:s.heap.get? ea=some (a5 c od fs sl))
  (hp:∀ p∈X.pn++pins,p.1≠ea) (new:bJ X.prog X.w (upd H ea o) s.heap ea o):Inv X pins σ (upd H ea o) s:=by
 have ne:∀ b u,H b=some u→b≠ea:=λb u q e=>by rw[e,hn]at q;cases q
 refine⟨I.ok,I.os,I.bare,⟨I.base.keep,I.base.slot,λb u q n hx=>?_,I.base.there,λb xs q=>?_,λb u v q=>?_,λb ps q=>?_⟩,I.loc,I.cell,?_,λx c' q=>?_,λp hq=>?_,I.hok.add hn new,I.len⟩
 ·rw[ak λe=>by rw[e,h0]at q;cases q]
  exact I.base.free b u q n hx
 ·have r:=I.base.ph b xs q
  rw[ak (ne b _ r)];exact r
 ·have r:=I.base.nG b u v q
  rw[ak (ne b _ r)];exact r
 ·obtain⟨more,r⟩:=I.base.pj b ps q
  exact⟨more,by rw[ak (ne b _ r)];exact r⟩
 ·rw[ak λe=>?_]
  ·exact I.free
  ·obtain⟨m,⟨oL,es,ep,ho,hd,_⟩,_⟩:=I.loc
   rw[e,hr]at ho;cases ho;cases hd
 ·rw[ak λe=>?_]
  ·exact I.en x c' q
  ·obtain⟨v,oc,ho,hd⟩:=I.cell x c' q
   rw[e,hr]at ho;cases ho;cases hd
 ·obtain⟨e,n,z⟩:=I.pin p hq
  exact⟨e,by rw[ak (hp p hq)];exact n,z⟩
end
def xb(i:Nat)(D:Ends):Ends:={nx:=λσ H=>D.nx (σ.set i none) H,rt:=D.rt,bk:=λσ H=>D.bk (σ.set i none) H,ct:=λσ H=>D.ct (σ.set i none) H}
def BG(K:W.Frag)(Dc:Addr)(i:Nat)(ts:TS)(D:Ends):St→XK:=λσ c od H=>∃ C cd,c=.ref C∧cK K C cd∧cd.mro.contains (.ref Dc)=true∧∀ ea,H ea=none→ts (xb i D) (σ.set i (some (.ref ea))) (upd H ea (exo false C ea od))
def KI(K:W.Frag)(Dc:Addr)(i:Nat)(tb:(St→XK)→TS)(ts:TS):TS:=λD σ H=>tb (BG K Dc i ts D) D σ H
section
variable{X:Cx}
theorem zH{pins:List (Addr×Obj)}{σ:St}{H:Hp}{s:Shared}{E:Value→Shared→Prop}{n:Str}{i:Nat}{pos:Pos}{Q:Unit→Shared→Prop}(I:Inv X pins σ H s)(hN:X.N.Nodup)(hi:X.N[i]?=some n)(hx:X.env.scope.names.lookup n=some .local)
  (k:∀ s',Inv X pins (σ.set i none) H s'→Q () s'):wpAny (model X.prog X.w) X.A (do bindName X.env n .none;unbindBehindTheSuite X.env n pos) Q E s:=by
 obtain⟨m,hn,hl⟩:=id I.loc;have EZ:(X.env.scope.kind == .class||(X.env.scope.kind == .module&&X.env.locals != X.env.globals))=false:=by rw[I.ok.kind];rfl
 refine wpAny_nameGoes_keeps hx hn EZ λh' v hn' hs=>k _ ?_;obtain⟨oL,_,_,hoL,_⟩:=id hn;have tr:HOk X.prog X.w H h':=I.hok.keeps λb u o q r=>(hs.2 b λe=>by rw[e,I.free]at q;cases q).trans r;refine⟨I.ok,I.os,I.bare,⟨λb o e n hb hx=>?_,λb o e n hb hx=>?_,I.base.free,λb o e hx=>?_,I.base.ph,I.base.nG,I.base.pj⟩,⟨_,hn',λj y v' e1 e2 e3=>?_⟩,λy c e=>?_,I.free,I.en,λp hp=>?_,tr,by simpa using I.len⟩
 ·exact(hs.2 b (LN (LK (LC e) I.ok.above))).trans (I.base.keep b o e n hb hx)
 ·obtain⟨sl,e1⟩:=I.base.slot b o e n hb hx
  exact⟨sl,(hs.2 b (LN (LK (LC e) I.ok.above))).trans e1⟩
 ·obtain⟨o',e1⟩:=I.base.there b o e hx
  exact⟨o',(hs.2 b (LN (LK (LC e) I.ok.above))).trans e1⟩
 ·by_cases hj:j=i
  ·subst hj
   rw[List.getElem?_set]at e2;simp only[if_true]at e2;split at e2<;>cases e2
  ·rw[Nj (L4 hj)]at e2
   obtain⟨u',r',q⟩:=hl j y v' e1 e2 e3;refine⟨u',r',?_⟩;rcases q with⟨kk,e⟩|⟨kk,c,e,z⟩
   ·refine .inl ⟨kk,?_⟩
    have:y≠n:=λe=>hj (qr hN e1 (e ▸ hi))
    simp[this,e]
   ·exact .inr ⟨kk,c,e,z.sameBut hs (I.cne y c e)⟩
 ·obtain⟨w',z⟩:=I.cell y c e
  exact⟨w',z.sameBut hs (I.cne y c e)⟩
 ·obtain⟨e,n,ne,nf,d⟩:=I.pin p hp
  exact⟨(hs.2 p.1 ne).trans e,n,ne,nf,d⟩
theorem AL{body DC:List Stmt}{b₀:Stmt}{x n:Str}{np hpos pos:Pos}{i:Nat}{Dc:Addr}{cdD:ClassData}{tb:(St→XK)→TS}{ts:TS}(hex:X.ex=[])(hst:X.stack=X.env::X.outer)(hfr:X.env.frame=some X.env.locals)(hg:Gl X x)(hm:X.mg x=some (.ref Dc))
  (hD:cK X.K Dc cdD) (hN:X.N.Nodup) (hi:X.N[i]?=some n) (hx:X.env.scope.names.lookup n=some .local)
  (hb:∀(pins:List (Addr×Obj)) (E:Value→Shared→Prop) (EK:St→XK),bO (CXE X.prog X.w) (X.tQ pins E) EK→PSs (X.tQ pins E) body (tb EK))
  (hs:∀ ea,PSs (X.iS ea) (b₀::DC) ts) (hdb:(x == ("__debug__" : Str))=false:=by decide) :
  PS X (.Try body [.ExceptHandler (some (.Name x np)) (some n) (b₀::DC) hpos] [] [] pos) (KI X.K Dc i tb ts):=by
 intro pins s σ H D I h;refine wpAny_Try_except ?_;refine wpAny_mono (hb pins (λe s₁=>∃ σ' H1 sc,Inv X pins σ' H1 sc∧CXE X.prog X.w X.stack H1 sc (BG X.K Dc i ts D σ') e s₁) (BG X.K Dc i ts D)
  (λvg σ' H1 sc e s' J q=>⟨σ',H1,sc,J.mH,q⟩) [] s σ H D (I.tQ _) h) (λfl s1 q=>?_) λe s1 q=>?_
 ·cases fl with
  | next =>
   obtain⟨σ',H',J,q⟩:=q;exact wpAny_execs_nil ⟨σ',H',J.mH,q⟩
  | brk=>obtain⟨σ',H',J,q⟩:=q;exact⟨σ',H',J.mH,q⟩
  | cont=>obtain⟨σ',H',J,q⟩:=q;exact⟨σ',H',J.mH,q⟩
  | ret u=>obtain⟨v,σ',H',J,r,q⟩:=q;exact⟨v,σ',H',J.mH,r,q⟩
 ·obtain⟨σ',H1,sc,J,ea,Cv,T,od,fs,sl,H',rfl,l,C,cd,ec,xc,hmr,q⟩:=q
  cases ec;have hA:X.A.frames=some (X.env::X.outer):=by rw[J.ok.frames,hst]
  have hF:s1.heap.FunFrames X.base (X.env::X.outer):=by rw[←hst];exact l.frames J
  have e0:X.s₀.heap.get? ea=none:=by
   cases z:X.s₀.heap.get? ea with
   | none=>rfl
   | some o =>
    obtain⟨o',z'⟩:=J.base.there ea o z (by rw[hex];exact Mg);rw[l.Cf]at z';cases z'
  have st:∀(m:Heap) (tk:Nat),Kept (bt X.stack) [ea,T] s1.heap m→Inv X pins σ' H' {s1 with heap:=m,toks:=tk}:=λm tk k=>by
   obtain⟨un,hok⟩:=l.on (t':=s1.toks) J k;exact J.yO l.os un hok l.bare λb z=>absurd z (by simp)
  have pn:∀ p∈X.pn++pins,p.1≠ea:=λp hp e=>by
   obtain⟨z,_⟩:=J.pin p hp;rw[e,l.Cf]at z;cases z
  refine tE hA hF hfr l.at_ l.trail λm T' oc tsx z1 z2 z3 z4 z5=>?_;have Te:T'≠ea:=Mz (LK (LC l.at_) z1);have f1:(fs.setIfInBounds 1 (Value.ref T'))[1]?=some (.ref T'):=by
   have:=l.trail.size
   simp[this]
  have k1:Kept (bt X.stack) [ea,T] s1.heap m:=by rw[hst];exact z2
  refine iq (s:={s1 with heap:=m}) z3 f1 Te z4 (LZ.mp z5).1 λm' q1 q2 q3=>?_;have nT:∀ b o,s1.heap.get? b=some o→b≠T':=λb o q=>LN (LK (LC q) z1);have k2:Kept (bt X.stack) [ea,T] s1.heap m':=⟨λb o q hb hx=>q1 b o (nT b o q) (k1.plain b o q hb hx),λb o q hb hx=>by
   obtain⟨sm,r⟩:=k1.frame b o q hb hx;exact⟨sm,q1 b _ (nT b o q) r⟩⟩
  have J2:=st m' s1.toks k2;refine wpAny_handleBy_cons (codeAny_handlers_test ?_) (by intro z;cases z);refine iL (X:=X.iS ea) (J2.iS ea) hg hm ?_ hdb;refine ub xc hD J2.kIn q3 ?_;rw[hmr];refine codeAny_handlers_suite_as ?_;cases q2 with
  | @some _ oc2 ts2 d2 sm2 y1 y2 y3 y4 =>
  refine iq (s:={s1 with heap:=m'}) q3 y1 y2 y3 (LZ.mp y4).1 λm3 r1 r2 r3=>?_;have k3:Kept (bt X.stack) [ea,T] s1.heap m3:=⟨λb o q hb hx=>r1 b o (nT b o q) (k2.plain b o q hb hx),λb o q hb hx=>by
   obtain⟨sm,r⟩:=k2.frame b o q hb hx;exact⟨sm,r1 b _ (nT b o q) r⟩⟩
  have J3:=st m3 s1.toks k3;obtain⟨a0,ha⟩:=l.args;have J4:Inv X pins σ' (upd H' ea (exo false Cv ea od)) {s1 with heap:=m3}:=J3.HQ l.vx e0 r3 pn (wz ⟨_,_,a0,r3,by simpa using ha,λz=>nomatch z⟩);refine lU (X:=X.iS ea) (J4.iS ea) hN hi (.inl hx) (v:=.ref ea) rfl (λs5 J5=>?_) (.inr hx);refine wpAny_mono (hs ea pins s5 _ _ (xb i D) J5 (q ea l.vx)) (λfl s6 w=>?_) λ_ _ z=>False.elim z;have off:∀ {σ6:St} {H6:Hp} {Q6:Unit→Shared→Prop},Inv (X.iS ea) pins σ6 H6 s6→(∀ s7,Inv X pins (σ6.set i none) H6 s7→Q6 () s7)→wpAny (model X.prog X.w) X.A (do bindName X.env n .none;unbindBehindTheSuite X.env n hpos) Q6 X.xe s6 :=
   λJ6 k=>zH (J6.uncaught J.ok) hN hi hx k
  cases fl with
  | next=>obtain⟨σ6,H6,J6,w⟩:=w;exact off J6 λs7 J7=>⟨_,_,J7,w⟩
  | brk=>obtain⟨σ6,H6,J6,w⟩:=w;exact off J6 λs7 J7=>⟨_,_,J7,w⟩
  | cont=>obtain⟨σ6,H6,J6,w⟩:=w;exact off J6 λs7 J7=>⟨_,_,J7,w⟩
  | ret u=>obtain⟨v,σ6,H6,J6,r,w⟩:=w;exact off J6 λs7 J7=>⟨v,_,_,J7,r,w⟩
end
section
variable{X:Cx}
def HR(K:W.Frag):R2:=λx y H Q=>∃ l b xs zs,x=.ref l∧y=.ref b∧SqL K H l xs∧SqL K H b zs∧xs.length+zs.length≤sizeLine∧∀ p,H p=none→Q (.ref p) (upd H p (.lst (xs++zs)))
theorem pY:OpR X (binaryOp .Add) (HR X.K):=by
 intro pins s σ H x y v u Q I rx ry h;obtain⟨l,b,xs,zs,rfl,rfl,hx,hy,hz,q⟩:=h;cases rx;cases ry;obtain⟨vs,r1,⟨⟨c1,d1,da1,s1⟩,n1,e1,f1,_,g1⟩,_⟩:=I.list hx;obtain⟨ws,r2,⟨⟨c2,d2,da2,s2⟩,n2,e2,f2,_,g2⟩,_⟩:=I.list hy;simp only at f1 g1 f2 g2;subst f1 g1 f2 g2;have hl:vs.length+ws.length≤sizeLine:=by rw[←r1.length,←r2.length];exact hz
 have ea:vs.toArray++ws.toArray=(vs++ws).toArray:=by simp
 refine concat_meets ⟨_,e1,rfl⟩ ⟨_,e2,rfl⟩ noFill_list_add seq_list_add PySem.F.slot_list_add PySem.F.entry_list_add (PySem.F.args_list_add_2 _ _) (list_addW l b vs.toArray ws.toArray n1 n2 d1 d2 s1 s2 (by simpa using hl)) ⟨e1,e2,?_⟩;rw[ea];exact⟨.ref _,_,I.Dv (t':=s.toks) (r1.append r2) (by rw[Lw];exact hz),rfl,q _ I.fresh⟩
end
theorem aq.upd{H:Hp}{a:Addr}{o:HO}(h:H a=none):aq H (L2.upd H a o):=λb u q=>by rw[ak λe=>by rw[e,h]at q;cases q];exact q
structure DD(K:W.Frag)(C:Addr):Prop where
 cls:∃ cd,cK K C cd
 get:wY K C
 own:PySem.W.findIn K (.ref C) "__class__" = some (some (.builtin "object.__class__"))
theorem DD.ty{K:W.Frag}{C a:Addr}{H:Hp}{b:Bool}(c:DD K C)(e:H a=some (exo b C a none)):TyX K H (.ref a) (.ref C):=by
 obtain⟨cd,x⟩:=c.cls;exact .exc e (.inl rfl) x c.get c.own
def IW(K:W.Frag):Sp:=λvs H Q _=>∃ ea C od x,vs=[.ref ea,x]∧H ea=some (exo true C ea od)∧(∃ cd,cK K C cd)∧Q .non H
theorem yi{K:W.Frag}{i:Nat}{σ:St}{H:Hp}{Q:VK}{x:V}{D:String}{t:Value}{b:Bool}(h0:σ[i]?=some (some x))(ty:TyX K H x t)(hk:PySem.W.kitOne K t (.type D)=some b)(q:Q (.bl b) H) :
  tCB (BF K) (cD (BP i) (cD (tC (.ty D)) tu)) σ H Q:=⟨x,h0,x,.ty D,t,b,rfl,ty,⟨_,rfl⟩,hk,q⟩
theorem DE{X:Cx}{x:Str}{T:String}{pos:Pos}(hg:Gl X x)(hm:X.mg x=none)(hv:bootBuiltins x=some (.type T))(hn:x ≠ "__name__" := by decide)(hd:(x == ("__debug__" : Str))=false:=by decide):PE X (.Name x pos) (tC (.ty T)) :=
 λ_ _ _ H _ I h=>jL I hg hm hv ⟨.ty T,H,I,rfl,h⟩ hn hd
theorem bR{P:Program}{w:World}{X:Cx}:bO (CXE P w) X.nox (λ_ _ _ _=>False):=λ_ _ _ _ _ _ _ ⟨_,_,_,_,_,_,_,_,_,q⟩=>q.elim
theorem rL{n:Int}(h:n.natAbs<2 ^ 1920):n.natAbs.log2<1920:=by
 by_cases z:n.natAbs=0
 ·rw[z];decide
 ·exact(Nat.log2_lt z).mpr h
theorem HU{P:Program}{w:World}{outer:List Env}{H:Hp}{s:Shared}{e:Value}{s':Shared}(h:CXE P w outer H s (λ_ _ _=>False) e s'):False:=by
 obtain⟨_,_,_,_,_,_,_,_,_,q⟩:=h;exact q
def BH(xs ys:List V):Bool:=(List.range xs.length).all λj=>eqV (xs.getD j .non) (ys.getD j .non)
section
variable{X:Cx}
variable{o e value:Expr}{f:Str}{pos pos':Pos}{ta tv:TE}
structure DF(K:W.Frag)(C:Addr)(m:Str)(f:Addr):Prop where
 rd:PySem.W.readsIn K C (.type "type")=true
 fc:PySem.W.findCls K (.ref C) (.type "type") m=some (.val (.ref f))
 ga:PySem.W.specialIn K (.ref C) "__getattribute__" = some (some (.builtin "type.__getattribute__"))
 kp:PySem.W.keepIn K (.ref f)=true
theorem Ek{CX:CXT}{k:Nat}{f C:Addr}{fd:FuncData}{ps:List Str}{sp:Sp}{EK:St→XK}{x m:Str}{p apos pos:Pos}{e:Expr}{es:List Expr}{t:TA}{pl:Sem Bool}(hg:Gl X x)(hm:X.mg x=some (.ref C))(c:DF X.K C m f)(F:gZ X.prog X.w X.K X.mg X.base CX k f fd ps sp)(hr:dF k X.A)(hb:Binds X.K fd ps [])
  (hx:bO CX X EK) (ha:PA X (e::es) t) (hdb:(x == ("__debug__" : Str))=false:=by decide) (hst:starEach (e::es) X.env=(false,eval e X.env)::starEach es X.env:=by rfl) (hpl:(backTo pos (starEach es X.env)).any (·.1)=false:=by rfl)
  (ht:eval (.Call (.Attribute (.Name x p) m apos) (e::es) [] pos) X.env=(do
   let ov ←eval (.Name x p) X.env
   standAt apos.atName
   let (f,first) ←holding [ov] (getMethod ov m pl)
   callWith pos f first (backTo pos (starEach (e::es) X.env)) (backToKw pos (keywordEach [] X.env))):=by rfl) :
  PE X (.Call (.Attribute (.Name x p) m apos) (e::es) [] pos) (BE sp [] EK t):=by
 intro pins s σ H Q I h;refine PySem.W.methodCall_KW (pl:=pl) (iL I hg hm ?_ hdb) ht;refine PySem.W.method_cls I.kIn c.ga (PySem.W.cls_value I.kIn c.rd c.fc rfl ?_);exact PySem.W.callWith_K (first:=[]) (h₀:=X.base) I.ok.mod.kin c.kp (thn (ha pos pins _ σ H _ (I.tok _) h) λus s1 ⟨vs,H1,I1,r,q⟩=>⟨I1.kIn,DA F hr hb .nil hx I1 r q⟩) hst hpl
end
def DG(P:Program)(w:World)(A:Around)(env:Env)(E:Value→Shared→Prop)(K:Bool→Shared→Prop)(s:Shared):List Expr→Prop
 | [c]=>wpAny (model P w) A (isTrue c env (eval c env)) K E s
 | _=>K true s
theorem vA{prog:Program}{w:World}{A:Around}{R:Result→Shared→Prop}{s:Shared}{elt target iter:Expr}{cs:List Expr}{scope:Scope}{pos:Pos}{it acc:Value}{env:Env}(hcs:cs.length≤1)(I:Nat→Shared→Prop)
  (turn:∀ n s,I n s→wpAny (model prog w) A (pyNext it) (λr s₁=>match r with
   | none=>R (.ok .next) s₁
   | some v=>wpAny (model prog w) A (letOwnedTupleGo target it v) (λ_ s5=>wpAny (model prog w) A (assign target env v) (λ_ s₂=>DG prog w A env (notedBy (model prog w) A env λe s'=>R (.error e) s') (λok s6=>if ok=true then wpAny (model prog w) A (eval elt env) (λx s₃ =>
     wpAny (model prog w) A (call (.builtin "list.append") [acc,x]) (λ_ s₄=>∃ m,m<n∧I m s₄) (notedBy (model prog w) A env λe s'=>R (.error e) s') s₃)
     (notedBy (model prog w) A env λe s'=>R (.error e) s') s6 else ∃ m,m<n∧I m s6) s₂ cs) (notedBy (model prog w) A env λe s'=>R (.error e) s') s5) (notedBy (model prog w) A env λe s'=>R (.error e) s') s₁) (notedBy (model prog w) A env λe s'=>R (.error e) s') s)
  (n:Nat) (h:I n s):codeAny (model prog w) A (.compLoop (.ListComp elt [⟨target,iter,cs,0⟩] scope pos) 0 it acc env) R s:=by
 refine codeAny_loop rfl I (λn s hI=>?_) n h;show wpAny _ _ ((compTurn (.ListComp elt [⟨target,iter,cs,0⟩] scope pos) 0 it acc env).onRaise (λx=>do noteFrame x env;theTreesLotGoes x)) _ _ s
 refine wpAny_noted ?_;have T:=turn n s hI
 match cs,hcs with
 | [],_ =>
  rw[compTurn_list1];refine wpAny_bind (wpAny_standAt (wpAny_bind (wpAny_mono T (λr s₁ h₁=>?_) λ_ _ h'=>h')));cases r with
  | none=>exact wpAny_pure h₁
  | some v =>
   refine wpAny_bind (wpAny_mono h₁ (λ_ s5 h5=>?_) λ_ _ h'=>h');exact wpAny_bind (wpAny_mono h5 (λ_ s₂ h₂=>wpAny_bind (wpAny_bind (wpAny_mono (show wpAny _ _ _ _ _ _ from h₂) (λx s₃ h₃=>wpAny_bind (wpAny_mono h₃
    (λ_ s₄ h₄=>wpAny_pure (wpAny_pure ⟨rfl,h₄⟩)) λ_ _ h'=>h')) λ_ _ h'=>h'))) λ_ _ h'=>h')
 | [c],_ =>
  rw[compTurn_list];refine wpAny_bind (wpAny_standAt (wpAny_bind (wpAny_mono T (λr s₁ h₁=>?_) λ_ _ h'=>h')));cases r with
  | none=>exact wpAny_pure h₁
  | some v =>
   refine wpAny_bind (wpAny_mono h₁ (λ_ s5 h5=>?_) λ_ _ h'=>h');refine wpAny_bind (wpAny_mono h5 (λ_ s₂ h₂=>wpAny_bind (wpAny_mono (wpAny_tests_one h₂) (λok s₃ h₃=>?_) λ_ _ h'=>h')) λ_ _ h'=>h');cases ok with
   | false=>exact wpAny_pure ⟨rfl,h₃⟩
   | true =>
    exact wpAny_bind (wpAny_bind (wpAny_mono h₃ (λx s₄ h₄=>wpAny_bind (wpAny_mono h₄ (λ_ s₅ h₅=>wpAny_pure (wpAny_pure ⟨rfl,h₅⟩)) λ_ _ h'=>h')) λ_ _ h'=>h'))
abbrev cxC(X:Cx)(scope:Scope)(cl:List (Str×Addr))(NC:List Str)(C:Addr)(fp:List Addr)(s₀:Shared)(H₀:Hp):Cx :=
 {X with N:=NC,s₀:=s₀,H₀:=H₀,env:=compEnvC scope cl C X.env,outer:=X.stack,ex:=fp,fn:=λ_=>false,pn:=[],xe:=λ_ _=>False}
def nX(σ:St)(idx:List Nat):St:=idx.map λi=>(σ[i]?).getD none
structure iM(X:Cx)(scope:Scope)(cl:List (Str×Addr))(xs:List Str)(idx:List Nat)(NC:List Str):Prop where
 KJ:closureFor scope X.env=pure cl
 sub:∀ y c,cl.lookup y=some c→X.env.cells.lookup y=some c
 has:∀ y,((relabel scope X.env).names.lookup y=some .cell∨(relabel scope X.env).names.lookup y=some .free)→∃ c,cl.lookup y=some c
 El:∀ y∈scope.names,y.2≠.cell
 kind:scope.kind=.function
 loc:∀ y∈scope.names,y.2=.local→scope.names.lookup y.1=some .local
 xl:∀ x∈xs,scope.names.lookup x=some .local
 nc:NC=xs++idx.map λi=>X.N.getD i ""
 nd:NC.Nodup
 cap:∀ i∈idx,i<X.N.length∧((X.env.scope.names.lookup (X.N.getD i "")=some .cell∨X.env.scope.names.lookup (X.N.getD i "")=some .free)∧((relabel scope X.env).names.lookup (X.N.getD i "")=some .cell∨(relabel scope X.env).names.lookup (X.N.getD i "")=some .free))
abbrev gB(X:Cx)(scope:Scope)(cl:List (Str×Addr))(x:Str):=iM X scope cl [x]
def unset(xs:List Str):St:=xs.map λ_=>none
section
variable{X:Cx}{scope:Scope}{cl:List (Str×Addr)}{xs:List Str}{x:Str}{idx:List Nat}{NC:List Str}{C:Addr}{fp:List Addr}{pins:List (Addr×Obj)}{σ:St}{H:Hp}{s:Shared}
theorem zI{h1:Heap}{t':Nat}(c:iM X scope cl xs idx NC)(I:Inv X pins σ H s)(hf:∀ b∈fp,rn X pins H b)(hlt:∀ b∈fp,b<s.heap.objs.size)(ns:h1.Ns s.heap.objs.size (λ_=>none))
  (k:∀ b o,s.heap.get? b=some o→h1.get? b=some o):Inv (cxC X scope cl NC s.heap.objs.size fp s H) [] (unset xs++nX σ idx) H {s with heap:=h1,toks:=t'}:=by
 have sub:∀ b,b∈frs X.stack→b∈X.env.locals::X.fs:=I.o5;refine⟨⟨I.ok.mod,c.kind,I.ok.glob,I.ok.blt,Lu _,λy z a h1 h2=>I.ok.inj y z a (c.sub _ _ h1) (c.sub _ _ h2),c.has,λy a z=>(by cases z),I.ok.hd,I.ok.frames,.inl rfl,λb hb=>⟨LN (hlt b hb),λy a q=>(hf b hb).2.2.2.2.1 y a (c.sub _ _ q)⟩,
  λb o q=>I.bs b o q,LL I.ok.bsz I.sz,λb o q hb=>?_,λb hb z=>?_,I.stack,I.jK⟩,rfl,I.bare,Un.kept k,⟨_,ns,λi y v e1 e2 e3=>?_⟩,λy a q=>?_,I.hok.fresh (Lu _),λy a q=>I.en _ _ (c.sub _ _ q),λp hp=>(by cases hp),I.hok.keeps λb u o _ q=>k b o q,?_⟩
 ·rcases(hf b hb).2.2.2.1 with z|z
  ·exact I.ok.ve b o q z
  ·exact absurd (LK (LC (I.ok.bs b o q).1) z) (My _)
 ·rcases LQ.mp (sub b z) with r|r
  ·exact(hf b hb).2.1 r
  ·exact(hf b hb).2.2.1 r
 ·by_cases hi:i<xs.length
  ·have:(unset xs++nX σ idx)[i]?=some (some v):=e2
   rw[MB (by simpa[unset] using hi)]at this;simp[unset]at this
  ·have e1':(idx.map λi=>X.N.getD i "")[i-xs.length]?=some y:=by
    have:(cxC X scope cl NC s.heap.objs.size fp s H).N=NC:=rfl
    rw[this,c.nc,Mc (Nat.le_of_not_lt hi)]at e1;exact e1
   have e2':(nX σ idx)[i-xs.length]?=some (some v):=by
    have:(unset xs++nX σ idx)[i]?=some (some v):=e2
    rw[Mc (by simpa[unset] using Nat.le_of_not_lt hi)]at this;simpa[unset] using this
   generalize i-xs.length=j at e1' e2';rw[Lz]at e1';unfold nX at e2';rw[Lz]at e2';cases ei:idx[j]? with
   | none=>rw[ei]at e1';cases e1'
   | some i =>
    rw[ei]at e1' e2';simp only[Nm,Option.some.injEq]at e1' e2';obtain⟨hi,h2,h3⟩:=c.cap i (LD ei);rw[e1']at h2 h3;have hN:X.N[i]?=some y:=by
     rw[←e1'];simp[List.getD,Ls hi]
    have hσ:σ[i]?=some (some v):=by
     cases q:σ[i]? with
     | none=>rw[q]at e2';cases e2'
     | some o=>rw[q]at e2';simp only[Option.getD_some]at e2';rw[e2']
    obtain⟨m,hn,hl⟩:=I.loc;obtain⟨u,r,l⟩:=hl i y v hN hσ (h2.elim (λz=>.inr (.inl z)) λz=>.inr (.inr z));refine⟨u,r,.inr ⟨h3,?_⟩⟩;rcases l with⟨l,_⟩|⟨_,a,ha,hc⟩
    ·exfalso
     have l':X.env.scope.names.lookup y=some .local:=l;rcases h2 with z|z<;>(rw[l']at z;cases z)
    ·obtain⟨a',ha'⟩:=c.has y h3
     have:=c.sub _ _ ha'
     rw[ha]at this;cases this;exact⟨a,ha',hc.keeps k⟩
 ·obtain⟨v,z⟩:=I.cell _ _ (c.sub _ _ q)
  exact⟨v,z.keeps k⟩
 ·show _=NC.length
  rw[c.nc];simp[nX,unset]
abbrev yS(J:It)(D:Addr)(F:V→List V→(List V→Hp→Prop)→Hp→Prop)(Q:VK)(H:Hp):Prop:=∃ W:Nat→Nat→List V→Hp→Prop,(∃ m,W 0 m [] H)∧∀ i m ys H2,W i m ys H2→H2 D=some (.lst ys) ∧
 ((J.stop i H2∧Q (.ref D) H2)∨(J.go i H2∧ys.length<sizeLine∧∃ N:List V→Hp→Prop,(∀ zs H',N zs H'→∃ m',m'<m∧W (i+1) m' zs H')∧∀ y H3,J.yld i H2 y H3→F y ys N H3))
theorem jv{J:It}{D:Addr}{F:V→List V→(List V→Hp→Prop)→Hp→Prop}{Q:VK}{H:Hp}(n:Nat)(Pv:Nat→List V→Hp→Prop)(h0:Pv 0 [] H)(hD:∀ i ys H,i≤n→Pv i ys H→H D=some (.lst ys)∧ys.length≤i)(hn:n≤sizeLine)
  (hs:∀ i ys H,i<n→Pv i ys H→J.go i H∧∀ y H',J.yld i H y H'→F y ys (Pv (i+1)) H') (hd:∀ ys H,Pv n ys H→J.stop n H∧Q (.ref D) H):yS J D F Q H:=by
 refine⟨λi m ys H=>m=n-i∧i≤n∧Pv i ys H,⟨n,by simp,L8 _,h0⟩,?_⟩;rintro i m ys H2 ⟨rfl,hi,p⟩;obtain⟨d1,d2⟩:=hD i ys H2 hi p;refine⟨d1,?_⟩;by_cases hlt:i<n
 ·exact .inr ⟨(hs i ys H2 hlt p).1,by omega,Pv (i+1),λzs H' p'=>⟨n-(i+1),by omega,rfl,hlt,p'⟩,(hs i ys H2 hlt p).2⟩
 ·have e:i=n:=by omega
  subst e;exact .inl (hd ys H2 p)
def tR(J:It)(D:Addr)(τ:St)(te:TE)(Q:VK)(H:Hp):Prop:=yS J D (λy ys N H3=>te (some y::τ) H3 λv H4=>H4 D=some (.lst ys)∧N (ys++[v]) (upd H4 D (.lst (ys++[v])))) Q H
def DH(wi:TI)(idx:List Nat)(te:TE):TE:=λσ H Q=>wi σ H λJ H1=>∀ D,H1 D=none→tR J D (nX σ idx) te Q (upd H1 D (.lst []))
theorem zJ{X:Cx}{pins:List (Addr×Obj)}{σ:St}{H:Hp}{s:Shared}{D:Addr}{ys:List V}{v:V}{u:Value}(I:Inv X pins σ H s)(h:H D=some (.lst ys))(hz:ys.length<sizeLine)(r:RelV v u) :
  wpAny (model X.prog X.w) X.A (call (.builtin "list.append") [.ref D,u]) (λ_ s'=>Inv X pins σ (upd H D (.lst (ys++[v]))) s') X.xe s:=by
 refine thn (cw pins s σ H (.ref D) [v] (.ref D) [u] (λ_ H'=>H'=upd H D (.lst (ys++[v]))) I rfl (.cons r .nil) ⟨D,ys,v,rfl,rfl,h,hz,rfl⟩) λw s' ⟨_,H',I',_,e⟩=>?_;rw[←e];exact I'
def PTs(X:Cx)(cs:List Expr)(t:TT):Prop :=
 ∀(pins:List (Addr×Obj)) (s:Shared) (σ:St) (H:Hp) (Q K:Bool→Hp→Prop) (L:Bool→Shared→Prop) (E:Value→Shared→Prop),Inv X pins σ H s→t σ H Q→(∀ b s',TP X pins σ Q b s'→L b s')→(∀ e s',X.xe e s'→E e s')→DG X.prog X.w X.A X.env E L s cs
theorem xg{X:Cx}:PTs X [] (λ_ H Q=>Q true H):=λ_ _ _ H _ _ _ _ I h k _=>k _ _ ⟨H,I,h⟩
theorem xh{X:Cx}{ct:Expr}{tc:TT}(h:PT X ct tc):PTs X [ct] tc:=λpins s σ H Q _ _ _ I q k e=>wpAny_mono (h pins s σ H Q I q) k e
def vB(k:Nat)(cp:St)(g:TG)(J:It)(D:Addr)(tc:TT)(te:TE)(Q:VK)(H:Hp):Prop:=yS J D (λy ys N H3=>∀ vs:St,vs.length=k→g y (vs++cp) H3 λτ H4=>(∃ ws:St,ws.length=k∧τ=ws++cp) ∧
  tc τ H4 λb H5=>if b=true then te τ H5 λv H6=>H6 D=some (.lst ys)∧N (ys++[v]) (upd H6 D (.lst (ys++[v]))) else N ys H5) Q H
abbrev wA(J:It)(D:Addr)(τ:St)(tc:TT)(te:TE)(Q:VK)(H:Hp):Prop:=yS J D (λy ys N H3=>tc (some y::τ) H3 λb H4=>if b=true then te (some y::τ) H4 λv H5=>H5 D=some (.lst ys)∧N (ys++[v]) (upd H5 D (.lst (ys++[v]))) else N ys H4) Q H
theorem uK{elt tg iter:Expr}{cs:List Expr}{pos KL:Pos}{wi:TI}{g:TG}{tc:TT}{te:TE}{use:Option (Value→Sem Unit)}{R:Value→Shared→Prop}{Q:VK}(c:iM X scope cl xs idx NC)(hc:X.calm=true)(hcs:cs.length≤1)(hi:PI X tg iter wi)
  (hg:∀ C fp s₀ H₀,PG (cxC X scope cl NC C fp s₀ H₀) tg g) (ht:∀ C fp s₀ H₀,PTs (cxC X scope cl NC C fp s₀ H₀) cs tc) (he:∀ C fp s₀ H₀,PE (cxC X scope cl NC C fp s₀ H₀) elt te) (hs:∀ x,foldedSetIterable iter X.env x=pure x) (I:Inv X pins σ H s)
  {S:It→Hp→Prop} (h:wi σ H S) (hS:∀ J H1,S J H1→∀ D,H1 D=none→vB xs.length (nX σ idx) g J D tc te Q (upd H1 D (.lst [])))
  (fin:∀ D C H5 s6 m,Inv X pins σ H5 s6→s6.heap.Ns C m→rn X pins H5 C→Q (.ref D) H5→compPost (model X.prog X.w) X.A X.xe use R (.ref D) C (.ok .next) s6) :
  wpAny (model X.prog X.w) X.A (comprehension (.ListComp elt [⟨tg,iter,cs,0⟩] scope pos) scope X.env KL (newList []) false (eval iter X.env) use) R X.xe s:=by
 refine wpAny_comprehension_free rfl hs c.KJ c.kind c.loc (thn (hi pins s σ H _ I h) λv s1 h1=>thn h1 λitv s2 h2=>?_);obtain⟨it,fp,tn,J,H2,rfl,I2,T,st2,f2,q⟩:=h2;refine wpAny_newObj_type (wpAny_newFunctionEnv c.El (by intro y hy;simp at hy) (λh₁ hns₁ hsb₁=>?_) c.kind);dsimp only at hns₁ hsb₁ ⊢;have I3:Inv X pins σ (upd H2 s2.heap.objs.size (.lst [])) {s2 with heap:=s2.heap.push {cls:=.type "list",data:=.seq ([]:List Value).toArray},toks:=s2.toks}:=I2.Dv (ys:=[]) (its:=[]) .nil (L8 _);obtain⟨W,⟨m0,w0⟩,turn⟩:=hS _ _ q s2.heap.objs.size I2.fresh;generalize hD:s2.heap.objs.size=D at *;generalize hH:s2.heap.push {cls:=.type "list",data:=.seq ([]:List Value).toArray}=h3 at *;have IX:∀ b∈fp,b<D:=λb hb=>by
  obtain⟨o,e,_⟩:=T.obj _ _ st2 b hb;rw[←hD];exact LC e
 have hlt:∀ b∈fp,b<h3.objs.size:=λb hb=>by
  rw[←hH,Nr,hD];exact Nx (IX b hb)
 have hf:∀ b∈fp,rn X pins (upd H2 D (.lst [])) b:=λb hb=>⟨by rw[ak (LN (IX b hb))];exact(f2 b hb).1,(f2 b hb).2⟩;have kp:∀ b o,h3.get? b=some o→h₁.get? b=some o:=λb o e=>hsb₁.extBut b o (LN (LC e)) (Lx _ e);have I4:Inv (cxC X scope cl NC h3.objs.size fp {s2 with heap:=h3,toks:=s2.toks} (upd H2 D (.lst []))) [] (unset xs++nX σ idx) (upd H2 D (.lst [])) {s2 with heap:=h₁,toks:=s2.toks+([]:List (Str×Value)).length} :=
  zI (s:={s2 with heap:=h3,toks:=s2.toks}) c I3 hf hlt hns₁ kp
 have yW:∀ {H':Hp},(∀ b∈fp,H' b=none)→∀ b∈fp,rn (cxC X scope cl NC h3.objs.size fp {s2 with heap:=h3,toks:=s2.toks} (upd H2 D (.lst []))) [] H' b:=λhn b hb =>
  ⟨hn b hb,LN (hlt b hb),λz=>(LQ.mp (I3.o5 b z)).elim (hf b hb).2.1 (hf b hb).2.2.1,.inl hb,λy a q=>(hf b hb).2.2.2.2.1 y a (c.sub _ _ q),λp hp=>(by cases hp)⟩
 have st1:tn 0 h₁:=T.keep 0 _ _ st2 λb hb o e=>kp b o (by rw[←hH];exact Lx _ e);have loop:∀ s4:Shared,s4={s2 with heap:=h₁,toks:=s2.toks+([]:List (Str×Value)).length} →
   codeAny (model X.prog X.w) X.A (.compLoop (.ListComp elt [⟨tg,iter,cs,0⟩] scope pos) 0 (.ref it) (.ref D) (compEnvC scope cl h3.objs.size X.env)) (compPost (model X.prog X.w) X.A X.xe use R (.ref D) h3.objs.size) s4:=by
  rintro s4 rfl;refine vA hcs (λn s'=>∃ i ys H' vs,vs.length=xs.length∧Inv (cxC X scope cl NC h3.objs.size fp {s2 with heap:=h3,toks:=s2.toks} (upd H2 D (.lst []))) [] (vs++nX σ idx) H' s'∧tn i s'.heap∧(∀ b∈fp,H' b=none)∧W i n ys H')
   ?_ m0 ⟨0,[],_,_,by simp[unset],I4,st1,λb hb=>(hf b hb).1,w0⟩
  rintro n s5 ⟨i,ys,H5,vs,vl,I5,st5,fr5,w5⟩;obtain⟨hDl,alt⟩:=turn i n ys H5 w5;rcases alt with⟨stop,qn⟩|⟨go,hz,N,hN,step⟩
  ·refine thn (T.done (cxC X scope cl NC h3.objs.size fp {s2 with heap:=h3,toks:=s2.toks} (upd H2 D (.lst []))) rfl rfl rfl hc i [] s5 _ H5 _ I5 (yW fr5) st5 stop) λr s6 ⟨hr,I6⟩=>?_
   subst hr;obtain⟨m,ns6,_⟩:=id I6.loc;exact fin D _ H5 s6 m (I3.yO (ch:=fp) I6.os I6.base I6.hok I6.bare λb hb=>⟨(hf b hb).2.2.2.1,(hf b hb).2.1,(hf b hb).2.2.2.2.1,(hf b hb).2.2.2.2.2⟩) ns6 (I3.BQ (Lu _) I6.free) qn
  ·refine thn (T.item (cxC X scope cl NC h3.objs.size fp {s2 with heap:=h3,toks:=s2.toks} (upd H2 D (.lst []))) rfl rfl rfl hc i [] s5 _ H5 _ I5 (yW fr5) st5 go) λr s6 ⟨u,hr,h6⟩=>?_
   subst hr;refine thn h6 λ_ s7 ⟨y,H7,I7,r7,y7,st7,fr7⟩=>?_;have I7':=I7.pinned (yW fr7) (T.obj _ _ st7);refine wpAny_mono (hg _ _ _ _ _ s7 _ H7 y u _ I7' r7 (step y H7 y7 vs vl)) (λ_ s8 ⟨σ8,H8,I8,⟨ws,wl,e8⟩,q8⟩=>?_) λ_ _ z=>z.elim;subst e8;have fin:∀ {H12:Hp} {s12:Shared} {zs:List V} {m':Nat},Inv (cxC X scope cl NC h3.objs.size fp {s2 with heap:=h3,toks:=s2.toks} (upd H2 D (.lst []))) ([]++qF fp s7.heap) (ws++nX σ idx) H12 s12→m'<n→W (i+1) m' zs H12 →
     ∃ m,m<n∧∃ i ys H' vs,vs.length=xs.length∧Inv (cxC X scope cl NC h3.objs.size fp {s2 with heap:=h3,toks:=s2.toks} (upd H2 D (.lst []))) [] (vs++nX σ idx) H' s12∧tn i s12.heap∧(∀ b∈fp,H' b=none)∧W i m ys H':=λ{H12 s12 zs m'} I12 hm w12=>by
    refine⟨m',hm,i+1,zs,_,ws,wl,I12.js,T.keep _ _ _ st7 λb hb o e=>(I12.pin (b,o) (LJ _ (LJ _ (fM hb e)))).1,λb hb=>?_,w12⟩;obtain⟨o,e,d⟩:=T.obj _ _ st7 b hb;exact(I12.pin (b,o) (LJ _ (LJ _ (fM hb e)))).2.1
   refine ht _ _ _ _ _ s8 _ H8 _ (λ_ _=>True) _ _ I8 q8 (λbb s11 ⟨H11,I11,q11⟩=>?_) λ_ _ z=>z.elim;cases bb with
   | false =>
    obtain⟨m',hm,w9⟩:=hN _ _ q11;exact fin I11 hm w9
   | true =>
    refine wpAny_mono (he _ _ _ _ _ s11 _ H11 _ I11 q11) (λw s9 ⟨v,H9,I9,r9,hD9,n9⟩=>?_) λ_ _ z=>z.elim;obtain⟨m',hm,w9⟩:=hN _ _ n9;exact wpAny_mono (zJ (X:=(cxC X scope cl NC h3.objs.size fp {s2 with heap:=h3,toks:=s2.toks} (upd H2 D (.lst [])))) I9 hD9 hz r9) (λ_ s10 I10=>fin I10 hm w9) λ_ _ z=>z.elim
 exact codeAny_compStart_list (loop _ rfl) (T.self _ 0 _ _ _ st1 (loop _ rfl))
theorem uL{elt tg iter:Expr}{cs:List Expr}{pos:Pos}{wi:TI}{g:TG}{tc:TT}{te t:TE}(c:iM X scope cl xs idx NC)(hc:X.calm=true)(hcs:cs.length≤1)(hi:PI X tg iter wi)
  (hg:∀ C fp s₀ H₀,PG (cxC X scope cl NC C fp s₀ H₀) tg g) (ht:∀ C fp s₀ H₀,PTs (cxC X scope cl NC C fp s₀ H₀) cs tc) (he:∀ C fp s₀ H₀,PE (cxC X scope cl NC C fp s₀ H₀) elt te) (hs:∀ x,foldedSetIterable iter X.env x=pure x)
  (k:∀ σ H Q,t σ H Q→∃ S:It→Hp→Prop,wi σ H S∧∀ J H1,S J H1→∀ D,H1 D=none→vB xs.length (nX σ idx) g J D tc te Q (upd H1 D (.lst []))):PE X (.ListComp elt [⟨tg,iter,cs,0⟩] scope pos) t:=by
 intro pins s σ H Q I h;rw[eval_ListComp];obtain⟨S,h1,h2⟩:=k _ _ _ h;exact uK c hc hcs hi hg ht he hs I h1 h2 λD C H5 s6 m J n f q=>⟨m,n,λh' hs'=>⟨.ref D,H5,J.turned (t':=s6.toks) (it:=C) (λb o hb e=>hs'.extBut b o hb e) f.1 f.2.1 f.2.2.2.1 f.2.2.2.2.1 f.2.2.2.2.2,rfl,q⟩⟩
theorem vB.one{J:It}{D:Addr}{cp:St}{tc:TT}{te:TE}{Q:VK}{H:Hp}(h:wA J D cp tc te Q H):vB 1 cp (da 0) J D tc te Q H:=by
 obtain⟨W,w,t⟩:=h;exact⟨W,w,λi m ys H2 z=>⟨(t i m ys H2 z).1,(t i m ys H2 z).2.imp_right λ⟨a,b,N,c,d⟩=>⟨a,b,N,c,λy H3 q vs hv=>match vs,hv with|[_],_=>⟨⟨[some y],rfl,rfl⟩,d y H3 q⟩⟩⟩⟩
theorem iM.g1{px:Pos}(c:gB X scope cl x idx NC)(D:Addr)(fp:List Addr)(s₀:Shared)(H₀:Hp):PG (cxC X scope cl NC D fp s₀ H₀) (.Name x px) (da 0) :=
 have l:(relabel scope X.env).names.lookup x=some .local:=lookup_relabel_local (c.xl x (Lr.mpr rfl))
 aL c.nd (by show NC[0]?=some x;rw[c.nc];rfl) (.inl l) (.inr l)
theorem cO{elt iter:Expr}{px pos:Pos}{wi:TI}{te:TE}(c:gB X scope cl x idx NC)(hc:X.calm=true)(hi:PI X (.Name x px) iter wi)(he:∀ C fp s₀ H₀,PE (cxC X scope cl NC C fp s₀ H₀) elt te)
  (hs:∀ x,foldedSetIterable iter X.env x=pure x:=by intro _;rfl):PE X (.ListComp elt [⟨.Name x px,iter,[],0⟩] scope pos) (DH wi idx te) :=
 uL c hc (L8 _) hi c.g1 (λ_ _ _ _=>xg) he hs λ_ _ _ h=>⟨_,h,λ_ _ r D d=>.one (r D d)⟩
end
section
variable{X:Cx}
theorem uM:∀ {bs:List Bool} {us:List Value},Vals (bs.map V.bl) us→us=bs.map Value.bool
 | [],_,.nil=>rfl
 | b::r,_,.cons h t=>by
  cases h;rw[uM t];rfl
def KN(K:W.Frag):List V→Hp→VK→Prop:=λvs H Q=>∃(p:Addr) (bs:List Bool),vs=[.ref p]∧SqL K H p (bs.map V.bl)∧Q (.bl (bs.all id)) H
theorem uN(hc:X.calm=true):eR X (.builtin "all") (KN X.K):=by
 rintro pins s σ H xs us Q I r ⟨p,bs,rfl,hq,q⟩;obtain⟨u,rfl,ru⟩:=r.one;cases (show u=Value.ref p from ru);obtain⟨its,rv,⟨o,n,e1,e2,e3,e4⟩,hz⟩:=I.list hq;have e:=uM rv;have hl:s.heap.IsList p (bs.map Value.bool).toArray:=by
  rw[←e];exact⟨o,e1,e2,n,e4⟩
 have hlt:p<s.heap.objs.size:=LC e1;refine call_all_walk (wpAny_pyIter_list hl ?_);refine⟨s.heap.objs.size,[s.heap.objs.size,p],[s.heap.objs.size],(bs.map Value.bool).toArray.size,_,_,λi=>(bs[i]?).getD true,rfl,Walks.list (A:=X.A.in1) (I.ok.hd hc) _ p (LN hlt) _,
  ⟨⟨_,LY _ rfl,rfl,rfl⟩,hl.push _⟩,λi v s' Q' E' hP hQ=>?_,λh' tk hk=>?_⟩
 ·simp only[List.getElem?_toArray,Lz]at hP
  cases eb:bs[i]? with
  | none=>rw[eb]at hP;cases hP
  | some b =>
   rw[eb]at hP;cases hP;simp only[eb,Option.getD_some]at hQ;exact wpAny_truthy_bool hQ
 ·have e:((List.range (bs.map Value.bool).toArray.size).all λi=>(bs[i]?).getD true)=bs.all id:=by
   rw[Ly,Lp];exact LSm.range_all bs
  rw[e];refine⟨.bl _,H,I.kept (t':=tk) λb x q=>hk b x (λhm=>?_) (Lx _ q),rfl,q⟩;rw[Lr.mp hm]at q;exact My _ (LC q)
variable{scope:Scope}{cl:List (Str×Addr)}{x:Str}{idx:List Nat}{NC:List Str}{C:Addr}{fp:List Addr}{pins:List (Addr×Obj)}{σ:St}{H:Hp}{s:Shared}
def AM(wi:TI)(idx:List Nat)(tc:TT)(te:TE):TE:=λσ H Q=>wi σ H λJ H1=>∀ D,H1 D=none→wA J D (nX σ idx) tc te Q (upd H1 D (.lst []))
theorem zK{elt iter ct:Expr}{px pos:Pos}{wi:TI}{tc:TT}{te:TE}(c:gB X scope cl x idx NC)(hc:X.calm=true)(hi:PI X (.Name x px) iter wi)(ht:∀ C fp s₀ H₀,PT (cxC X scope cl NC C fp s₀ H₀) ct tc)(he:∀ C fp s₀ H₀,PE (cxC X scope cl NC C fp s₀ H₀) elt te)
  (hs:∀ x,foldedSetIterable iter X.env x=pure x:=by intro _;rfl):PE X (.ListComp elt [⟨.Name x px,iter,[ct],0⟩] scope pos) (AM wi idx tc te) :=
 uL c hc (Lu _) hi c.g1 (λ_ _ _ _=>xh (ht _ _ _ _)) he hs λ_ _ _ h=>⟨_,h,λ_ _ r D d=>.one (r D d)⟩
end
def Ite(K:W.Frag)(a:Addr):It :=
 ⟨λi H=>∃ xs x,SqL K H a xs∧xs[i]?=some x,λi H y H'=>∃ t x,H t=none∧y=.ref t∧(∀ xs,SqL K H a xs→xs[i]?=some x)∧H'=upd H t (.tup [.int (i:Int),x]),λi H=>∃ xs,SqL K H a xs∧xs.length≤i⟩
theorem Inv.land{X:Cx}{pins:List (Addr×Obj)}{s:Shared}{σ:St}{H:Hp}{ch:List Addr}{h2:Heap}{tk:Nat}{vs:List V}{us:List Value}(I:Inv X pins σ H s)(hf:∀ b∈ch,rn X pins H b)(ko:∀ c o,c∉ch→s.heap.get? c=some o→h2.get? c=some o)(rv:Vals vs us)(hz:vs.length≤sizeLine)
  (ht:h2.get? s.heap.objs.size=some {cls:=.type "tuple",data:=.seq us.toArray}):Inv X pins σ (upd H s.heap.objs.size (.tup vs)) {s with heap:=h2,toks:=tk}:=by
 have fr:H s.heap.objs.size=none:=I.hok.fresh (Lu _);have nt:∀ b o,s.heap.get? b=some o→b≠s.heap.objs.size:=λb o q=>LN (LC q);have nh:∀ b v,H b=some v→b≠s.heap.objs.size:=λb v q=>ai q fr;refine Inv.step (s:=s) (h':=h2) (t':=tk) (H:=H) (g':=s.gens) (d':=s.drawn) (ch:=ch) I (λc hc=>⟨(hf c hc).2.2.2.1,(hf c hc).2.1,(hf c hc).2.2.2.2.1,(hf c hc).2.2.2.2.2⟩)
  (λc o _ _ m q _=>ko c o m q) (λc o _ _ m q _=>⟨o.slots,ko c o m q⟩)
  (λb o _ q n=>by rw[ak (nt b o q)];exact n) (λc o m q=>⟨o,ko c o m q⟩)
  (λb xs q=>by rw[ak (nh b _ q)];exact q) (λb o v q=>by rw[ak (nh b _ q)];exact q) (λb ps q=>⟨#[],by rw[ak (nh b _ q),q];simp⟩) (λm hm=>?_) (λb v q=>?_) I.bare
 ·obtain⟨o,es',ep,ho,r⟩:=hm
  exact⟨o,es',ep,ko _ o (λz=>(hf _ z).2.1 rfl) ho,r⟩
 ·by_cases z:b=s.heap.objs.size
  ·subst z
   rw[ab]at q;cases q;exact⟨hz,us,rv,_,ht,rfl,_,rfl⟩
  ·rw[ak z]at q
   have n:∀ c v,H c=some v→c∉ch:=λc v q z=>by rw[(hf c z).1]at q;cases q
   refine(I.hok b v q).tm (λc o hc w=>?_) (λc w=>by rw[ak (nh c _ w)];exact w) λc xs w=>by rw[ak (nh c _ w)];exact w
   rcases hc with y|y
   ·rw[y]at w ⊢
    exact ko b o (n b v q) w
   ·exact ko c o (n c _ y) w
theorem yj{X:Cx}{pins:List (Addr×Obj)}{s:Shared}{σ:St}{H:Hp}(I:Inv X pins σ H s){e it:Addr}{i:Int}{u:Value}{x:V}{h2:Heap}{tk:Nat}(ru:RelV x u)(hf:∀ b∈[e,it],rn X pins H b)(hel:e<s.heap.objs.size)(hil:it<s.heap.objs.size)
  (k2:∀ b o,b≠e→b≠it→s.heap.get? b=some o→h2.get? b=some o) (ht2:h2.get? s.heap.objs.size=some {cls:=.type "tuple",data:=.seq #[.int i tk,u]}) :
  Inv X pins σ (upd H s.heap.objs.size (.tup [.int i,x])) {s with heap:=h2,toks:=tk+1}∧∀ b∈[e,it],upd H s.heap.objs.size (.tup [.int i,x]) b=none :=
 ⟨I.land hf (λc o m q=>k2 c o (λe=>m (by simp[e])) (λe=>m (by simp[e])) q) (us:=[.int i tk,u]) (.cons ⟨_,rfl⟩ (.cons ru .nil)) (by show 2≤sizeLine;decide) ht2,λb hb=>by
  rw[ak (LN ((LQ.mp hb).elim (λz=>z ▸ hel) λz=>Lr.mp z ▸ hil))];exact(hf b hb).1⟩
theorem ym{P:Program}{w:World}{K:W.Frag}{es:List Expr}{x1:Nat}{pos:Pos}(a it e:Addr)(hne:e≠it) :
  Turn P w K (.Tuple es x1 pos) (Ite K a) [e,it] e (λi h=>∃ old,IsEnum h e it i old∧h.IsListIter it a i) where
 mem:=by simp
 obj:=λi h st b hb=>by
  obtain⟨old,h1,o,q,c,d⟩:=st;rcases LQ.mp hb with z|z
  ·rw[z]
   exact⟨_,h1,λv z=>by
    have z':Data.fields _=Data.cell v:=z;cases z'⟩
  ·rw[Lr.mp z]
   exact⟨o,q,λv z=>by rw[d]at z;cases z⟩
 keep:=λi h h' st k=>by
  obtain⟨old,h1,h2⟩:=st;exact⟨old,k e (by simp) _ h1,h2.at λo q=>k it (by simp) o q⟩
 item:=by
  intro X hP hw hK hc i pins s σ H E I hf st hg;subst hP hw hK;obtain⟨xs,x,hq,hx⟩:=hg;obtain⟨its,rv,p,hz⟩:=I.list hq;obtain⟨u,hu,ru⟩:=rv.get hx;obtain⟨old,he,hit⟩:=st;have fr:H s.heap.objs.size=none:=I.hok.fresh (Lu _);refine wpAny_pyNext_enum_item he hit p.isList (x:=u) (by simpa using hu) hne λh1 heo hit1 ht1 hz1 hk1=>⟨_,rfl,wpAny_letOwnedTupleGo_enum heo λh2 he2 hs2=>?_⟩;replace hs2:Heap.SameBut e h1 h2:=hs2;have hel:e<s.heap.objs.size:=LC he;have k2:∀ b o,b≠e→b≠it→s.heap.get? b=some o→h2.get? b=some o:=λb o z1 z2 q=>(hs2.2 b z1).trans (hk1 b o z1 z2 q);have ht2:h2.get? s.heap.objs.size=some {cls:=.type "tuple",data:=.seq #[.int i s.toks,u]}:=(hs2.2 _ (Mz hel)).trans ht1;have KO:h2.IsListIter it a (i+1):=hit1.extBut hs2.extBut (L4 hne);obtain⟨l1,l2⟩:=yj (i:=i) (tk:=s.toks) I ru hf hel (let ⟨o,q,_⟩:=hit;LC q) k2 ht2;exact⟨.ref s.heap.objs.size,upd H s.heap.objs.size (.tup [.int (i:Int),x]),l1,rfl,⟨_,x,fr,rfl,λys hy=>by rw[I.uB hy hq];exact hx,rfl⟩,⟨_,he2,KO⟩,l2⟩
 done:=by
  intro X hP hw hK hc i pins s σ H E I hf st hg;subst hP hw hK;obtain⟨xs,hq,hx⟩:=hg;obtain⟨its,rv,p,hz⟩:=I.list hq;obtain⟨f0,f1,f2,f3,f4,f5⟩:=hf it (by simp);have hl:=rv.length;obtain⟨old,he,hit⟩:=st;exact wpAny_pyNext_enum_end (I.ok.hd hc) he hit p.isList (by simp;omega) λh' eb=>⟨rfl,I.turned (t':=s.toks) (λb o hb q=>eb b o hb q) f0 f1 f3 f4 f5⟩
 self:=λA i s Q E st h=>by
  obtain⟨old,he,hit⟩:=st;exact wpAny_pyIter_enum he h
section
variable{X:Cx}{es:List Expr}{x1:Nat}{tp:Pos}
def HV(K:W.Frag)(ta:TA):TI:=λσ H R=>ta σ H λvs H1=>∃ a,vs=[.ref a]∧(∃ xs,SqL K H1 a xs)∧R (Ite K a) H1
theorem jW{a:Expr}{ta:TA}{p pos:Pos}(hg:Gl X "enumerate")(hm:X.mg "enumerate" = none)(ha:PA X [a] ta)(hs:starEach [a] X.env=[(false,eval a X.env)]:=by rfl):PI X (.Tuple es x1 tp) (.Call (.Name "enumerate" p) [a] [] pos) (HV X.K ta):=by
 intro pins s σ H R I h;refine Call_ (jL I hg hm PyProof.Rows.Boot.«enumerate» (PyProof.Rows.callWith_type1 (thn (ha pos pins s σ H _ I h) λus s1 ⟨vs,H1,I1,r1,q1⟩=>?_) hs rfl));obtain⟨l,e,⟨xs,hq⟩,q⟩:=q1;subst e;cases r1 with
 | cons r rr =>
  cases rr;cases r;obtain⟨its,rv,pl,hz⟩:=I1.list hq;refine call_enumerate_list pl.isList λh' he hit hsz hk=>?_;refine wpAny_pyIter_enum he ?_;refine⟨s1.heap.objs.size+1,[s1.heap.objs.size+1,s1.heap.objs.size],_,_,H1,rfl,I1.kept (t':=s1.toks) hk,ym l s1.heap.objs.size (s1.heap.objs.size+1) (Nat.succ_ne_self _),⟨_,he,hit⟩,λb hb=>?_,q⟩;have hb':s1.heap.objs.size≤b:=by
   rcases LQ.mp hb with z|z
   ·rw[z];exact MV _
   ·rw[Lr.mp z]
    exact Lu _
  exact I1.BQ hb' (I1.hok.fresh hb')
end
theorem hV{K:W.Frag}{a:Addr}{xs:List V}{g:TG}{tb:TS}{D:Ends}{σ:St}{H:Hp}(Pv:Nat→St→Hp→Prop)(h0:Pv 0 σ H)(hl:∀ i σ H,i≤xs.length→Pv i σ H→SqL K H a xs)
  (hs:∀ i x σ H t,xs[i]?=some x→Pv i σ H→H t=none→g (.ref t) σ (upd H t (.tup [.int (i:Int),x])) λσ2 H2=>tb {D with nx:=Pv (i+1),ct:=Pv (i+1),bk:=D.nx} σ2 H2) (hd:∀ σ H,Pv xs.length σ H→D.nx σ H) :
  vi (Ite K a) g tb D σ H :=
 tL xs.length Pv h0 (λi σ H hi p=>⟨⟨xs,xs[i],hl i σ H (Me hi) p,Ls hi⟩,λx H' y=>by obtain⟨t,v,e1,e2,e3,e4⟩:=y;subst e2 e4;exact hs i v σ H t (e3 xs (hl i σ H (Me hi) p)) p e1⟩) λσ H p=>⟨⟨xs,hl _ σ H (Lu _) p,Lu _⟩,hd σ H p⟩
end L2
namespace L2
open PySem
theorem pZ{lo:Int}{n:Nat}{te:TE}{Q:VK}{D:Addr}{τ:St}{H:Hp}(Pv:Nat→List V→Hp→Prop)(h0:Pv 0 [] H)(hD:∀ i ys H,i≤n→Pv i ys H→H D=some (.lst ys)∧ys.length=i)(hn:n≤sizeLine)
  (hs:∀ i ys H,i<n→Pv i ys H→te (some (.int (lo+i))::τ) H λv H4=>H4 D=some (.lst ys)∧Pv (i+1) (ys++[v]) (upd H4 D (.lst (ys++[v])))) (hd:∀ ys H,Pv n ys H→Q (.ref D) H):tR (Itr lo n) D τ te Q H :=
 jv n Pv h0 (λi ys H hi p=>⟨(hD i ys H hi p).1,Nat.le_of_eq (hD i ys H hi p).2⟩) hn (λi ys H hi p=>⟨hi,λy H3 e=>by obtain⟨e1,e2⟩:=e;subst e1 e2;exact hs i ys _ hi p⟩) λys H p=>⟨Lu _,hd ys H p⟩
theorem bW{K:W.Frag}{a:Addr}{xs:List V}{te:TE}{Q:VK}{D:Addr}{τ:St}{H:Hp}(Pv:Nat→List V→Hp→Prop)(h0:Pv 0 [] H)(hD:∀ i ys H,i≤xs.length→Pv i ys H→H D=some (.lst ys)∧ys.length=i)(hl:∀ i ys H,i≤xs.length→Pv i ys H→SqL K H a xs)(hn:xs.length≤sizeLine)
  (hs:∀ i x ys H,xs[i]?=some x→Pv i ys H→te (some x::τ) H λv H4=>H4 D=some (.lst ys)∧Pv (i+1) (ys++[v]) (upd H4 D (.lst (ys++[v])))) (hd:∀ ys H,Pv xs.length ys H→Q (.ref D) H):tR (Itl K a) D τ te Q H :=
 jv xs.length Pv h0 (λi ys H hi p=>⟨(hD i ys H hi p).1,Nat.le_of_eq (hD i ys H hi p).2⟩) hn (λi ys H hi p=>⟨⟨xs,xs[i],hl i ys H (Me hi) p,Ls hi⟩,λy H3 e=>by obtain⟨e1,e2⟩:=e;subst e1;exact hs i y ys _ (e2 xs (hl i ys _ (Me hi) p)) p⟩) λys H p=>⟨⟨xs,hl _ ys H (Lu _) p,Lu _⟩,hd ys H p⟩
end L2
end
section
namespace L2
open PySem PySem.Spec PyProof.Rows LX
def DI(sc:Scope)(names:List (Str×NameKind)):List (Str×NameKind):=names.map λ(n,k)=>if(k == .free&&sc.kind == .function&&sc.names.lookup n == some .cell) then(n,.cell) else(n,k)
def tS(sc scope:Scope)(xs:List Str)(ns N:List Str)(idx:List Nat):Prop :=
 (∀ y∈scope.names,y.2≠.cell)∧(∀ y∈scope.names,y.2=.local→scope.names.lookup y.1=some .local)∧(∀ x∈xs,scope.names.lookup x=some .local)∧(∀ p∈DI sc scope.names,p.2=.cell∨p.2=.free→p.1∈ns)∧(xs++idx.map λi=>N.getD i "").Nodup ∧
 ∀ i∈idx,i<N.length∧((sc.names.lookup (N.getD i "")=some .cell∨sc.names.lookup (N.getD i "")=some .free)∧((DI sc scope.names).lookup (N.getD i "")=some .cell∨(DI sc scope.names).lookup (N.getD i "")=some .free))
instance (sc scope:Scope) (xs ns N:List Str) (idx:List Nat):Decidable (tS sc scope xs ns N idx):=by unfold tS;infer_instance
abbrev yT(sc scope:Scope)(x:Str):=tS sc scope [x]
theorem nY{y:Str}:∀ {cl:List (Str×Addr)},y∈cl.map (·.1)→∃ c,cl.lookup y=some c
 | [],h=>by simp at h
 | (n,c)::r,h=>by
  by_cases e:y=n
  ·exact⟨c,by simp[List.lookup,e]⟩
  ·have h':y∈r.map (·.1):=by
    rw[L1]at h;rcases LQ.mp h with z|z
    ·exact absurd z e
    ·exact z
   obtain⟨c',q⟩:=nY h';have hb:(y == n)=false:=beq_eq_false_iff_ne.mpr e;exact⟨c',by simp only[List.lookup,hb];exact q⟩
theorem bP{X:Cx}{sc scope:Scope}{cl:List (Str×Addr)}{xs ns N:List Str}{idx:List Nat}(hsc:X.env.scope=sc)(hN:X.N=N)(hk:scope.kind=.function)(p:tS sc scope xs ns N idx)(hn:cl.map (·.1)=ns)
  (HW:closureFor scope X.env=pure cl) (uO:∀ q∈cl,X.env.cells.lookup q.1=some q.2):iM X scope cl xs idx (xs++idx.map λi=>N.getD i ""):=by
 obtain⟨p1,p2,p3,p4,p5,p6⟩:=p;have re:(relabel scope X.env).names=DI sc scope.names:=by subst hsc;rfl
 subst hsc hN hn;refine⟨HW,λy c q=>uO (y,c) (Ml q),λy h=>?_,p1,hk,p2,p3,rfl,p5,λi hi=>?_⟩
 ·rw[re]at h
  refine nY ?_;rcases h with h|h
  ·exact p4 (y,.cell) (Ml h) (.inl rfl)
  ·exact p4 (y,.free) (Ml h) (.inr rfl)
 ·rw[re]
  exact p6 i hi
theorem kz{P:Program}{w:World}{X:Cx}:bO (CXE P w) X (λ_ _ _ _=>False):=λ_ _ _ _ _ _ _ ⟨_,_,_,_,_,_,_,_,_,q⟩=>q.elim
section
variable{X:Cx}{scope:Scope}{cl:List (Str×Addr)}{xs:List Str}{x:Str}{idx:List Nat}{NC:List Str}{pins:List (Addr×Obj)}{σ:St}{H:Hp}{s:Shared}
theorem uP{i:Nat}{y:Str}{elt tg iter:Expr}{cs:List Expr}{py pos tF:Pos}{wi:TI}{g:TG}{tc:TT}{te t:TE}(hN:X.N.Nodup)(hi':X.N[i]?=some y)(hx:X.env.scope.names.lookup y=some .local)(c:iM X scope cl xs idx NC)(hc:X.calm=true)(hcs:cs.length≤1)(hi:PI X tg iter wi)
  (hg:∀ C fp s₀ H₀,PG (cxC X scope cl NC C fp s₀ H₀) tg g) (ht:∀ C fp s₀ H₀,PTs (cxC X scope cl NC C fp s₀ H₀) cs tc) (he:∀ C fp s₀ H₀,PE (cxC X scope cl NC C fp s₀ H₀) elt te) (hs:∀ x,foldedSetIterable iter X.env x=pure x)
  (hsw:swapsWith (.ListComp elt [⟨tg,iter,cs,0⟩] scope pos) (some (.Name y py)) tF.line X.env=pure true)
  (k:∀ σ H Q,t σ H Q→∃ S:It→Hp→Prop,wi σ H S∧∀ J H1,S J H1→∀ D,H1 D=none→vB xs.length (nX σ idx) g J D tc te Q (upd H1 D (.lst []))):PS X (.Assign [.Name y py] (.ListComp elt [⟨tg,iter,cs,0⟩] scope pos) tF) (wN t (da i)):=by
 intro pins s σ H D0 I h;rw[exec_Assign_Name_used _ _ _ _ hsw];refine wpAny_bind (wpAny_standAt (wpAny_bind ?_));show wpAny _ _ (do let _ ←comprehension (.ListComp elt [⟨tg,iter,cs,0⟩] scope pos) scope X.env _ (newList []) false (eval iter X.env) (some (assign (.Name y py) X.env))) _ _ s
 obtain⟨S,h1,h2⟩:=k _ _ _ h;refine wpAny_bind (wpAny_mono (uK (R:=λ_ s'=>SP X pins D0 .next s') c hc hcs hi hg ht he hs I h1 h2 λD C H5 s6 m J6 ns6 fC qn=>?_) (λ_ s' hq=>wpAny_pure (wpAny_pure hq)) λ_ _ e=>e);obtain⟨o,es,ep,ho,rr⟩:=ns6;have od:∀ v,o.data≠.cell v:=λv z=>by
  rw[rr.1]at z;cases z
 show wpAny _ _ (assign (.Name y py) X.env (.ref D)) (λ_ s''=>∃ m,s''.heap.Ns C m∧∀ h',Heap.SameBut C s''.heap h'→SP X pins D0 .next {s'' with heap:=h'}) X.xe s6;have J7:=J6.pinned (fp:=[C]) (λb hb=>by rw[Lr.mp hb];exact fC) (λb hb=>by rw[Lr.mp hb];exact⟨o,ho,od⟩);refine wpAny_mono (aL (pos:=py) hN hi' (.inl hx) (.inr hx) _ s6 _ H5 (.ref D) (.ref D) D0.nx J7 rfl qn) (λ_ s7 ⟨σ7,H7,I7,q7⟩=>?_) (λ_ _ z=>z);have pC:=I7.pin (C,o) (LJ _ (LJ _ (fM (Lr.mpr rfl) ho)));refine⟨m,⟨o,es,ep,pC.1,rr⟩,λh' hs'=>⟨σ7,H7,?_,q7⟩⟩;exact I7.js.turned (t':=s7.toks) (it:=C) (λb o hb e=>hs'.extBut b o hb e) pC.2.1 fC.2.1 fC.2.2.2.1 fC.2.2.2.2.1 fC.2.2.2.2.2
theorem tG{i:Nat}{y:Str}{elt iter:Expr}{px py pos tF:Pos}{wi:TI}{te:TE}(hN:X.N.Nodup)(hi':X.N[i]?=some y)(hx:X.env.scope.names.lookup y=some .local)(c:gB X scope cl x idx NC)(hc:X.calm=true)(hi:PI X (.Name x px) iter wi)
  (he:∀ C fp s₀ H₀,PE (cxC X scope cl NC C fp s₀ H₀) elt te) (hsw:swapsWith (.ListComp elt [⟨.Name x px,iter,[],0⟩] scope pos) (some (.Name y py)) tF.line X.env=pure true:=by rfl)
  (hs:∀ x,foldedSetIterable iter X.env x=pure x:=by intro _;rfl):PS X (.Assign [.Name y py] (.ListComp elt [⟨.Name x px,iter,[],0⟩] scope pos) tF) (wN (DH wi idx te) (da i)) :=
 uP hN hi' hx c hc (L8 _) hi c.g1 (λ_ _ _ _=>xg) he hs hsw λ_ _ _ h=>⟨_,h,λ_ _ r D d=>.one (r D d)⟩
def KP(K:W.Frag):R2:=λx y H Q=>∃ a b xs ys,x=.ref a∧y=.ref b∧SqL K H a xs∧SqL K H b ys∧xs.length=ys.length∧xs.all cE=true∧ys.all cE=true∧Q (.bl (!BH xs ys)) H
theorem Em{X:Cx}(hu:X.A.units<cLine):OpR X (compareOp .NotEq) (KP X.K):=by
 intro pins s σ H x y v u Q I rx ry h;obtain⟨a,b,xs,ys,rfl,rfl,ha,hb,hl,fx,fy,q⟩:=h;cases rx;cases ry;obtain⟨vs,r1,⟨o1,n1,e1,c1,_,g1⟩,_⟩:=I.list ha;obtain⟨ws,r2,⟨o2,n2,e2,c2,_,g2⟩,_⟩:=I.list hb;have l1:=r1.length;have l2:=r2.length;refine SeqAt.RcNeAt.lists (e:=λj=>eqV (xs.getD j .non) (ys.getD j .non)) ⟨o1,e1,c1,n1,g1⟩ ⟨o2,e2,c2,n2,g2⟩ (by simp only[Ly];omega) hu (λj h1 h2=>?_) _ _ _ _ ⟨.bl _,H,I,rfl,?_⟩
 ·simp only[Ly]at h1 h2
  obtain⟨w1,z1,rz1⟩:=r1.get (i:=j) (x:=xs[j]'(by omega)) (Ls (by omega));obtain⟨w2,z2,rz2⟩:=r2.get (i:=j) (x:=ys[j]'(by omega)) (Ls (by omega));have a1:vs.toArray[j]=w1:=by
   have:=(Lq.mp z1).2
   simpa using this
  have a2:ws.toArray[j]=w2:=by
   have:=(Lq.mp z2).2
   simpa using this
  rw[a1,a2];have d1:xs.getD j .non=xs[j]'(by omega):=by simp[List.getD,Ls (show j<xs.length by omega)]
  have d2:ys.getD j .non=ys[j]'(by omega):=by simp[List.getD,Ls (show j<ys.length by omega)]
  show SeqAt.EqAt _ _ _ _ (eqV (xs.getD j .non) (ys.getD j .non));rw[d1,d2];exact qJ rz1 rz2 (MK.mp fx _ (Mb _)) (MK.mp fy _ (Mb _))
 ·have:vs.toArray.size=xs.length:=by simp only[Ly];omega
  rw[this];exact q
theorem AN:∀ {cs:List V} {its:List Value},Vals cs its→(∀ c∈cs,∃ a,c=.ref a)→its=cs.map AK
 | [],_,.nil,_=>rfl
 | c::r,_,.cons h t,hc=>by
  obtain⟨a,rfl⟩:=hc c (LR ..);cases h;rw[AN t λd hd=>hc d (LU _ hd)];rfl
def tH(K:W.Frag):List V→Hp→VK→Prop:=λvs H Q=>∃(k:Bool) (a C tp:Addr) (od:Option Addr) (cd:ClassData) (cs:List V) (b:Bool),vs=[.ref a,.ref tp]∧H a=some (exo k C a od)∧(od=none∨∃ dx fs,od=some dx∧H dx=some (.xd fs))∧cK K C cd∧wY K C ∧
 PySem.W.findIn K (.ref C) "__class__" = some (some (.builtin "object.__class__"))∧SqT K H tp cs∧(∀ c∈cs,∃ a,c=.ref a)∧PySem.W.kitAny K (.ref C) (cs.map AK)=some b∧Q (.bl b) H
theorem nZ:eR X (.builtin "isinstance") (tH X.K):=by
 rintro pins s σ H xs us Q I r ⟨k,a,C,tp,od,cd,cs,b,rfl,ea,hd,xc,g,hc,ht,hcs,e,q⟩;obtain⟨u,v,rfl,ru,rv⟩:=vals2 r;cases (show v=Value.ref tp from rv);cases (show u=Value.ref a from ru);obtain⟨its,rvs,⟨⟨cls,dd,data,sl⟩,ho,hcl,n,hda⟩,hz⟩:=I.tuple ht;simp only at hcl hda;subst hcl hda;rw[←AN rvs hcs]at e;obtain⟨ox,o,J⟩:=uJ I.hok ea hd;exact PySem.W.kia_tup (wZ xc g hc) I.kIn ⟨ox,o,J⟩ ho e (λz=>nomatch z) λtk=>⟨.bl b,H,I.tok tk,rfl,q⟩
end
theorem xi:∀ {us:List Value} {ks:List Int},us.length=ks.length→(∀(j:Nat) (v:Value),us[j]?=some v→∃ t,v=Value.int (ks.getD j 0) t)→IntsAre us ks
 | [],[],_,_=>.nil
 | [],_::_,h,_=>by simp at h
 | _::_,[],h,_=>by simp at h
 | u::us,k::ks,h,f=>by
  obtain⟨t,e⟩:=f 0 u rfl;subst e;exact .cons k t (xi (by simpa using h) λj v q=>f (j+1) v q)
section
variable{X:Cx}
def En(K:W.Frag):List V→Hp→VK→Prop:=λvs H Q=>∃(p:Addr) (ns:List Int),vs=[.ref p]∧SqL K H p (ns.map V.int)∧ns.length<64∧∀(l:Addr) (ns':List Int),H l=none→ns'.Perm ns→ns'.Pairwise (·≤·)→Q (.ref l) (upd H l (.lst (ns'.map V.int)))
theorem si:eR X (.builtin "sorted") (En X.K):=by
 rintro pins s σ H xs us Q I r ⟨p,ns,rfl,hq,h64,q⟩;obtain⟨u,rfl,ru⟩:=r.one;cases (show u=Value.ref p from ru);obtain⟨its,rv,pl,hz⟩:=I.list hq;have hI:=intsAre_of rv;have hlen:=rv.length;rw[Lp]at hlen hz;refine sorted_ints pl.isList hI (by omega) λout ns' a1 a2 a3=>?_;obtain⟨e,he⟩:=sortedAll_at s.heap its out;refine⟨.ref (s.heap.objs.size+1),_,I.laid (a:=s.heap.objs.size+1) (o:=.lst (ns'.map V.int)) (t':=s.toks) (λ_ _=>sortedAll_old) (MV _) ?_,rfl,q _ ns' (I.hok.fresh (MV _)) a2 a3⟩;refine⟨by rw[Lp,a2.length_eq];exact hz,out.toList,e,d9 a1,?_⟩;rw[he]
theorem nB{P:Program}{w:World}{vs:List (Key×Value)}{ks:List Int}{acc:Array Value}(hk:vs.map (·.1)=ks.map Sum.inl)(ha:acc.size=vs.length)(h:∀(j:Nat) (v:Value),acc[j]?=some v→∃ k x,vs[j]?=some (k,x)∧(aR P w).is k v=true):IntsAre acc.toList ks:=by
 have hl:vs.length=ks.length:=by
  have:=congrArg List.length hk
  simpa using this
 refine xi (by rw[MF];omega) λj v e=>?_;obtain⟨k,x,h1,h2⟩:=h j v (by rw[←Array.getElem?_toList];exact e);have h3:(vs.map (·.1))[j]?=some k:=by rw[Lz,h1];rfl
 rw[hk,Lz]at h3;obtain⟨i,hi,rfl⟩:=LG.mp h3;have h4:gq (.inl i) v=true:=h2;rcases aT h4 with⟨i',t,e1,e2⟩|⟨y,t,e1,_⟩
 ·injection e1 with e1
  subst e1;exact⟨t,by rw[e2];simp[List.getD,hi]⟩
 ·cases e1
end
theorem rM{xs ys:List Int}(p:xs.Perm ys)(hx:xs.Pairwise (·≤·))(hy:ys.Pairwise (·≤·)):xs=ys :=
 p.eq_of_pairwise (λa b _ _ h1 h2=>Int.le_antisymm h1 h2) hx hy
inductive p9(K:W.Frag)(H:Hp):Nat→V→V→Prop
 | flat {n:Nat} {x:V}:cE x=true→p9 K H n x x
 | lst {n:Nat} {a b:Addr} {xs ys:List V}:SqL K H a xs→SqL K H b ys→xs.length=ys.length→(∀ j (h1:j<xs.length) (h2:j<ys.length),p9 K H n xs[j] ys[j])→p9 K H (n+1) (.ref a) (.ref b)
 | tup {n:Nat} {a b:Addr} {xs ys:List V}:SqT K H a xs→SqT K H b ys→xs.length=ys.length→(∀ j (h1:j<xs.length) (h2:j<ys.length),p9 K H n xs[j] ys[j])→p9 K H (n+1) (.ref a) (.ref b)
theorem wB{v:V}(h:cE v=true):eqV v v=true:=by
 cases v with
 | non=>rfl
 | bl b=>cases b<;>rfl
 | int n=>simp[eqV]
 | str z=>simp[eqV]
 | _=>exact absurd (show false=true from h) Lv
theorem all_true(l:List Nat):(l.all λ_=>true)=true:=MK.mpr λ_ _=>rfl
theorem p9.G6{X:Cx}{pins:List (Addr×Obj)}{σ:St}{H:Hp}{s:Shared}(I:Inv X pins σ H s){n:Nat}{x y:V}(d:p9 X.K H n x y):∀ {A:Around} {u v:Value},RelV x u→RelV y v→A.units+n<cLine→SeqAt.EqAt A s u v true:=by
 induction d with
 | flat h =>
  intro A u v rx ry hu
  have:=qJ (A:=A) (s:=s) rx ry h h
  rw[wB h]at this;exact this
 | @lst n a b xs ys ha hb hl hd ih =>
  intro A u v rx ry hu;cases rx;cases ry;by_cases e:a=b
  ·subst e
   exact MZ _
  ·refine Nq e ?_
   obtain⟨vs,r1,⟨o1,n1,e1,c1,_,g1⟩,_⟩:=I.list ha;obtain⟨ws,r2,⟨o2,n2,e2,c2,_,g2⟩,_⟩:=I.list hb;have l1:=r1.length;have l2:=r2.length
   have:=SeqAt.RcAt.lists (A:=A) (s:=s) (e:=λ_=>true) ⟨o1,e1,c1,n1,g1⟩ ⟨o2,e2,c2,n2,g2⟩ (by simp only[Ly];omega) (by omega) (λj h1 h2=>by
    simp only[Ly]at h1 h2;obtain⟨w1,z1,rz1⟩:=r1.get (i:=j) (x:=xs[j]'(by omega)) (Ls (by omega));obtain⟨w2,z2,rz2⟩:=r2.get (i:=j) (x:=ys[j]'(by omega)) (Ls (by omega));have a1:vs.toArray[j]=w1:=by
     have:=(Lq.mp z1).2
     simpa using this
    have a2:ws.toArray[j]=w2:=by
     have:=(Lq.mp z2).2
     simpa using this
    rw[a1,a2];exact ih j (by omega) (by omega) rz1 rz2 (by rw[Mo];omega))
   rw[all_true]at this;exact this
 | @tup n a b xs ys ha hb hl hd ih =>
  intro A u v rx ry hu;cases rx;cases ry;by_cases e:a=b
  ·subst e
   exact MZ _
  ·refine Nq e ?_
   obtain⟨vs,r1,t1,_⟩:=I.tuple ha;obtain⟨ws,r2,t2,_⟩:=I.tuple hb;have l1:=r1.length;have l2:=r2.length;have hs:vs.length=ws.length:=by omega
   have:=SeqAt.RcAt.tuples (A:=A) (s:=s) (e:=λ_=>true) t1 t2 (by omega) (λj h1 h2=>by
    simp only[Ly]at h1 h2;obtain⟨w1,z1,rz1⟩:=r1.get (i:=j) (x:=xs[j]'(by omega)) (Ls (by omega));obtain⟨w2,z2,rz2⟩:=r2.get (i:=j) (x:=ys[j]'(by omega)) (Ls (by omega));have a1:vs.toArray[j]=w1:=by
     have:=(Lq.mp z1).2
     simpa using this
    have a2:ws.toArray[j]=w2:=by
     have:=(Lq.mp z2).2
     simpa using this
    rw[a1,a2];exact ih j (by omega) (by omega) rz1 rz2 (by rw[Mo];omega))
   rw[all_true]at this;simpa[hs] using this
section
variable{X:Cx}
end
section
variable{X:Cx}{tg:Expr}
theorem PS.nox{st:Stmt}{t:TS}(h:PS X.nox st t):PS X st t:=λpins s σ H D I hw =>
 wpAny_mono (h pins s σ H D (I.qE _) hw) (λ_ _ q=>q.fG) λ_ _ z=>False.elim z
end
section
variable{X:Cx}{scope:Scope}{cl:List (Str×Addr)}{x:Str}{idx:List Nat}{NC:List Str}{pins:List (Addr×Obj)}{σ:St}{H:Hp}{s:Shared}
theorem zM{i:Nat}{y:Str}{elt iter ct:Expr}{px py pos tF:Pos}{wi:TI}{tc:TT}{te:TE}(hN:X.N.Nodup)(hi':X.N[i]?=some y)(hx:X.env.scope.names.lookup y=some .local)(c:gB X scope cl x idx NC)(hc:X.calm=true)(hi:PI X (.Name x px) iter wi)
  (ht:∀ C fp s₀ H₀,PT (cxC X scope cl NC C fp s₀ H₀) ct tc) (he:∀ C fp s₀ H₀,PE (cxC X scope cl NC C fp s₀ H₀) elt te) (hsw:swapsWith (.ListComp elt [⟨.Name x px,iter,[ct],0⟩] scope pos) (some (.Name y py)) tF.line X.env=pure true:=by rfl)
  (hs:∀ x,foldedSetIterable iter X.env x=pure x:=by intro _;rfl):PS X (.Assign [.Name y py] (.ListComp elt [⟨.Name x px,iter,[ct],0⟩] scope pos) tF) (wN (AM wi idx tc te) (da i)) :=
 uP hN hi' hx c hc (Lu _) hi c.g1 (λ_ _ _ _=>xh (ht _ _ _ _)) he hs hsw λ_ _ _ h=>⟨_,h,λ_ _ r D d=>.one (r D d)⟩
def tI(J:It)(D:Addr)(τ:St)(tc:TT)(te:TE)(Q:VK)(H:Hp):Prop:=wA J D τ tc te Q H
def AO(wi:TI)(idx:List Nat)(tc:TT)(te:TE):TE:=λσ H Q=>wi σ H λJ H1=>∀ D,H1 D=none→tI J D (nX σ idx) tc te Q (upd H1 D (.lst []))
theorem zN{i:Nat}{y:Str}{elt iter ct:Expr}{px py pos tF:Pos}{wi:TI}{tc:TT}{te:TE}(hN:X.N.Nodup)(hi':X.N[i]?=some y)(hx:X.env.scope.names.lookup y=some .local)(c:gB X scope cl x idx NC)(hc:X.calm=true)(hi:PI X (.Name x px) iter wi)
  (ht:∀ C fp s₀ H₀,PT (cxC X scope cl NC C fp s₀ H₀) ct tc) (he:∀ C fp s₀ H₀,PE (cxC X scope cl NC C fp s₀ H₀) elt te) (hsw:swapsWith (.ListComp elt [⟨.Name x px,iter,[ct],0⟩] scope pos) (some (.Name y py)) tF.line X.env=pure true:=by rfl)
  (hs:∀ x,foldedSetIterable iter X.env x=pure x:=by intro _;rfl):PS X (.Assign [.Name y py] (.ListComp elt [⟨.Name x px,iter,[ct],0⟩] scope pos) tF) (wN (AO wi idx tc te) (da i)) :=
 zM hN hi' hx c hc hi ht he hsw hs
theorem uQ{elt iter ct:Expr}{px pos:Pos}{wi:TI}{tc:TT}{te:TE}(c:gB X scope cl x idx NC)(hc:X.calm=true)(hi:PI X (.Name x px) iter wi)(ht:∀ C fp s₀ H₀,PT (cxC X scope cl NC C fp s₀ H₀) ct tc)(he:∀ C fp s₀ H₀,PE (cxC X scope cl NC C fp s₀ H₀) elt te)
  (hs:∀ x,foldedSetIterable iter X.env x=pure x:=by intro _;rfl):PE X (.ListComp elt [⟨.Name x px,iter,[ct],0⟩] scope pos) (AO wi idx tc te) :=
 zK c hc hi ht he hs
end
theorem vC{K:W.Frag}{a:Addr}{xs:List V}{tc:TT}{te:TE}{Q:VK}{D:Addr}{τ:St}{H:Hp}(Pv:Nat→List V→Hp→Prop)(h0:Pv 0 [] H)(hD:∀ i ys H,i≤xs.length→Pv i ys H→H D=some (.lst ys)∧ys.length≤i)(hl:∀ i ys H,i≤xs.length→Pv i ys H→SqL K H a xs)(hn:xs.length≤sizeLine)
  (hs:∀ i x ys H,xs[i]?=some x→Pv i ys H→tc (some x::τ) H λb H4=>if b=true then te (some x::τ) H4 λv H5=>H5 D=some (.lst ys)∧Pv (i+1) (ys++[v]) (upd H5 D (.lst (ys++[v]))) else Pv (i+1) ys H4)
  (hd:∀ ys H,Pv xs.length ys H→Q (.ref D) H):tI (Itl K a) D τ tc te Q H :=
 jv xs.length Pv h0 hD hn (λi ys H hi p=>⟨⟨xs,xs[i],hl i ys H (Me hi) p,Ls hi⟩,λy H3 e=>by obtain⟨e1,e2⟩:=e;subst e1;exact hs i y ys _ (e2 xs (hl i ys _ (Me hi) p)) p⟩) λys H p=>⟨⟨xs,hl _ ys H (Lu _) p,Lu _⟩,hd ys H p⟩
end L2
end
section
namespace L2
open PySem PySem.Spec PyProof.Rows LX
section
variable{P:Program}{w:World}{A:Around}{E:Value→Shared→Prop}{s:Shared}{a:Addr}{S:Int→Bool}{n:Nat}
end
end L2
end
section
namespace L2
open PySem PySem.Spec PyProof.Rows LX
section
variable{P:Program}{w:World}{A:Around}{R:Result→Shared→Prop}{I:Addr}{fp wr:List Addr}{G:Array GenState→Array GenState→Prop}{n:Nat}{p:Nat→Value→Prop}{St:Nat→Shared→Prop}
end
section
variable{P:Program}{w:World}{A:Around}{E:Value→Shared→Prop}{s:Shared}
end
section
variable{P:Program}{w:World}{A:Around}{E:Value→Shared→Prop}{s:Shared}{it a:Addr}{first:Value}{i n ep:Nat}
end
section
variable{P:Program}{w:World}{A:Around}{E:Value→Shared→Prop}{s:Shared}{it a:Addr}{first:Value}{i n ep:Nat}{es:Array (Int×Value)}{t:SetTable}
end
section
variable{P:Program}{w:World}{A:Around}{E:Value→Shared→Prop}{s:Shared}{I a:Addr}{ep:Nat}{es:Array (Int×Value)}{t:SetTable}{sl:Nat→Nat}{vs:List Value}
end
end L2
end
section
namespace L2
open PySem PySem.Spec PyProof.Rows LX PySem.W
section
variable{P:Program}{w:World}{A:Around}{E:Value→Shared→Prop}{s:Shared}{a:Addr}{ep:Nat}{es:Array (Int×Value)}{t:SetTable}
end
section
variable{P:Program}{w:World}{A:Around}{E:Value→Shared→Prop}{s:Shared}{a:Addr}{ep:Nat}{es:Array (Int×Value)}{t:SetTable}
end
theorem rN:∀ {l m:List Int},l.Nodup→(∀ k∈l,k∈m)→l.length≤m.length
 | [],m,_,_=>L8 _
 | x::l,m,h,s=>by
  have hx:x∈m:=s x (.head _);have hl:=Mw.mp h
  have:=rN (l:=l) (m:=m.erase x) hl.2 λk hk=>(List.mem_erase_of_ne λe=>hl.1 (by rw[←e];exact hk)).mpr (s k (.tail _ hk))
  rw[List.length_erase_of_mem hx]at this
  have:0<m.length:=List.length_pos_of_mem hx
  simp only[Ma];omega
section
variable{X:Cx}
end
end L2
end
section
namespace L2
open PySem PySem.Spec PyProof.Rows LX
section
variable{X:Cx}{pins:List (Addr×Obj)}{σ:St}{H:Hp}{s:Shared}{d:Addr}{kvs:List (Key×V)}
theorem Inv.frozen(I:Inv X pins σ H s)(hd:H d=some (.dK kvs)):∃ o,Inv X pins σ (upd H d (.frz o (.dK kvs))) s:=by
 obtain⟨hz,h0,vs,rel,o,es,ep,ho,r⟩:=BD I.hok hd;have nn:∀ {b:Addr},H b=none→upd H d (.frz o (.dK kvs)) b=none:=λ{b} q=>by
  rw[ak λz=>by rw[z,hd]at q;cases q];exact q
 have ns:∀ {b:Addr} {u:HO},H b=some u→u≠.dK kvs→upd H d (.frz o (.dK kvs)) b=some u:=λ{b u} q n=>by
  rw[ak λz=>n (by rw[z,hd]at q;exact(LS q).symm)];exact q
 refine⟨o,I.ok,I.os,I.bare,⟨I.base.keep,I.base.slot,λb ob q n e=>nn (I.base.free b ob q n e),I.base.there,λb xs q=>ns (I.base.ph b xs q) (by intro z;cases z),λb ob u q=>ns (I.base.nG b ob u q) (by intro z;cases z),λb ps q=>?_⟩,I.loc,I.cell,nn I.free,λx c q=>nn (I.en x c q),λp hp=>?_,λa u q=>?_,I.len⟩
 ·obtain⟨more,q'⟩:=I.base.pj b ps q
  exact⟨more,ns q' (by intro z;cases z)⟩
 ·obtain⟨p1,p2,p3⟩:=I.pin p hp
  exact⟨p1,nn p2,p3⟩
 ·have st:∀ {a:Addr} {u:HO},bJ X.prog X.w H s.heap a u→bJ X.prog X.w (upd H d (.frz o (.dK kvs))) s.heap a u:=λx=>x.tm (λ_ _ _ z=>z) (λb z=>ns z (by intro y;cases y)) λb xs z=>ns z (by intro y;cases y)
  by_cases e:a=d
  ·subst e
   rw[ab]at q;cases q;exact⟨ho,st (I.hok a _ hd)⟩
  ·rw[ak e]at q
   exact st (I.hok a u q)
def KQ(te:TE):TE:=λσ H Q=>te σ H λv H1=>∃ d kvs,H1 d=some (.dK kvs)∧∀ o,Q v (upd H1 d (.frz o (.dK kvs)))
theorem eN{e:Expr}{te:TE}(h:PE X e te):PE X e (KQ te):=by
 intro pins s σ H Q I t;refine wpAny_mono (h pins s σ H _ I t) (λu s1 ⟨v,H1,I1,r,q⟩=>?_) λ_ _ z=>z;obtain⟨d,kvs,hd,q⟩:=q;obtain⟨o,I2⟩:=I1.frozen hd;exact⟨v,_,I2,r,q o⟩
def Itd(d:Addr)(o:Obj)(kvs:List (Key×V)):It :=
 ⟨λi H=>H d=some (.frz o (.dK kvs))∧i<kvs.length,λi H x H'=>H'=H∧∃ p,kvs[i]?=some p∧x=kV p.1,λi H=>H d=some (.frz o (.dK kvs))∧kvs.length≤i⟩
theorem Eo{P:Program}{w:World}{k:Key}{u:Value}(h:(aR P w).is k u=true):RelV (kV k) u:=by
 have h4:gq k u=true:=h;rcases aT h4 with⟨i,t,e1,e2⟩|⟨y,t,e1,e2⟩
 ·subst e1 e2
  exact⟨t,rfl⟩
 ·subst e1 e2
  exact⟨t,rfl⟩
theorem wC{o:Obj}(I:Inv X pins σ H s)(hd:H d=some (.frz o (.dK kvs))){es:Array DictEntry}{ep:Nat}(eo:o.data=.dict es ep):kvs.length≤sizeLine∧(d == sysModules)=false∧∃ vs,KV kvs vs∧s.heap.DictAt (aR X.prog X.w) d vs ep:=by
 obtain⟨ho,hz,h0,vs,rel,o',es',ep',ho',c1,c2,c3⟩:=(show bJ X.prog X.w H s.heap d (.frz o (.dK kvs)) from I.hok d _ hd);have e:o'=o:=LS (ho'.symm.trans ho);subst e;rw[eo]at c2;injection c2 with e1 e2;subst e1 e2;exact⟨hz,h0,vs,rel,o',es,ho',c1,eo,c3⟩
theorem zO{o:Obj}(I:Inv X pins σ H s)(hd:H d=some (.frz o (.dK kvs))):∃ es ep,o.data=.dict es ep:=by
 obtain⟨ho,hz,h0,vs,rel,o',es',ep',ho',c1,c2,c3⟩:=(show bJ X.prog X.w H s.heap d (.frz o (.dK kvs)) from I.hok d _ hd);have e:o'=o:=LS (ho'.symm.trans ho);subst e;exact⟨es',ep',c2⟩
theorem AQ:∀ {kvs:List (Key×V)} {vs:List (Key×Value)},KV kvs vs→∀ {i:Nat} {p:Key×V},kvs[i]?=some p→∃ x,vs[i]?=some (p.1,x)
 | _,_,.nil,_,_,h=>by simp at h
 | (k,v)::_,(k',x)::_,.cons a r,0,p,h=>by
  have h1:(k,v)=p:=by simpa using h
  subst h1;obtain⟨e,_⟩:=a;have e':k=k':=e;subst e';exact⟨x,rfl⟩
 | _::_,_::_,.cons _ r,i+1,p,h=>by
  have:=AQ r (i:=i) (p:=p) (by simpa using h)
  simpa using this
theorem yo{P:Program}{w:World}{K:W.Frag}{tg:Expr}(d it:Addr)(o:Obj)(kvs:List (Key×V))(ne:d≠it):Turn P w K tg (Itd d o kvs) [it] it (λi h=>∃ es ep,o.data=.dict es ep∧h.IsKeyIter it d i kvs.length ep) where
 mem:=by simp
 obj:=λi h st b hb=>by
  have e:b=it:=by simpa using hb
  subst e;obtain⟨es,ep,_,o,e,c,d⟩:=st;exact⟨o,e,λv z=>by rw[d]at z;cases z⟩
 keep:=λi h h' ⟨es,ep,eo,st⟩ k=>⟨es,ep,eo,st.at λo e=>k it (by simp) o e⟩
 item:=by
  rintro X hP hw hK hc i pins s σ H E I hf ⟨es,ep,eo,st⟩ ⟨hd,hi⟩;subst hP hw hK;obtain⟨hz,h0,vs,rel,hat⟩:=wC I hd eo;have hl:=rel.length;obtain⟨x,hx⟩:=AQ rel (Ls hi);obtain⟨f0,f1,f2,f3,f4,f5⟩:=hf it (by simp);rw[hl]at st;refine wpAny_pyNext_dict_item st hat hx λkey h' hk st' sb=>?_;have I1:Inv X pins σ H {s with heap:=h'}:=I.turned (t':=s.toks) (λb o hb e=>(sb.2 b hb).trans e) f0 f1 f3 f4 f5;exact⟨key,rfl,letGo_keyiter (s':={s with heap:=h'}) st' ⟨kV (kvs[i]'hi).1,H,I1,Eo hk,⟨rfl,_,Ls hi,rfl⟩,⟨es,ep,eo,by rw[hl];exact st'⟩,λb hb=>(hf b hb).1⟩⟩
 done:=by
  rintro X hP hw hK hc i pins s σ H E I hf ⟨es,ep,eo,st⟩ ⟨hd,hi⟩;subst hP hw hK;obtain⟨hz,h0,vs,rel,hat⟩:=wC I hd eo;have hl:=rel.length;obtain⟨f0,f1,f2,f3,f4,f5⟩:=hf it (by simp);rw[hl]at st;exact wpAny_pyNext_dict_end (I.ok.hd hc) st hat (List.getElem?_eq_none (by omega)) λh' eb=>⟨rfl,I.turned (t':=s.toks) (λb o hb e=>eb b o hb e) f0 f1 f3 f4 f5⟩
 self:=λ_ _ _ _ _ ⟨_,_,_,st⟩ h=>wpAny_pyIter_keyiter st h
def HX(td:TE):TI:=λσ H R=>td σ H λx H1=>∃ d o kvs,x=.ref d∧H1 d=some (.frz o (.dK kvs))∧R (Itd d o kvs) H1
theorem dj{tg l:Expr}{tl:TE}(hl:PE X l tl):PI X tg l (HX tl):=by
 intro pins s σ H R I h;refine thn (hl pins s σ H _ I h) λv s1 ⟨x,H1,I1,r1,q1⟩=>?_;obtain⟨d,o,kvs,e,hd,q⟩:=q1;subst e;cases r1;obtain⟨es,ep,eo⟩:=zO I1 hd;obtain⟨hz,h0,vs,rel,hat⟩:=wC I1 hd eo;have hl:=rel.length;refine wpAny_pyIter_dict h0 hat ?_;rw[←hl];refine⟨s1.heap.objs.size,[s1.heap.objs.size],_,_,H1,rfl,I1.kept (t':=s1.toks) λb o e=>Lx _ e,yo d _ o kvs (LN hat.lt_size),⟨es,ep,eo,_,LY _ rfl,rfl,rfl⟩,λb hb=>?_,q⟩;have e:b=s1.heap.objs.size:=by simpa using hb
 subst e;exact I1.BQ (Lu _) (I1.hok.fresh (Lu _))
end
theorem eI{d:Addr}{o:Obj}{kvs:List (Key×V)}{g:TG}{tb:TS}{D:Ends}{σ:St}{H:Hp}(Pv:Nat→St→Hp→Prop)(h0:Pv 0 σ H)(hl:∀ i σ H,i≤kvs.length→Pv i σ H→H d=some (.frz o (.dK kvs)))
  (hs:∀ i p σ H,kvs[i]?=some p→Pv i σ H→g (kV p.1) σ H λσ2 H2=>tb {D with nx:=Pv (i+1),ct:=Pv (i+1),bk:=D.nx} σ2 H2) (hd:∀ σ H,Pv kvs.length σ H→D.nx σ H) :
  vi (Itd d o kvs) g tb D σ H :=
 tL kvs.length Pv h0 (λi σ H hi p=>⟨⟨hl i σ H (Me hi) p,hi⟩,λx H' y=>by obtain⟨e1,q,e2,e3⟩:=y;subst e1 e3;exact hs i q σ _ e2 p⟩) λσ H p=>⟨⟨hl _ σ H (Lu _) p,Lu _⟩,hd σ H p⟩
section
variable{X:Cx}
def Ep:List V→Hp→VK→Prop:=λvs H Q=>∃(p:Addr) (kvs:List (Key×V)) (ks:List Int),vs=[.ref p]∧Rd H p (.dK kvs)∧kvs.map (·.1)=ks.map Sum.inl∧ks.length<64 ∧
 ∀(l:Addr) (ns':List Int),H l=none→ns'.Perm ks→ns'.Pairwise (·≤·)→Q (.ref l) (upd H l (.lst (ns'.map V.int)))
theorem dD(hc:X.calm=true):eR X (.builtin "sorted") Ep:=by
 rintro pins s σ H xs us Q I r ⟨p,kvs,ks,rfl,hp,hk,h64,q⟩;obtain⟨u,rfl,ru⟩:=r.one;cases (show u=Value.ref p from ru);obtain⟨hz,hd,vs,rel,dd⟩:=ip I.hok hp;obtain⟨ep,hat⟩:=dd.dictAt;have hh:=I.ok.hd hc;have hl:ks.length=kvs.length:=by
  have:=congrArg List.length hk
  simpa using this.symm
 refine MT kind_sorted plain_sorted entry_sorted (args_sorted1 _) ?_;unfold Builtin.«sorted»;refine wpAny_bind (m:=checkCount "sorted" 1 1 _) (wpAny_pure ?_);refine wpAny_bind (PySem.W.kdu_collect (A:=X.A.in1) (PySem.W.kdl_dict (knd:=aR X.prog X.w) (kvs:=vs) (ep:=ep) hd) hh hat (by rw[←rel.length];exact hz) λh' tk acc hkp hacc=>?_);have hI:IntsAre acc.toList ks:=nB (by rw[←rel.keys];exact hk) hacc.1 hacc.2;have hlen:=hI.length;have I1:Inv X pins σ H {s with heap:=h',toks:=tk}:=I.kept (t':=tk) hkp;refine wpAny_bind (wpAny_newList ?_);have hoL:(h'.push (seqObj "list" acc.toList.toArray 0)).get? h'.objs.size=some (seqObj "list" acc.toList.toArray 0):=LY _ rfl;show wpAny _ _ _ _ _ {s with heap:=h'.push (seqObj "list" acc.toList.toArray 0),toks:=tk};refine wpAny_bind (wpAny_holding (wpAny_call_entry slot_list_sort ⟨_,hoL,rfl⟩ entry_list_sort (list_sort_tree hoL hI (by omega) λout ns' a1 a2 a3=>⟨_,rfl,?_⟩) (args_list_sort _)));refine wpAny_pure ⟨_,rfl,?_⟩;obtain⟨e,he⟩:=sortedHeap_at (out:=out) hoL;refine⟨.ref h'.objs.size,_,I1.laid (a:=h'.objs.size) (o:=.lst (ns'.map V.int)) (t':=tk) (λb o hb=>?_) (Lu _) ?_,rfl,q _ ns' (I1.hok.fresh (Lu _)) a2 a3⟩
 ·have hlt:=LC hb
  rw[sortedHeap_old (LN hlt) (by rw[size_push'];exact Nx hlt),Heap.get?_push_ne _ _ _ (LN hlt)];exact hb
 ·refine⟨by rw[Lp,a2.length_eq,hl];exact hz,out.toList,e,d9 a1,?_⟩
  rw[he]
end
theorem rO{P P':Program}{w w':World}:∀ {es:List DictEntry} {kvs:List (Key×Value)},Pairs (aR P w) es kvs→Pairs (aR P' w') es kvs
 | _,_,.nil=>.nil
 | _,_,.cons a b r=>.cons a b (rO r)
theorem rP{P:Program}{w:World}:∀ {es:List DictEntry} {kvs:List (Key×Value)},Pairs (aR P w) es kvs→∀ e∈es,∃ kv∈kvs,gq kv.1 e.key=true
 | _,_,.nil,_,h=>nomatch h
 | _,_,.cons (kv:=kv) a b r,e,h=>by
  rcases LQ.mp h with z|z
  ·subst z
   exact⟨kv,LR ..,a⟩
  ·obtain⟨kv',h1,h2⟩:=rP r e z
   exact⟨kv',LU _ h1,h2⟩
theorem uR{P P':Program}{w w':World}{h:Heap}{a:Addr}{kvs:List (Key×Value)}(x:h.DictOf (aR P w) a kvs)(hi:∀ p∈kvs,∃ i,p.1=Sum.inl i):h.DictOf (aR P' w') a kvs:=by
 obtain⟨o,es,ep,h1,h2,h3,h4,h5,h6⟩:=x;have h4':∀ e∈es,∃ k,gq k e.key=true∧e.hash=EX w k:=h4;refine⟨o,es,ep,h1,h2,h3,λe he=>?_,rO h5,h6⟩;obtain⟨k,g1,g2⟩:=h4' e he;obtain⟨kv,g3,g4⟩:=rP h5 e (by simpa using he);obtain⟨i,ei⟩:=hi kv g3;have ek:k=kv.1:=(aR P w).inj _ _ _ g1 g4;rw[ei]at ek;subst ek;exact⟨.inl i,g1,g2⟩
theorem uS{A:Around}{s:Shared}{kb:List (Key×Value)}:∀ {ka:List (Key×Value)},(∀ p∈ka,∃ y,valueAt kb p.1=some y∧SeqAt.EqAt A s p.2 y true)→PySem.W.KeqHits A s kb ka true
 | [],_=>.nil
 | (k,v)::r,h=>by
  obtain⟨y,e1,e2⟩:=h (k,v) (LR ..);exact .hit (e:=true) (b:=true) e1 e2 (uS λp hp=>h p (LU _ hp))
theorem kv_mem:∀ {kvs:List (Key×V)} {vs:List (Key×Value)},KV kvs vs→∀ q∈vs,∃ p∈kvs,p.1=q.1∧RelV p.2 q.2
 | _,_,.nil,_,h=>nomatch h
 | p::_,q::_,.cons a r,q',h=>by
  rcases LQ.mp h with e|h
  ·subst e
   exact⟨p,LR ..,a⟩
  ·obtain⟨p',h1,h2⟩:=kv_mem r q' h
   exact⟨p',LU _ h1,h2⟩
theorem ki{kvs:List (Key×V)}{vs:List (Key×Value)}(r:KV kvs vs)(hi:∀ p∈kvs,∃ i,p.1=Sum.inl i):∀ q∈vs,∃ i,q.1=Sum.inl i:=λq hq=>by
 obtain⟨p,h1,h2,_⟩:=kv_mem r q hq;obtain⟨i,e⟩:=hi p h1;exact⟨i,by rw[←h2,e]⟩
section
variable{X:Cx}{pins:List (Addr×Obj)}{σ:St}{H:Hp}{s:Shared}
theorem rQ(I:Inv X pins σ H s){A:Around}{n:Nat}{a b:Addr}{kvs oa:List (Key×V)}(ha:Rd H a (.dK kvs))(hb:Rd H b (.dK oa))(hl:kvs.length=oa.length)(hi:∀ p∈kvs,∃ i,p.1=Sum.inl i)(hj:∀ p∈oa,∃ i,p.1=Sum.inl i)(hd:∀ p∈kvs,∃ y,cC oa p.1=some y∧p9 X.K H n p.2 y)(hu:A.units+n+1<cLine):SeqAt.EqAt A s (.ref a) (.ref b) true:=by
 by_cases e:a=b
 ·subst e
  exact MZ _
 ·refine Nq e λprog w E Q h=>?_
  obtain⟨_,h1,vs,r1,d1⟩:=ip I.hok ha;obtain⟨_,h2,us,r2,d2⟩:=ip I.hok hb;have l1:=r1.length;have l2:=r2.length;refine PySem.W.keq_eq (knd:=aR prog w) (r:=true) h1 h2 (uR d1 λq hq=>ki r1 hi q hq) (uR d2 λq hq=>ki r2 hj q hq) (by omega) (λ_=>uS λq hq=>?_) ?_
  ·obtain⟨p,hp,e1,rp⟩:=kv_mem r1 q hq
   obtain⟨y,hy,dp⟩:=hd p hp;have rv:=r2.val p.1;rw[hy]at rv;rw[←e1];cases hu':valueAt us p.1 with
   | none =>
    rw[hu']at rv;exact absurd rv (by intro z;cases z)
   | some u =>
    rw[hu']at rv;exact⟨u,rfl,dp.G6 I rp (by first|exact rv|simpa using rv) (by rw[Mo];omega)⟩
  ·have e:(vs.length == us.length&&true)=true:=by simp;omega
   rw[e];exact h
def HY(K:W.Frag)(n:Nat):R2:=λx y H Q=>∃ a b r d r' d' kvs oa,x=.ref a∧y=.ref b∧SqT K H a [.ref r,.ref d]∧SqT K H b [.ref r',.ref d']∧p9 K H n (.ref r) (.ref r')∧Rd H d (.dK kvs)∧Rd H d' (.dK oa)∧kvs.length=oa.length∧(∀ p∈kvs,∃ i,p.1=Sum.inl i)∧(∀ p∈oa,∃ i,p.1=Sum.inl i)∧(∀ p∈kvs,∃ y,cC oa p.1=some y∧p9 K H n p.2 y)∧Q (.bl true) H
theorem Cj{n:Nat}(hu:X.A.units+n+2<cLine):OpR X (compareOp .Eq) (HY X.K n):=by
 rintro pins s σ H x y v u Q I rx ry ⟨a,b,r,d,r',d',kvs,oa,rfl,rfl,ha,hb,h1,h2,h3,h4,h6,h7,h5,q⟩;cases rx;cases ry;obtain⟨vs,r1,t1,_⟩:=I.tuple ha;obtain⟨ws,r2,t2,_⟩:=I.tuple hb;cases r1 with
 | cons x1 xr =>
  cases xr with
  | cons x2 xr =>
   cases xr;cases r2 with
   | cons y1 yr =>
    cases yr with
    | cons y2 yr =>
     cases yr;cases x2;cases y2;refine SeqAt.eq_tupleAt (e:=λ_=>true) t1 t2 (by omega) (λj g1 g2=>?_) ⟨.bl true,H,I,by simp[RelV],q⟩
     match j,g1,g2 with
     | 0,_,_=>exact h1.G6 I x1 y1 (by rw[Mo];omega)
     | 1,_,_=>exact rQ I h2 h3 h4 h6 h7 h5 (by rw[Mo];omega)
     | j+2,g1,_=>exact absurd (show j+2<2 from g1) (by omega)
end
theorem vD:∀ {ms ns:List Int},ms.length=ns.length→BH (ms.map V.int) (ns.map V.int)=decide (ms=ns):=by
 intro ms ns hl;rw[MX,decide_eq_true_eq];unfold BH;rw[MK];constructor
 ·intro h
  refine List.ext_getElem hl λj h1 h2=>?_
  have:=h j (by rw[Lp];exact Nd.mpr h1)
  simpa[List.getD,h1,h2,eqV] using this
 ·rintro rfl j hj
  rw[Lp]at hj;have hj:=Nd.mp hj;simp[List.getD,hj,eqV]
theorem jI(ns:List Int):(ns.map V.int).all cE=true:=by simp[cE]
def KR(K:W.Frag):R2:=λx y H Q=>∃ a b,∃ ms ns:List Int,x=.ref a∧y=.ref b∧SqL K H a (ms.map V.int)∧SqL K H b (ns.map V.int)∧Q (.bl (!decide (ms=ns))) H
theorem wD{X:Cx}(hu:X.A.units<cLine):OpR X (compareOp .NotEq) (KR X.K):=by
 rintro pins s σ H x y v u Q I rx ry ⟨a,b,ms,ns,rfl,rfl,ha,hb,q⟩;by_cases hl:ms.length=ns.length
 ·refine Em hu pins s σ H _ _ v u Q I rx ry ⟨a,b,_,_,rfl,rfl,ha,hb,by simpa using hl,jI _,jI _,?_⟩
  rw[vD hl];exact q
 ·cases rx
  cases ry;obtain⟨vs,r1,⟨o1,n1,e1,c1,_,g1⟩,_⟩:=I.list ha;obtain⟨ws,r2,⟨o2,n2,e2,c2,_,g2⟩,_⟩:=I.list hb;have l1:=r1.length;have l2:=r2.length;rw[Lp]at l1 l2;refine SeqAt.RcNeAt.lists_lengths ⟨o1,e1,c1,n1,g1⟩ ⟨o2,e2,c2,n2,g2⟩ (by simp;omega) hu _ _ _ _ ⟨.bl true,H,I,rfl,?_⟩;have e:(!decide (ms=ns))=true:=by
   rw[decide_eq_false λz=>hl (by rw[z])];rfl
  rw[e]at q;exact q
section
variable{X:Cx}
def Ck:V→List V→Hp→VK→Prop:=λx vs H Q=>∃(l:Addr) (xs:List V) (i:Nat) (y:V),x=.ref l∧vs=[.int i,y]∧H l=some (.lst xs)∧i≤1000000∧xs.length<sizeLine∧Q .non (upd H l (.lst (xs.take i++[y]++xs.drop i)))
theorem zP{α:Type}(xs:List α)(i:Nat):xs.take (min i xs.length)=xs.take i:=by
 rcases Nat.le_total i xs.length with h|h
 ·rw[Nat.min_eq_left h]
 ·rw[Nat.min_eq_right h,LF (Lu _),LF h]
theorem zQ{α:Type}(xs:List α)(i:Nat):xs.drop (min i xs.length)=xs.drop i:=by
 rcases Nat.le_total i xs.length with h|h
 ·rw[Nat.min_eq_left h]
 ·rw[Nat.min_eq_right h,List.drop_of_length_le (Lu _),List.drop_of_length_le h]
theorem zR:∀ {x y:V} {us:List Value},Vals [x,y] us→∃ u v,us=[u,v]∧RelV x u∧RelV y v
 | _,_,_,.cons a (.cons b .nil)=>⟨_,_,rfl,a,b⟩
theorem yp:MtM X "list.insert" Ck:=by
 intro pins s σ H x vs v us Q I rx rv h;obtain⟨l,xs,i,y,rfl,rfl,hH,hi,hz,q⟩:=h;cases rx;obtain⟨ui,u,rfl,ri,ru⟩:=zR rv;obtain⟨t,rfl⟩:=ri;obtain⟨z,its,n,r,hl,e⟩:=I.yZ hH;have hc:¬(!Builtin.List.listFitsIndex (i:Int))=true:=by
  have:Builtin.List.listFitsIndex (i:Int)=true:=by
   unfold Builtin.List.listFitsIndex;simp;omega
  rw[this];decide
 have hs:its.toArray.size≤sizeLine:=by rw[Ly];omega
 generalize ei:(i:Int)=i' at hc ⊢;have M:=PySem.AutoListH.list_insert_list_int_val_1 l its.toArray n i' t u hc hs;refine call_meets F.slot_list_insert ⟨_,e,rfl⟩ F.entry_list_insert (F.args_list_insert_3 _ _ _) M ⟨e,?_⟩;refine⟨.non,_,I.E7 (ys:=xs.take i++[y]++xs.drop i) (qD:=its.take i++[u]++its.drop i) hH e ?_ (((r.take i).append (.cons ru .nil)).append (r.drop i)) ?_,rfl,q⟩
 ·dsimp only
  rw[if_neg (by omega),←ei,Int.toNat_natCast];apply Array.ext'
  have e1:its.take (min i its.length)=its.take i:=zP _ _;have e2:its.drop (min i its.length)=its.drop i:=zQ _ _;have e3:(its.drop (min i its.length)).take (its.length-min i its.length)=its.drop (min i its.length):=LF (by rw[MI];exact Lu _);simp only[Array.toList_append,Array.toList_push,Array.toList_extract,List.extract_eq_drop_take,List.drop_zero,Nat.sub_zero,Ly,e1,e3,e2]
 ·simp only[Lw,LM,MI,Mf]
  omega
end
section
variable{X:Cx}
def Es:List V→Hp→VK→Prop:=λvs H Q=>∃(p:Addr) (kvs:List (Key×V)) (ks:List Int),vs=[.ref p]∧Rd H p (.dK kvs)∧kvs.map (·.1)=ks.map Sum.inl∧∀ l:Addr,H l=none→Q (.ref l) (upd H l (.lst (ks.map V.int)))
theorem kA(hc:X.calm=true):eR X (.type "list") Es:=by
 rintro pins s σ H xs us Q I r ⟨p,kvs,ks,rfl,hp,hk,q⟩;obtain⟨u,rfl,ru⟩:=r.one;cases (show u=Value.ref p from ru);obtain⟨hz,hd,vs,rel,dd⟩:=ip I.hok hp;obtain⟨ep,hat⟩:=dd.dictAt;have hl:ks.length=kvs.length:=by
  have:=congrArg List.length hk
  simpa using this.symm
 refine PySem.W.kdl_call (PySem.W.kdl_dict (knd:=aR X.prog X.w) (kvs:=vs) (ep:=ep) hd) (I.ok.hd hc) hat (by rw[←rel.length];exact hz) λh' tk acc c hkp hS hacc=>?_;have hI:IntsAre acc.toList ks:=nB (by rw[←rel.keys];exact hk) hacc.1 hacc.2;refine⟨.ref s.heap.objs.size,_,I.laid (a:=s.heap.objs.size) (o:=.lst (ks.map V.int)) (t':=tk) hkp (Lu _) ?_,rfl,q _ (I.hok.fresh (Lu _))⟩;refine⟨by rw[Lp,hl];exact hz,acc.toList,c,d9 hI,?_⟩;rw[hS]
def HZ(K:W.Frag)(n:Nat):R2:=λx y H Q=>∃ a b r d r' d' kvs oa,x=.ref a∧y=.ref b∧SqT K H a [.ref r,.ref d]∧SqT K H b [.ref r',.ref d']∧p9 K H n (.ref r) (.ref r')∧Rd H d (.dK kvs)∧Rd H d' (.dK oa)∧kvs.length=oa.length∧(∀ p∈kvs,∃ i,p.1=Sum.inl i)∧(∀ p∈oa,∃ i,p.1=Sum.inl i)∧(∀ p∈kvs,∃ y,cC oa p.1=some y∧p9 K H n p.2 y)∧Q (.bl false) H
theorem Cm{n:Nat}(hu:X.A.units+n+2<cLine):OpR X (compareOp .NotEq) (HZ X.K n):=by
 rintro pins s σ H x y v u Q I rx ry ⟨a,b,r,d,r',d',kvs,oa,rfl,rfl,ha,hb,h1,h2,h3,h4,h6,h7,h5,q⟩;cases rx;cases ry;obtain⟨vs,r1,t1,_⟩:=I.tuple ha;obtain⟨ws,r2,t2,_⟩:=I.tuple hb;cases r1 with
 | cons x1 xr =>
  cases xr with
  | cons x2 xr =>
   cases xr;cases r2 with
   | cons y1 yr =>
    cases yr with
    | cons y2 yr =>
     cases yr;cases x2;cases y2;refine SeqAt.RcNeAt.tuples (e:=λ_=>true) t1 t2 (by omega) (λj g1 g2=>?_) _ _ _ _ ⟨.bl false,H,I,by simp[RelV],q⟩
     match j,g1,g2 with
     | 0,_,_=>exact h1.G6 I x1 y1 (by rw[Mo];omega)
     | 1,_,_=>exact rQ I h2 h3 h4 h6 h7 h5 (by rw[Mo];omega)
     | j+2,g1,_=>exact absurd (show j+2<2 from g1) (by omega)
end
section
variable{X:Cx}
def Et:List V→Hp→VK→Prop:=λvs H Q=>∃(p:Addr) (kvs:List (Key×V)),vs=[.ref p]∧Rd H p (.dK kvs)∧∀ l:Addr,H l=none→Q (.ref l) (upd H l (.dK kvs))
theorem vE:eR X (.type "dict") Et:=by
 rintro pins s σ H xs us Q I r ⟨p,kvs,rfl,hp,q⟩;obtain⟨u,rfl,ru⟩:=r.one;cases (show u=Value.ref p from ru);exact zw I hp λl s' hl I'=>⟨.ref l,_,I',rfl,q l hl⟩
end
theorem qa{d:Addr}{o:Obj}{kvs:List (Key×V)}{tc:TT}{te:TE}{Q:VK}{D:Addr}{τ:St}{H:Hp}(Pv:Nat→List V→Hp→Prop)(h0:Pv 0 [] H)(hD:∀ i ys H,i≤kvs.length→Pv i ys H→H D=some (.lst ys)∧ys.length≤i)(hl:∀ i ys H,i≤kvs.length→Pv i ys H→H d=some (.frz o (.dK kvs)))(hn:kvs.length≤sizeLine)
  (hs:∀ i p ys H,kvs[i]?=some p→Pv i ys H→tc (some (kV p.1)::τ) H λb H4=>if b=true then te (some (kV p.1)::τ) H4 λv H5=>H5 D=some (.lst ys)∧Pv (i+1) (ys++[v]) (upd H5 D (.lst (ys++[v]))) else Pv (i+1) ys H4)
  (hd:∀ ys H,Pv kvs.length ys H→Q (.ref D) H):tI (Itd d o kvs) D τ tc te Q H :=
 jv kvs.length Pv h0 hD hn (λi ys H hi p=>⟨⟨hl i ys H (Me hi) p,hi⟩,λy H3 q=>by obtain⟨e1,q',e2,e3⟩:=q;subst e1 e3;exact hs i q' ys _ e2 p⟩) λys H p=>⟨⟨hl _ ys H (Lu _) p,Lu _⟩,hd ys H p⟩
section
variable{P:Program}{w:World}{A:Around}{E:Value→Shared→Prop}
end
section
variable{P:Program}{w:World}{A:Around}{R:Result→Shared→Prop}{KK:Type}[DecidableEq KK]{knd:KeyKind P w KK}
end
section
variable{P:Program}{w:World}{A:Around}{E:Value→Shared→Prop}{KK:Type}[DecidableEq KK]{knd:KeyKind P w KK}
end
section
variable{P:Program}{w:World}{A:Around}{E:Value→Shared→Prop}
theorem sj:typeLookup (Value.type "list_reverseiterator") (Str.ofString "__len__")=pure none:=am_miss_of_fast (by decide +kernel)
theorem zS:typeLookup (Value.type "list_reverseiterator") (Str.ofString "__length_hint__")=pure (some (.builtin "list_reverseiterator.__length_hint__")):=by
 rw[typeLookup_type,builtinLookup_eq_fast];rfl
end
section
variable{X:Cx}
theorem yq{its:List Value}{acc:Array Value}(h:ItemsOf (λi v=>its.toArray[its.toArray.size-1-i]?=some v) acc its.toArray.size):acc=its.reverse.toArray:=by
 rw[Ly]at h;obtain⟨a1,a2⟩:=h;have ea:acc.toList=its.reverse:=by
  refine List.ext_getElem (by rw[List.length_reverse,MF,a1]) λj h1 h2=>?_;rw[MF]at h1;have this:its.toArray[its.length-1-j]?=some acc[j]:=a2 j acc[j] (Array.getElem?_eq_getElem h1);rw[List.getElem?_toArray]at this;rw[Array.getElem_toList,List.getElem_reverse];exact(LS ((Ls (by omega)).symm.trans this)).symm
 rw[←ea,Array.toArray_toList]
end
section
variable{X:Cx}
end
inductive Vl where
 | a (v:V)
 | l (xs:List Vl)
 | t (xs:List Vl)
def Rp(H:Hp):Nat→V→Vl→Prop
 | 0,v,.a x=>v=x∧cE x=true
 | 0,_,.l _=>False
 | 0,_,.t _=>False
 | _+1,v,.a x=>v=x∧cE x=true
 | n+1,v,.l xs=>∃ p us,v=.ref p∧H p=some (.lst us)∧us.length=xs.length∧∀(i:Nat) (u:V) (x:Vl),us[i]?=some u→xs[i]?=some x→Rp H n u x
 | n+1,v,.t xs=>∃ p us,v=.ref p∧H p=some (.tup us)∧us.length=xs.length∧∀(i:Nat) (u:V) (x:Vl),us[i]?=some u→xs[i]?=some x→Rp H n u x
def eqD:Nat→Vl→Vl→Bool
 | _,.a x,.a y=>eqV x y
 | n+1,.l xs,.l ys=>(List.range xs.length).all (λi=>match xs[i]?,ys[i]? with|some x,some y=>eqD n x y|_,_=>true)&&xs.length == ys.length
 | n+1,.t xs,.t ys=>(List.range xs.length).all (λi=>match xs[i]?,ys[i]? with|some x,some y=>eqD n x y|_,_=>true)&&xs.length == ys.length
 | _,_,_=>false
theorem Rp.flat{H:Hp}{n:Nat}{x:V}(h:cE x=true):Rp H n x (.a x):=by cases n<;>exact⟨rfl,h⟩
theorem Rp.qb{H:Hp}{n:Nat}{v x:V}(h:Rp H n v (.a x)):v=x∧cE x=true:=by cases n<;>exact h
theorem vF{n:Nat}{x y:V}:eqD n (.a x) (.a y)=eqV x y:=by cases n<;>rfl
theorem AR{H:Hp}{n:Nat}{us:List V}{xs ys:List Vl}(lx:us.length=xs.length)(ly:us.length=ys.length)(h:∀(i:Nat) (x y:Vl),xs[i]?=some x→ys[i]?=some y→eqD n x y=true) :
  ((List.range xs.length).all (λi=>match xs[i]?,ys[i]? with|some x,some y=>eqD n x y|_,_=>true)&&xs.length == ys.length)=true:=by
 rw[Nh];refine⟨MK.mpr λi hi=>?_,beq_iff_eq.mpr (by omega)⟩;have hi:=Nd.mp hi;have e1:xs[i]?=some xs[i]:=Ls hi;have e2:ys[i]?=some (ys[i]'(by omega)):=Ls (by omega);simp only[e1,e2];exact h i _ _ e1 e2
theorem uT{H:Hp}:∀ {n:Nat} {v:V} {a b:Vl},Rp H n v a→Rp H n v b→eqD n a b=true:=by
 intro n;induction n with
 | zero =>
  intro v a b ha hb;cases a with
  | a x =>
   cases b with
   | a y =>
    obtain⟨rfl,fx⟩:=ha.qb;obtain⟨rfl,_⟩:=hb.qb;rw[vF];exact wB fx
   | l ys=>exact hb.elim
   | t ys=>exact hb.elim
  | l xs=>exact ha.elim
  | t xs=>exact ha.elim
 | succ n ih =>
  intro v a b ha hb;cases a with
  | a x =>
   obtain⟨rfl,fx⟩:=ha.qb;cases b with
   | a y =>
    obtain⟨rfl,_⟩:=hb.qb;rw[vF];exact wB fx
   | l ys =>
    obtain⟨p,us,rfl,_⟩:=hb;exact absurd (show false=true from fx) Lv
   | t ys =>
    obtain⟨p,us,rfl,_⟩:=hb;exact absurd (show false=true from fx) Lv
  | l xs =>
   obtain⟨p,us,rfl,hp,hl,hi⟩:=ha;cases b with
   | a y =>
    obtain⟨e,fy⟩:=hb.qb;rw[←e]at fy;exact absurd (show false=true from fy) Lv
   | l ys =>
    obtain⟨q,ws,e,hq,ml,mi⟩:=hb;cases e;rw[hp]at hq;cases hq;exact AR (H:=H) hl ml λi x y e1 e2=>by
     have hiu:i<us.length:=(by rw[hl];exact(Lq.mp e1).1);exact ih (hi i _ x (Ls hiu) e1) (mi i _ y (Ls hiu) e2)
   | t ys =>
    obtain⟨q,ws,e,hq,ml,mi⟩:=hb;cases e;rw[hp]at hq;cases hq
  | t xs =>
   obtain⟨p,us,rfl,hp,hl,hi⟩:=ha;cases b with
   | a y =>
    obtain⟨e,fy⟩:=hb.qb;rw[←e]at fy;exact absurd (show false=true from fy) Lv
   | t ys =>
    obtain⟨q,ws,e,hq,ml,mi⟩:=hb;cases e;rw[hp]at hq;cases hq;exact AR (H:=H) hl ml λi x y e1 e2=>by
     have hiu:i<us.length:=(by rw[hl];exact(Lq.mp e1).1);exact ih (hi i _ x (Ls hiu) e1) (mi i _ y (Ls hiu) e2)
   | l ys =>
    obtain⟨q,ws,e,hq,ml,mi⟩:=hb;cases e;rw[hp]at hq;cases hq
structure RcB(A:Around)(s:Shared)(u v:Value)(b:Bool):Prop where
 eq:SeqAt.RcAt A s u v b
 ne:SeqAt.RcNeAt A s u v (!b)
theorem yt{A:Around}{s:Shared}{y x:V}{u v:Value}(ry:RelV y u)(rx:RelV x v)(fy:cE y=true)(fx:cE x=true):RcB A s u v (eqV y x):=by
 cases y with
 | non =>
  cases ry;cases x with
  | non=>cases rx;exact⟨.none_none ,.none_none ⟩
  | bl b=>cases rx;exact⟨.none_bool b,.none_bool b⟩
  | int b=>obtain⟨t,rfl⟩:=rx;exact⟨.none_int b t,.none_int b t⟩
  | str b=>obtain⟨t,rfl⟩:=rx;exact⟨.none_str b t,.none_str b t⟩
  | _=>exact absurd (show false=true from fx) Lv
 | bl a =>
  cases ry;cases x with
  | non=>cases rx;exact⟨.bool_none a,.bool_none a⟩
  | bl b=>cases rx;exact⟨.bool_bool a b,.bool_bool a b⟩
  | int b=>obtain⟨t,rfl⟩:=rx;exact⟨.bool_int a b t,.bool_int a b t⟩
  | str b=>obtain⟨t,rfl⟩:=rx;exact⟨.bool_str a b t,.bool_str a b t⟩
  | _=>exact absurd (show false=true from fx) Lv
 | int a =>
  obtain⟨t',rfl⟩:=ry;cases x with
  | non=>cases rx;exact⟨.int_none a t',.int_none a t'⟩
  | bl b=>cases rx;exact⟨.int_bool a t' b,.int_bool a t' b⟩
  | int b=>obtain⟨t,rfl⟩:=rx;exact⟨.int_int a t' b t,.int_int a t' b t⟩
  | str b=>obtain⟨t,rfl⟩:=rx;exact⟨.int_str a t' b t,.int_str a t' b t⟩
  | _=>exact absurd (show false=true from fx) Lv
 | str a =>
  obtain⟨t',rfl⟩:=ry;cases x with
  | non=>cases rx;exact⟨.str_none a t',.str_none a t'⟩
  | bl b=>cases rx;exact⟨.str_bool a t' b,.str_bool a t' b⟩
  | int b=>obtain⟨t,rfl⟩:=rx;exact⟨.str_int a t' b t,.str_int a t' b t⟩
  | str b=>obtain⟨t,rfl⟩:=rx;exact⟨.str_str a t' b t,.str_str a t' b t⟩
  | _=>exact absurd (show false=true from fx) Lv
 | _=>exact absurd (show false=true from fy) Lv
section
variable{X:Cx}{pins:List (Addr×Obj)}{σ:St}{H:Hp}{s:Shared}
theorem uU{A:Around}{x:V}{u:Value}{l:Addr}{items:Array Value}(rx:RelV x u)(fx:cE x=true)(hl:s.heap.IsList l items)(hu:A.units<cLine):RcB A s u (.ref l) false∧RcB A s (.ref l) u false∧SeqAt.EqAt A s u (.ref l) false∧SeqAt.EqAt A s (.ref l) u false:=by
 cases x with
 | non=>cases rx;exact⟨⟨.none_list hl hu,.none_list hl hu⟩,⟨.list_none hl hu,.list_none hl hu⟩,.none_list hl hu,.list_none hl hu⟩
 | bl b=>cases rx;exact⟨⟨.bool_list _ hl hu,.bool_list _ hl hu⟩,⟨.list_bool _ hl hu,.list_bool _ hl hu⟩,.bool_list _ hl hu,.list_bool _ hl hu⟩
 | int n=>obtain⟨t,rfl⟩:=rx;exact⟨⟨.int_list _ _ hl hu,.int_list _ _ hl hu⟩,⟨.list_int _ _ hl hu,.list_int _ _ hl hu⟩,.int_list _ _ hl hu,.list_int _ _ hl hu⟩
 | str z=>obtain⟨t,rfl⟩:=rx;exact⟨⟨.str_list _ _ hl hu,.str_list _ _ hl hu⟩,⟨.list_str _ _ hl hu,.list_str _ _ hl hu⟩,.str_list _ _ hl hu,.list_str _ _ hl hu⟩
 | _=>exact absurd (show false=true from fx) Lv
theorem uV{A:Around}{x:V}{u:Value}{l:Addr}{items:Array Value}(rx:RelV x u)(fx:cE x=true)(hl:s.heap.IsTuple l items)(hu:A.units<cLine):RcB A s u (.ref l) false∧RcB A s (.ref l) u false∧SeqAt.EqAt A s u (.ref l) false∧SeqAt.EqAt A s (.ref l) u false:=by
 cases x with
 | non=>cases rx;exact⟨⟨.none_tuple hl hu,.none_tuple hl hu⟩,⟨.tuple_none hl hu,.tuple_none hl hu⟩,.none_tuple hl hu,.tuple_none hl hu⟩
 | bl b=>cases rx;exact⟨⟨.bool_tuple _ hl hu,.bool_tuple _ hl hu⟩,⟨.tuple_bool _ hl hu,.tuple_bool _ hl hu⟩,.bool_tuple _ hl hu,.tuple_bool _ hl hu⟩
 | int n=>obtain⟨t,rfl⟩:=rx;exact⟨⟨.int_tuple _ _ hl hu,.int_tuple _ _ hl hu⟩,⟨.tuple_int _ _ hl hu,.tuple_int _ _ hl hu⟩,.int_tuple _ _ hl hu,.tuple_int _ _ hl hu⟩
 | str z=>obtain⟨t,rfl⟩:=rx;exact⟨⟨.str_tuple _ _ hl hu,.str_tuple _ _ hl hu⟩,⟨.tuple_str _ _ hl hu,.tuple_str _ _ hl hu⟩,.str_tuple _ _ hl hu,.tuple_str _ _ hl hu⟩
 | _=>exact absurd (show false=true from fx) Lv
theorem lst_is(I:Inv X pins σ H s){p:Addr}{us:List V}(h:H p=some (.lst us)):∃ vs,Vals us vs∧s.heap.IsList p vs.toArray:=by
 obtain⟨vs,r,⟨o,n,e,c,_,g⟩,_⟩:=I.list (SqL.of h);exact⟨vs,r,o,e,c,n,g⟩
theorem tup_is(I:Inv X pins σ H s){p:Addr}{us:List V}(h:H p=some (.tup us)):∃ vs,Vals us vs∧s.heap.IsTuple p vs.toArray:=by
 obtain⟨vs,r,t,_⟩:=I.tuple (SqT.of h);exact⟨vs,r,t⟩
theorem rcG(I:Inv X pins σ H s):∀ {n:Nat} {x y:V} {a b:Vl},Rp H n x a→Rp H n y b→∀ {A:Around} {u v:Value},RelV x u→RelV y v→A.units+n<cLine →
  SeqAt.EqAt A s u v (eqD n a b)∧(¬((∃ z,a=.a z)∧∃ z,b=.a z)→RcB A s u v (eqD n a b)):=by
 intro n;induction n with
 | zero =>
  intro x y a b ha hb A u v rx ry hu;cases a with
  | a z =>
   cases b with
   | a z' =>
    obtain⟨rfl,fx⟩:=ha.qb;obtain⟨rfl,fy⟩:=hb.qb;rw[vF];exact⟨qJ rx ry fx fy,λh=>(h ⟨⟨_,rfl⟩,_,rfl⟩).elim⟩
   | _=>exact hb.elim
  | _=>exact ha.elim
 | succ n ih =>
  intro x y a b ha hb A u v rx ry hu;have hu0:A.units<cLine:=by omega
  cases a with
  | a z =>
   obtain⟨rfl,fx⟩:=ha.qb;cases b with
   | a z' =>
    obtain⟨rfl,fy⟩:=hb.qb;rw[vF];exact⟨qJ rx ry fx fy,λh=>(h ⟨⟨_,rfl⟩,_,rfl⟩).elim⟩
   | l ys =>
    obtain⟨q,ws,rfl,hq,_⟩:=hb;obtain⟨vs,_,hl⟩:=lst_is I hq;cases ry;obtain⟨h1,_,h3,_⟩:=uU rx fx hl hu0;exact⟨h3,λ_=>h1⟩
   | t ys =>
    obtain⟨q,ws,rfl,hq,_⟩:=hb;obtain⟨vs,_,hl⟩:=tup_is I hq;cases ry;obtain⟨h1,_,h3,_⟩:=uV rx fx hl hu0;exact⟨h3,λ_=>h1⟩
  | l xs =>
   have ha':=ha;obtain⟨p,us,rfl,hp,lx,hx⟩:=ha;obtain⟨vs,r1,hl⟩:=lst_is I hp;cases rx;cases b with
   | a z' =>
    obtain⟨rfl,fy⟩:=hb.qb;obtain⟨_,h2,_,h4⟩:=uU ry fy hl hu0;exact⟨h4,λ_=>h2⟩
   | l ys =>
    have hb':=hb;obtain⟨q,ws,rfl,hq,ly,hy⟩:=hb;obtain⟨vs2,r2,hl2⟩:=lst_is I hq;cases ry;have l1:=r1.length;have l2:=r2.length;have rc:RcB A s (.ref p) (.ref q) (eqD (n+1) (.l xs) (.l ys)):=by
     by_cases hs:xs.length=ys.length
     ·have he:∀ j (h1:j<vs.toArray.size) (h2:j<vs2.toArray.size),SeqAt.EqAt A.in1 s vs.toArray[j] vs2.toArray[j] (match xs[j]?,ys[j]? with|some x,some y=>eqD n x y|_,_=>true):=λj h1 h2=>by
       simp only[Ly]at h1 h2;obtain⟨w1,z1,rz1⟩:=r1.get (i:=j) (x:=us[j]'(by omega)) (Ls (by omega));obtain⟨w2,z2,rz2⟩:=r2.get (i:=j) (x:=ws[j]'(by omega)) (Ls (by omega));have a1:vs.toArray[j]=w1:=by
        have:=(Lq.mp z1).2
        simpa using this
       have a2:vs2.toArray[j]=w2:=by
        have:=(Lq.mp z2).2
        simpa using this
       rw[a1,a2];have e1:xs[j]?=some (xs[j]'(by omega)):=Ls (by omega);have e2:ys[j]?=some (ys[j]'(by omega)):=Ls (by omega);simp only[e1,e2];exact(ih (hx j _ _ (Ls (by omega)) e1) (hy j _ _ (Ls (by omega)) e2) rz1 rz2 (by rw[Mo];omega)).1
      have e:eqD (n+1) (.l xs) (.l ys)=(List.range vs.toArray.size).all (λi=>match xs[i]?,ys[i]? with|some x,some y=>eqD n x y|_,_=>true):=by
       show(_&&_)=_;rw[beq_iff_eq.mpr hs,Bool.and_true];simp only[Ly];rw[show vs.length=xs.length by omega]
      rw[e];exact⟨.lists hl hl2 (by simp only[Ly];omega) hu0 he,.lists hl hl2 (by simp only[Ly];omega) hu0 he⟩
     ·have e:eqD (n+1) (.l xs) (.l ys)=false:=by
       show(_&&_)=_;rw[beq_eq_false_iff_ne.mpr hs,MS]
      rw[e];exact⟨.lists_lengths hl hl2 (by simp only[Ly,bne_iff_ne,ne_eq];omega) hu0,.lists_lengths hl hl2 (by simp only[Ly,bne_iff_ne,ne_eq];omega) hu0⟩
    refine⟨?_,λ_=>rc⟩;by_cases e:p=q
    ·subst e
     rw[uT ha' hb'];exact .same _
    ·exact .of_refs e rc.eq
   | t ys =>
    obtain⟨q,ws,rfl,hq,ly,hy⟩:=hb;obtain⟨vs2,r2,hl2⟩:=tup_is I hq;cases ry;have ne:p≠q:=λe=>by rw[e,hq]at hp;cases hp
    exact⟨.of_refs ne (.list_tuple hl hl2 hu0),λ_=>⟨.list_tuple hl hl2 hu0,.list_tuple hl hl2 hu0⟩⟩
  | t xs =>
   have ha':=ha;obtain⟨p,us,rfl,hp,lx,hx⟩:=ha;obtain⟨vs,r1,hl⟩:=tup_is I hp;cases rx;cases b with
   | a z' =>
    obtain⟨rfl,fy⟩:=hb.qb;obtain⟨_,h2,_,h4⟩:=uV ry fy hl hu0;exact⟨h4,λ_=>h2⟩
   | l ys =>
    obtain⟨q,ws,rfl,hq,ly,hy⟩:=hb;obtain⟨vs2,r2,hl2⟩:=lst_is I hq;cases ry;have ne:p≠q:=λe=>by rw[e,hq]at hp;cases hp
    exact⟨.of_refs ne (.tuple_list hl hl2 hu0),λ_=>⟨.tuple_list hl hl2 hu0,.tuple_list hl hl2 hu0⟩⟩
   | t ys =>
    have hb':=hb;obtain⟨q,ws,rfl,hq,ly,hy⟩:=hb;obtain⟨vs2,r2,hl2⟩:=tup_is I hq;cases ry;have l1:=r1.length;have l2:=r2.length;have he:∀ j (h1:j<vs.toArray.size) (h2:j<vs2.toArray.size),SeqAt.EqAt A.in1 s vs.toArray[j] vs2.toArray[j] (match xs[j]?,ys[j]? with|some x,some y=>eqD n x y|_,_=>true):=λj h1 h2=>by
     simp only[Ly]at h1 h2;obtain⟨w1,z1,rz1⟩:=r1.get (i:=j) (x:=us[j]'(by omega)) (Ls (by omega));obtain⟨w2,z2,rz2⟩:=r2.get (i:=j) (x:=ws[j]'(by omega)) (Ls (by omega));have a1:vs.toArray[j]=w1:=by
      have:=(Lq.mp z1).2
      simpa using this
     have a2:vs2.toArray[j]=w2:=by
      have:=(Lq.mp z2).2
      simpa using this
     rw[a1,a2];have e1:xs[j]?=some (xs[j]'(by omega)):=Ls (by omega);have e2:ys[j]?=some (ys[j]'(by omega)):=Ls (by omega);simp only[e1,e2];exact(ih (hx j _ _ (Ls (by omega)) e1) (hy j _ _ (Ls (by omega)) e2) rz1 rz2 (by rw[Mo];omega)).1
    have e:eqD (n+1) (.t xs) (.t ys)=((List.range (min vs.toArray.size vs2.toArray.size)).all (λi=>match xs[i]?,ys[i]? with|some x,some y=>eqD n x y|_,_=>true)&&vs.toArray.size == vs2.toArray.size):=by
     show(_&&_)=_;simp only[Ly];by_cases hs:xs.length=ys.length
     ·rw[show min vs.length vs2.length=xs.length by omega,show(vs.length == vs2.length)=(xs.length == ys.length) by rw[show vs.length=xs.length by omega,show vs2.length=ys.length by omega]]
     ·rw[beq_eq_false_iff_ne.mpr hs,show(vs.length == vs2.length)=false from beq_eq_false_iff_ne.mpr (by omega),MS,MS]
    have rc:RcB A s (.ref p) (.ref q) (eqD (n+1) (.t xs) (.t ys)):=by
     rw[e];exact⟨.tuples hl hl2 hu0 he,.tuples hl hl2 hu0 he⟩
    refine⟨?_,λ_=>rc⟩;by_cases e:p=q
    ·subst e
     rw[uT ha' hb'];exact .same _
    ·exact .of_refs e rc.eq
end
def KS(n:Nat):R2:=λx y H Q=>∃ a b,Rp H n x a∧Rp H n y b∧Q (.bl (!eqD n a b)) H
section
variable{X:Cx}
theorem Eu{n:Nat}(hu:X.A.units+n<cLine):OpR X (compareOp .NotEq) (KS n):=by
 rintro pins s σ H x y v u Q I rx ry ⟨a,b,ha,hb,q⟩;by_cases h:(∃ z,a=.a z)∧∃ z,b=.a z
 ·obtain⟨⟨z,rfl⟩,z',rfl⟩:=h
  obtain⟨rfl,fx⟩:=ha.qb;obtain⟨rfl,fy⟩:=hb.qb;rw[vF]at q;exact(yt rx ry fx fy).ne _ _ _ _ ⟨.bl _,H,I,rfl,q⟩
 ·exact((rcG I ha hb rx ry hu).2 h).ne _ _ _ _ ⟨.bl _,H,I,rfl,q⟩
end
section
variable{X:Cx}{pins:List (Addr×Obj)}{σ:St}{H:Hp}{s:Shared}{d:Addr}{o:Obj}{u:HO}
theorem Inv.G7(I:Inv X pins σ H s)(hd:H d=some (.frz o u))(h0:∀ o u,X.H₀ d≠some (.frz o u))(nt:∀ xs,u≠.tup xs)(no:∀ x,u≠.own x)(nb:∀ ps,u≠.tbl ps):Inv X pins σ (upd H d u) s:=by
 have nn:∀ {b:Addr},H b=none→upd H d u b=none:=λ{b} q=>by
  rw[ak λz=>by rw[z,hd]at q;cases q];exact q
 have ns:∀ {b:Addr} {v:HO},H b=some v→(∀ o w,v≠.frz o w)→upd H d u b=some v:=λ{b v} q n=>by
  rw[ak λz=>n o u (by rw[z,hd]at q;exact(LS q).symm)];exact q
 refine⟨I.ok,I.os,I.bare,⟨I.base.keep,I.base.slot,λb ob q n e=>nn (I.base.free b ob q n e),I.base.there,λb xs q=>ns (I.base.ph b xs q) (by intro _ _ z;cases z),λb ob w q=>?_,λb ps q=>?_⟩,I.loc,I.cell,nn I.free,λx c q=>nn (I.en x c q),λp hp=>?_,λa w q=>?_,I.len⟩
 ·have q':=I.base.nG b ob w q
  rw[ak λz=>h0 ob w (by rw[←z];exact q)];exact q'
 ·obtain⟨more,q'⟩:=I.base.pj b ps q
  exact⟨more,ns q' (by intro _ _ z;cases z)⟩
 ·obtain⟨p1,p2,p3⟩:=I.pin p hp
  exact⟨p1,nn p2,p3⟩
 ·have st:∀ {a:Addr} {w:HO},bJ X.prog X.w H s.heap a w→bJ X.prog X.w (upd H d u) s.heap a w:=λx=>x.tm (λ_ _ _ z=>z) (λb z=>ns z (by intro _ _ y;cases y)) λb xs z=>ns z (by intro _ _ y;cases y)
  by_cases e:a=d
  ·subst e
   rw[ab]at q;cases q;exact st (I.hok a _ hd).2
  ·rw[ak e]at q
   exact st (I.hok a w q)
def KU(H₀:Hp)(te:TE):TE:=λσ H Q=>te σ H λv H1=>∃ d o kvs,H1 d=some (.frz o (.dK kvs))∧(∀ o u,H₀ d≠some (.frz o u))∧Q v (upd H1 d (.dK kvs))
theorem AS{e:Expr}{te:TE}(h:PE X e te):PE X e (KU X.H₀ te):=by
 intro pins s σ H Q I t;refine wpAny_mono (h pins s σ H _ I t) (λu s1 ⟨v,H1,I1,r,q⟩=>?_) λ_ _ z=>z;obtain⟨d,o,kvs,hd,h0,q⟩:=q;exact⟨v,_,I1.G7 hd h0 (by intro _ z;cases z) (by intro _ z;cases z) (by intro _ z;cases z),r,q⟩
def KW(H₀:Hp)(t:TS):TS:=λD σ H=>∃ d o kvs,H d=some (.frz o (.dK kvs))∧(∀ o u,H₀ d≠some (.frz o u))∧t D σ (upd H d (.dK kvs))
theorem wF{st:Stmt}{t:TS}(h:PS X st t):PS X st (KW X.H₀ t):=by
 intro pins s σ H D I q;obtain⟨d,o,kvs,hd,h0,q⟩:=q;exact h pins s σ _ D (I.G7 hd h0 (by intro _ z;cases z) (by intro _ z;cases z) (by intro _ z;cases z)) q
theorem DJ:∀ {ns:List Int} {us:List Value},Vals (ns.map V.int) us→∃ ps:List (Int×Tok),us=ps.map (λp=>Value.int p.1 p.2)∧ps.map (·.1)=ns
 | [],_,.nil=>⟨[],rfl,rfl⟩
 | n::r,_,.cons h t=>by
  obtain⟨k,rfl⟩:=h;obtain⟨ps,e,e2⟩:=DJ t;exact⟨(n,k)::ps,by rw[e];rfl,by rw[L1,e2]⟩
def Ia(K:W.Frag):List V→Hp→VK→Prop:=λvs H Q=>∃(p:Addr) (ns:List Int),vs=[.ref p]∧SqL K H p (ns.map V.int)∧Q (.int ns.sum) H
theorem yu(hc:X.calm=true):eR X (.builtin "sum") (Ia X.K):=by
 rintro pins s σ H xs us Q I r ⟨p,ns,rfl,hq,q⟩;obtain⟨u,rfl,ru⟩:=r.one;cases (show u=Value.ref p from ru);obtain⟨its,rv,⟨o,n,e1,e2,e3,e4⟩,hz⟩:=I.list hq;obtain⟨ps,e,ee⟩:=DJ rv;have hl:s.heap.IsList p (intItems ps.toArray):=by
  refine⟨o,e1,e2,n,?_⟩;rw[e4,e];simp[intItems]
 have hs:preSum (numAt ps.toArray) ps.toArray.size=ns.sum:=by
  rw[preSum_eq];simp only[Ly];rw[ee,LF (by rw[←ee,Lp];exact Lu _)]
 refine sum_intListG (I.ok.hd hc) hl λh' tk t' hk=>⟨.int ns.sum,H,I.kept (t':=tk) hk,⟨t',by rw[hs]⟩,q⟩
end
theorem rR{d:Addr}{o:Obj}{kvs:List (Key×V)}{te:TE}{Q:VK}{D:Addr}{τ:St}{H:Hp}(Pv:Nat→List V→Hp→Prop)(h0:Pv 0 [] H)(hD:∀ i ys H,i≤kvs.length→Pv i ys H→H D=some (.lst ys)∧ys.length=i)(hl:∀ i ys H,i≤kvs.length→Pv i ys H→H d=some (.frz o (.dK kvs)))(hn:kvs.length≤sizeLine)
  (hs:∀ i p ys H,kvs[i]?=some p→Pv i ys H→te (some (kV p.1)::τ) H λv H4=>H4 D=some (.lst ys)∧Pv (i+1) (ys++[v]) (upd H4 D (.lst (ys++[v])))) (hd:∀ ys H,Pv kvs.length ys H→Q (.ref D) H):tR (Itd d o kvs) D τ te Q H :=
 jv kvs.length Pv h0 (λi ys H hi p=>⟨(hD i ys H hi p).1,Nat.le_of_eq (hD i ys H hi p).2⟩) hn (λi ys H hi p=>⟨⟨hl i ys H (Me hi) p,hi⟩,λy H3 q=>by obtain⟨e1,q',e2,e3⟩:=q;subst e1 e3;exact hs i q' ys _ e2 p⟩) λys H p=>⟨⟨hl _ ys H (Lu _) p,Lu _⟩,hd ys H p⟩
def BI:Option Key→Value→Bool
 | none,.none=>true
 | none,_=>false
 | some k,v=>gq k v
theorem cj{v:Value}(h:BI none v=true):v=.none:=by
 cases v<;>first|rfl|cases h
def KY(w:World):Option Key→Int
 | none=>reduceHash 0xFCA86420
 | some k=>EX w k
theorem yw{prog:Program}{w:World}{A:Around}{E:Value→Shared→Prop}{s:Shared}{Q:Int→Shared→Prop}(h:Q (reduceHash 0xFCA86420) {s with toks:=s.toks+1}):wpAny (model prog w) A (pyHash .none) Q E s:=by
 show wpAny _ _ (pyHashByItsType .none) Q E s;exact PySem.W.pyHash_slot (T := "NoneType") rfl F.slot_NoneType_hash F.entry_NoneType_hash (F.args_NoneType_hash_1 _) (beq_builtin_none _) (.inl rfl) (wpAny_bind (wpAny_pure (wpAny_bind (wpAny_mkInt (wpAny_pure ⟨_,_,rfl,h⟩)))))
def optKind(prog:Program)(w:World):PySem.KeyKind prog w (Option Key) where
 is:=BI
 hash:=KY w
 inj:=λv a b ha hb=>by
  cases a with
  | none =>
   obtain rfl:=cj ha;cases b with
   | none=>rfl
   | some k=>rcases aT (show gq k .none=true from hb) with⟨_,_,_,e⟩|⟨_,_,_,e⟩<;>exact nomatch e
  | some k =>
   cases b with
   | none =>
    obtain rfl:=cj hb;rcases aT (show gq k .none=true from ha) with⟨_,_,_,e⟩|⟨_,_,_,e⟩<;>exact nomatch e
   | some k'=>rw[(aR prog w).inj v k k' ha hb]
 byValue:=λk v h=>by
  cases k with
  | none=>obtain rfl:=cj h;rfl
  | some k=>exact(aR prog w).byValue k v h
 pyHash:=λ{A E s k v Q} hv h=>by
  cases k with
  | none=>obtain rfl:=cj hv;exact yw h
  | some k=>exact(aR prog w).pyHash (k:=k) hv h
 eqBool:=λ{A E s a b u v Q} hu hv h=>by
  cases a with
  | none =>
   obtain rfl:=cj hu;cases b with
   | none=>obtain rfl:=cj hv;exact MZ _ _ _ _ _ h
   | some k =>
    rw[decide_eq_false (by intro z;cases z)]at h;rcases aT (show gq k v=true from hv) with⟨i,t,_,rfl⟩|⟨x,t,_,rfl⟩
    ·exact SeqAt.EqAt.none_int i t _ _ _ _ h
    ·exact SeqAt.EqAt.none_str x t _ _ _ _ h
  | some k =>
   cases b with
   | none =>
    obtain rfl:=cj hv;rw[decide_eq_false (by intro z;cases z)]at h;rcases aT (show gq k u=true from hu) with⟨i,t,_,rfl⟩|⟨x,t,_,rfl⟩
    ·exact SeqAt.EqAt.int_none i t _ _ _ _ h
    ·exact SeqAt.EqAt.str_none x t _ _ _ _ h
   | some k' =>
    refine(aR prog w).eqBool (a:=k) (b:=k') hu hv ?_;have e:decide (some k=some k')=decide (k=k'):=by
     by_cases c:k=k'
     ·subst c;simp
     ·rw[decide_eq_false c,decide_eq_false (by intro z;exact c (LS z))]
    rw[←e];exact h
 «strs» := λk x t v h=>by
  cases k with
  | none=>exact nomatch cj h
  | some k=>exact(aR prog w).strs k x t v h
theorem Cn{prog:Program}{w:World}{h:Heap}{a:Addr}{kvs:List (Key×Value)}(hd:h.DictOf (aR prog w) a kvs):h.MapOf (optKind prog w) a (λk=>k.bind λk=>valueAt kvs k):=by
 obtain⟨o,es,ep,ho,hc,KZ,hk,hf⟩:=hd.mapOf;refine⟨o,es,ep,ho,hc,KZ,λe he=>?_,λk=>?_⟩
 ·obtain⟨k,h1,h2⟩:=hk e he
  exact⟨some k,h1,h2⟩
 ·cases k with
  | none =>
   show(es.find? λe=>BI none e.key).map (·.val)=none;rw[Array.find?_eq_none.mpr λe he=>?_]
   ·rfl
   ·obtain⟨k,h1,_⟩:=hk e he
    intro z
    have:=cj z
    rw[this]at h1;rcases aT (show gq k .none=true from h1) with⟨_,_,_,e⟩|⟨_,_,_,e⟩<;>exact nomatch e
  | some k=>exact hf k
def inO(kvs:List (Key×V)):Option Key→Bool
 | none=>false
 | some k=>(cC kvs k).isSome
def G8:Option Key→V
 | none=>.non
 | some k=>kV k
section
variable{X:Cx}{i o:Expr}{ty td:TE}
def Ib(ty td:TE):TE:=λσ H Q=>ty σ H λy H1=>td σ H1 λx H2=>∃ a kvs k,x=.ref a∧y=G8 k∧Rd H2 a (.dK kvs)∧Q (.bl (inO kvs k)) H2
theorem Ew{P:Program}{w:World}{k:Option Key}{u:Value}(r:RelV (G8 k) u):(optKind P w).is k u=true:=by
 cases k with
 | none=>cases r;rfl
 | some k=>exact rj (P:=P) (w:=w) r
theorem Co(hi:PE X i ty)(ho:PE X o td):PC X .In i o (Ib ty td):=by
 intro pins s σ H Q I h;refine thn (hi pins s σ H _ I h) λiv s1 ⟨y,H1,I1,ry,q1⟩=>thn (ho pins s1 σ H1 _ I1 q1) λu s2 ⟨x,H2,I2,rx,a,kvs,k,ex,ey,g,q2⟩=>?_;subst ex ey;cases (show u=Value.ref a from rx);obtain⟨z,hd,vs,rel,dd⟩:=ip I2.hok g;refine wpAny_in_of (Ew (P:=X.prog) (w:=X.w) ry) hd (Cn dd) ?_;have e:(k.bind λk=>valueAt vs k).isSome=inO kvs k:=by
  cases k with
  | none=>rfl
  | some k=>exact(rel.val k).fI.symm
 rw[e];exact⟨.bl (inO kvs k),H2,I2.tok _,rfl,q2⟩
end
section
variable{X:Cx}{K:W.Frag}
theorem Cp{e:Expr}{f:Str}{pos:Pos}{ta:TE}(hK:X.K=K)(he:PE X e ta)(hb:attributeBase e f X.env (eval e X.env)=eval e X.env):PE X (.Attribute e f pos) (IM K ta f):=by
 subst hK;exact aE he hb
def Ic(K:W.Frag):List V→Hp→VK→Prop:=λxs H Q=>∃ p ys,xs=[V.ref p]∧(SqL K H p ys∨SqT K H p ys)∧Q (.int (ys.length:Int)) H
theorem yx(hK:X.K=K):eR X (.builtin "len") (Ic K):=by
 subst hK;exact aU
end
structure yU(k:Nat)(A:Around):Prop where
 dp:A.depth+3*k+5<recursionLimit
 un:A.units+16*k+200<cLine
theorem dF.r0{j k:Nat}{A:Around}(r:dF k A)(h:j≤k):yU j A:=⟨by have:=r.dp;omega,by have:=r.un;omega⟩
structure vG(P:Program)(w:World)(K:W.Frag)(mg:Str→Option Value)(base:Heap)(CX:CXT)(k:Nat)(f:Addr)(fd:FuncData)(ps:List Str)(sp:Sp):Prop where
 len:∀ vs H Q E,sp vs H Q E→vs.length=ps.length
 run:∀(A:Around) (outer:List Env) (s:Shared) (H:Hp) (args:Args) (us:List Value) (vs:List V) (Q:VK) (E:XK),yU k A→vt P w K mg base A outer s H→BindsTo s fd args (ps.zip us)→Vals vs us→sp vs H Q E →
  codeAny (model P w) A (.call (.ref f) args) (CR CX outer P w H s Q E) s
def cx0(CX:CXT)(P:Program)(w:World)(K:W.Frag)(mg:Str→Option Value)(base:Heap)(N:List Str)(qual:Str)(scope:Scope)(f:Addr)(cd:Value)(A:Around)(outer:List Env)(s:Shared)(H:Hp)(E:XK):Cx:={yY CX P w K mg base N qual scope f cd A outer s H E with calm:=false}
theorem Ex{CX:CXT}{P:Program}{w:World}{K:W.Frag}{mg:Str→Option Value}{base:Heap}{k:Nat}{f:Addr}{name qual:Str}{params:Arguments}{body:List Stmt}{scope:Scope}{dV kV doc pm cdv ct oc:Value}{an od:Option Addr}
  {osl:Array (Option Value)} {N ps:List Str} {sp:Sp} (lk:K.lookup f=some ⟨oc,od,.func (PySem.W.fnOf name qual params body scope dV kV doc pm an cdv ct),osl⟩) (hcd:PySem.W.codeIn K cdv qual=true) (S:ar N ps scope)
  (len:∀ vs H Q E,sp vs H Q E→vs.length=ps.length)
  (gX:∀(A:Around) (outer:List Env) (s:Shared) (H:Hp) (vs:List V) (Q:VK) (E:XK),sp vs H Q E →
   ∃ t,PSs (cx0 CX P w K mg base N qual scope f cdv A outer s H E) body t∧t {nx:=λ_ H'=>Q .non H',rt:=Q} (start N vs) H) :
  vG P w K mg base CX (k+1) f (PySem.W.fnOf name qual params body scope dV kV doc pm an cdv ct) ps sp:=by
 refine⟨len,λA outer s H args us vs Q E hr e0 hb r hsp=>?_⟩;have hl:=len _ _ _ _ hsp;have KX:K.In s.heap:=e0.mod.kin.keeps λb o e=>(e0.bs b o e).1;have lim:s.heap.NoLimit:=e0.mod.nolimit.keeps λb o e=>(e0.bs b o e).1;have Bb:∀ y∈ps.zip us,scope.names.lookup y.1=some .local∨(scope.names.lookup y.1=some .cell∧((cellsFrom (s.heap.objs.size+1) scope.names []).lookup y.1).isSome=true):=λ⟨n,v⟩ hy=>by
  rcases S.par n (Nl hy).1 with q|q
  ·exact .inl q
  ·exact .inr ⟨q,PySem.W.cellsFrom_some _ _ _ (.inl q)⟩
 have dep:A.depth<recursionLimit:=by have:=hr.dp;omega
 refine codeAny_call_function dep (KX _ _ lk) rfl S.co S.gen rfl (PySem.W.codeRec_of KX hcd) (hb _ _ _ _ ?_);refine wpAny_newFunctionEnv_cells S.kind Bb λenv he s1 x=>?_;subst he;refine⟨lim.keeps x.toInCall.keep,codeAny_func ?_⟩;obtain⟨t,ht,hq⟩:=gX A outer s H vs Q E hsp;have I:Inv (cx0 CX P w K mg base N qual scope f cdv A outer s H E) [] (start N vs) H s1:=by
  have e1:vt P w K mg base ({A with handled:=none}:Around) outer s H:=⟨e0.frames,e0.mod,e0.bs,e0.bsz,e0.mz,e0.frf,e0.hok,e0.bare⟩;have J:=rC (CX:=CX) (E:=E) (A:={A with handled:=none}) S rfl e1 hl r x;exact⟨⟨J.ok.mod,J.ok.kind,J.ok.glob,J.ok.blt,J.ok.above,J.ok.inj,J.ok.has,J.ok.cab,(λh=>absurd h (by show ¬false=true;decide)),Around.frames_deeper e0.frames,J.ok.stk,J.ok.exf,J.ok.bs,J.ok.bsz,J.ok.ve,J.ok.wL,J.ok.mz,J.ok.frf⟩,J.os,J.bare,J.base,J.loc,J.cell,J.free,J.en,J.pin,J.hok,J.len⟩
 refine wpAny_mono (ht [] s1 (start N vs) H _ I hq) (λfl s' hs=>?_) λe s' hs=>hs;have fin:∀ {σ':St} {H':Hp} {v:V} {u:Value},Inv (cx0 CX P w K mg base N qual scope f cdv A outer s H E) [] σ' H' s'→RelV v u→Q v H'→CE outer P w H s Q u s' :=
  λ{σ' H' v u} J rv q=>⟨v,H',J.os,J.bare,J.base,J.hok,rv,q⟩
 cases fl with
 | ret u =>
  obtain⟨v,σ',H',J,rv,q⟩:=hs;exact fin J rv q
 | next =>
  obtain⟨σ',H',J,q⟩:=hs;exact fin (v:=V.non) (u:=Value.none) J rfl q
 | brk =>
  obtain⟨_,_,_,q⟩:=hs;exact False.elim q
 | cont =>
  obtain⟨_,_,_,q⟩:=hs;exact False.elim q
theorem Fun.ok0{P:Program}{w:World}{K:W.Frag}{mg:Str→Option Value}{base:Heap}{x qual:Str}{st:Stmt}{f:Addr}{fd:FuncData}{N ps:List Str}{k:Nat}{sp:Sp}(F:Fun K x qual st f fd)(S:ar N ps (ao st))(len:∀ vs H Q E,sp vs H Q E→vs.length=ps.length)
  (gX:∀(cdv:Value) (A:Around) (outer:List Env) (s:Shared) (H:Hp) (vs:List V) (Q:VK) (E:XK),sp vs H Q E →
   ∃ t,PSs (cx0 (CXE P w) P w K mg base N qual (ao st) f cdv A outer s H E) (aN st) t∧t {nx:=λ_ H'=>Q .non H',rt:=Q} (start N vs) H):vG P w K mg base (CXE P w) (k+1) f fd ps sp:=by
 obtain⟨oc,od,kV,doc,pm,an,cdv,ct,osl,rfl,lk,hcd⟩:=F.ex;exact Ex lk hcd S len λA outer s H vs Q E hsp=>gX cdv A outer s H vs Q E hsp
section
variable{X:Cx}{o:Expr}{ta:TE}
theorem Ie{CX:CXT}{k:Nat}{f:Addr}{fd:FuncData}{ps:List Str}{sp:Sp}{ds:List Value}{dvs:List V}{EK:St→XK}{pins:List (Addr×Obj)}{σ:St}{H:Hp}{s:Shared}{Q:VK}{us:List Value}{vs:List V}(F:vG X.prog X.w X.K X.mg X.base CX k f fd ps sp)(hr:yU k X.A)(hb:Binds X.K fd ps ds)(hd:Vals dvs ds)(hx:bO CX X EK)
  (I:Inv X pins σ H s) (r:Vals vs us) (h:sp (vs++dvs) H Q (EK σ)):wpAny (model X.prog X.w) X.A (call (.ref f) us) (EP X pins σ Q) X.xe s:=by
 have r2:Vals (vs++dvs) (us++ds):=r.append hd;have hl:(us++ds).length=ps.length:=by rw[←r2.length];exact F.len _ _ _ _ h
 refine wpAny_call (codeAny_mono (F.run X.A X.stack s H ⟨us,[]⟩ (us++ds) (vs++dvs) Q (EK σ) hr I.Ds (hb s us I.kIn hl) r2 h) λr s' hq=>?_);cases r with
 | error e=>exact hx pins σ H s e s' I hq
 | ok fl =>
  cases fl with
  | ret u=>exact I.after hq
  | _=>exact False.elim hq
structure AU(P:Program)(w:World)(K:W.Frag)(mg:Str→Option Value)(base:Heap)(CX:CXT)(k:Nat)(m:Str)(C:Addr)(sp:Sp):Prop where
 ex:∃ f fd ps,Meth K C m f∧vG P w K mg base CX k f fd ps sp∧Binds K fd ps []
def tJ(P:Program)(w:World)(K:W.Frag)(mg:Str→Option Value)(base:Heap)(CX:CXT)(k:Nat)(m:Str)(EK:St→XK)(ta:TE):TE:=λσ H Q=>ta σ H λx H1=>∃ b a C sp,x=.ref a∧H1 a=some (exo b C a none)∧wY K C ∧
 AU P w K mg base CX k m C sp∧sp [x] H1 Q (EK σ)
theorem rS{CX:CXT}{k:Nat}{EK:St→XK}{m:Str}{pos apos:Pos}{pl:Sem Bool}(he:PE X o ta)(hr:yU k X.A)(hx:bO CX X EK)
  (ht:eval (.Call (.Attribute o m apos) [] [] pos) X.env=(do
   let ov ←eval o X.env
   standAt apos.atName
   let (f,first) ←holding [ov] (getMethod ov m pl)
   callWith pos f first (backTo pos (starEach [] X.env)) (backToKw pos (keywordEach [] X.env))):=by rfl) :
  PE X (.Call (.Attribute o m apos) [] [] pos) (tJ X.prog X.w X.K X.mg X.base CX k m EK ta):=by
 intro pins s σ H Q I h;refine PySem.W.methodCall_KW (pl:=pl) (thn (he pins s σ H _ I h) λu s1 ⟨x,H1,I1,rx,b,a,C,sp,ex,ea,g,md,q⟩=>?_) ht;subst ex;obtain rfl:u=Value.ref a:=rx;obtain⟨f,fd,ps,mt,F,hb⟩:=md.ex;obtain⟨fs,sl,a0,z,_⟩:=jU I1.hok ea;have fin:wpAny (model X.prog X.w) X.A (callWith pos (.ref f) [.ref a] (backTo pos (starEach [] X.env)) (backToKw pos (keywordEach [] X.env))) (EP X pins σ Q) X.xe s1 :=
  PySem.W.callWith_K0 (first:=[.ref a]) I1.kIn mt.kp (Ie (us:=[.ref a]) (vs:=[.ref a]) (dvs:=[]) (ds:=[]) F hr hb .nil hx I1 (.cons rfl .nil) q)
 exact zD I1.kIn (rJ z) g.ga g.gt mt.at_ (beq_iff_eq.mp mt.fn) rfl fin
end
def nsE:Expr→Bool
 | .Starred ..=>false
 | _=>true
theorem Cq{e:Expr}{es:List Expr}{env:Env}(h:nsE e=true):starEach (e::es) env=(false,eval e env)::starEach es env:=by
 cases e<;>first|rfl|cases h
theorem bp{X:Cx}{e:Expr}{es:List Expr}{te:TE}{t:TA}(ha:PE X e te)(hr:PA X es t)(hs:nsE e=true:=by rfl):PA X (e::es) (cD te t):=aa ha hr (Cq hs)
theorem Cr{es:List Expr}{p:Pos}{t:Option Expr}{l:Nat}{env:Env}:swapsWith (.List es p) t l env=pure false:=rfl
theorem Cs{X:Cx}{i:Nat}{x:Str}{es:List Expr}{p:Pos}{te:TE}{pos' pos:Pos}(hN:X.N.Nodup)(hi:X.N[i]?=some x)(hx:Loc X.env.scope x)(he:PE X (.List es p) te)(hf:X.fn x=true∨X.env.scope.names.lookup x=some .local:=by first|exact .inl rfl|exact .inr rfl|assumption) :
  PS X (.Assign [.Name x pos'] (.List es p) pos) (wN te (da i)):=aw hN hi hx he Cr hf
theorem rT:∀(f n r:Nat),n≤f→r≤1→minRun' f n r≤max 64 (n+r)
 | 0,n,r,_,_=>Nat.le_max_right _ _
 | f+1,n,r,h,hr=>by
  rw[minRun'_succ];by_cases c:n<64
  ·rw[if_pos c];exact Nat.le_max_right _ _
  ·rw[if_neg c]
   have:=rT f (n/2) (max r (n%2)) (by omega) (by omega)
   omega
theorem uc{n:Nat}:¬n<minRun' n n 0:=by
 by_cases c:n<64
 ·cases n with
  | zero=>show ¬0<0+0;omega
  | succ f=>rw[minRun'_succ,if_pos c];omega
 ·have:=rT n n 0 (Lu _) (by omega)
  omega
section
variable{prog:Program}{w:World}{A:Around}{E:Value→Shared→Prop}{s:Shared}{a₀:Array Keyed}
theorem ud{st:SortSt}{m:Nat}{Q:Option Nat→SortSt→Prop}(ik:IntKeys a₀)(h:m≤a₀.size)(h1:1≤m)(B:SBase a₀ st)(up:SortedTo (arrOf st) m)(q:Q (some m) st):wpS (model prog w) A E s (countRun' 0 m) Q st:=by
 rw[countRun0_eq];refine wpS_bind (wpS_ascLoop ik h (Lu 1) h1 B (λi j a b=>up i j a (by omega)) λn n1 n2 _ o=>?_);have e:n=m:=by
  rcases o with o|o
  ·exact o
  ·by_cases c:n=m
   ·exact c
   ·have:=up (n-1) n (by omega) (by omega)
    omega
 subst e;dsimp only;rw[if_pos (by simp)];exact wpS_pure q
theorem vH{st:SortSt}{Q:Unit→SortSt→Prop}(ik:IntKeys a₀)(B:SBase a₀ st)(n2:2≤a₀.size)(up:SortedTo (arrOf st) a₀.size)
  (q:∀ st',(arrOf st').Perm a₀→failedOf st'=none→SortedTo (arrOf st') a₀.size→Q () st'):wpS (model prog w) A E s sortRuns' Q st:=by
 rw[sortRuns'_eq];refine wpS_bind (wpS_get ?_);dsimp only;have mr:¬a₀.size<minRun' a₀.size a₀.size 0:=uc;simp only[B.size];refine wpS_bind (wpS_mono (wpS_forRange (I:=λx c st'=>(x=0∧c=(none,0)∧st'=st)∨(1≤x∧c=(none,a₀.size)∧SDone a₀ st')) (Q:=λc st'=>c=(none,a₀.size)∧SDone a₀ st') ?one ?all (.inl ⟨rfl,rfl,rfl⟩)) ?rest)
 case all =>
  rintro c st' (⟨z,_,_⟩|⟨_,hc,d⟩)
  ·omega
  ·exact⟨hc,d⟩
 case one =>
  rintro x c st' _ hx (⟨rfl,rfl,rfl⟩|⟨_,rfl,d⟩)
  ·dsimp only
   rw[if_neg (by omega)];simp only[Nat.sub_zero,Nat.zero_add];refine wpS_bind (ud ik (Lu _) (by omega) B up ?_);dsimp only;rw[if_neg mr];refine wpS_bind (wpS_get ?_);rw[show(pendingOf st').back?=none by rw[B.pend];rfl];dsimp only;exact wpS_bind (wpS_modify (wpS_pure (.inr ⟨by omega,rfl,B.done up⟩)))
  ·dsimp only
   rw[if_pos (Lu _)];exact wpS_pure ⟨rfl,d⟩
 case rest =>
  rintro c st' ⟨rfl,d⟩;dsimp only;refine wpS_bind (wpS_mono (wpS_forRange (I:=λ_ c st2=>st2=st'∧c=(none,())) (Q:=λc st2=>st2=st'∧c=(none,())) ?_ (λ_ _ z=>z) ⟨rfl,rfl⟩) ?_)
  ·rintro x c st2 _ _ ⟨rfl,rfl⟩
   refine wpS_bind (wpS_get ?_);rw[if_pos (show(pendingOf st2).size≤1 by rw[d.2.2.1];exact Lu 1)];exact wpS_pure ⟨rfl,rfl⟩
  ·rintro c st2 ⟨rfl,rfl⟩
   exact wpS_pure (q _ d.1 d.2.1 d.2.2.2)
theorem xj:∀ {vs:List Value} {ns:List Int},IntsAre vs ns→∀(i:Nat) (h:i<vs.length) (h':i<ns.length),numOf vs[i]=ns[i]
 | _,_,.nil,i,h,_=>absurd h (MN _)
 | _,_,.cons k t r,0,_,_=>rfl
 | _,_,.cons k t r,i+1,h,h'=>xj r i (Nat.lt_of_succ_lt_succ h) (Nat.lt_of_succ_lt_succ h')
theorem zU{vs:List Value}{ns:List Int}(hI:IntsAre vs ns)(up:ns.Pairwise (·≤·)):SortedTo (pairsOf vs) (pairsOf vs).size:=by
 intro i j ij hj;have hl:=hI.length;have hs:=pairsOf_size vs;rw[K_eq (by omega),K_eq (by omega)];have hi2:i<ns.length:=by omega
 have hj2:j<ns.length:=by omega
 have e:∀(k:Nat) (h:k<(pairsOf vs).size) (h':k<ns.length),numOf (pairsOf vs)[k].1=ns[k]:=λk h h'=>by
  have:(pairsOf vs)[k].1=vs[k]'(by omega):=by simp[pairsOf]
  rw[this];exact xj hI k (by omega) h'
 rw[e i (by omega) hi2,e j (by omega) hj2];rcases Mi i j with c|c
 ·exact List.pairwise_iff_getElem.mp up i j hi2 hj2 c
 ·have:i=j:=by omega
  subst this;exact Mn _
theorem lJ{a:Addr}{vs:List Value}{ns:List Int}{n:Nat}{P:Fin→Shared→Prop}(ho:s.heap.get? a=some (seqObj "list" vs.toArray n))(hI:IntsAre vs ns)(few:vs.length≤20000)(up:ns.Pairwise (·≤·))
  (h:∀(out:Array Value) (ns':List Int),IntsAre out.toList ns'→ns'.Perm ns→ns'.Pairwise (·≤·)→P (.done (.ret .none)) {s with heap:=sortedHeap s.heap a vs out}):wpAny (model prog w) A (Builtin.«list.sort» ⟨[.ref a],[]⟩) P E s:=by
 have hz:vs.length≤sizeLine:=Me (L6 few (by decide));rw[list_sort_plain];have la:a<s.heap.objs.size:=LC ho;refine wpAny_bind (listItems_at ho rfl (wpAny_bind (listUpdate_at ho rfl ?_ (by rw[Ly];exact hz) (L8 _))));obtain⟨e1,g1⟩:∃ e1,(s.heap.update a (Obj.mapSeq λ_=>#[])).get? a=some (seqObj "list" #[] e1):=⟨_,get?_update_seq ho (λ_=>#[])⟩;refine wpAny_bind (seqEpoch_at g1 rfl (wpAny_bind (wpAny_newTuple (wpAny_bind (wpAny_newList (wpAny_holding ?_) (L8 _))) (by show vs.length≤_;exact hz))));have g6:(((s.heap.update a (Obj.mapSeq λ_=>#[])).push (seqObj "tuple" vs.toArray 0)).push (seqObj "list" #[] 0)).get? a=some (seqObj "list" #[] e1):=Lx _ (Lx _ g1);show wpAny (model prog w) A _ P E {s with heap:=((s.heap.update a (Obj.mapSeq λ_=>#[])).push (seqObj "tuple" vs.toArray 0)).push (seqObj "list" #[] 0)};dsimp only;have zs:(pairsOf vs).size=vs.length:=pairsOf_size vs;have fin:∀ st':SortSt,(arrOf st').Perm (pairsOf vs)→SortedTo (arrOf st') (pairsOf vs).size→P (.done (.ret .none)) {s with heap:=sortedHeap s.heap a vs ((arrOf st').map (·.2))}:=λst' hp hs=>by
  obtain⟨ns',q1,q2,q3⟩:=sorted_out hI hp hs;exact h _ ns' q1 q2 q3
 have up0:=zU hI up;by_cases c:vs.toArray.size<2
 ·rw[if_pos c,if_pos c]
  refine wpAny_bind (wpAny_pure ?_);rw[StateT.run_pure];refine wpAny_bind (wpAny_pure ?_);dsimp only;refine wpAny_bind (seqEpoch_at g6 rfl (wpAny_bind (listUpdate_at g6 rfl ?_ (hsz2:=by rw[Array.size_map];show(pairsOf vs).size≤_;rw[zs];omega))));simp only[bne_self_eq_false,Md,if_false];exact wpAny_pure (fin (SortSt.mk' general' (vs.toArray.zip vs.toArray) #[] 7 none) (Array.Perm.refl _) up0)
 ·rw[if_neg c,if_neg c]
  obtain⟨v1,v2,r,rfl⟩:∃ v1 v2 r,vs=v1::v2::r:=by
   match vs,c with
   | [],c=>simp at c
   | [_],c=>simp at c
   | v1::v2::r,_=>exact⟨v1,v2,r,rfl⟩
  rw[keyKind_ints hI];refine wpAny_bind (wpAny_pure (wpAny_bind (wpAny_mono (vH (a₀:=pairsOf (v1::v2::r)) (st:=SortSt.mk' oneType' ((v1::v2::r).toArray.zip (v1::v2::r).toArray) #[] 7 none)
   (Q:=λ_ st'=>(arrOf st').Perm (pairsOf (v1::v2::r))∧failedOf st'=none∧SortedTo (arrOf st') (pairsOf (v1::v2::r)).size) hI.intKeys ⟨Array.Perm.refl _,rfl,rfl,rfl⟩ (by rw[zs];simp) up0 λst' a1 a2 a3=>⟨a1,a2,a3⟩) ?_ λ_ _ e=>e)))
  rintro⟨⟨⟩,st'⟩ s' ⟨rfl,hp,hf,hs⟩;dsimp only;refine wpAny_bind (seqEpoch_at g6 rfl (wpAny_bind (listUpdate_at g6 rfl ?_ (hsz2:=LL (Nat.le_of_eq ((Array.size_map ..).trans (hp.size_eq.trans zs))) (Nat.le_succ_of_le hz)))));rw[hf];simp only[bne_self_eq_false,Md,if_false];exact wpAny_pure (fin st' hp hs)
end
section
variable{X:Cx}
def zV:List V→Hp→VK→Prop:=λvs H Q=>∃(p:Addr) (kvs:List (Key×V)) (ks:List Int),vs=[.ref p]∧Rd H p (.dK kvs)∧kvs.map (·.1)=ks.map Sum.inl∧ks.length≤20000∧ks.Pairwise (·≤·)∧∀(l:Addr),H l=none→Q (.ref l) (upd H l (.lst (ks.map V.int)))
theorem so(hc:X.calm=true):eR X (.builtin "sorted") zV:=by
 rintro pins s σ H xs us Q I r ⟨p,kvs,ks,rfl,hp,hk,few,up,q⟩;obtain⟨u,rfl,ru⟩:=r.one;cases (show u=Value.ref p from ru);obtain⟨hz,hd,vs,rel,dd⟩:=ip I.hok hp;obtain⟨ep,hat⟩:=dd.dictAt;have hh:=I.ok.hd hc;have hl:ks.length=kvs.length:=by
  have:=congrArg List.length hk
  simpa using this.symm
 refine MT kind_sorted plain_sorted entry_sorted (args_sorted1 _) ?_;unfold Builtin.«sorted»;refine wpAny_bind (m:=checkCount "sorted" 1 1 _) (wpAny_pure ?_);refine wpAny_bind (PySem.W.kdu_collect (A:=X.A.in1) (PySem.W.kdl_dict (knd:=aR X.prog X.w) (kvs:=vs) (ep:=ep) hd) hh hat (by rw[←rel.length];exact hz) λh' tk acc hkp hacc=>?_);have hI:IntsAre acc.toList ks:=nB (by rw[←rel.keys];exact hk) hacc.1 hacc.2;have hlen:=hI.length;have I1:Inv X pins σ H {s with heap:=h',toks:=tk}:=I.kept (t':=tk) hkp;refine wpAny_bind (wpAny_newList ?_ (by show acc.toList.length≤sizeLine;rw[hlen,hl];exact hz));have hoL:(h'.push (seqObj "list" acc.toList.toArray 0)).get? h'.objs.size=some (seqObj "list" acc.toList.toArray 0):=LY _ rfl;show wpAny _ _ _ _ _ {s with heap:=h'.push (seqObj "list" acc.toList.toArray 0),toks:=tk};refine wpAny_bind (wpAny_holding (wpAny_call_entry slot_list_sort ⟨_,hoL,rfl⟩ entry_list_sort (lJ hoL hI (by omega) up λout ns' a1 a2 a3=>⟨_,rfl,?_⟩) (args_list_sort _)));refine wpAny_pure ⟨_,rfl,?_⟩;cases rM a2 a3 up;obtain⟨e,he⟩:=sortedHeap_at (out:=out) hoL;refine⟨.ref h'.objs.size,_,I1.laid (a:=h'.objs.size) (o:=.lst (ks.map V.int)) (t':=tk) (λb o hb=>?_) (Lu _) ?_,rfl,q _ (I1.hok.fresh (Lu _))⟩
 ·have hlt:=LC hb
  rw[sortedHeap_old (LN hlt) (by rw[size_push'];exact Nx hlt),Heap.get?_push_ne _ _ _ (LN hlt)];exact hb
 ·refine⟨by rw[Lp,hl];exact hz,out.toList,e,d9 a1,?_⟩
  rw[he]
def Ct(K:W.Frag):List V→Hp→VK→Prop:=λvs H Q=>∃(p:Addr) (ns:List Int),vs=[.ref p]∧SqL K H p (ns.map V.int)∧ns.length≤20000∧ns.Pairwise (·≤·)∧∀(l:Addr),H l=none→Q (.ref l) (upd H l (.lst (ns.map V.int)))
theorem ue:eR X (.builtin "sorted") (Ct X.K):=by
 rintro pins s σ H xs us Q I r ⟨p,ns,rfl,hq,few,up,q⟩;obtain⟨u,rfl,ru⟩:=r.one;cases (show u=Value.ref p from ru);obtain⟨its,rv,pl,hz⟩:=I.list hq;have hI:=intsAre_of rv;have hlen:=rv.length;rw[Lp]at hlen hz;refine MT kind_sorted plain_sorted entry_sorted (args_sorted1 _) ?_;unfold Builtin.«sorted»;refine wpAny_bind (m:=checkCount "sorted" 1 1 _) (wpAny_pure ?_);have iz:its.length≤sizeLine:=by omega
 refine wpAny_bind (collect_list pl.isList ?_ iz);refine wpAny_bind (wpAny_newList ?_ iz);have sz:((s.heap.push (seqObj "list" #[] 0)).update s.heap.objs.size (Obj.mapSeq (·++its.toArray))).objs.size=s.heap.objs.size+1:=by rw[Heap.size_update,size_push']
 have hoL:(((s.heap.push (seqObj "list" #[] 0)).update s.heap.objs.size (Obj.mapSeq (·++its.toArray))).push (seqObj "list" its.toArray 0)).get? (s.heap.objs.size+1)=some (seqObj "list" its.toArray 0):=by rw[←sz];exact LY _ rfl
 show wpAny _ _ _ _ _ {s with heap:=((s.heap.push (seqObj "list" #[] 0)).update s.heap.objs.size (Obj.mapSeq (·++its.toArray))).push (seqObj "list" its.toArray 0)};rw[sz];refine wpAny_bind (wpAny_holding (wpAny_call_entry slot_list_sort ⟨_,hoL,rfl⟩ entry_list_sort (lJ hoL hI (by omega) up λout ns' a1 a2 a3=>⟨_,rfl,?_⟩) (args_list_sort _)));refine wpAny_pure ⟨_,rfl,?_⟩;cases rM a2 a3 up;obtain⟨e,he⟩:=sortedAll_at s.heap its out;refine⟨.ref (s.heap.objs.size+1),_,I.laid (a:=s.heap.objs.size+1) (o:=.lst (ns.map V.int)) (t':=s.toks) (λ_ _=>sortedAll_old) (MV _) ?_,rfl,q _ (I.hok.fresh (MV _))⟩;refine⟨by rw[Lp];exact hz,out.toList,e,d9 a1,?_⟩;show(sortedAll s.heap its out).get? _=_;rw[he]
end
end L2
end
section
namespace K21
open PySem L2 LX
open PySem.W (nsIn findIn isFn keepIn codeIn fnOf kitOne)
def fdA(P:Params)(a:Addr):FuncData:=match (hK P).lookup a with|some ⟨_,_,.func d,_⟩=>d|_=>default
structure FB(f:Addr)(q:Str)(st:Stmt):Prop where
 a:∀ P,(hK P).lookup f=some ⟨.type "function",none,.func (fnOf (fdA P f).name q (di st) (aN st) (ao st) .none .none .none (fdA P f).pyModule none (fdA P f).code .none),#[]⟩:=by intro P;kernel_rfl
 b:∀ P,codeIn (hK P) (fdA P f).code q=true:=by intro P;kernel_rfl
 c:∀ P,keepIn (hK P) (.ref f)=true:=by intro P;kernel_rfl
structure Txt(w:World)(K:W.Frag)(mg:Str→Option Value):Prop where
 e:K=hK w.params
 mm:∀ {n:Str} {v:Value},nsIn K mainGlobals n=some (some v)→mg n=some v
 zz:∀ {n:Str},nsIn K mainGlobals n=some none→mg n=none
theorem xc1{K:W.Frag}{C:Addr}(h:iR K C=true):∃ cd,cK K C cd:=let ⟨cd,_,y⟩:=wX h;⟨cd,y⟩
theorem xsu{K:W.Frag}{C b:Addr}(h:iR K C=true)(s:PySem.W.mroIn K C (.ref b)=some true):∃ cd,cK K C cd∧cd.mro.contains (.ref b)=true:=by
 obtain⟨cd,hc,y⟩:=wX h;refine⟨cd,y,?_⟩;unfold PySem.W.mroIn at s;rw[hc,MJ,if_neg (by rw[y.lW];decide)]at s;exact LS s
section
variable{w:World}{K:W.Frag}{mg:Str→Option Value}{na mn:Str}{v:Value}{c f b:Addr}{st:Stmt}(T:Txt w K mg)
include T
theorem Txt.m(h:∀ P,nsIn (hK P) mainGlobals na=some (some v):=by intro P;kernel_rfl):mg na=some v:=T.mm (by rw[T.e];exact h _)
theorem Txt.z(h:∀ P,nsIn (hK P) mainGlobals na=some none:=by intro P;kernel_rfl):mg na=none:=T.zz (by rw[T.e];exact h _)
theorem Txt.kp(h:∀ P,keepIn (hK P) (.ref f)=true:=by intro P;kernel_rfl):keepIn K (.ref f)=true:=by rw[T.e];exact h _
theorem Txt.n(h:∀ P,findIn (hK P) (.ref c) na=some none:=by intro P;kernel_rfl):lT K c na:=by rw[T.e];exact h _
theorem Txt.me(h1:∀ P,findIn (hK P) (.ref c) mn=some (some (.ref f)):=by intro P;kernel_rfl)(h2:∀ P,isFn (hK P) (.ref f)=true:=by intro P;kernel_rfl)(h3:∀ P,keepIn (hK P) (.ref f)=true:=by intro P;kernel_rfl):Meth K c mn f:=by rw[T.e];exact⟨h1 _,h2 _,h3 _⟩
theorem Txt.cls(h1:∀ P,PySem.W.plainGet (hK P) c Str.empty=true:=by intro P;kernel_rfl)(h2:∀ P,PySem.W.hasDictIn (hK P) c=true:=by intro P;kernel_rfl)(h3:∀ P,PySem.W.plainOver (hK P) c=true:=by intro P;kernel_rfl)(h4:∀ P,findIn (hK P) (.ref c) "__setattr__" = some (some (.builtin "object.__setattr__")):=by intro P;kernel_rfl):Cls K c:=by rw[T.e];exact⟨h1 _,h2 _,h3 _,h4 _⟩
theorem Txt.mkk(c:Addr)(h1:∀ P,PySem.W.makesIn (hK P) c=true:=by intro P;kernel_rfl)(h2:∀ P,findIn (hK P) (.ref c) "__init__" = some (some (.ref f)):=by intro P;kernel_rfl)(h3:∀ P,isFn (hK P) (.ref f)=true:=by intro P;kernel_rfl)(h4:∀ P,keepIn (hK P) (.ref c)=true:=by intro P;kernel_rfl):Mk K c f:=by rw[T.e];exact⟨h1 _,h2 _,h3 _,h4 _⟩
theorem Txt.mx(c:Addr)(h1:∀ P,iR (hK P) c=true:=by intro P;kernel_rfl)(h2:∀ P,findIn (hK P) (.ref c) "__init__" = some (some (.ref f)):=by intro P;kernel_rfl)(h3:∀ P,isFn (hK P) (.ref f)=true:=by intro P;kernel_rfl)(h4:∀ P,keepIn (hK P) (.ref c)=true:=by intro P;kernel_rfl):MkX K c f:=by rw[T.e];exact⟨xc1 (h1 _),h2 _,h3 _,h4 _⟩
theorem Txt.ec(c:Addr)(h1:∀ P,iR (hK P) c=true:=by intro P;kernel_rfl)(h2:∀ P,findIn (hK P) (.ref c) "__getattribute__" = some (some (.builtin "BaseException.__getattribute__")):=by intro P;kernel_rfl)(h3:∀ P,findIn (hK P) (.ref c) "__getattr__" = some none:=by intro P;kernel_rfl)(h4:∀ P,findIn (hK P) (.ref c) "__class__" = some (some (.builtin "object.__class__")):=by intro P;kernel_rfl):DD K c:=by rw[T.e];exact⟨xc1 (h1 _),⟨h2 _,h3 _⟩,h4 _⟩
theorem Txt.h(c:Addr)(h1:∀ P,iR (hK P) c=true:=by intro P;kernel_rfl):∃ cd,cK K c cd:=by rw[T.e];exact xc1 (h1 _)
theorem Txt.sub(c:Addr)(h1:∀ P,iR (hK P) c=true:=by intro P;kernel_rfl)(h2:∀ P,PySem.W.mroIn (hK P) c (.ref b)=some true:=by intro P;kernel_rfl):∃ cd,cK K c cd∧cd.mro.contains (.ref b)=true:=by rw[T.e];exact xsu (h1 _) (h2 _)
theorem Txt.ki{u v:Value}{z:Bool}(h:∀ P,kitOne (hK P) u v=some z:=by intro P;kernel_rfl):kitOne K u v=some z:=by rw[T.e];exact h _
theorem Txt.cf(c:Addr)(h1:∀ P,PySem.W.readsIn (hK P) c (.type "type")=true:=by intro P;kernel_rfl)(h2:∀ P,PySem.W.findCls (hK P) (.ref c) (.type "type") mn=some (.val (.ref f)):=by intro P;kernel_rfl)(h3:∀ P,PySem.W.specialIn (hK P) (.ref c) "__getattribute__" = some (some (.builtin "type.__getattribute__")):=by intro P;kernel_rfl)(h4:∀ P,keepIn (hK P) (.ref f)=true:=by intro P;kernel_rfl):DF K c mn f:=by rw[T.e];exact⟨h1 _,h2 _,h3 _,h4 _⟩
theorem Txt.fn(q:Str)(h:FB f q st:=by exact {}):Fun K (fdA w.params f).name q st f (fdA w.params f):=by
 rw[T.e];have e:fdA w.params f=fnOf (fdA w.params f).name q (di st) (aN st) (ao st) .none .none .none (fdA w.params f).pyModule none (fdA w.params f).code .none:=by
  conv=>lhs;unfold fdA
  rw[h.a w.params]
 exact⟨⟨_,_,_,_,_,_,_,_,_,e,by rw[h.a w.params,←e],h.b _⟩,h.c _⟩
theorem Txt.fnn(na q:Str)(h0:∀ P,(fdA P f).name=na:=by intro P;kernel_rfl)(h:FB f q st:=by exact {}):Fun K na q st f (fdA w.params f):=h0 w.params ▸ T.fn q h
theorem Txt.aP:Cls K 561:=T.cls
theorem Txt.aY:Cls K 624:=T.cls
theorem Txt.bL:Cls K 671:=T.cls
theorem Txt.ae:Cls K 980:=T.cls
theorem Txt.xk:mg "HANDS" = some (.int 8 550):=T.m
theorem Txt.lK:mg "WEAK_NAMES" = some (.int 8 552):=T.m
theorem Txt.qM:mg "MOST_FIELDS" = some (.int 6 554):=T.m
theorem Txt.lL:mg "LEAST_ROOM" = some (.int 7 556):=T.m
theorem Txt.su:mg "MOST_YOUNG" = some (.int 64 558):=T.m
theorem Txt.sv:mg "MOST_LIMIT" = some (.int 400 560):=T.m
theorem Txt.jc:mg "MOST_BEARERS" = some (.int 12 879):=T.m
end
structure Ok(P:Program)(w:World)(K:W.Frag)(mg:Str→Option Value)(base:Heap)(n:Nat)(f:Addr)(ps:List Str)(sp:Sp):Prop where
 t:Txt w K mg
 g:gZ P w K mg base (CXE P w) n f (fdA w.params f) ps sp
 b:Binds K (fdA w.params f) ps []
section
variable{X:Cx}{n k:Nat}{f C:Addr}{ps:List Str}{sp:Sp}{EK:St→XK}{x mn:Str}{p apos pos:Pos}{ex o:Expr}{es:List Expr}{t:TA}{ta:TE}
theorem Ok.c(G:Ok X.prog X.w X.K X.mg X.base n f ps sp)(hr:dF k X.A)(hx:bO (CXE X.prog X.w) X EK)(ha:PA X (ex::es) t)(m1:∀ P,nsIn (hK P) mainGlobals x=some (some (.ref f)):=by intro P;kernel_rfl)(k1:∀ P,keepIn (hK P) (.ref f)=true:=by intro P;kernel_rfl)(hn:n≤k:=by decide)(hg:Gl X x:=by exact rfl)(hdb:(x == ("__debug__" : Str))=false:=by decide)(he:starEach (ex::es) X.env=(false,eval ex X.env)::starEach es X.env:=by rfl)(hpl:(backTo pos (starEach es X.env)).any (·.1)=false:=by rfl):PE X (.Call (.Name x p) (ex::es) [] pos) (BE sp [] EK t):=jV G.g (hr.mono hn) hg (G.t.m m1) (G.t.kp k1) G.b .nil hx ha hdb he hpl
theorem Ok.m{pl:Sem Bool}(G:Ok X.prog X.w X.K X.mg X.base n f ps sp)(c1:Cls X.K C)(hr:dF k X.A)(he:PE X o ta)(hx:bO (CXE X.prog X.w) X EK)(ha:PA X (ex::es) t)(m1:∀ P,findIn (hK P) (.ref C) mn=some (some (.ref f)):=by intro P;kernel_rfl)(m2:∀ P,isFn (hK P) (.ref f)=true:=by intro P;kernel_rfl)(m3:∀ P,keepIn (hK P) (.ref f)=true:=by intro P;kernel_rfl)(hn:n≤k:=by decide)(hst:starEach (ex::es) X.env=(false,eval ex X.env)::starEach es X.env:=by rfl)(hpl:(backTo pos (starEach es X.env)).any (·.1)=false:=by rfl)
  (ht:eval (.Call (.Attribute o mn apos) (ex::es) [] pos) X.env=(do let ov ←eval o X.env;standAt apos.atName;let (f,first) ←holding [ov] (getMethod ov mn pl);callWith pos f first (backTo pos (starEach (ex::es) X.env)) (backToKw pos (keywordEach [] X.env))):=by rfl):PE X (.Call (.Attribute o mn apos) (ex::es) [] pos) (yR C mn sp [] EK ta t):=Cg he c1 (G.t.me m1 m2 m3) G.g (hr.mono hn) G.b .nil hx ha hst hpl ht
theorem Ok.m0{pl:Sem Bool}(G:Ok X.prog X.w X.K X.mg X.base n f ps sp)(c1:Cls X.K C)(hr:dF k X.A)(he:PE X o ta)(hx:bO (CXE X.prog X.w) X EK)(m1:∀ P,findIn (hK P) (.ref C) mn=some (some (.ref f)):=by intro P;kernel_rfl)(m2:∀ P,isFn (hK P) (.ref f)=true:=by intro P;kernel_rfl)(m3:∀ P,keepIn (hK P) (.ref f)=true:=by intro P;kernel_rfl)(hn:n≤k:=by decide)
  (ht:eval (.Call (.Attribute o mn apos) [] [] pos) X.env=(do let ov ←eval o X.env;standAt apos.atName;let (f,first) ←holding [ov] (getMethod ov mn pl);callWith pos f first (backTo pos (starEach [] X.env)) (backToKw pos (keywordEach [] X.env))):=by rfl):PE X (.Call (.Attribute o mn apos) [] [] pos) (yR C mn sp [] EK ta tu):=zE he c1 (G.t.me m1 m2 m3) G.g (hr.mono hn) G.b .nil hx ht
theorem Ok.e(G:Ok X.prog X.w X.K X.mg X.base n f ps sp)(C:Addr)(hr:dF k X.A)(hx:bO (CXE X.prog X.w) X EK)(ha:PA X (ex::es) t)(m1:∀ P,nsIn (hK P) mainGlobals x=some (some (.ref C)):=by intro P;kernel_rfl)(h1:∀ P,iR (hK P) C=true:=by intro P;kernel_rfl)(h2:∀ P,findIn (hK P) (.ref C) "__init__" = some (some (.ref f)):=by intro P;kernel_rfl)(h3:∀ P,isFn (hK P) (.ref f)=true:=by intro P;kernel_rfl)(h4:∀ P,keepIn (hK P) (.ref C)=true:=by intro P;kernel_rfl)(hn:n+1≤k:=by decide)(hg:Gl X x:=by exact rfl)(hps:ps.length≤1000:=by decide)(hdb:(x == ("__debug__" : Str))=false:=by decide)(he:starEach (ex::es) X.env=(false,eval ex X.env)::starEach es X.env:=by rfl)(hpl:(backTo pos (starEach es X.env)).any (·.1)=false:=by rfl):PE X (.Call (.Name x p) (ex::es) [] pos) (IU C sp EK t):=Ei (G.t.mx C h1 h2 h3 h4) G.g (hr.mono hn) hg (G.t.m m1) G.b hx ha hps hdb he hpl
end
section
variable{P:Program}{w:World}{K:W.Frag}{mg:Str→Option Value}{base:Heap}{x qual:Str}{st:Stmt}{f:Addr}{N ps:List Str}{k:Nat}{sp:Sp}
theorem fsc{N P:List Str}{sc:Scope}(h1:sc.kind=.function:=by exact rfl)(h2:sc.isCoroutine=false:=by exact rfl)(h3:sc.isGenerator=false:=by exact rfl)(h4:N.Nodup:=by decide +kernel)(h5:N.take P.length=P:=by exact rfl)(h6:∀ x∈P,sc.names.lookup x=some .local∨sc.names.lookup x=some .cell:=by decide +kernel)(h7:∀ y∈sc.names,y.2≠.free:=by decide +kernel):ar N P sc:=⟨h1,h2,h3,h4,h5,h6,h7⟩
def Bdy(P:Program)(w:World)(K:W.Frag)(mg:Str→Option Value)(base:Heap)(N:List Str)(q:Str)(st:Stmt)(f:Addr)(k:Nat)(sp:Sp):Prop:=∀(cdv:Value) (A:Around) (outer:List Env) (s:Shared) (H:Hp) (vs:List V) (Q:VK) (E:XK),dF k (A.deeper (PyProof.Rows.envOfC q (ao st) s.heap.objs.size f cdv))→sp vs H Q E→∃ t,PSs (cxE P w K mg base N q (ao st) f cdv A outer s H E) (aN st) t∧t {nx:=λ_ H'=>Q .non H',rt:=Q} (start N vs) H
theorem Txt.o1(T:Txt w K mg)(q:Str){p0:Str}(S:ar N [p0] (ao st))(gX:Bdy P w K mg base N q st f k sp)(h:FB f q st:=by exact {})(hb:∀(x:Str) (kV doc pm:Value) (an:Option Addr) (cdv ct:Value) (u0:Value),bindArgs (fnOf x q (di st) (aN st) (ao st) .none kV doc pm an cdv ct) ⟨[u0],[]⟩=pure (([p0]:List Str).zip [u0]):=by intros;rfl)(len:∀ vs H Q E,sp vs H Q E→vs.length=1:=by(intro vs H Q E h;repeat (first|(obtain⟨rfl,_⟩:=h;rfl)|obtain⟨_,h⟩:=h))):Ok P w K mg base (k+1) f [p0] sp :=
 have F:=T.fn q h
 ⟨⟨T.e,T.mm,T.zz⟩,F.okE S len gX,F.binds (ps:=[p0]) λkV doc pm an cdv ct us hl=>match us,hl with|[u0],_=>hb _ kV doc pm an cdv ct u0⟩
theorem Txt.o2(T:Txt w K mg)(q:Str){p0 p1:Str}(S:ar N [p0,p1] (ao st))(gX:Bdy P w K mg base N q st f k sp)(h:FB f q st:=by exact {})(hb:∀(x:Str) (kV doc pm:Value) (an:Option Addr) (cdv ct:Value) (u0 u1:Value),bindArgs (fnOf x q (di st) (aN st) (ao st) .none kV doc pm an cdv ct) ⟨[u0,u1],[]⟩=pure (([p0,p1]:List Str).zip [u0,u1]):=by intros;rfl)(len:∀ vs H Q E,sp vs H Q E→vs.length=2:=by(intro vs H Q E h;repeat (first|(obtain⟨rfl,_⟩:=h;rfl)|obtain⟨_,h⟩:=h))):Ok P w K mg base (k+1) f [p0,p1] sp :=
 have F:=T.fn q h
 ⟨⟨T.e,T.mm,T.zz⟩,F.okE S len gX,F.binds (ps:=[p0,p1]) λkV doc pm an cdv ct us hl=>match us,hl with|[u0,u1],_=>hb _ kV doc pm an cdv ct u0 u1⟩
theorem Txt.o3(T:Txt w K mg)(q:Str){p0 p1 p2:Str}(S:ar N [p0,p1,p2] (ao st))(gX:Bdy P w K mg base N q st f k sp)(h:FB f q st:=by exact {})(hb:∀(x:Str) (kV doc pm:Value) (an:Option Addr) (cdv ct:Value) (u0 u1 u2:Value),bindArgs (fnOf x q (di st) (aN st) (ao st) .none kV doc pm an cdv ct) ⟨[u0,u1,u2],[]⟩=pure (([p0,p1,p2]:List Str).zip [u0,u1,u2]):=by intros;rfl)(len:∀ vs H Q E,sp vs H Q E→vs.length=3:=by(intro vs H Q E h;repeat (first|(obtain⟨rfl,_⟩:=h;rfl)|obtain⟨_,h⟩:=h))):Ok P w K mg base (k+1) f [p0,p1,p2] sp :=
 have F:=T.fn q h
 ⟨⟨T.e,T.mm,T.zz⟩,F.okE S len gX,F.binds (ps:=[p0,p1,p2]) λkV doc pm an cdv ct us hl=>match us,hl with|[u0,u1,u2],_=>hb _ kV doc pm an cdv ct u0 u1 u2⟩
theorem Txt.o4(T:Txt w K mg)(q:Str){p0 p1 p2 p3:Str}(S:ar N [p0,p1,p2,p3] (ao st))(gX:Bdy P w K mg base N q st f k sp)(h:FB f q st:=by exact {})(hb:∀(x:Str) (kV doc pm:Value) (an:Option Addr) (cdv ct:Value) (u0 u1 u2 u3:Value),bindArgs (fnOf x q (di st) (aN st) (ao st) .none kV doc pm an cdv ct) ⟨[u0,u1,u2,u3],[]⟩=pure (([p0,p1,p2,p3]:List Str).zip [u0,u1,u2,u3]):=by intros;rfl)(len:∀ vs H Q E,sp vs H Q E→vs.length=4:=by(intro vs H Q E h;repeat (first|(obtain⟨rfl,_⟩:=h;rfl)|obtain⟨_,h⟩:=h))):Ok P w K mg base (k+1) f [p0,p1,p2,p3] sp :=
 have F:=T.fn q h
 ⟨⟨T.e,T.mm,T.zz⟩,F.okE S len gX,F.binds (ps:=[p0,p1,p2,p3]) λkV doc pm an cdv ct us hl=>match us,hl with|[u0,u1,u2,u3],_=>hb _ kV doc pm an cdv ct u0 u1 u2 u3⟩
end
theorem px{P:Program}{w:World}{K:W.Frag}{mg:Str→Option Value}{base:Heap}{N:List Str}{qual:Str}{sc:Scope}{f:Addr}{cdv:Value}{A:Around}{outer:List Env}{s:Shared}{H:Hp}{E:XK}:bO (CXE P w) (cxE P w K mg base N qual sc f cdv A outer s H E) (λ_=>E):=Passes.x (yQ λ_ _ _ q=>q)
end K21
end
section
namespace K21
open PySem L2 LX
inductive Wd where
 | no
 | num (x:Int)
 | th (t:Int)
 deriving DecidableEq
def Wd.kind:Wd→Str
 | .no => "none"
 | .num _ => "number"
 | .th _ => "thing"
def WV(H:Hp)(v:V):Wd→Prop
 | .no=>v=.non
 | .num x=>∃ t,v=.ref t∧H t=some (.tup [.str "number",.int x])
 | .th x=>∃ t,v=.ref t∧H t=some (.tup [.str "thing",.int x])
def cN(H H':Hp):Prop:=∀ t us,H t=some (.tup us)→H' t=some (.tup us)
theorem cN.of{H H':Hp}(s:aq H H'):cN H H':=λt us q=>s _ _ q
theorem cN.trans{H H1 H2:Hp}(a:cN H H1)(b:cN H1 H2):cN H H2:=λt us q=>b t us (a t us q)
theorem cN.set{H:Hp}{c:Addr}{u o:HO}(h:H c=some u)(n:∀ xs,u≠.tup xs):cN H (upd H c o):=λt us q=>by
 rw[ak λe=>by rw[e,h]at q;exact n us (LS q)];exact q
theorem WV.keep{H H':Hp}{v:V}{w:Wd}(h:WV H v w)(s:cN H H'):WV H' v w:=by
 cases w with
 | no=>exact h
 | num n=>obtain⟨t,e,q⟩:=h;exact⟨t,e,s _ _ q⟩
 | th n=>obtain⟨t,e,q⟩:=h;exact⟨t,e,s _ _ q⟩
def Rel(H:Hp)(xs:List V)(ws:List Wd):Prop:=xs.length=ws.length∧∀(i:Nat) (v:V) (w:Wd),xs[i]?=some v→ws[i]?=some w→WV H v w
theorem Rel.keep{H H':Hp}{xs:List V}{ws:List Wd}(h:Rel H xs ws)(s:cN H H'):Rel H' xs ws:=⟨h.1,λi v w a b=>(h.2 i v w a b).keep s⟩
theorem Rel.get{H:Hp}{xs:List V}{ws:List Wd}(h:Rel H xs ws){i:Nat}(hi:i<ws.length):∃ v,xs[i]?=some v∧WV H v ws[i] :=
 ⟨_,Ls (by rw[h.1];exact hi),h.2 i _ _ (Ls (by rw[h.1];exact hi)) (Ls hi)⟩
theorem Rel.set{H:Hp}{xs:List V}{ws:List Wd}{i:Nat}{v:V}{w:Wd}(h:Rel H xs ws)(hv:WV H v w):Rel H (xs.set i v) (ws.set i w):=by
 refine⟨by rw[Mt,Mt];exact h.1,λj u y a b=>?_⟩;rw[List.getElem?_set]at a b;by_cases e:i=j
 ·subst e
  simp only[if_true]at a b;split at a
  ·split at b
   ·cases a;cases b;exact hv
   ·cases b
  ·cases a
 ·rw[if_neg e]at a b
  exact h.2 j u y a b
theorem Rel.nil{H:Hp}{n:Nat}:Rel H (List.replicate n .non) (List.replicate n .no):=⟨by simp,λi v w a b=>by
 rw[Mm (LD a),Mm (LD b)];rfl⟩
def nmV:Option Int→V
 | none=>.non
 | some t=>.int t
structure HS where
 my:Bool
 aM:List Wd
 names:List (Option Int)
 aS:List (Int×Int)
 iN:List Int
 aG:List (Int×List Wd)
 yng:List Int
 nxt:Int
 room:Int
 limit:Int
 bc:List Int
 rnd:Bool
structure HA where
 dx:Addr
 hd:Addr
 hdx:Addr
 hl:Addr
 hx:List V
 nt:Addr
 ntx:Addr
 nl:Addr
 wt:Addr
 wtx:Addr
 wb:Addr
 wl:Addr
 fh:Addr
 fa:Int→Addr
 fx:Int→List V
 yg:Addr
 dm:Addr
def atts(A:HA)(s:HS):List (Str×V):=[("makes_young",.bl s.my),("in_hands",.ref A.hd),("weak_names",.ref A.nt),("last_words",.ref A.wt),("fields_held",.ref A.fh),("young_things",.ref A.yg),("next_thing",.int s.nxt),("young_room",.int s.room),("limit",.int s.limit),("doomed_things",.ref A.dm),("in_round",.bl s.rnd)]
theorem DK{A:HA}{s:HS}:(atts A s).lookup ("makes_young" : Str)=some (.bl s.my):=by kernel_rfl
theorem gY{A:HA}{s:HS}:(atts A s).lookup ("in_hands" : Str)=some (.ref A.hd):=by kernel_rfl
theorem BJ{A:HA}{s:HS}:(atts A s).lookup ("weak_names" : Str)=some (.ref A.nt):=by kernel_rfl
theorem DL{A:HA}{s:HS}:(atts A s).lookup ("last_words" : Str)=some (.ref A.wt):=by kernel_rfl
theorem ir{A:HA}{s:HS}:(atts A s).lookup ("fields_held" : Str)=some (.ref A.fh):=by kernel_rfl
theorem vI{A:HA}{s:HS}:(atts A s).lookup ("young_things" : Str)=some (.ref A.yg):=by kernel_rfl
theorem Ig{A:HA}{s:HS}:(atts A s).lookup ("next_thing" : Str)=some (.int s.nxt):=by kernel_rfl
theorem Ih{A:HA}{s:HS}:(atts A s).lookup ("young_room" : Str)=some (.int s.room):=by kernel_rfl
theorem Ii{A:HA}{s:HS}:(atts A s).lookup ("limit" : Str)=some (.int s.limit):=by kernel_rfl
theorem vJ{A:HA}{s:HS}:(atts A s).lookup ("doomed_things" : Str)=some (.ref A.dm):=by kernel_rfl
theorem BK{A:HA}{s:HS}:(atts A s).lookup ("in_round" : Str)=some (.bl s.rnd):=by kernel_rfl
theorem Ij{A:HA}{s:HS}{n:Int}:cB "next_thing" (.int n) (atts A s)=atts A {s with nxt:=n}:=by kernel_rfl
theorem Ik{A:HA}{s:HS}{b:Bool}:cB "in_round" (.bl b) (atts A s)=atts A {s with rnd:=b}:=by kernel_rfl
theorem Il{A:HA}{s:HS}{a:Addr}:cB "young_things" (.ref a) (atts A s)=atts {A with yg:=a} s:=by kernel_rfl
theorem Im{A:HA}{s:HS}{a:Addr}:cB "doomed_things" (.ref a) (atts A s)=atts {A with dm:=a} s:=by kernel_rfl
def bkv(p:Int×Int):Key×V:=(Sum.inl p.1,.int p.2)
def tkv(t:Int):Key×V:=(Sum.inl t,.bl true)
def fkv(A:HA)(p:Int×List Wd):Key×V:=(Sum.inl p.1,.ref (A.fa p.1))
inductive Cl where
 | x|hd|hl|nt|nl|wt|wb|wl|fh|yg|dm
def cad(x:Addr)(A:HA):Cl→Addr
 | .x=>x
 | .hd=>A.hd
 | .hl=>A.hl
 | .nt=>A.nt
 | .nl=>A.nl
 | .wt=>A.wt
 | .wb=>A.wb
 | .wl=>A.wl
 | .fh=>A.fh
 | .yg=>A.yg
 | .dm=>A.dm
def cob(A:HA)(s:HS):Cl→HO
 | .x=>.ins 980 A.dx (atts A s)
 | .hd=>.ins 561 A.hdx [("words_held",.ref A.hl)]
 | .hl=>.lst A.hx
 | .nt=>.ins 671 A.ntx [("things_named",.ref A.nl)]
 | .nl=>.lst (s.names.map nmV)
 | .wt=>.ins 624 A.wtx [("words_borne",.ref A.wb),("words_said",.ref A.wl)]
 | .wb=>.dK (s.aS.map bkv)
 | .wl=>.lst (s.iN.map V.int)
 | .fh=>.dK (s.aG.map (fkv A))
 | .yg=>.dK (s.yng.map tkv)
 | .dm=>.dK (s.bc.map tkv)
structure IH(H:Hp)(x:Addr)(A:HA)(s:HS):Prop where
 c:∀ i,H (cad x A i)=some (cob A s i)
 n:∀ i j,cad x A i=cad x A j→i=j
 rhl:Rel H A.hx s.aM
 afl:∀ t ws,(t,ws)∈s.aG→H (A.fa t)=some (.lst (A.fx t))∧Rel H (A.fx t) ws
 l4:∀ t ws,(t,ws)∈s.aG→∀ i,A.fa t≠cad x A i
 l5:∀ t ws t' ws',(t,ws)∈s.aG→(t',ws')∈s.aG→A.fa t=A.fa t'→t=t'
inductive aV(x:Addr)(A:HA)(s:HS):Addr→Prop where
 | c (i:Cl):aV x A s (cad x A i)
 | fl {t:Int} {ws:List Wd}:(t,ws)∈s.aG→aV x A s (A.fa t)
theorem aV.x{x:Addr}{A:HA}{s:HS}:aV x A s x:=.c .x
theorem aV.fh{x:Addr}{A:HA}{s:HS}:aV x A s A.fh:=.c .fh
theorem aV.yg{x:Addr}{A:HA}{s:HS}:aV x A s A.yg:=.c .yg
section
variable{H H' H1 H2:Hp}{x:Addr}{A A':HA}{s s':HS}
theorem IH.d4(J:IH H x A s):A.fh≠A.yg:=λe=>nomatch J.n .fh .yg e
theorem IH.d5(J:IH H x A s):A.fh≠A.dm:=λe=>nomatch J.n .fh .dm e
theorem IH.ax(J:IH H x A s):H x=some (.ins 980 A.dx (atts A s)):=J.c .x
theorem IH.ahd(J:IH H x A s):H A.hd=some (.ins 561 A.hdx [("words_held",.ref A.hl)]):=J.c .hd
theorem IH.ahl(J:IH H x A s):H A.hl=some (.lst A.hx):=J.c .hl
theorem IH.ant(J:IH H x A s):H A.nt=some (.ins 671 A.ntx [("things_named",.ref A.nl)]):=J.c .nt
theorem IH.anl(J:IH H x A s):H A.nl=some (.lst (s.names.map nmV)):=J.c .nl
theorem IH.awt(J:IH H x A s):H A.wt=some (.ins 624 A.wtx [("words_borne",.ref A.wb),("words_said",.ref A.wl)]):=J.c .wt
theorem IH.awb(J:IH H x A s):H A.wb=some (.dK (s.aS.map bkv)):=J.c .wb
theorem IH.awl(J:IH H x A s):H A.wl=some (.lst (s.iN.map V.int)):=J.c .wl
theorem IH.afh(J:IH H x A s):H A.fh=some (.dK (s.aG.map (fkv A))):=J.c .fh
theorem IH.ayg(J:IH H x A s):H A.yg=some (.dK (s.yng.map tkv)):=J.c .yg
theorem IH.adm(J:IH H x A s):H A.dm=some (.dK (s.bc.map tkv)):=J.c .dm
theorem tT{i:Cl}:∀ xs,cob A s i≠.tup xs:=by cases i<;>exact λ_ z=>nomatch z
theorem IH.is(J:IH H x A s){b:Addr}(f:aV x A s b):∃ u,H b=some u∧∀ xs,u≠.tup xs:=by
 cases f with
 | c i=>exact⟨_,J.c i,tT⟩
 | fl m=>exact⟨_,(J.afl _ _ m).1,λ_ z=>nomatch z⟩
theorem IH.keep(J:IH H x A s)(k:∀ b u,aV x A s b→H b=some u→H' b=some u)(t:cN H H'):IH H' x A s :=
 ⟨λi=>k _ _ (.c i) (J.c i),J.n,J.rhl.keep t,λu ws m=>⟨k _ _ (.fl m) (J.afl _ _ m).1,(J.afl _ _ m).2.keep t⟩,J.l4,J.l5⟩
theorem IH.same(J:IH H x A s)(k:aq H H'):IH H' x A s:=J.keep (λ_ _ _ q=>k _ _ q) (cN.of k)
structure Fr(F:Addr→Prop)(H:Hp)(F':Addr→Prop)(H':Hp):Prop where
 ext:∀ b u,¬F b→H b=some u→H' b=some u
 grow:∀ b,F' b→F b∨H b=none
 all:∀ b u,H b=some u→∃ u',H' b=some u'
 tup:cN H H'
variable{F F' F1 F2:Addr→Prop}
theorem Fr.trans(a:Fr F H F1 H1)(b:Fr F1 H1 F2 H2):Fr F H F2 H2 where
 ext:=λc u n q=>b.ext c u (λf=>(a.grow c f).elim n λe=>by rw[e]at q;cases q) (a.ext c u n q)
 grow:=λc f=>(b.grow c f).elim (λf1=>a.grow c f1) λe=>by
  cases q:H c with
  | none=>exact .inr rfl
  | some u=>obtain⟨u',q'⟩:=a.all c u q;rw[e]at q';cases q'
 all:=λc u q=>by obtain⟨u',q'⟩:=a.all c u q;exact b.all c u' q'
 tup:=a.tup.trans b.tup
theorem Fr.same(k:aq H H'):Fr F H F H':=⟨λ_ _ _ q=>k _ _ q,λ_ f=>.inl f,λb u q=>⟨u,k _ _ q⟩,cN.of k⟩
theorem Fr.refl:Fr F H F H:=Fr.same λ_ _ q=>q
theorem Fr.none(a:Fr F H F' H'){b:Addr}(h:H' b=none):H b=none:=by
 cases q:H b with
 | none=>rfl
 | some u=>obtain⟨u',q'⟩:=a.all b u q;rw[h]at q';cases q'
theorem Fr.set{b:Addr}{u o:HO}(f:F b)(hb:H b=some u)(n:∀ xs,u≠.tup xs)(g:∀ c,F' c→F c):Fr F H F' (upd H b o) where
 ext:=λc v nf q=>by rw[ak λe=>nf (by rw[e];exact f)];exact q
 grow:=λc f=>.inl (g c f)
 all:=λc v q=>by
  by_cases e:c=b
  ·exact⟨o,by rw[e];exact ab⟩
  ·exact⟨v,by rw[ak e];exact q⟩
 tup:=cN.set hb n
theorem Fr.out(a:Fr F H F' H'){b:Addr}{u:HO}(n:¬F b)(q:H b=some u):H' b=some u∧¬F' b:=⟨a.ext b u n q,λf=>(a.grow b f).elim n λe=>by rw[e]at q;cases q⟩
theorem IH.wr(J:IH H x A s)(i:Cl){v:HO}(ea:∀ j,cad x A' j=cad x A j)(ef:A'.fa=A.fa)(ex:A'.fx=A.fx)(hv:cob A' s' i=v)(ho:∀ j,j≠i→cob A' s' j=cob A s j)(sub:∀ p,p∈s'.aG→p∈s.aG)(rh:Rel H A'.hx s'.aM) :
  IH (upd H (cad x A i) v) x A' s'∧Fr (aV x A s) H (aV x A' s') (upd H (cad x A i) v):=by
 have tk:cN H (upd H (cad x A i) v):=cN.set (J.c i) tT;refine⟨⟨λj=>?_,λj k e=>?_,rh.keep tk,λt ws m=>?_,λt ws m j=>?_,λt ws u vs m m' e=>?_⟩,Fr.set (.c i) (J.c i) tT λc f=>?_⟩
 ·rw[ea]
  by_cases e:j=i
  ·rw[e,ab,hv]
  ·rw[ak λz=>e (J.n _ _ z),J.c j,ho j e]
 ·rw[ea,ea]at e;exact J.n _ _ e
 ·rw[ef,ex,ak (J.l4 _ _ (sub _ m) i)]
  exact⟨(J.afl _ _ (sub _ m)).1,(J.afl _ _ (sub _ m)).2.keep tk⟩
 ·rw[ef,ea];exact J.l4 _ _ (sub _ m) j
 ·rw[ef]at e;exact J.l5 _ _ _ _ (sub _ m) (sub _ m') e
 ·cases f with
  | c j=>rw[ea];exact .c j
  | fl m=>rw[ef];exact .fl (sub _ m)
theorem IH.za(J:IH H x A s){xs:List V}{ws:List Wd}(r:Rel H xs ws):IH (upd H A.hl (.lst xs)) x {A with hx:=xs} {s with aM:=ws}∧Fr (aV x A s) H (aV x {A with hx:=xs} {s with aM:=ws}) (upd H A.hl (.lst xs)) :=
 J.wr .hl (λ_=>rfl) rfl rfl rfl (by intro j h;cases j<;>first|rfl|exact absurd rfl h) (λ_ m=>m) r
theorem IH.K0(J:IH H x A s){ns:List (Option Int)}:IH (upd H A.nl (.lst (ns.map nmV))) x A {s with names:=ns}∧Fr (aV x A s) H (aV x A {s with names:=ns}) (upd H A.nl (.lst (ns.map nmV))) :=
 J.wr .nl (λ_=>rfl) rfl rfl rfl (by intro j h;cases j<;>first|rfl|exact absurd rfl h) (λ_ m=>m) J.rhl
theorem IH.IY(J:IH H x A s){bs:List (Int×Int)}:IH (upd H A.wb (.dK (bs.map bkv))) x A {s with aS:=bs}∧Fr (aV x A s) H (aV x A {s with aS:=bs}) (upd H A.wb (.dK (bs.map bkv))) :=
 J.wr .wb (λ_=>rfl) rfl rfl rfl (by intro j h;cases j<;>first|rfl|exact absurd rfl h) (λ_ m=>m) J.rhl
theorem IH.K1(J:IH H x A s){zs:List Int}:IH (upd H A.wl (.lst (zs.map V.int))) x A {s with iN:=zs}∧Fr (aV x A s) H (aV x A {s with iN:=zs}) (upd H A.wl (.lst (zs.map V.int))) :=
 J.wr .wl (λ_=>rfl) rfl rfl rfl (by intro j h;cases j<;>first|rfl|exact absurd rfl h) (λ_ m=>m) J.rhl
theorem IH.K2(J:IH H x A s){ts:List Int}:IH (upd H A.yg (.dK (ts.map tkv))) x A {s with yng:=ts}∧Fr (aV x A s) H (aV x A {s with yng:=ts}) (upd H A.yg (.dK (ts.map tkv))) :=
 J.wr .yg (λ_=>rfl) rfl rfl rfl (by intro j h;cases j<;>first|rfl|exact absurd rfl h) (λ_ m=>m) J.rhl
theorem IH.IZ(J:IH H x A s){ts:List Int}:IH (upd H A.dm (.dK (ts.map tkv))) x A {s with bc:=ts}∧Fr (aV x A s) H (aV x A {s with bc:=ts}) (upd H A.dm (.dK (ts.map tkv))) :=
 J.wr .dm (λ_=>rfl) rfl rfl rfl (by intro j h;cases j<;>first|rfl|exact absurd rfl h) (λ_ m=>m) J.rhl
theorem IH.K3(J:IH H x A s){n:Int}:IH (upd H x (.ins 980 A.dx (cB "next_thing" (.int n) (atts A s)))) x A {s with nxt:=n}∧Fr (aV x A s) H (aV x A {s with nxt:=n}) (upd H x (.ins 980 A.dx (cB "next_thing" (.int n) (atts A s)))) :=
 J.wr .x (λ_=>rfl) rfl rfl (by rw[Ij];rfl) (by intro j h;cases j<;>first|rfl|exact absurd rfl h) (λ_ m=>m) J.rhl
theorem IH.I0(J:IH H x A s){n:Bool}:IH (upd H x (.ins 980 A.dx (cB "in_round" (.bl n) (atts A s)))) x A {s with rnd:=n}∧Fr (aV x A s) H (aV x A {s with rnd:=n}) (upd H x (.ins 980 A.dx (cB "in_round" (.bl n) (atts A s)))) :=
 J.wr .x (λ_=>rfl) rfl rfl (by rw[Ik];rfl) (by intro j h;cases j<;>first|rfl|exact absurd rfl h) (λ_ m=>m) J.rhl
def jd(fs:List (Int×List Wd))(t:Int)(ws:List Wd):List (Int×List Wd):=fs.map λp=>if p.1=t then(t,ws) else p
theorem lY{fs:List (Int×List Wd)}{t t':Int}{ws ws':List Wd}(m:(t',ws')∈jd fs t ws):∃ w0,(t',w0)∈fs∧t'=t':=by
 obtain⟨q,mq,e⟩:=LH.mp m;by_cases c:q.1=t
 ·rw[if_pos c]at e
  cases e;exact⟨q.2,by rw[←c];exact mq,rfl⟩
 ·rw[if_neg c]at e
  subst e;exact⟨_,mq,rfl⟩
theorem zW{A:HA}{fs:List (Int×List Wd)}{t:Int}{ws:List Wd}{xs:Int→List V}:(jd fs t ws).map (fkv {A with fx:=xs})=fs.map (fkv A):=by
 unfold jd;rw[LO];refine L3 λp hp=>?_;show fkv {A with fx:=xs} (if p.1=t then(t,ws) else p)=fkv A p;by_cases c:p.1=t
 ·rw[if_pos c];unfold fkv;rw[c]
 ·rw[if_neg c];rfl
theorem IH.K4(J:IH H x A s){t:Int}{w0:List Wd}(m:(t,w0)∈s.aG){xs:List V}{ws:List Wd}(r:Rel H xs ws):IH (upd H (A.fa t) (.lst xs)) x {A with fx:=λu=>if u=t then xs else A.fx u} {s with aG:=jd s.aG t ws}∧Fr (aV x A s) H (aV x {A with fx:=λu=>if u=t then xs else A.fx u} {s with aG:=jd s.aG t ws}) (upd H (A.fa t) (.lst xs)):=by
 have tk:cN H (upd H (A.fa t) (.lst xs)):=cN.set (J.afl _ _ m).1 (λ_ z=>nomatch z);refine⟨⟨λi=>?_,J.n,J.rhl.keep tk,λt' ws' m'=>?_,λt' ws' m'=>?_,λt1 w1 t2 w2 m1 m2 z=>?_⟩,Fr.set (.fl m) (J.afl _ _ m).1 (λ_ z=>nomatch z) (λc f=>?_)⟩
 ·have:=(ak (H:=H) (o:=.lst xs) (L4 (J.l4 _ _ m i))).trans (J.c i)
  cases i with
  | fh=>exact this.trans (congrArg (λz=>some (HO.dK z)) zW.symm)
  | _=>exact this
 ·obtain⟨q,mq,e⟩:=LH.mp m'
  by_cases c:q.1=t
  ·rw[if_pos c]at e
   cases e;dsimp only;rw[if_pos rfl];exact⟨ab,r.keep tk⟩
  ·rw[if_neg c]at e
   subst e;dsimp only;rw[if_neg c];exact⟨by rw[ak λz=>c (J.l5 _ _ _ _ mq m z)];exact(J.afl _ _ mq).1,(J.afl _ _ mq).2.keep tk⟩
 ·obtain⟨q,mq,e1⟩:=lY m';rw[←e1];exact J.l4 _ _ mq
 ·obtain⟨q1,mq1,e1⟩:=lY m1;obtain⟨q2,mq2,e2⟩:=lY m2;rw[←e1,←e2]at z ⊢;exact J.l5 _ _ _ _ mq1 mq2 z
 ·cases f with
  | c i=>exact .c i
  | fl m'=>obtain⟨w0,m0,_⟩:=lY m';exact .fl m0
theorem IH.fresh(J:IH H x A s){b:Addr}(h:H b=none):¬aV x A s b:=λf=>by
 obtain⟨u,q,_⟩:=J.is f;rw[h]at q;cases q
theorem IH.Io(J:IH H x A s){t:Int}{b:Addr}{xs:List V}{ws:List Wd}(hb:H b=none)(hn:∀ w,(t,w)∉s.aG)(r:Rel H xs ws) :
  IH (upd (upd H b (.lst xs)) A.fh (.dK (s.aG.map (fkv A)++[(Sum.inl t,.ref b)]))) x {A with fa:=λu=>if u=t then b else A.fa u,fx:=λu=>if u=t then xs else A.fx u} {s with aG:=s.aG++[(t,ws)]} ∧
  Fr (aV x A s) H (aV x {A with fa:=λu=>if u=t then b else A.fa u,fx:=λu=>if u=t then xs else A.fx u} {s with aG:=s.aG++[(t,ws)]}) (upd (upd H b (.lst xs)) A.fh (.dK (s.aG.map (fkv A)++[(Sum.inl t,.ref b)]))):=by
 have s1:aq H (upd H b (.lst xs)):=aq.upd hb;have nb:∀ {c:Addr} {u:HO},H c=some u→c≠b:=λq=>ai q hb;have J1:=J.same s1;have tk:cN (upd H b (.lst xs)) (upd (upd H b (.lst xs)) A.fh (.dK (s.aG.map (fkv A)++[(Sum.inl t,.ref b)]))):=cN.set J1.afh (λ_ z=>nomatch z);have tk0:cN H (upd (upd H b (.lst xs)) A.fh (.dK (s.aG.map (fkv A)++[(Sum.inl t,.ref b)]))):=(cN.of s1).trans tk;have kt:∀ {t':Int} {w:List Wd},(t',w)∈s.aG→t'≠t:=λm e=>hn _ (by rw[←e];exact m);have mm:∀ {t':Int} {w:List Wd},(t',w)∈s.aG++[(t,ws)]→(t',w)∈s.aG∨(t'=t∧w=ws):=λm=>by
  rcases LB.mp m with m|m
  ·exact .inl m
  ·cases Lr.mp m;exact .inr ⟨rfl,rfl⟩
 have nc:∀ i,b≠cad x A i:=λi=>L4 (nb (J.c i));have fk:(s.aG++[(t,ws)]).map (fkv {A with fa:=λu=>if u=t then b else A.fa u,fx:=λu=>if u=t then xs else A.fx u})=s.aG.map (fkv A)++[(Sum.inl t,.ref b)]:=by
  rw[LA];congr 1
  ·refine L3 λp hp=>?_
   unfold fkv;simp only;rw[if_neg (kt (t':=p.1) (w:=p.2) hp)]
  ·simp only[L1,ML,fkv,if_true]
 refine⟨⟨λi=>?_,J.n,J.rhl.keep tk0,λt' w m=>?_,λt' w m i=>?_,λt1 w1 t2 w2 m1 m2 z=>?_⟩,λc u nf q=>?_,λc f=>?_,λc u q=>?_,tk0⟩
 ·by_cases e:i=.fh
  ·rw[e];exact ab.trans (congrArg (λz=>some (HO.dK z)) fk.symm)
  ·have:=(ak (o:=.dK (s.aG.map (fkv A)++[(Sum.inl t,.ref b)])) λz=>e (J.n i .fh z)).trans (J1.c i)
   cases i<;>first|exact this|exact absurd rfl e
 ·rcases mm m with m|⟨e1,e2⟩
  ·show _=_∧_
   simp only[if_neg (kt m)];exact⟨by rw[ak (show A.fa t'≠A.fh from J.l4 _ _ m .fh)];exact s1 _ _ (J.afl _ _ m).1,(J.afl _ _ m).2.keep tk0⟩
  ·subst e1 e2
   simp only[if_true];exact⟨by rw[ak (show b≠A.fh from nc .fh)];exact ab,r.keep tk0⟩
 ·rcases mm m with m|⟨e1,e2⟩
  ·simp only[if_neg (kt m)]
   exact J.l4 _ _ m i
  ·subst e1
   simp only[if_true];exact nc i
 ·simp only at z
  rcases mm m1 with m1|⟨e1,_⟩
  ·rw[if_neg (kt m1)]at z
   rcases mm m2 with m2|⟨e2,_⟩
   ·rw[if_neg (kt m2)]at z
    exact J.l5 _ _ _ _ m1 m2 z
   ·rw[if_pos e2]at z
    exact absurd z (nb (J.afl _ _ m1).1)
  ·rw[if_pos e1]at z
   rcases mm m2 with m2|⟨e2,_⟩
   ·rw[if_neg (kt m2)]at z
    exact absurd z.symm (nb (J.afl _ _ m2).1)
   ·rw[e1,e2]
 ·rw[ak λe=>nf (by rw[e];exact .c .fh)]
  exact s1 _ _ q
 ·cases f with
  | c i=>exact .inl (.c i)
  | @fl t' w m =>
   rcases mm m with m|⟨e,_⟩
   ·refine .inl ?_
    show aV x A s (if t'=t then b else A.fa t');rw[if_neg (kt m)];exact .fl m
   ·refine .inr ?_
    show H (if t'=t then b else A.fa t')=none;rw[if_pos e];exact hb
 ·by_cases e:c=A.fh
  ·exact⟨_,by rw[e];exact ab⟩
  ·exact⟨u,by rw[ak e];exact s1 _ _ q⟩
end
section
variable{P:Program}{w:World}{K:W.Frag}{mg:Str→Option Value}{base:Heap}
theorem cP{t u:TS}{D:Ends}{σ:St}{H:Hp}(h:∀ N:St→Hp→Prop,(∀ σ' H',u D σ' H'→N σ' H')→t {D with nx:=N} σ H):tq t u D σ H:=h (u D) (λ_ _ q=>q)
theorem Ey{t:TT}{b e:TS}{D:Ends}{σ:St}{H:Hp}(h:∀ B:St→Hp→Prop,(∀ σ' H',b D σ' H'→B σ' H')→t σ H λc H1=>if c=true then B σ H1 else e D σ H1):IF t b e D σ H:=h (b D) (λ_ _ q=>q)
structure Ok0(P:Program)(w:World)(K:W.Frag)(mg:Str→Option Value)(base:Heap)(n:Nat)(f:Addr)(fd:FuncData)(ps:List Str)(sp:Sp):Prop where
 g:vG P w K mg base (CXE P w) n f fd ps sp
 b:Binds K fd ps []
theorem Ez{P:Program}{w:World}{X:Cx}:Passes (CXE P w) X (λ_ _ _=>False):=λ_ _ _ _ _ _ _ ⟨_,_,_,_,_,_,_,_,_,q⟩=>q.elim
theorem aZ{H0 H:Hp}{K:W.Frag}{E E2:XK}{C:Addr}{y:Str}(ec:DD K C)(h0:∀ b,H b=none→H0 b=none)(k:∀ H',aq H H'→E (.ref C) none H')(ea:Addr)(hea:H ea=none) :
  IW K [.ref ea,.str y] (upd H ea (exo true C ea none)) (λv H2=>v=.non∧(λ(v:V) (H1:Hp)=>∃ ea C od,v=.ref ea∧H1 ea=some (exo true C ea od)∧(∃ cd,cK K C cd)∧H0 ea=none∧E (.ref C) od (del H1 ea)) (.ref ea) H2) E2:=by
 refine⟨ea,C,none,.str y,rfl,ab,ec.cls,rfl,ea,C,none,rfl,ab,ec.cls,h0 _ hea,k _ λb o q=>?_⟩;have nb:b≠ea:=λe=>by rw[e,hea]at q;cases q
 rw[eM nb,ak nb];exact q
def Bad(C:Addr)(H:Hp)(E:XK):Prop:=∀ H',aq H H'→E (.ref C) none H'
theorem Bad.same{C:Addr}{H H1:Hp}{E:XK}(k:Bad C H E)(s:aq H H1):Bad C H1 E:=λH' s'=>k H' (s.trans s')
def Sm(n:Int):Prop:=n.natAbs.log2<1920
theorem Sm.of{n:Int}(h0:-1000000≤n)(h1:n≤1000000):Sm n:=rL (Nat.lt_trans (show n.natAbs<2000000 by omega) (by decide))
def Nv:Sp:=λ_ _ _ _=>False
def wat(ws:List Wd)(h:Int):Option Wd:=if 0≤h∧h<8 then ws[h.toNat]? else none
theorem jw{ws:List Wd}{h:Int}{wd:Wd}(e:wat ws h=some wd):0≤h∧h<8∧ws[h.toNat]?=some wd:=by
 unfold wat at e;by_cases g:0≤h∧h<8
 ·rw[if_pos g]at e;exact⟨g.1,g.2,e⟩
 ·rw[if_neg g]at e;cases e
theorem zX{ws:List Wd}{h:Int}(l:ws.length=8)(e:wat ws h=none):¬(0≤h∧h<8):=λg=>by
 unfold wat at e;rw[if_pos g,Ls (by omega)]at e;cases e
theorem tU{xs:List V}{a:Int}{v:V}(h0:0≤a)(h:xs[a.toNat]?=some v):atI xs a=some v:=by
 have e:a=(a.toNat:Int):=by omega
 rw[e];exact bK h
theorem BL{n:Nat}{a:Int}(h0:0≤a)(h1:a<n):ixN n a=some a.toNat:=by
 unfold ixN;rw[if_pos h0,if_pos h1]
structure Hn(H:Hp)(hd hdx hl:Addr)(xs:List V)(ws:List Wd):Prop where
 i:H hd=some (.ins 561 hdx [("words_held",.ref hl)])
 l:H hl=some (.lst xs)
 r:Rel H xs ws
 n:ws.length=8
theorem Hn.same{H H':Hp}{hd hdx hl:Addr}{xs:List V}{ws:List Wd}(h:Hn H hd hdx hl xs ws)(s:aq H H'):Hn H' hd hdx hl xs ws:=⟨s _ _ h.i,s _ _ h.l,h.r.keep (cN.of s),h.n⟩
theorem Hn.at_{H:Hp}{hd hdx hl:Addr}{xs:List V}{ws:List Wd}(N:Hn H hd hdx hl xs ws){h:Int}{wd:Wd}(e:wat ws h=some wd):∃ v,xs[h.toNat]?=some v∧WV H v wd:=by
 obtain⟨h0,h1,e⟩:=jw e;have hi:h.toNat<ws.length:=by rw[N.n];omega
 obtain⟨v,e1,e2⟩:=N.r.get hi;rw[Ls hi]at e;cases e;exact⟨v,e1,e2⟩
theorem Hn.ix{H:Hp}{hd hdx hl:Addr}{xs:List V}{ws:List Wd}(N:Hn H hd hdx hl xs ws){h:Int}(g:0≤h∧h<8):ixN xs.length h=some h.toNat:=BL g.1 (by rw[N.r.1,N.n];exact g.2)
abbrev iT:List Str:=["self", "text"]
theorem iE:ar iT ["self", "text"] (ao dY):=fsc
theorem av(T:Txt w K mg):Ok P w K mg base 1 35 ["self", "text"] (IW K):=by
 refine T.o2 "HeapError.__init__" iE λcdv A' outer s' H vs Q E hr h=>?_;obtain⟨ea,C,od,x,rfl,h1,hc,k⟩:=h;refine⟨_,(ag (au (HN rfl T.z (aa (pv 0) (aa (pv 1) ah))))),?_⟩;exact⟨_,rfl,_,rfl,ea,C,od,[x],rfl,(by show 1≤1000;decide),h1,hc,k⟩
def cy(n:Str):Sp:=λvs H Q _=>∃ x,vs=[x]∧Q (.str n) H
theorem eZ(T:Txt w K mg):Ok0 P w K mg base 1 119 (fdA w.params 119) ["self"] (cy "BadCount") :=
 ⟨(T.fn (st:=dz) "BadCount.called").ok0 (N:=["self"]) fsc (λvs H Q E h=>by obtain⟨x,rfl,_⟩:=h;rfl) (λcdv A outer s H vs Q E h=>by obtain⟨x,rfl,k⟩:=h;exact⟨_,ag (aA aJ),k⟩),(T.fn (st:=dz) "BadCount.called").binds (ps:=["self"]) λ_ _ _ _ _ _ us hl=>match us,hl with|[_],_=>rfl⟩
theorem f7(T:Txt w K mg):Ok0 P w K mg base 1 62 (fdA w.params 62) ["self"] (cy "BadHand") :=
 ⟨(T.fn (st:=dN) "BadHand.called").ok0 (N:=["self"]) fsc (λvs H Q E h=>by obtain⟨x,rfl,_⟩:=h;rfl) (λcdv A outer s H vs Q E h=>by obtain⟨x,rfl,k⟩:=h;exact⟨_,ag (aA aJ),k⟩),(T.fn (st:=dN) "BadHand.called").binds (ps:=["self"]) λ_ _ _ _ _ _ us hl=>match us,hl with|[_],_=>rfl⟩
theorem f9(T:Txt w K mg):Ok0 P w K mg base 1 81 (fdA w.params 81) ["self"] (cy "BadName") :=
 ⟨(T.fn (st:=dO) "BadName.called").ok0 (N:=["self"]) fsc (λvs H Q E h=>by obtain⟨x,rfl,_⟩:=h;rfl) (λcdv A outer s H vs Q E h=>by obtain⟨x,rfl,k⟩:=h;exact⟨_,ag (aA aJ),k⟩),(T.fn (st:=dO) "BadName.called").binds (ps:=["self"]) λ_ _ _ _ _ _ us hl=>match us,hl with|[_],_=>rfl⟩
theorem fb(T:Txt w K mg):Ok0 P w K mg base 1 100 (fdA w.params 100) ["self"] (cy "BadField") :=
 ⟨(T.fn (st:=dw) "BadField.called").ok0 (N:=["self"]) fsc (λvs H Q E h=>by obtain⟨x,rfl,_⟩:=h;rfl) (λcdv A outer s H vs Q E h=>by obtain⟨x,rfl,k⟩:=h;exact⟨_,ag (aA aJ),k⟩),(T.fn (st:=dw) "BadField.called").binds (ps:=["self"]) λ_ _ _ _ _ _ us hl=>match us,hl with|[_],_=>rfl⟩
theorem gb(T:Txt w K mg):Ok0 P w K mg base 1 240 (fdA w.params 240) ["self"] (cy "BadView") :=
 ⟨(T.fn (st:=dR) "BadView.called").ok0 (N:=["self"]) fsc (λvs H Q E h=>by obtain⟨x,rfl,_⟩:=h;rfl) (λcdv A outer s H vs Q E h=>by obtain⟨x,rfl,k⟩:=h;exact⟨_,ag (aA aJ),k⟩),(T.fn (st:=dR) "BadView.called").binds (ps:=["self"]) λ_ _ _ _ _ _ us hl=>match us,hl with|[_],_=>rfl⟩
theorem dq(T:Txt w K mg):Ok0 P w K mg base 1 157 (fdA w.params 157) ["self"] (cy "TooManyWords") :=
 ⟨(T.fn (st:=cn) "TooManyWords.called").ok0 (N:=["self"]) fsc (λvs H Q E h=>by obtain⟨x,rfl,_⟩:=h;rfl) (λcdv A outer s H vs Q E h=>by obtain⟨x,rfl,k⟩:=h;exact⟨_,ag (aA aJ),k⟩),(T.fn (st:=cn) "TooManyWords.called").binds (ps:=["self"]) λ_ _ _ _ _ _ us hl=>match us,hl with|[_],_=>rfl⟩
theorem gQ(T:Txt w K mg):Ok0 P w K mg base 1 138 (fdA w.params 138) ["self"] (cy "NoRoom") :=
 ⟨(T.fn (st:=eu) "NoRoom.called").ok0 (N:=["self"]) fsc (λvs H Q E h=>by obtain⟨x,rfl,_⟩:=h;rfl) (λcdv A outer s H vs Q E h=>by obtain⟨x,rfl,k⟩:=h;exact⟨_,ag (aA aJ),k⟩),(T.fn (st:=eu) "NoRoom.called").binds (ps:=["self"]) λ_ _ _ _ _ _ us hl=>match us,hl with|[_],_=>rfl⟩
theorem gc(T:Txt w K mg):Ok0 P w K mg base 1 176 (fdA w.params 176) ["self"] (cy "RoundOn") :=
 ⟨(T.fn (st:=dP) "RoundOn.called").ok0 (N:=["self"]) fsc (λvs H Q E h=>by obtain⟨x,rfl,_⟩:=h;rfl) (λcdv A outer s H vs Q E h=>by obtain⟨x,rfl,k⟩:=h;exact⟨_,ag (aA aJ),k⟩),(T.fn (st:=dP) "RoundOn.called").binds (ps:=["self"]) λ_ _ _ _ _ _ us hl=>match us,hl with|[_],_=>rfl⟩
theorem gf(T:Txt w K mg):Ok0 P w K mg base 1 195 (fdA w.params 195) ["self"] (cy "NoRound") :=
 ⟨(T.fn (st:=dQ) "NoRound.called").ok0 (N:=["self"]) fsc (λvs H Q E h=>by obtain⟨x,rfl,_⟩:=h;rfl) (λcdv A outer s H vs Q E h=>by obtain⟨x,rfl,k⟩:=h;exact⟨_,ag (aA aJ),k⟩),(T.fn (st:=dQ) "NoRound.called").binds (ps:=["self"]) λ_ _ _ _ _ _ us hl=>match us,hl with|[_],_=>rfl⟩
def EA:Sp:=λvs H Q _=>∃ v wd,vs=[v]∧WV H v wd∧Q (.str wd.kind) H
abbrev yy:List Str:=["value"]
theorem vK:ar yy ["value"] (ao rE):=fsc
theorem kB(T:Txt w K mg):Ok P w K mg base 1 330 ["value"] (EA):=by
 refine T.o1 "kind_of" vK λcdv A' outer s' H vs Q E hr h=>?_;obtain⟨v,wd,rfl,hv,k⟩:=h;refine⟨_,(ag (aA (jr (az tN (pv 0) bH (aF _)) aJ (aD aB (pv 0) aj (λ_ _=>rfl))))),?_⟩;cases wd with
 | no =>
  obtain rfl:v=.non:=hv;exact⟨_,rfl,rfl,_,rfl,aH (λ_=>k) (λh=>absurd (by simp) h)⟩
 | num n =>
  obtain⟨t,rfl,ht⟩:=hv;exact⟨_,rfl,rfl,_,rfl,aH (λh=>by simp at h) (λ_=>⟨_,rfl,t,_,0,_,rfl,rfl,SqT.of ht,rfl,k⟩)⟩
 | th n =>
  obtain⟨t,rfl,ht⟩:=hv;exact⟨_,rfl,rfl,_,rfl,aH (λh=>by simp at h) (λ_=>⟨_,rfl,t,_,0,_,rfl,rfl,SqT.of ht,rfl,k⟩)⟩
def oj:Sp:=λvs H Q E=>∃ n:Int,vs=[.int n]∧Sm n∧(if 0≤n∧n<8 then Q .non H else Bad 65 H E)
abbrev pB:List Str:=["h"]
theorem om:ar pB ["h"] (ao i4):=fsc
theorem bw(T:Txt w K mg):Ok P w K mg base 3 351 ["h"] (oj):=by
 refine T.o1 "look_at_hand" om λcdv A' outer s' H vs Q E hr h=>?_;obtain⟨n,rfl,hb,k⟩:=h;refine⟨_,(ag (aO (gw (hU lV kq aj (pv 0) (bg (v:=.int 8) rfl T.xk ⟨_,rfl⟩)))
   (ag (bF rfl dE ((av T).e 65 hr px (aa (cu (aI (dc (pv 0)) (aI bV cq))) ah))))
   aC)),?_⟩
 by_cases g:0≤n∧n<8
 ·rw[if_pos g]at k
  refine⟨_,rfl,0,n,rfl,rfl,_,rfl,aH (λ_=>⟨n,8,rfl,rfl,_,rfl,aH (λh2=>absurd h2 (by rw[decide_eq_true g.2];decide)) (λ_=>k)⟩) (λh1=>absurd (decide_eq_true g.1) h1)⟩
 ·rw[if_neg g]at k
  by_cases g0:0≤n
  ·have g1:¬n<8:=λz=>g ⟨g0,z⟩
   refine⟨_,rfl,0,n,rfl,rfl,_,rfl,aH (λ_=>⟨n,8,rfl,rfl,_,rfl,aH (λ_=>⟨_,rfl,n,rfl,hb,λy hy ea hea=>aZ (T.ec 65) (λ_ q=>q) k ea hea⟩) (λh2=>absurd (by rw[decide_eq_false g1];rfl) h2)⟩) (λh1=>absurd (decide_eq_true g0) h1)⟩
  ·refine⟨_,rfl,0,n,rfl,rfl,_,rfl,aH (λh1=>absurd (of_decide_eq_true h1) g0) (λ_=>⟨_,rfl,cZ ⟨_,rfl,n,rfl,hb,λy hy ea hea=>aZ (T.ec 65) (λ_ q=>q) k ea hea⟩⟩)⟩
def oq:Sp:=λvs H Q E=>∃ n:Int,vs=[.int n]∧Sm n∧(if 0≤n∧n<8 then Q .non H else Bad 84 H E)
abbrev pD:List Str:=["w"]
theorem ot:ar pD ["w"] (ao i5):=fsc
theorem iu(T:Txt w K mg):Ok P w K mg base 3 358 ["w"] (oq):=by
 refine T.o1 "look_at_name" ot λcdv A' outer s' H vs Q E hr h=>?_;obtain⟨n,rfl,hb,k⟩:=h;refine⟨_,(ag (aO (gw (hU lV kq aj (pv 0) (bg (v:=.int 8) rfl T.lK ⟨_,rfl⟩)))
   (ag (bF rfl dE ((av T).e 84 hr px (aa (cu (aI (dc (pv 0)) (aI bV cq))) ah))))
   aC)),?_⟩
 by_cases g:0≤n∧n<8
 ·rw[if_pos g]at k
  refine⟨_,rfl,0,n,rfl,rfl,_,rfl,aH (λ_=>⟨n,8,rfl,rfl,_,rfl,aH (λh2=>absurd h2 (by rw[decide_eq_true g.2];decide)) (λ_=>k)⟩) (λh1=>absurd (decide_eq_true g.1) h1)⟩
 ·rw[if_neg g]at k
  by_cases g0:0≤n
  ·have g1:¬n<8:=λz=>g ⟨g0,z⟩
   refine⟨_,rfl,0,n,rfl,rfl,_,rfl,aH (λ_=>⟨n,8,rfl,rfl,_,rfl,aH (λ_=>⟨_,rfl,n,rfl,hb,λy hy ea hea=>aZ (T.ec 84) (λ_ q=>q) k ea hea⟩) (λh2=>absurd (by rw[decide_eq_false g1];rfl) h2)⟩) (λh1=>absurd (decide_eq_true g0) h1)⟩
  ·refine⟨_,rfl,0,n,rfl,rfl,_,rfl,aH (λh1=>absurd (of_decide_eq_true h1) g0) (λ_=>⟨_,rfl,cZ ⟨_,rfl,n,rfl,hb,λy hy ea hea=>aZ (T.ec 84) (λ_ q=>q) k ea hea⟩⟩)⟩
def uf:Sp:=λvs H Q E=>∃ n:Int,vs=[.int n]∧Sm n∧(if 0≤n∧n≤6 then Q (.int (n+1)) H else Bad 122 H E)
abbrev vM:List Str:=["fields"]
theorem ug:ar vM ["fields"] (ao pU):=fsc
theorem oe(T:Txt w K mg):Ok P w K mg base 3 337 ["fields"] (uf):=by
 refine T.o1 "words_of" ug λcdv A' outer s' H vs Q E hr h=>?_;obtain⟨n,rfl,hb,k⟩:=h;refine⟨_,(af (aO (gw (hU lV lV aj (pv 0) (bg (v:=.int 6) rfl T.qM ⟨_,rfl⟩)))
   (ag (bF rfl dE ((av T).e 122 hr px (aa (cu (aI (dc (pv 0)) (aI bV cq))) ah))))
   aC)
  (ag (aA (ay bZ (pv 0) aj)))),?_⟩
 by_cases g:0≤n∧n≤6
 ·rw[if_pos g]at k
  refine⟨_,rfl,0,n,rfl,rfl,_,rfl,aH (λ_=>⟨n,6,rfl,rfl,_,rfl,aH (λh2=>absurd h2 (by rw[decide_eq_true g.2];decide)) (λ_=>⟨_,rfl,n,1,rfl,rfl,k⟩)⟩) (λh1=>absurd (decide_eq_true g.1) h1)⟩
 ·rw[if_neg g]at k
  by_cases g0:0≤n
  ·have g1:¬n≤6:=λz=>g ⟨g0,z⟩
   refine⟨_,rfl,0,n,rfl,rfl,_,rfl,aH (λ_=>⟨n,6,rfl,rfl,_,rfl,aH (λ_=>⟨_,rfl,n,rfl,hb,λy hy ea hea=>aZ (T.ec 122) (λ_ q=>q) k ea hea⟩) (λh2=>absurd (by rw[decide_eq_false g1];rfl) h2)⟩) (λh1=>absurd (decide_eq_true g0) h1)⟩
  ·refine⟨_,rfl,0,n,rfl,rfl,_,rfl,aH (λh1=>absurd (of_decide_eq_true h1) g0) (λ_=>⟨_,rfl,cZ ⟨_,rfl,n,rfl,hb,λy hy ea hea=>aZ (T.ec 122) (λ_ q=>q) k ea hea⟩⟩)⟩
def mI:Sp:=λvs H Q E=>∃ n m:Int,vs=[.int n,.int m]∧Sm n∧Sm m∧(if 0≤n∧n<m then Q .non H else Bad 103 H E)
abbrev ou:List Str:=["k", "fields"]
theorem mJ:ar ou ["k", "fields"] (ao ia):=fsc
theorem gR(T:Txt w K mg):Ok P w K mg base 3 365 ["k", "fields"] (mI):=by
 refine T.o2 "look_at_field" mJ λcdv A' outer s' H vs Q E hr h=>?_;obtain⟨n,m,rfl,hb,hm,k⟩:=h;refine⟨_,(ag (aO (gw (hU lV kq aj (pv 0) (pv 1)))
   (ag (bF rfl dE ((av T).e 103 hr px (aa (cu (aI bV (aI (dc (pv 1)) (aI bV (aI (dc (pv 0)) cq))))) ah))))
   aC)),?_⟩
 by_cases g:0≤n∧n<m
 ·rw[if_pos g]at k
  refine⟨_,rfl,0,n,rfl,rfl,_,rfl,aH (λ_=>⟨_,rfl,n,m,rfl,rfl,_,rfl,aH (λh2=>absurd h2 (by rw[decide_eq_true g.2];decide)) (λ_=>k)⟩) (λh1=>absurd (decide_eq_true g.1) h1)⟩
 ·rw[if_neg g]at k
  by_cases g0:0≤n
  ·have g1:¬n<m:=λz=>g ⟨g0,z⟩
   refine⟨_,rfl,0,n,rfl,rfl,_,rfl,aH (λ_=>⟨_,rfl,n,m,rfl,rfl,_,rfl,aH (λ_=>⟨_,rfl,m,rfl,hm,_,rfl,n,rfl,hb,λy hy ea hea=>aZ (T.ec 103) (λ_ q=>q) k ea hea⟩) (λh2=>absurd (by rw[decide_eq_false g1];rfl) h2)⟩) (λh1=>absurd (decide_eq_true g0) h1)⟩
  ·refine⟨_,rfl,0,n,rfl,rfl,_,rfl,aH (λh1=>absurd (of_decide_eq_true h1) g0) (λ_=>⟨_,rfl,cZ ⟨_,rfl,m,rfl,hm,_,rfl,n,rfl,hb,λy hy ea hea=>aZ (T.ec 103) (λ_ q=>q) k ea hea⟩⟩)⟩
def Num(x:Int):Prop:=-(10 ^ 60)≤x∧x≤10 ^ 60
instance {x:Int}:Decidable (Num x):=inferInstanceAs (Decidable (_∧_))
def kK:Sp:=λvs H Q E=>∃ x:Int,vs=[.int x]∧Sm x∧(if Num x then Q .non H else Bad 122 H E)
abbrev mK:List Str:=["x"]
theorem kL:ar mK ["x"] (ao gG):=fsc
theorem gh(T:Txt w K mg):Ok P w K mg base 3 344 ["x"] (kK):=by
 refine T.o1 "look_at_number" kL λcdv A' outer s' H vs Q E hr h=>?_;obtain⟨x,rfl,hb,k⟩:=h;refine⟨_,(ag (aO (az vk (aK zh rfl T.z PyProof.Rows.Boot.«abs» (aa (pv 0) ah)) (ay tM aj aj) (aF _))
   (ag (bF rfl dE ((av T).e 122 hr px (aa (cu (aI (dc (pv 0)) (aI bV cq))) ah))))
   aC)),?_⟩
 have e60:((10:Int) ^ (60:Int).toNat)=10 ^ 60:=rfl;by_cases g:Num x
 ·rw[if_pos g]at k
  refine⟨_,rfl,x,rfl,10,60,rfl,rfl,⟨by decide,by decide,by decide⟩,_,_,rfl,rfl,_,rfl,aH (λh=>absurd (of_decide_eq_true h) ?_) (λ_=>k)⟩
  have:=g.1
  have:=g.2
  rw[e60];split<;>omega
 ·rw[if_neg g]at k
  refine⟨_,rfl,x,rfl,10,60,rfl,rfl,⟨by decide,by decide,by decide⟩,_,_,rfl,rfl,_,rfl,aH (λ_=>⟨_,rfl,x,rfl,hb,λy hy ea hea=>aZ (T.ec 122) (λ_ q=>q) k ea hea⟩) (λh=>absurd (decide_eq_true ?_) h)⟩;unfold Num at g;rw[e60];split<;>omega
def ow:Sp:=λvs H Q E=>∃ x:Int,vs=[.int x]∧Sm x∧(if Num x then ∀ t H',aq H H'→H' t=some (.tup [.str "number",.int x])→Q (.ref t) H' else Bad 122 H E)
abbrev pE:List Str:=["x"]
theorem oy:ar pE ["x"] (ao i3):=fsc
theorem oz(T:Txt w K mg):Ok P w K mg base 4 316 ["x"] (ow):=by
 refine T.o1 "number_value" oy λcdv A' outer s' H vs Q E hr h=>?_;obtain⟨x,rfl,hb,k⟩:=h;refine⟨_,(af (au ((gh T).c hr px (aa (pv 0) ah)))
  (ag (aA (aX (aa aJ (aa (pv 0) ah)))))),?_⟩
 refine⟨_,rfl,x,rfl,hb,?_⟩;by_cases g:Num x
 ·rw[if_pos g]at k ⊢
  exact⟨_,rfl,by show 2≤sizeLine;decide,λt ht=>k t _ (aq.upd ht) ab⟩
 ·rw[if_neg g]at k ⊢
  exact k
def pF:Sp:=λvs H Q E=>∃ x:Int,vs=[.int x]∧0≤x∧∀ t H',aq H H'→H' t=some (.tup [.str "thing",.int x])→Q (.ref t) H'
abbrev qN:List Str:=["t"]
theorem pG:ar qN ["t"] (ao jO):=fsc
theorem fA(T:Txt w K mg):Ok P w K mg base 3 323 ["t"] (pF):=by
 refine T.o1 "thing_value" pG λcdv A' outer s' H vs Q E hr h=>?_;obtain⟨x,rfl,h0,k⟩:=h;refine⟨_,(af (aO (az kq (pv 0) aj (aF _))
   (ag (bF rfl dE ((av T).e 122 hr px (aa (cu (aI (dc (pv 0)) (aI bV cq))) ah))))
   aC)
  (ag (aA (aX (aa aJ (aa (pv 0) ah)))))),?_⟩
 exact⟨_,rfl,x,0,rfl,rfl,_,rfl,aH (λh=>absurd (of_decide_eq_true h) (by omega)) (λ_=>⟨_,rfl,by show 2≤sizeLine;decide,λt ht=>k t _ (aq.upd ht) ab⟩)⟩
def kM:Sp:=λvs H Q E=>∃ y l:Int,vs=[.int y,.int l]∧(y=0∨(7≤y∧y≤64))∧7≤l∧l≤400∧Q .non H
abbrev mL:List Str:=["young", "limit"]
theorem kN:ar mL ["young", "limit"] (ao gH):=fsc
theorem kO(T:Txt w K mg):Ok P w K mg base 3 372 ["young", "limit"] (kM):=by
 refine T.o2 "look_at_limits" kN λcdv A' outer s' H vs Q E hr h=>?_;obtain⟨y,l,rfl,hy,l0,l1,k⟩:=h;refine⟨_,(af (aO (PW.pt (pw_and (az vj (pv 0) aj (aF _)) (pw_and1 (gw (hU lV lV (bg (v:=.int 7) rfl T.lL ⟨_,rfl⟩) (pv 0) (bg (v:=.int 64) rfl T.su ⟨_,rfl⟩))))))
   (ag (bF rfl dE ((av T).e 122 hr px (aa (cu (aI (dc (pv 0)) (aI bV cq))) ah))))
   aC)
  (ag (aO (gw (hU lV lV (bg (v:=.int 7) rfl T.lL ⟨_,rfl⟩) (pv 1) (bg (v:=.int 400) rfl T.sv ⟨_,rfl⟩)))
   (ag (bF rfl dE ((av T).e 122 hr px (aa (cu (aI (dc (pv 1)) (aI bV cq))) ah))))
   aC))),?_⟩
 refine cP λN hN=>?_;have rest:N [some (.int y),some (.int l)] H:=by
  refine hN _ _ ?_;exact⟨_,rfl,7,l,rfl,rfl,_,rfl,aH (λ_=>⟨l,400,rfl,rfl,_,rfl,aH (λh2=>absurd h2 (by rw[decide_eq_true l1];decide)) (λ_=>k)⟩) (λh1=>absurd (decide_eq_true l0) h1)⟩
 rcases hy with rfl|⟨y0,y1⟩
 ·exact⟨_,rfl,rfl,_,rfl,aH (λh=>absurd h (by decide)) (λ_=>b4 rest)⟩
 ·refine⟨_,rfl,rfl,_,rfl,aH (λ_=>?_) (λh=>absurd (show(!decide (V.int y=V.int 0))=true from ?_) h)⟩
  ·exact⟨_,rfl,7,y,rfl,rfl,_,rfl,aH (λ_=>⟨y,64,rfl,rfl,_,rfl,aH (λh2=>absurd h2 (by rw[decide_eq_true y1];decide)) (λ_=>rest)⟩) (λh1=>absurd (decide_eq_true y0) h1)⟩
  ·rw[decide_eq_false (by intro z;injection z with z;omega)];rfl
end
section
variable{P:Program}{w:World}{K:W.Frag}{mg:Str→Option Value}{base:Heap}
def But(m:Addr)(H H':Hp):Prop:=∀ b u,b≠m→H b=some u→H' b=some u
theorem But.upd{m a:Addr}{H:Hp}{o:HO}(h:H a=none):But m H (L2.upd H a o):=λb u _ q=>by rw[ak (ai q h)];exact q
theorem But.self{m:Addr}{H:Hp}{o:HO}:But m H (L2.upd H m o):=λb u n q=>by rw[ak n];exact q
theorem But.trans{m:Addr}{H H1 H2:Hp}(a:But m H H1)(b:But m H1 H2):But m H H2:=λc u n q=>b c u n (a c u n q)
theorem aq.none{H H':Hp}(s:aq H H'){b:Addr}(h:H' b=none):H b=none:=by
 cases q:H b with
 | none=>rfl
 | some u=>rw[s _ _ q]at h;cases h
theorem Ja:(List.replicate (8:Int).toNat [V.non]).flatten=List.replicate 8 .non:=rfl
theorem lookup_some{α:Type}{bs:List (Int×α)}{t:Int}{v:α}(h:bs.lookup t=some v):(t,v)∈bs:=by
 induction bs with
 | nil=>cases h
 | cons p r ih =>
  obtain⟨a,b⟩:=p;rw[Mx]at h;by_cases e:t == a
  ·rw[e]at h
   rw[beq_iff_eq]at e;subst e;cases h;exact LR
  ·rw[Bool.not_eq_true]at e
   rw[e]at h;exact LU _ (ih h)
theorem lookup_none{α:Type}{bs:List (Int×α)}{t:Int}(h:bs.lookup t=none):∀ p∈bs,p.1≠t:=by
 induction bs with
 | nil=>intro p hp;cases hp
 | cons p r ih =>
  obtain⟨a,b⟩:=p;rw[Mx]at h;by_cases e:t == a
  ·rw[e]at h;cases h
  ·rw[Bool.not_eq_true]at e
   rw[e]at h;intro q hq;rcases LQ.mp hq with rfl|hq
   ·exact λz=>by rw[beq_eq_false_iff_ne]at e;exact e z.symm
   ·exact ih h q hq
theorem qc{α:Type}{f:Int×α→Key×V}{bs:List (Int×α)}{t:Int}(hf:∀ p,(f p).1=Sum.inl p.1):cC (bs.map f) (Sum.inl t)=(bs.lookup t).map λv=>(f (t,v)).2:=by
 induction bs with
 | nil=>rfl
 | cons p r ih =>
  obtain⟨a,b⟩:=p;rw[L1,Mx];by_cases e:t=a
  ·subst e
   rw[eE (hf (t,b)),beq_self_eq_true];rfl
  ·rw[eF (by rw[hf (a,b)];exact λz=>e (Sum.inl.inj z).symm),beq_eq_false_iff_ne.mpr e,ih]
theorem G9{bs:List (Int×Int)}{t:Int}:cC (bs.map bkv) (Sum.inl t)=(bs.lookup t).map V.int:=qc λ_=>rfl
def rV(bs:List (Int×Int))(t x:Int):List (Int×Int):=if(bs.lookup t).isSome=true then bs.map (λp=>if p.1=t then(t,x) else p) else bs++[(t,x)]
theorem uW{bs:List (Int×Int)}{t x:Int}:(rV bs t x).map bkv=putK (bs.map bkv) (Sum.inl t) (.int x):=by
 unfold rV putK;rw[ju,G9,ME];by_cases e:(bs.lookup t).isSome=true
 ·rw[if_pos e,if_pos e,LO,LO]
  refine L3 λp hp=>?_;show bkv (if p.1=t then(t,x) else p)=if(bkv p).1=Sum.inl t then((bkv p).1,V.int x) else bkv p;by_cases c:p.1=t
  ·rw[if_pos c,if_pos (by show Sum.inl p.1=Sum.inl t;rw[c])];unfold bkv;rw[c]
  ·rw[if_neg c,if_neg (show ¬(bkv p).1=Sum.inl t from λz=>c (Sum.inl.inj (show(Sum.inl p.1:Key)=Sum.inl t from z)))]
 ·rw[if_neg e,if_neg e,LA]
  rfl
structure Nt(H:Hp)(nt ntx nl:Addr)(xs:List V):Prop where
 i:H nt=some (.ins 671 ntx [("things_named",.ref nl)])
 l:H nl=some (.lst xs)
 n:xs.length=8
structure Wt(H:Hp)(wt wtx wb wl:Addr)(bs:List (Int×Int))(zs:List Int):Prop where
 i:H wt=some (.ins 624 wtx [("words_borne",.ref wb),("words_said",.ref wl)])
 b:H wb=some (.dK (bs.map bkv))
 l:H wl=some (.lst (zs.map V.int))
def qO:Sp:=λvs H Q _=>∃ m dx,vs=[.ref m]∧H m=some (.ins 561 dx [])∧∀ c H',But m H H'→H c=none→H' c=some (.lst (List.replicate 8 .non))→H' m=some (.ins 561 dx [("words_held",.ref c)])→Q .non H'
abbrev mM:List Str:=["self"]
theorem kP:ar mM ["self"] (ao gI):=fsc
theorem gj(T:Txt w K mg):Ok P w K mg base 1 495 ["self"] (qO):=by
 refine T.o1 "Hands.__init__" kP λcdv A' outer s' H vs Q E hr h=>?_;obtain⟨m,dx,rfl,hm,k⟩:=h;refine⟨_,(ag (b8 (pv 0) (ay wk (bM (aa bH ah)) (bg (v:=.int 8) rfl T.xk ⟨_,rfl⟩)) rfl)),?_⟩;refine⟨by show 1≤sizeLine;decide,λp hp=>⟨p,8,_,rfl,rfl,ab,by decide,by decide,by show 1*8≤sizeLine;decide,λq hq=>?_⟩⟩;have np:m≠p:=ai hm hp;have hm1:upd H p (.lst [.non]) m=some (.ins 561 dx []):=by rw[ak np];exact hm
 have nq:m≠q:=ai hm1 hq;have qp:q≠p:=λe=>by rw[e,ab]at hq;cases hq
 have hq0:H q=none:=by rw[ak qp]at hq;exact hq
 refine⟨_,rfl,m,561,dx,[],rfl,(by rw[ak nq];exact hm1),T.aP,T.n,by decide,?_⟩;refine k q _ (((But.upd hp).trans (But.upd hq)).trans But.self) hq0 ?_ ab;rw[ak (L4 nq),ab,Ja]
def kQ:Sp:=λvs H Q _=>∃ m dx,vs=[.ref m]∧H m=some (.ins 671 dx [])∧∀ c H',But m H H'→H c=none→H' c=some (.lst (List.replicate 8 .non))→H' m=some (.ins 671 dx [("things_named",.ref c)])→Q .non H'
abbrev iU:List Str:=["self"]
theorem iF:ar iU ["self"] (ao d3):=fsc
theorem dH(T:Txt w K mg):Ok P w K mg base 1 642 ["self"] (kQ):=by
 refine T.o1 "NameTable.__init__" iF λcdv A' outer s' H vs Q E hr h=>?_;obtain⟨m,dx,rfl,hm,k⟩:=h;refine⟨_,(ag (b8 (pv 0) (ay wk (bM (aa bH ah)) (bg (v:=.int 8) rfl T.lK ⟨_,rfl⟩)) rfl)),?_⟩;refine⟨by show 1≤sizeLine;decide,λp hp=>⟨p,8,_,rfl,rfl,ab,by decide,by decide,by show 1*8≤sizeLine;decide,λq hq=>?_⟩⟩;have np:m≠p:=ai hm hp;have hm1:upd H p (.lst [.non]) m=some (.ins 671 dx []):=by rw[ak np];exact hm
 have nq:m≠q:=ai hm1 hq;have qp:q≠p:=λe=>by rw[e,ab]at hq;cases hq
 have hq0:H q=none:=by rw[ak qp]at hq;exact hq
 refine⟨_,rfl,m,671,dx,[],rfl,(by rw[ak nq];exact hm1),T.bL,T.n,by decide,?_⟩;refine k q _ (((But.upd hp).trans (But.upd hq)).trans But.self) hq0 ?_ ab;rw[ak (L4 nq),ab,Ja]
def vN:Sp:=λvs H Q E=>∃ hd hdx hl xs ws,∃ h:Int,vs=[.ref hd,.int h]∧Hn H hd hdx hl xs ws∧Sm h∧(match wat ws h with|some wd=>∀ v,xs[h.toNat]?=some v→WV H v wd→Q v H|none=>Bad 65 H E)
abbrev oA:List Str:=["self", "h"]
theorem mN:ar oA ["self", "h"] (ao ic):=fsc
theorem dS(T:Txt w K mg):Ok P w K mg base 4 502 ["self", "h"] (vN):=by
 refine T.o2 "Hands.word_in" mN λcdv A' outer s' H vs Q E hr h=>?_;obtain⟨hd,hdx,hl,xs,ws,h,rfl,N,hb,k⟩:=h;refine⟨_,(af (au ((bw T).c hr px (aa (pv 1) ah)))
  (ag (aA (aD bE (aE (pv 0) rfl) (pv 1) (λ_ _=>rfl))))),?_⟩
 refine⟨_,rfl,h,rfl,hb,?_⟩;cases e:wat ws h with
 | none =>
  rw[if_neg (zX N.n e)];rw[e]at k;exact k
 | some wd =>
  obtain⟨h0,h1,_⟩:=jw e;obtain⟨v,hv,wv⟩:=N.at_ e;rw[if_pos ⟨h0,h1⟩];rw[e]at k;exact⟨_,rfl,hd,561,hdx,_,.ref hl,rfl,N.i,T.aP,T.n,rfl,_,rfl,hl,xs,h,v,rfl,rfl,SqL.of N.l,tU h0 hv,k v hv wv⟩
def xm:Sp:=λvs H Q E=>∃ hd hdx hl xs ws v,∃ h:Int,vs=[.ref hd,.int h,v]∧Hn H hd hdx hl xs ws∧Sm h∧(if 0≤h∧h<8 then Q .non (upd H hl (.lst (xs.set h.toNat v))) else Bad 65 H E)
abbrev uh:List Str:=["self", "h", "word"]
theorem sA:ar uh ["self", "h", "word"] (ao nK):=fsc
theorem eT(T:Txt w K mg):Ok P w K mg base 4 516 ["self", "h", "word"] (xm):=by
 refine T.o3 "Hands.put" sA λcdv A' outer s' H vs Q E hr h=>?_;obtain⟨hd,hdx,hl,xs,ws,v,h,rfl,N,hb,k⟩:=h;refine⟨_,(af (au ((bw T).c hr px (aa (pv 1) ah)))
  (ag (lS (pv 2) (lR (aE (pv 0) rfl) (pv 1) set_list)))),?_⟩
 refine⟨_,rfl,h,rfl,hb,?_⟩;by_cases g:0≤h∧h<8
 ·rw[if_pos g]at k ⊢
  exact⟨_,rfl,_,rfl,hd,561,hdx,_,.ref hl,rfl,N.i,T.aP,T.n,rfl,_,rfl,hl,xs,h,h.toNat,rfl,rfl,N.l,N.ix g,k⟩
 ·rw[if_neg g]at k ⊢
  exact k
def zY:Sp:=λvs H Q E=>∃ hd hdx hl xs ws,∃ h g:Int,vs=[.ref hd,.int h,.int g]∧Hn H hd hdx hl xs ws∧Sm h∧Sm g∧(if 0≤h∧h<8 then(match wat ws g with|some wd=>∀ v,WV H v wd→Q .non (upd H hl (.lst (xs.set h.toNat v)))|none=>Bad 65 H E) else Bad 65 H E)
abbrev sC:List Str:=["self", "h", "g"]
theorem qP:ar sC ["self", "h", "g"] (ao lE):=fsc
theorem qQ(T:Txt w K mg):Ok P w K mg base 5 523 ["self", "h", "g"] (zY):=by
 refine T.o3 "Hands.copy" qP λcdv A' outer s' H vs Q E hr h=>?_;obtain⟨hd,hdx,hl,xs,ws,h,g,rfl,N,hb,hg,k⟩:=h;refine⟨_,(af (au ((bw T).c hr px (aa (pv 1) ah)))
  (ag (lS ((dS T).m T.aP hr (pv 0) px (aa (pv 2) ah)) (lR (aE (pv 0) rfl) (pv 1) set_list)))),?_⟩
 refine⟨_,rfl,h,rfl,hb,?_⟩;by_cases c:0≤h∧h<8
 ·rw[if_pos c]at k ⊢
  refine⟨_,rfl,hd,hdx,_,rfl,N.i,rfl,_,rfl,hd,hdx,hl,xs,ws,g,rfl,N,hg,?_⟩;cases e:wat ws g with
  | none =>
   rw[e]at k;exact k
  | some wd =>
   rw[e]at k;exact λv hv wv=>⟨_,rfl,hd,561,hdx,_,.ref hl,rfl,N.i,T.aP,T.n,rfl,_,rfl,hl,xs,h,h.toNat,rfl,rfl,N.l,N.ix c,k v wv⟩
 ·rw[if_neg c]at k ⊢
  exact k
def vO:Sp:=λvs H Q E=>∃ hd hdx hl xs ws,∃ h x:Int,vs=[.ref hd,.int h,.int x]∧Hn H hd hdx hl xs ws∧Sm h∧Sm x∧(if 0≤h∧h<8 then(if Num x then ∀ t H',aq H H'→H' t=some (.tup [.str "number",.int x])→Q .non (upd H' hl (.lst (xs.set h.toNat (.ref t)))) else Bad 122 H E) else Bad 65 H E)
abbrev pH:List Str:=["self", "h", "x"]
theorem oB:ar pH ["self", "h", "x"] (ao i9):=fsc
theorem oE(T:Txt w K mg):Ok P w K mg base 5 530 ["self", "h", "x"] (vO):=by
 refine T.o3 "Hands.number" oB λcdv A' outer s' H vs Q E hr h=>?_;obtain⟨hd,hdx,hl,xs,ws,h,x,rfl,N,hb,hx,k⟩:=h;refine⟨_,(af (au ((bw T).c hr px (aa (pv 1) ah)))
  (ag (lS ((oz T).c hr px (aa (pv 2) ah)) (lR (aE (pv 0) rfl) (pv 1) set_list)))),?_⟩
 refine⟨_,rfl,h,rfl,hb,?_⟩;by_cases c:0≤h∧h<8
 ·rw[if_pos c]at k ⊢
  refine⟨_,rfl,x,rfl,hx,?_⟩;by_cases g:Num x
  ·rw[if_pos g]at k ⊢
   intro t H' sH ht;have N':=N.same sH;exact⟨_,rfl,hd,561,hdx,_,.ref hl,rfl,N'.i,T.aP,T.n,rfl,_,rfl,hl,xs,h,h.toNat,rfl,rfl,N'.l,N'.ix c,k t H' sH ht⟩
  ·rw[if_neg g]at k ⊢
   exact k
 ·rw[if_neg c]at k ⊢
  exact k
def zZ:Sp:=λvs H Q E=>∃ hd hdx hl xs ws,∃ h:Int,vs=[.ref hd,.int h]∧Hn H hd hdx hl xs ws∧Sm h∧(match wat ws h with|some wd=>∀ H',aq H H'→Q (.str wd.kind) H'|none=>Bad 65 H E)
abbrev sD:List Str:=["self", "h", "kind"]
theorem jX:ar sD ["self", "h"] (ao lF):=fsc
theorem qR(T:Txt w K mg):Ok P w K mg base 5 537 ["self", "h"] (zZ):=by
 refine T.o2 "Hands.kind" jX λcdv A' outer s' H vs Q E hr h=>?_;obtain⟨hd,hdx,hl,xs,ws,h,rfl,N,hb,k⟩:=h;refine⟨_,(af (aw (i:=2) jX.nd rfl (Or.inl rfl) ((kB T).c hr px (aa ((dS T).m T.aP hr (pv 0) px (aa (pv 1) ah)) ah)))
  (ag (aA (jr (az nz (pv 2) (aX (aa aJ (aa aJ ah))) (by with_unfolding_all rfl)) (pv 2) aJ)))),?_⟩
 refine⟨_,rfl,hd,hdx,_,rfl,N.i,rfl,_,rfl,hd,hdx,hl,xs,ws,h,rfl,N,hb,?_⟩;cases e:wat ws h with
 | none =>
  rw[e]at k;exact k
 | some wd =>
  rw[e]at k;intro v hv wv;refine⟨v,wd,rfl,wv,?_⟩;cases wd with
  | no=>exact⟨_,rfl,by show 2≤sizeLine;decide,λt ht=>⟨t,_,rfl,.inr (SqT.of ab),rfl,rfl,_,rfl,aH (λ_=>⟨_,rfl,k _ (aq.upd ht)⟩) (λh=>absurd (by kernel_rfl) h)⟩⟩
  | num n=>exact⟨_,rfl,by show 2≤sizeLine;decide,λt ht=>⟨t,_,rfl,.inr (SqT.of ab),rfl,rfl,_,rfl,aH (λ_=>⟨_,rfl,k _ (aq.upd ht)⟩) (λh=>absurd (by kernel_rfl) h)⟩⟩
  | th n=>exact⟨_,rfl,by show 2≤sizeLine;decide,λt ht=>⟨t,_,rfl,.inr (SqT.of ab),rfl,rfl,_,rfl,aH (λh=>absurd h (L7.mp (by kernel_rfl))) (λ_=>k _ (aq.upd ht))⟩⟩
def sF:Sp:=λvs H Q E=>∃ hd hdx hl xs ws,∃ h:Int,vs=[.ref hd,.int h]∧Hn H hd hdx hl xs ws∧Sm h∧(match wat ws h with|some (.th x)=>∀ H',aq H H'→Q (.int x) H'|_=>Bad 65 H E)
abbrev kR:List Str:=["self", "h"]
theorem j5:ar kR ["self", "h"] (ao fR):=fsc
theorem b6(T:Txt w K mg):Ok P w K mg base 6 558 ["self", "h"] (sF):=by
 refine T.o2 "Hands.thing_due" j5 λcdv A' outer s' H vs Q E hr h=>?_;obtain⟨hd,hdx,hl,xs,ws,h,rfl,N,hb,k⟩:=h;refine⟨_,(af (aO (az vj ((qR T).m T.aP hr (pv 0) px (aa (pv 1) ah)) aJ (aF _))
   (ag (bF rfl dE ((av T).e 65 hr px (aa (cu (aI bV (aI (dc (pv 1)) (aI bV cq)))) ah))))
   aC)
  (ag (aA (aD aB (aD bE (aE (pv 0) rfl) (pv 1) (λ_ _=>rfl)) aj (λ_ _=>rfl))))),?_⟩
 refine⟨_,rfl,hd,hdx,_,rfl,N.i,rfl,_,rfl,hd,hdx,hl,xs,ws,h,rfl,N,hb,?_⟩;cases e:wat ws h with
 | none =>
  rw[e]at k;exact k
 | some wd =>
  rw[e]at k;cases wd with
  | no=>exact λH1 s1=>⟨rfl,_,rfl,aH (λ_=>⟨_,rfl,h,rfl,hb,λy hy ea hea=>aZ (T.ec 65) (λ_ q=>aq.none s1 q) (Bad.same k s1) ea hea⟩) (λh=>absurd (by kernel_rfl) h)⟩
  | num n =>
   exact λH1 s1=>⟨rfl,_,rfl,aH (λ_=>⟨_,rfl,h,rfl,hb,λy hy ea hea=>aZ (T.ec 65) (λ_ q=>aq.none s1 q) (Bad.same k s1) ea hea⟩) (λh=>absurd (by kernel_rfl) h)⟩
  | th n =>
   intro H1 s1;have N1:=N.same s1;obtain⟨v,hv,wv⟩:=N1.at_ e;obtain⟨h0,h1,_⟩:=jw e;obtain⟨t,rfl,ht⟩:=wv;exact⟨rfl,_,rfl,aH (λh=>absurd h (L7.mp (by kernel_rfl))) (λ_=>⟨_,rfl,hd,561,hdx,_,.ref hl,rfl,N1.i,T.aP,T.n,rfl,_,rfl,hl,xs,h,.ref t,rfl,rfl,SqL.of N1.l,tU h0 hv,t,_,1,.int n,rfl,rfl,SqT.of ht,rfl,k H1 s1⟩)⟩
def sG:Sp:=λvs H Q E=>∃ hd hdx hl xs ws,vs=[.ref hd]∧Hn H hd hdx hl xs ws∧∀ p H',aq H H'→H p=none→H' p=some (.lst xs)→Q (.ref p) H'
abbrev kT:List Str:=["self"]
theorem j6:ar kT ["self"] (ao fQ):=fsc
theorem cV(T:Txt w K mg):Ok P w K mg base 1 509 ["self"] (sG):=by
 refine T.o1 "Hands.all_words" j6 λcdv A' outer s' H vs Q E hr h=>?_;obtain⟨hd,hdx,hl,xs,ws,rfl,N,k⟩:=h;refine⟨_,(ag (aA (cM dC rfl T.z PyProof.Rows.Boot.«list» (aa (aE (pv 0) rfl) ah)))),?_⟩;exact⟨_,rfl,hd,561,hdx,_,.ref hl,rfl,N.i,T.aP,T.n,rfl,hl,xs,rfl,.inl (SqL.of N.l),λp hp=>k p _ (aq.upd hp) hp ab⟩
def z8:Sp:=λvs H Q E=>∃ nt ntx nl xs v,∃ w:Int,vs=[.ref nt,.int w,v]∧Nt H nt ntx nl xs∧Sm w∧(if 0≤w∧w<8 then Q .non (upd H nl (.lst (xs.set w.toNat v))) else Bad 84 H E)
abbrev mO:List Str:=["self", "w", "t"]
theorem kU:ar mO ["self", "w", "t"] (ao gK):=fsc
theorem kW(T:Txt w K mg):Ok P w K mg base 4 649 ["self", "w", "t"] (z8):=by
 refine T.o3 "NameTable.name" kU λcdv A' outer s' H vs Q E hr h=>?_;obtain⟨nt,ntx,nl,xs,v,w,rfl,N,hb,k⟩:=h;refine⟨_,(af (au ((iu T).c hr px (aa (pv 1) ah)))
  (ag (lS (pv 2) (lR (aE (pv 0) rfl) (pv 1) set_list)))),?_⟩
 refine⟨_,rfl,w,rfl,hb,?_⟩;by_cases g:0≤w∧w<8
 ·rw[if_pos g]at k ⊢
  exact⟨_,rfl,_,rfl,nt,671,ntx,_,.ref nl,rfl,N.i,T.bL,T.n,rfl,_,rfl,nl,xs,w,w.toNat,rfl,rfl,N.l,BL g.1 (by rw[N.n];exact g.2),k⟩
 ·rw[if_neg g]at k ⊢
  exact k
def z9:Sp:=λvs H Q E=>∃ nt ntx nl xs,∃ w:Int,vs=[.ref nt,.int w]∧Nt H nt ntx nl xs∧Sm w∧(if 0≤w∧w<8 then ∀ v,xs[w.toNat]?=some v→Q v H else Bad 84 H E)
abbrev kX:List Str:=["self", "w"]
theorem j7:ar kX ["self", "w"] (ao fT):=fsc
theorem j8(T:Txt w K mg):Ok P w K mg base 4 656 ["self", "w"] (z9):=by
 refine T.o2 "NameTable.named" j7 λcdv A' outer s' H vs Q E hr h=>?_;obtain⟨nt,ntx,nl,xs,w,rfl,N,hb,k⟩:=h;refine⟨_,(af (au ((iu T).c hr px (aa (pv 1) ah)))
  (ag (aA (aD bE (aE (pv 0) rfl) (pv 1) (λ_ _=>rfl))))),?_⟩
 refine⟨_,rfl,w,rfl,hb,?_⟩;by_cases g:0≤w∧w<8
 ·rw[if_pos g]at k ⊢
  have hv:xs[w.toNat]?=some (xs[w.toNat]'(by rw[N.n];omega)):=Ls _;exact⟨_,rfl,nt,671,ntx,_,.ref nl,rfl,N.i,T.bL,T.n,rfl,_,rfl,nl,xs,w,_,rfl,rfl,SqL.of N.l,tU g.1 hv,k _ hv⟩
 ·rw[if_neg g]at k ⊢
  exact k
def kY:Sp:=λvs H Q _=>∃ m dx,vs=[.ref m]∧H m=some (.ins 624 dx [])∧∀ b c H',But m H H'→H b=none→H c=none→Wt H' m dx b c [] []→Q .non H'
abbrev iV:List Str:=["self"]
theorem iG:ar iV ["self"] (ao dZ):=fsc
theorem dI(T:Txt w K mg):Ok P w K mg base 1 579 ["self"] (kY):=by
 refine T.o1 "WordTable.__init__" iG λcdv A' outer s' H vs Q E hr h=>?_;obtain⟨m,dx,rfl,hm,k⟩:=h;refine⟨_,(af (b8 (pv 0) bQ rfl)
  (ag (b8 (pv 0) (bM ah) rfl))),?_⟩
 intro p hp;have np:m≠p:=ai hm hp;refine⟨_,rfl,m,624,dx,[],rfl,(by rw[ak np];exact hm),T.aY,T.n,by decide,?_⟩;refine⟨by show 0≤sizeLine;decide,λq hq=>?_⟩;have nq:m≠q:=ai ab hq;have qp:q≠p:=λe=>by rw[e,ak (L4 np),ab]at hq;cases hq
 have hq0:H q=none:=by rw[ak (L4 nq),ak qp]at hq;exact hq
 refine⟨_,rfl,m,624,dx,_,rfl,(by rw[ak nq];exact ab),T.aY,T.n,by show 1<1000;decide,?_⟩;refine k p q _ ((((But.upd hp).trans But.self).trans (λb u n h=>by rw[ak λe=>by rw[e]at h;rw[h]at hq;cases hq];exact h)).trans But.self) hp hq0 ⟨ab,?_,?_⟩
 ·rw[ak (L4 np),ak (L4 qp),ak (L4 np),ab]
  rfl
 ·rw[ak (L4 nq),ab]
  rfl
def Cu:Sp:=λvs H Q E=>∃ wt wtx wb wl bs zs,∃ t x:Int,vs=[.ref wt,.int t,.int x]∧Wt H wt wtx wb wl bs zs∧bs.length≤12∧(if bs.lookup t=none∧12≤bs.length then Bad 160 H E else Q .non (upd H wb (.dK ((rV bs t x).map bkv))))
abbrev mP:List Str:=["self", "t", "x"]
theorem kZ:ar mP ["self", "t", "x"] (ao gJ):=fsc
theorem k6(T:Txt w K mg):Ok P w K mg base 3 586 ["self", "t", "x"] (Cu):=by
 refine T.o3 "WordTable.bear" kZ λcdv A' outer s' H vs Q E hr h=>?_;obtain⟨wt,wtx,wb,wl,bs,zs,t,x,rfl,N,hn,k⟩:=h;have hu:=bX hr;refine⟨_,(af (aO (PW.pt (pw_and (cA (bo hu (pv 1) (aE (pv 0) rfl)) (by with_unfolding_all rfl)) (pw_and1 (az Ho (aK x8 rfl T.z PyProof.Rows.Boot.«len» (aa (aE (pv 0) rfl) ah)) (bg (v:=.int 12) rfl T.jc ⟨_,rfl⟩) (aF _)))))
   (ag (bF rfl dE ((av T).e 160 hr px (aa (cu (aI (dc (bg (v:=.int 12) rfl T.jc ⟨_,rfl⟩)) (aI bV cq))) ah))))
   aC)
  (ag (bY hu (aE (pv 0) rfl) (pv 1) (pv 2) rfl))),?_⟩
 have hu:=bX hr;refine⟨_,rfl,_,rfl,wt,624,wtx,_,.ref wb,rfl,N.i,T.aY,T.n,rfl,wb,_,rfl,eG.k (k:=Sum.inl t) N.b,_,rfl,?_⟩;rw[G9,ME];cases e:bs.lookup t with
 | some v =>
  rw[if_neg (λz=>by rw[e]at z;cases z.1)]at k;exact b4 ⟨_,rfl,_,rfl,wt,624,wtx,_,.ref wb,rfl,N.i,T.aY,T.n,rfl,_,rfl,wb,_,rfl,jS.k (k:=Sum.inl t) N.b (by rw[Lp];exact L6 hn (by decide)),by rw[uW]at k;exact k⟩
 | none =>
  refine cZ ⟨_,rfl,wt,624,wtx,_,.ref wb,rfl,N.i,T.aY,T.n,rfl,wb,_,rfl,N.b,_,_,rfl,rfl,_,rfl,aH (λh=>?_) (λh=>?_)⟩
  ·rw[Lp]at h
   have h:=of_decide_eq_true h;rw[if_pos ⟨e,by omega⟩]at k;exact⟨12,rfl,Sm.of (by decide) (by decide),λy hy ea hea=>aZ (T.ec 160) (λ_ q=>q) k ea hea⟩
  ·rw[Lp]at h
   have h:¬((12:Int)≤(bs.length:Int)):=λz=>h (decide_eq_true z);rw[if_neg (λz=>h (by have:=z.2;omega))]at k;exact⟨_,rfl,_,rfl,wt,624,wtx,_,.ref wb,rfl,N.i,T.aY,T.n,rfl,_,rfl,wb,_,rfl,jS.k (k:=Sum.inl t) N.b (by rw[Lp];exact L6 hn (by decide)),by rw[uW]at k;exact k⟩
end
section
variable{P:Program}{w:World}{K:W.Frag}{mg:Str→Option Value}{base:Heap}
def fld(s:HS)(t:Int):List Wd:=(s.aG.lookup t).getD []
structure Good(s:HS):Prop where
 h8:s.aM.length=8
 n8:s.names.length=8
 asc:(s.aG.map (·.1)).Pairwise (·< ·)
 lt:∀ t ws,(t,ws)∈s.aG→0≤t∧t<s.nxt
 f6:∀ t ws,(t,ws)∈s.aG→ws.length≤6
 hh:∀ t,Wd.th t∈s.aM→∃ ws,(t,ws)∈s.aG
 ff:∀ u ws t,(u,ws)∈s.aG→Wd.th t∈ws→∃ ws',(t,ws')∈s.aG
 nn:∀ t,some t∈s.names→∃ ws,(t,ws)∈s.aG
 b12:s.aS.length≤12
 bk:∀ t x,(t,x)∈s.aS→∃ ws,(t,ws)∈s.aG
 bnd:(s.aS.map (·.1)).Nodup
 n0:0≤s.nxt
 nx:s.nxt≤10000
 sd:(s.iN.length:Int)+s.aG.length≤s.nxt
 yk:∀ t∈s.yng,∃ ws,(t,ws)∈s.aG
 pA:s.yng.Pairwise (·< ·)
 dk:∀ t∈s.bc,∃ ws,(t,ws)∈s.aG
 qd:s.bc.Pairwise (·< ·)
theorem mem_lookup{α:Type}{fs:List (Int×α)}{t:Int}{w:α}(asc:(fs.map (·.1)).Nodup)(m:(t,w)∈fs):fs.lookup t=some w:=by
 induction fs with
 | nil=>cases m
 | cons p r ih =>
  obtain⟨a,b⟩:=p;rw[L1,Mw]at asc;rw[Mx];rcases LQ.mp m with e|m
  ·cases e
   rw[beq_self_eq_true]
  ·have ne:t≠a:=λe=>asc.1 (by rw[←e];exact LH.mpr ⟨_,m,rfl⟩)
   rw[beq_eq_false_iff_ne.mpr ne];exact ih asc.2 m
theorem g5{l:List Int}(h:l.Pairwise (·< ·)):l.Nodup:=h.imp λh=>Int.ne_of_lt h
theorem Good.get{s:HS}(g:Good s){t:Int}{ws:List Wd}(m:(t,ws)∈s.aG):s.aG.lookup t=some ws:=mem_lookup (g5 g.asc) m
theorem Good.fld{s:HS}(g:Good s){t:Int}{ws:List Wd}(m:(t,ws)∈s.aG):fld s t=ws:=by unfold K21.fld;rw[g.get m];rfl
theorem Good.hand{s:HS}(g:Good s){h t:Int}(e:wat s.aM h=some (.th t)):(t,K21.fld s t)∈s.aG:=by
 obtain⟨_,_,e⟩:=jw e;obtain⟨ws,m⟩:=g.hh t (LD e);rw[g.fld m];exact m
theorem Good.few{s:HS}(g:Good s):s.aG.length≤10000:=by
 have:=g.sd
 have:=g.nx
 omega
theorem eO{n:Nat}(h:n≤20000):n<sizeLine:=L6 h (by decide)
theorem gC{n:Nat}(h:n≤20000):n≤sizeLine:=Me (eO h)
inductive Er where
 | hand|name|field|count|room|words|on|no
def erA:Er→Addr
 | .hand=>65
 | .name=>84
 | .field=>103
 | .count=>122
 | .room=>141
 | .words=>160
 | .on=>179
 | .no=>198
abbrev Re:=Option Er×HS
def Fin(x:Addr)(A:HA)(s:HS)(H:Hp)(r:Re)(Q:VK)(E:XK):Prop:=∀ A' H',IH H' x A' r.2→Fr (aV x A s) H (aV x A' r.2) H'→(match r.1 with|none=>Q .non H'|some e=>E (.ref (erA e)) none H')
theorem Fin.bad{x:Addr}{A:HA}{s:HS}{H:Hp}{e:Er}{Q:VK}{E:XK}(k:Fin x A s H (some e,s) Q E)(J:IH H x A s):Bad (erA e) H E:=λH' s'=>k A H' (J.same s') (Fr.same s')
abbrev ok8(h:Int):Prop:=0≤h∧h<8
def g9(s:HS)(h:Int)(w:Wd):HS:={s with aM:=s.aM.set h.toNat w}
def eU(s:HS)(h g k:Int):Re:=if ok8 h then(match wat s.aM g with|some (.th t)=>if 0≤k∧k<((fld s t).length:Int) then(none,g9 s h ((fld s t).getD k.toNat .no)) else(some .field,s)|_=>(some .hand,s)) else(some .hand,s)
def cG(s:HS)(g k h:Int):Re:=match wat s.aM g with|some (.th t)=>(match wat s.aM h with|some w=>if 0≤k∧k<((fld s t).length:Int) then(none,{s with aG:=jd s.aG t ((fld s t).set k.toNat w)}) else(some .field,s)|none=>(some .hand,s))|_=>(some .hand,s)
def jJ(s:HS)(h g:Int):Re:=if ok8 h then(match wat s.aM g with|some w=>(none,g9 s h w)|none=>(some .hand,s)) else(some .hand,s)
def lZ(s:HS)(h:Int):Re:=if ok8 h then(none,g9 s h .no) else(some .hand,s)
def dt(s:HS)(h x:Int):Re:=if ok8 h then(if Num x then(none,g9 s h (.num x)) else(some .count,s)) else(some .hand,s)
def gr(s:HS)(w h:Int):Re:=match wat s.aM h with|some (.th t)=>if ok8 w then(none,{s with names:=s.names.set w.toNat (some t)}) else(some .name,s)|_=>(some .hand,s)
def nmW:Option Int→Wd
 | none=>.no
 | some t=>.th t
def eV(s:HS)(h x:Int):Re:=match wat s.aM h with|some (.th t)=>(if Num x then(if s.aS.lookup t=none∧12≤s.aS.length then(some .words,s) else(none,{s with aS:=rV s.aS t x})) else(some .count,s))|_=>(some .hand,s)
def vP(s:HS)(h n:Int):HS:={s with nxt:=s.nxt+1,aG:=s.aG++[(s.nxt,List.replicate n.toNat .no)],yng:=if s.my=true then s.yng++[s.nxt] else s.yng,aM:=s.aM.set h.toNat (.th s.nxt)}
def wsum(s:HS)(ts:List Int):Int:=(ts.map λt=>((fld s t).length:Int)+1).sum
section
variable{H:Hp}{x:Addr}{A:HA}{s:HS}
theorem IH.hn(J:IH H x A s)(g:Good s):Hn H A.hd A.hdx A.hl A.hx s.aM:=⟨J.ahd,J.ahl,J.rhl,g.h8⟩
theorem IH.ntb(J:IH H x A s)(g:Good s):Nt H A.nt A.ntx A.nl (s.names.map nmV):=⟨J.ant,J.anl,by rw[Lp];exact g.n8⟩
theorem IH.wtb(J:IH H x A s):Wt H A.wt A.wtx A.wb A.wl s.aS s.iN:=⟨J.awt,J.awb,J.awl⟩
theorem AV{A:HA}{fs:List (Int×List Wd)}{t:Int}:cC (fs.map (fkv A)) (Sum.inl t)=(fs.lookup t).map λ_=>V.ref (A.fa t):=qc λ_=>rfl
theorem IH.Hb(J:IH H x A s)(g:Good s){t:Int}{ws:List Wd}(m:(t,ws)∈s.aG):eG H A.fh (.int t) (some (.ref (A.fa t))):=by
 have:=eG.k (k:=Sum.inl t) J.afh
 rw[AV,g.get m]at this;exact this
end
def Cw:Sp:=λvs H Q E=>∃ x A s,∃ h g:Int,vs=[.ref x,.int h,.int g]∧IH H x A s∧Good s∧Sm h∧Sm g∧Fin x A s H (jJ s h g) Q E
abbrev uj:List Str:=["self", "h", "g"]
theorem sI:ar uj ["self", "h", "g"] (ao nN):=fsc
theorem sJ(T:Txt w K mg):Ok P w K mg base 6 717 ["self", "h", "g"] (Cw):=by
 refine T.o3 "Heap.copy" sI λcdv A' outer s' H vs Q E hr h=>?_;obtain⟨x,A,s,h,g,rfl,J,G,hh,hg,k⟩:=h;refine⟨_,(ag (au ((qQ T).m T.aP hr (aE (pv 0) rfl) px (aa (pv 1) (aa (pv 2) ah))))),?_⟩;refine⟨_,rfl,x,980,_,_,.ref A.hd,rfl,J.ax,T.ae,T.n,gY,A.hd,A.hdx,_,rfl,J.ahd,rfl,_,rfl,_,rfl,A.hd,A.hdx,A.hl,A.hx,s.aM,h,g,rfl,J.hn G,hh,hg,?_⟩;by_cases c:ok8 h
 ·rw[if_pos c]
  cases e:wat s.aM g with
  | none =>
   rw[show jJ s h g=(some .hand,s) by simp only[jJ,if_pos c,e]]at k;exact k.bad J
  | some wd =>
   rw[show jJ s h g=(none,g9 s h wd) by simp only[jJ,if_pos c,e]]at k;exact λv wv=>let w:=J.za (J.rhl.set (i:=h.toNat) wv);k _ _ w.1 w.2
 ·rw[if_neg c]
  rw[show jJ s h g=(some .hand,s) by simp only[jJ,if_neg c]]at k;exact k.bad J
def Cy:Sp:=λvs H Q E=>∃ x A s,∃ h:Int,vs=[.ref x,.int h]∧IH H x A s∧Good s∧Sm h∧Fin x A s H (lZ s h) Q E
abbrev uk:List Str:=["self", "h"]
theorem sL:ar uk ["self", "h"] (ao nO):=fsc
theorem sM(T:Txt w K mg):Ok P w K mg base 5 724 ["self", "h"] (Cy):=by
 refine T.o2 "Heap.drop" sL λcdv A' outer s' H vs Q E hr h=>?_;obtain⟨x,A,s,h,rfl,J,G,hh,k⟩:=h;refine⟨_,(ag (au ((eT T).m T.aP hr (aE (pv 0) rfl) px (aa (pv 1) (aa bH ah))))),?_⟩;refine⟨_,rfl,x,980,_,_,.ref A.hd,rfl,J.ax,T.ae,T.n,gY,A.hd,A.hdx,_,rfl,J.ahd,rfl,_,rfl,A.hd,A.hdx,A.hl,A.hx,s.aM,.non,h,rfl,J.hn G,hh,?_⟩;by_cases c:ok8 h
 ·rw[if_pos c]
  rw[show lZ s h=(none,g9 s h .no) by simp only[lZ,if_pos c]]at k;exact let w:=J.za (J.rhl.set (i:=h.toNat) (show WV H .non .no from rfl));k _ _ w.1 w.2
 ·rw[if_neg c]
  rw[show lZ s h=(some .hand,s) by simp only[lZ,if_neg c]]at k;exact k.bad J
def yz:Sp:=λvs H Q E=>∃ x A s,∃ h z:Int,vs=[.ref x,.int h,.int z]∧IH H x A s∧Good s∧Sm h∧Sm z∧Fin x A s H (dt s h z) Q E
abbrev qS:List Str:=["self", "h", "x"]
theorem pI:ar qS ["self", "h", "x"] (ao jP):=fsc
theorem pJ(T:Txt w K mg):Ok P w K mg base 6 731 ["self", "h", "x"] (yz):=by
 refine T.o3 "Heap.number" pI λcdv A' outer s' H vs Q E hr h=>?_;obtain⟨x,A,s,h,z,rfl,J,G,hh,hz,k⟩:=h;refine⟨_,(ag (au ((oE T).m T.aP hr (aE (pv 0) rfl) px (aa (pv 1) (aa (pv 2) ah))))),?_⟩;refine⟨_,rfl,x,980,_,_,.ref A.hd,rfl,J.ax,T.ae,T.n,gY,A.hd,A.hdx,_,rfl,J.ahd,rfl,_,rfl,_,rfl,A.hd,A.hdx,A.hl,A.hx,s.aM,h,z,rfl,J.hn G,hh,hz,?_⟩;by_cases c:ok8 h
 ·rw[if_pos c]
  by_cases g:Num z
  ·rw[if_pos g]
   rw[show dt s h z=(none,g9 s h (.num z)) by simp only[dt,if_pos c,if_pos g]]at k;exact λt H1 s1 ht=>let J1:=J.same s1;let w:=J1.za (J1.rhl.set (i:=h.toNat) (show WV H1 (.ref t) (.num z) from⟨t,rfl,ht⟩));k _ _ w.1 ((Fr.same s1).trans w.2)
  ·rw[if_neg g]
   rw[show dt s h z=(some .count,s) by simp only[dt,if_pos c,if_neg g]]at k;exact k.bad J
 ·rw[if_neg c]
  rw[show dt s h z=(some .hand,s) by simp only[dt,if_neg c]]at k;exact k.bad J
def Cz:Sp:=λvs H Q E=>∃ x A s,∃ w h:Int,vs=[.ref x,.int w,.int h]∧IH H x A s∧Good s∧Sm w∧Sm h∧Fin x A s H (gr s w h) Q E
abbrev um:List Str:=["self", "w", "h", "t"]
theorem lM:ar um ["self", "w", "h"] (ao nP):=fsc
theorem sN(T:Txt w K mg):Ok P w K mg base 7 738 ["self", "w", "h"] (Cz):=by
 refine T.o3 "Heap.name" lM λcdv A' outer s' H vs Q E hr h=>?_;obtain⟨x,A,s,w,h,rfl,J,G,hw,hh,k⟩:=h;refine⟨_,(af (aw (i:=3) lM.nd rfl (Or.inl rfl) ((b6 T).m T.aP hr (aE (pv 0) rfl) px (aa (pv 2) ah)))
  (ag (au ((kW T).m T.bL hr (aE (pv 0) rfl) px (aa (pv 1) (aa (pv 3) ah)))))),?_⟩
 refine⟨_,rfl,x,980,_,_,.ref A.hd,rfl,J.ax,T.ae,T.n,gY,A.hd,A.hdx,_,rfl,J.ahd,rfl,_,rfl,A.hd,A.hdx,A.hl,A.hx,s.aM,h,rfl,J.hn G,hh,?_⟩;cases e:wat s.aM h with
 | none =>
  rw[show gr s w h=(some .hand,s) by simp only[gr,e]]at k;exact k.bad J
 | some wd =>
  cases wd with
  | no =>
   rw[show gr s w h=(some .hand,s) by simp only[gr,e]]at k;exact k.bad J
  | num n =>
   rw[show gr s w h=(some .hand,s) by simp only[gr,e]]at k;exact k.bad J
  | th t =>
   intro H1 s1;have J1:=J.same s1;refine⟨_,rfl,x,980,_,_,.ref A.nt,rfl,J1.ax,T.ae,T.n,BJ,A.nt,A.ntx,_,rfl,J1.ant,rfl,_,rfl,_,rfl,A.nt,A.ntx,A.nl,_,.int t,w,rfl,J1.ntb G,hw,?_⟩;by_cases c:ok8 w
   ·rw[if_pos c]
    rw[show gr s w h=(none,{s with names:=s.names.set w.toNat (some t)}) by simp only[gr,e,if_pos c]]at k;have w1:=J1.K0 (ns:=s.names.set w.toNat (some t));rw[List.map_set]at w1;exact k _ _ w1.1 ((Fr.same s1).trans w1.2)
   ·rw[if_neg c]
    rw[show gr s w h=(some .name,s) by simp only[gr,e,if_neg c]]at k;exact Bad.same (k.bad J) s1
def CA:Sp:=λvs H Q E=>∃ x A s,∃ h z:Int,vs=[.ref x,.int h,.int z]∧IH H x A s∧Good s∧Sm h∧Sm z∧Fin x A s H (eV s h z) Q E
abbrev uo:List Str:=["self", "h", "x", "t"]
theorem lN:ar uo ["self", "h", "x"] (ao nQ):=fsc
theorem sO(T:Txt w K mg):Ok P w K mg base 7 752 ["self", "h", "x"] (CA):=by
 refine T.o3 "Heap.word" lN λcdv A' outer s' H vs Q E hr h=>?_;obtain⟨x,A,s,h,z,rfl,J,G,hh,hz,k⟩:=h;refine⟨_,(af (aw (i:=3) lN.nd rfl (Or.inl rfl) ((b6 T).m T.aP hr (aE (pv 0) rfl) px (aa (pv 1) ah)))
  (af (au ((gh T).c hr px (aa (pv 2) ah)))
  (ag (au ((k6 T).m T.aY hr (aE (pv 0) rfl) px (aa (pv 3) (aa (pv 2) ah))))))),?_⟩
 refine⟨_,rfl,x,980,_,_,.ref A.hd,rfl,J.ax,T.ae,T.n,gY,A.hd,A.hdx,_,rfl,J.ahd,rfl,_,rfl,A.hd,A.hdx,A.hl,A.hx,s.aM,h,rfl,J.hn G,hh,?_⟩;cases e:wat s.aM h with
 | none =>
  rw[show eV s h z=(some .hand,s) by simp only[eV,e]]at k;exact k.bad J
 | some wd =>
  cases wd with
  | no =>
   rw[show eV s h z=(some .hand,s) by simp only[eV,e]]at k;exact k.bad J
  | num n =>
   rw[show eV s h z=(some .hand,s) by simp only[eV,e]]at k;exact k.bad J
  | th t =>
   intro H1 s1;have J1:=J.same s1;refine⟨_,rfl,z,rfl,hz,?_⟩;by_cases g:Num z
   ·rw[if_pos g]
    refine⟨_,rfl,x,980,_,_,.ref A.wt,rfl,J1.ax,T.ae,T.n,DL,A.wt,A.wtx,_,rfl,J1.awt,rfl,_,rfl,_,rfl,A.wt,A.wtx,A.wb,A.wl,s.aS,s.iN,t,z,rfl,J1.wtb,G.b12,?_⟩;by_cases c:s.aS.lookup t=none∧12≤s.aS.length
    ·rw[if_pos c]
     rw[show eV s h z=(some .words,s) by simp only[eV,e,if_pos g,if_pos c]]at k;exact Bad.same (k.bad J) s1
    ·rw[if_neg c]
     rw[show eV s h z=(none,{s with aS:=rV s.aS t z}) by simp only[eV,e,if_pos g,if_neg c]]at k;have w1:=J1.IY (bs:=rV s.aS t z);exact k _ _ w1.1 ((Fr.same s1).trans w1.2)
   ·rw[if_neg g]
    rw[show eV s h z=(some .count,s) by simp only[eV,e,if_neg g]]at k;exact Bad.same (k.bad J) s1
def CB:Sp:=λvs H Q E=>∃ x A s,∃ h g kk:Int,vs=[.ref x,.int h,.int g,.int kk]∧IH H x A s∧Good s∧Sm h∧Sm g∧Sm kk∧Fin x A s H (eU s h g kk) Q E
abbrev uq:List Str:=["self", "h", "g", "k", "fields"]
theorem lO:ar uq ["self", "h", "g", "k"] (ao nM):=fsc
theorem sP(T:Txt w K mg):Ok P w K mg base 7 703 ["self", "h", "g", "k"] (CB):=by
 refine T.o4 "Heap.load" lO λcdv A' outer s' H vs Q E hr h=>?_;obtain⟨x,A,s,h,g,kk,rfl,J,G,hh,hg,hk,k⟩:=h;have hu:=bX hr;refine⟨_,(af (au ((bw T).c hr px (aa (pv 1) ah)))
  (af (aw (i:=4) lO.nd rfl (Or.inl rfl) (bU hu (aE (pv 0) rfl) ((b6 T).m T.aP hr (aE (pv 0) rfl) px (aa (pv 2) ah)) (λ_ _=>rfl)))
  (af (au ((gR T).c hr px (aa (pv 3) (aa (aK aU rfl T.z PyProof.Rows.Boot.«len» (aa (pv 4) ah)) ah))))
  (ag (au ((eT T).m T.aP hr (aE (pv 0) rfl) px (aa (pv 1) (aa (aD bE (pv 4) (pv 3) (λ_ _=>rfl)) ah)))))))),?_⟩
 refine⟨_,rfl,h,rfl,hh,?_⟩;by_cases c:ok8 h
 ·rw[if_pos c]
  refine⟨_,rfl,x,980,_,_,.ref A.fh,rfl,J.ax,T.ae,T.n,ir,_,rfl,x,980,_,_,.ref A.hd,rfl,J.ax,T.ae,T.n,gY,A.hd,A.hdx,_,rfl,J.ahd,rfl,_,rfl,A.hd,A.hdx,A.hl,A.hx,s.aM,g,rfl,J.hn G,hg,?_⟩;cases e:wat s.aM g with
  | none =>
   rw[show eU s h g kk=(some .hand,s) by simp only[eU,e,if_pos c]]at k;exact k.bad J
  | some wd =>
   cases wd with
   | no =>
    rw[show eU s h g kk=(some .hand,s) by simp only[eU,e,if_pos c]]at k;exact k.bad J
   | num n =>
    rw[show eU s h g kk=(some .hand,s) by simp only[eU,e,if_pos c]]at k;exact k.bad J
   | th t =>
    intro H1 s1;have J1:=J.same s1;have m:=G.hand e;obtain⟨hl,rl⟩:=J1.afl _ _ m;refine⟨A.fh,_,rfl,J1.Hb G m,?_⟩;have f6:=G.f6 _ _ m;have ln:((A.fx t).length:Int)=(fld s t).length:=(by rw[rl.1]);refine⟨_,rfl,_,rfl,A.fa t,_,rfl,.inl (SqL.of hl),kk,_,rfl,hk,Sm.of (by omega) (by omega),?_⟩;rw[ln];by_cases c2:0≤kk∧kk<((fld s t).length:Int)
    ·rw[if_pos c2]
     rw[show eU s h g kk=(none,g9 s h ((fld s t).getD kk.toNat .no)) by simp only[eU,if_pos c,e,if_pos c2]]at k;have hi:kk.toNat<(fld s t).length:=(by omega);obtain⟨v,hv,wv⟩:=rl.get hi;have gd:(fld s t).getD kk.toNat .no=(fld s t)[kk.toNat]:=(by simp[List.getD,hi]);rw[gd]at k;refine⟨_,rfl,x,980,_,_,.ref A.hd,rfl,J1.ax,T.ae,T.n,gY,A.hd,A.hdx,_,rfl,J1.ahd,rfl,_,rfl,_,rfl,_,rfl,A.fa t,_,kk,v,rfl,rfl,SqL.of hl,tU c2.1 hv,A.hd,A.hdx,A.hl,A.hx,s.aM,v,h,rfl,J1.hn G,hh,?_⟩;rw[if_pos c];exact let w:=J1.za (J1.rhl.set (i:=h.toNat) wv);k _ _ w.1 ((Fr.same s1).trans w.2)
    ·rw[if_neg c2]
     rw[show eU s h g kk=(some .field,s) by simp only[eU,if_pos c,e,if_neg c2]]at k;exact Bad.same (k.bad J) s1
 ·rw[if_neg c]
  rw[show eU s h g kk=(some .hand,s) by simp only[eU,if_neg c]]at k;exact k.bad J
def Aa:Sp:=λvs H Q E=>∃ x A s,∃ g kk h:Int,vs=[.ref x,.int g,.int kk,.int h]∧IH H x A s∧Good s∧Sm g∧Sm kk∧Sm h∧Fin x A s H (cG s g kk h) Q E
abbrev sQ:List Str:=["self", "g", "k", "h", "fields", "value"]
theorem gD:ar sQ ["self", "g", "k", "h"] (ao lG):=fsc
theorem qT(T:Txt w K mg):Ok P w K mg base 7 710 ["self", "g", "k", "h"] (Aa):=by
 refine T.o4 "Heap.store" gD λcdv A' outer s' H vs Q E hr h=>?_;obtain⟨x,A,s,g,kk,h,rfl,J,G,hg,hk,hh,k⟩:=h;have hu:=bX hr;refine⟨_,(af (aw (i:=4) gD.nd rfl (Or.inl rfl) (bU hu (aE (pv 0) rfl) ((b6 T).m T.aP hr (aE (pv 0) rfl) px (aa (pv 1) ah)) (λ_ _=>rfl)))
  (af (aw (i:=5) gD.nd rfl (Or.inl rfl) ((dS T).m T.aP hr (aE (pv 0) rfl) px (aa (pv 3) ah)))
  (af (au ((gR T).c hr px (aa (pv 2) (aa (aK aU rfl T.z PyProof.Rows.Boot.«len» (aa (pv 4) ah)) ah))))
  (ag (lS (pv 5) (lR (pv 4) (pv 2) set_list)))))),?_⟩
 refine⟨_,rfl,x,980,_,_,.ref A.fh,rfl,J.ax,T.ae,T.n,ir,_,rfl,x,980,_,_,.ref A.hd,rfl,J.ax,T.ae,T.n,gY,A.hd,A.hdx,_,rfl,J.ahd,rfl,_,rfl,A.hd,A.hdx,A.hl,A.hx,s.aM,g,rfl,J.hn G,hg,?_⟩;cases e:wat s.aM g with
 | none =>
  rw[show cG s g kk h=(some .hand,s) by simp only[cG,e]]at k;exact k.bad J
 | some wd =>
  cases wd with
  | no =>
   rw[show cG s g kk h=(some .hand,s) by simp only[cG,e]]at k;exact k.bad J
  | num n =>
   rw[show cG s g kk h=(some .hand,s) by simp only[cG,e]]at k;exact k.bad J
  | th t =>
   intro H1 s1;have J1:=J.same s1;have m:=G.hand e;obtain⟨hl,rl⟩:=J1.afl _ _ m;refine⟨A.fh,_,rfl,J1.Hb G m,?_⟩;refine⟨_,rfl,x,980,_,_,.ref A.hd,rfl,J1.ax,T.ae,T.n,gY,A.hd,A.hdx,_,rfl,J1.ahd,rfl,_,rfl,A.hd,A.hdx,A.hl,A.hx,s.aM,h,rfl,J1.hn G,hh,?_⟩;cases e2:wat s.aM h with
   | none =>
    rw[show cG s g kk h=(some .hand,s) by simp only[cG,e,e2]]at k;exact Bad.same (k.bad J) s1
   | some wd =>
    intro v hv wv;have f6:=G.f6 _ _ m;have ln:((A.fx t).length:Int)=(fld s t).length:=(by rw[rl.1]);refine⟨_,rfl,_,rfl,A.fa t,_,rfl,.inl (SqL.of hl),kk,_,rfl,hk,Sm.of (by omega) (by omega),?_⟩;rw[ln];by_cases c2:0≤kk∧kk<((fld s t).length:Int)
    ·rw[if_pos c2]
     rw[show cG s g kk h=(none,{s with aG:=jd s.aG t ((fld s t).set kk.toNat wd)}) by simp only[cG,e,e2,if_pos c2]]at k;refine⟨_,rfl,_,rfl,_,rfl,A.fa t,_,kk,kk.toNat,rfl,rfl,hl,BL c2.1 (by omega),?_⟩;exact let w:=J1.K4 m (rl.set (i:=kk.toNat) wv);k _ _ w.1 ((Fr.same s1).trans w.2)
    ·rw[if_neg c2]
     rw[show cG s g kk h=(some .field,s) by simp only[cG,e,e2,if_neg c2]]at k;exact Bad.same (k.bad J) s1
end
section
variable{P:Program}{w:World}{K:W.Frag}{mg:Str→Option Value}{base:Heap}
theorem b7{b:Bool}{A B:Prop}(h:b=false)(k:B):if b=true then A else B:=by rw[h];exact k
theorem iw{b:Bool}{A B:Prop}(h:b=true)(k:A):if b=true then A else B:=by rw[h];exact k
theorem CC(k:Nat):(List.replicate k [V.non]).flatten=List.replicate k .non:=by
 induction k with
 | zero=>rfl
 | succ k ih=>rw[Mp,MQ,ih,Mp];rfl
def keys(s:HS):List Int:=s.aG.map (·.1)
def held(s:HS):Int:=wsum s (keys s)
structure Raw(H:Hp)(x dx:Addr)(my:Bool)(hd hdx hl nt ntx nl wt wtx wb wl fh yg:Addr):Prop where
 ax:H x=some (.ins 980 dx [("makes_young",.bl my),("in_hands",.ref hd),("weak_names",.ref nt),("last_words",.ref wt),("fields_held",.ref fh),("young_things",.ref yg),("next_thing",.int 0)])
 ahd:H hd=some (.ins 561 hdx [("words_held",.ref hl)])
 ahl:H hl=some (.lst (List.replicate 8 .non))
 ant:H nt=some (.ins 671 ntx [("things_named",.ref nl)])
 anl:H nl=some (.lst (List.replicate 8 .non))
 awt:Wt H wt wtx wb wl [] []
 afh:H fh=some (.dK [])
 ayg:H yg=some (.dK [])
 n1:hd≠nt
 n2:hl≠nl
 n3:hl≠wl
 n4:nl≠wl
 n5:wb≠fh
 n6:wb≠yg
 n7:fh≠yg
def s0(my:Bool)(room limit:Int):HS:=⟨my,List.replicate 8 .no,List.replicate 8 none,[],[],[],[],0,room,limit,[],false⟩
theorem good0{my:Bool}{room limit:Int}:Good (s0 my room limit) :=
 ⟨rfl,rfl,List.Pairwise.nil,(λ_ _ m=>by cases m),(λ_ _ m=>by cases m),(λt m=>by have:=Mm m;cases this),(λ_ _ _ m=>by cases m),(λt m=>by have:=Mm m;cases this),by show 0≤12;decide,(λ_ _ m=>by cases m),List.nodup_nil,by show(0:Int)≤0;decide,by show(0:Int)≤10000;decide,by show((0:Nat):Int)+((0:Nat):Int)≤0;decide,(λ_ m=>by cases m),List.Pairwise.nil,(λ_ m=>by cases m),List.Pairwise.nil⟩
def sR:Sp:=λvs H Q E=>∃ x dx,∃ my:Bool,vs=[.ref x,.bl my]∧H x=some (.ins 980 dx [])∧∀ hd hdx hl nt ntx nl wt wtx wb wl fh yg H',Raw H' x dx my hd hdx hl nt ntx nl wt wtx wb wl fh yg→But x H H'→(∀ b,b=hd∨b=hl∨b=nt∨b=nl∨b=wt∨b=wb∨b=wl∨b=fh∨b=yg→H b=none)→Q .non H'
abbrev oH:List Str:=["self", "makes_young"]
theorem mQ:ar oH ["self", "makes_young"] (ao ie):=fsc
theorem gS(T:Txt w K mg):Ok P w K mg base 3 689 ["self", "makes_young"] (sR):=by
 refine T.o2 "Heap.__init__" mQ λcdv A' outer s' H vs Q E hr h=>?_;obtain⟨x,dx,my,rfl,hx,k⟩:=h;refine⟨_,(af (b8 (pv 0) (pv 1) rfl)
  (af (b8 (pv 0) (qu (T.mkk 561) (gj T).g (hr.mono (by decide)) rfl T.m (gj (P:=P) (base:=base) T).b .nil (yQ λ_ _ _ q=>q)) rfl)
  (af (b8 (pv 0) (qu (T.mkk 671) (dH T).g (hr.mono (by decide)) rfl T.m (dH (P:=P) (base:=base) T).b .nil (yQ λ_ _ _ q=>q)) rfl)
  (af (b8 (pv 0) (qu (T.mkk 624) (dI T).g (hr.mono (by decide)) rfl T.m (dI (P:=P) (base:=base) T).b .nil (yQ λ_ _ _ q=>q)) rfl)
  (af (b8 (pv 0) bQ rfl)
  (af (b8 (pv 0) bQ rfl)
  (ag (b8 (pv 0) aj rfl)))))))),?_⟩
 have bk:∀ {H':Hp} {b:Addr} {u:HO},H' x=some u→But x H H'→H' b=none→H b=none:=λ{H' b u} hx' B h=>by
  cases q:H b with
  | none=>rfl
  | some v =>
   by_cases e:b=x
   ·rw[e,hx']at h;cases h
   ·rw[B b v e q]at h;cases h
 have mk:∀ {H1 H2:Hp} {m mdx C:Addr},H1 m=none→H1 mdx=none→But m (upd (upd H1 mdx (.own m)) m (.ins C mdx [])) H2→aq H1 H2:=λh1 h2 B b u q=>B b u (ai q h1) (by rw[ak (ai q h1),ak (ai q h2)];exact q);have fr:∀ {H1:Hp} {m mdx C c:Addr},H1 m=none→H1 mdx=none→upd (upd H1 mdx (.own m)) m (.ins C mdx []) c=none→H1 c=none:=λ{H1 m mdx C c} h1 h2 h=>by
  cases q:H1 c with
  | none=>rfl
  | some v=>rw[ak (ai q h1),ak (ai q h2),q]at h;cases h
 refine⟨_,rfl,_,rfl,x,980,dx,_,rfl,hx,T.ae,T.n,by show 0<1000;decide,?_⟩;obtain⟨H1,e1⟩:∃ H1,upd H x (.ins 980 dx (cB "makes_young" (.bl my) []))=H1:=⟨_,rfl⟩;have x1:H1 x=some (.ins 980 dx [("makes_young",.bl my)]):=by rw[←e1];exact ab
 have B1:But x H H1:=by rw[←e1];exact But.self
 show tq _ _ _ _ (upd H x (.ins 980 dx (cB "makes_young" (.bl my) [])));rw[e1];clear e1;intro hd hdx hm1 hm2 hm3;refine⟨hd,hdx,rfl,ab,λhl G1 b1 hc hcl hci=>⟨rfl,?_⟩⟩;have S1:=mk hm1 hm2 b1;have hl1:=fr hm1 hm2 hc;refine⟨_,rfl,x,980,dx,_,rfl,S1 _ _ x1,T.ae,T.n,by show 1<1000;decide,?_⟩;obtain⟨H2,e2⟩:∃ H2,upd G1 x (.ins 980 dx (cB "in_hands" (.ref hd) [("makes_young",.bl my)]))=H2:=⟨_,rfl⟩;have x2:H2 x=some (.ins 980 dx [("makes_young",.bl my),("in_hands",.ref hd)]):=by rw[←e2];exact ab
 have P2:But x G1 H2:=by rw[←e2];exact But.self
 have B2:But x H H2:=(B1.trans λb u _ q=>S1 b u q).trans P2;show tq _ _ _ _ (upd G1 x (.ins 980 dx (cB "in_hands" (.ref hd) [("makes_young",.bl my)])));rw[e2];clear e2;have nhd:hd≠x:=L4 (ai x1 hm1);have nhl:hl≠x:=L4 (ai x1 hl1);have a2:=P2 _ _ nhd hci;have l2:=P2 _ _ nhl hcl;intro nt ntx nm1 nm2 nm3;refine⟨nt,ntx,rfl,ab,λnl G2 b2 nc ncl nci=>⟨rfl,?_⟩⟩;have S2:=mk nm1 nm2 b2;have nl2:=fr nm1 nm2 nc;refine⟨_,rfl,x,980,dx,_,rfl,S2 _ _ x2,T.ae,T.n,by show 2<1000;decide,?_⟩;obtain⟨H3,e3⟩:∃ H3,upd G2 x (.ins 980 dx (cB "weak_names" (.ref nt) [("makes_young",.bl my),("in_hands",.ref hd)]))=H3:=⟨_,rfl⟩;have x3:H3 x=some (.ins 980 dx [("makes_young",.bl my),("in_hands",.ref hd),("weak_names",.ref nt)]):=by rw[←e3];exact ab
 have P3:But x G2 H3:=by rw[←e3];exact But.self
 have B3:But x H H3:=(B2.trans λb u _ q=>S2 b u q).trans P3;show tq _ _ _ _ (upd G2 x (.ins 980 dx (cB "weak_names" (.ref nt) [("makes_young",.bl my),("in_hands",.ref hd)])));rw[e3];clear e3;have nnt:nt≠x:=L4 (ai x2 nm1);have nnl:nl≠x:=L4 (ai x2 nl2);have a3:=P3 _ _ nhd (S2 _ _ a2);have l3:=P3 _ _ nhl (S2 _ _ l2);have t3:=P3 _ _ nnt nci;have m3:=P3 _ _ nnl ncl;intro wt wtx wm1 wm2 wm3;refine⟨wt,wtx,rfl,ab,λwb wl G3 b3 wc1 wc2 W=>⟨rfl,?_⟩⟩;have S3:=mk wm1 wm2 b3;have wb3:=fr wm1 wm2 wc1;have wl3:=fr wm1 wm2 wc2;refine⟨_,rfl,x,980,dx,_,rfl,S3 _ _ x3,T.ae,T.n,by show 3<1000;decide,?_⟩;obtain⟨H4,e4⟩:∃ H4,upd G3 x (.ins 980 dx (cB "last_words" (.ref wt) [("makes_young",.bl my),("in_hands",.ref hd),("weak_names",.ref nt)]))=H4:=⟨_,rfl⟩;have x4:H4 x=some (.ins 980 dx [("makes_young",.bl my),("in_hands",.ref hd),("weak_names",.ref nt),("last_words",.ref wt)]):=by rw[←e4];exact ab
 have P4:But x G3 H4:=by rw[←e4];exact But.self
 have B4:But x H H4:=(B3.trans λb u _ q=>S3 b u q).trans P4;show tq _ _ _ _ (upd G3 x (.ins 980 dx (cB "last_words" (.ref wt) [("makes_young",.bl my),("in_hands",.ref hd),("weak_names",.ref nt)])));rw[e4];clear e4;have nwt:wt≠x:=L4 (ai x3 wm1);have nwb:wb≠x:=L4 (ai x3 wb3);have nwl:wl≠x:=L4 (ai x3 wl3);have W4:Wt H4 wt wtx wb wl [] []:=⟨P4 _ _ nwt W.i,P4 _ _ nwb W.b,P4 _ _ nwl W.l⟩;have a4:=P4 _ _ nhd (S3 _ _ a3);have l4:=P4 _ _ nhl (S3 _ _ l3);have t4:=P4 _ _ nnt (S3 _ _ t3);have m4:=P4 _ _ nnl (S3 _ _ m3);intro fh hfh;have nfh:fh≠x:=L4 (ai x4 hfh);refine⟨_,rfl,x,980,dx,_,rfl,aq.upd hfh _ _ x4,T.ae,T.n,by show 4<1000;decide,?_⟩;obtain⟨H5,e5⟩:∃ H5,upd (upd H4 fh (.dK [])) x (.ins 980 dx (cB "fields_held" (.ref fh) [("makes_young",.bl my),("in_hands",.ref hd),("weak_names",.ref nt),("last_words",.ref wt)]))=H5:=⟨_,rfl⟩;have x5:H5 x=some (.ins 980 dx [("makes_young",.bl my),("in_hands",.ref hd),("weak_names",.ref nt),("last_words",.ref wt),("fields_held",.ref fh)]):=by rw[←e5];exact ab
 have P5:But x H4 H5:=by rw[←e5];exact(But.upd hfh).trans But.self
 have f5:H5 fh=some (.dK []):=by rw[←e5,ak nfh];exact ab
 show tq _ _ _ _ (upd (upd H4 fh (.dK [])) x (.ins 980 dx (cB "fields_held" (.ref fh) [("makes_young",.bl my),("in_hands",.ref hd),("weak_names",.ref nt),("last_words",.ref wt)])));rw[e5];clear e5;intro yg hyg;have nyg:yg≠x:=L4 (ai x5 hyg);refine⟨_,rfl,x,980,dx,_,rfl,aq.upd hyg _ _ x5,T.ae,T.n,by show 5<1000;decide,?_⟩;obtain⟨H6,e6⟩:∃ H6,upd (upd H5 yg (.dK [])) x (.ins 980 dx (cB "young_things" (.ref yg) [("makes_young",.bl my),("in_hands",.ref hd),("weak_names",.ref nt),("last_words",.ref wt),("fields_held",.ref fh)]))=H6:=⟨_,rfl⟩;have x6:H6 x=some (.ins 980 dx [("makes_young",.bl my),("in_hands",.ref hd),("weak_names",.ref nt),("last_words",.ref wt),("fields_held",.ref fh),("young_things",.ref yg)]):=by rw[←e6];exact ab
 have P6:But x H5 H6:=by rw[←e6];exact(But.upd hyg).trans But.self
 have y6:H6 yg=some (.dK []):=by rw[←e6,ak nyg];exact ab
 skip
 rw[e6];clear e6;have B5:But x H H5:=B4.trans P5;have B6:But x H H6:=B5.trans P6;have P7:∀ {o:HO},But x H6 (upd H6 x o):=But.self;have P47:∀ {o:HO} {b:Addr} {u:HO},b≠x→H4 b=some u→upd H6 x o b=some u:=λn q=>P7 _ _ n (P6 _ _ n (P5 _ _ n q));refine⟨_,rfl,x,980,dx,_,rfl,x6,T.ae,T.n,by show 6<1000;decide,k hd hdx hl nt ntx nl wt wtx wb wl fh yg _ ⟨ab,P47 nhd a4,P47 nhl l4,P47 nnt t4,P47 nnl m4,⟨P47 nwt W4.i,P47 nwb W4.b,P47 nwl W4.l⟩,P7 _ _ nfh (P6 _ _ nfh f5),P7 _ _ nyg y6,ai a2 nm1,ai l2 nl2,ai l3 wl3,ai m3 wl3,ai W4.b hfh,ai (P5 _ _ nwb W4.b) hyg,ai f5 hyg⟩ (B6.trans But.self) (λb hb=>?_)⟩;rcases hb with rfl|rfl|rfl|rfl|rfl|rfl|rfl|rfl|rfl
 ·exact bk x1 B1 hm1
 ·exact bk x1 B1 hl1
 ·exact bk x2 B2 nm1
 ·exact bk x2 B2 nl2
 ·exact bk x3 B3 wm1
 ·exact bk x3 B3 wb3
 ·exact bk x3 B3 wl3
 ·exact bk x4 B4 hfh
 ·exact bk x5 B5 hyg
def kdO:HO→Nat
 | .ins _ _ fs=>fs.length+5|.lst _=>0|.dK _=>1|_=>2
theorem IH.new{H:Hp}{x:Addr}{A:HA}{s:HS}(c:∀ i,H (cad x A i)=some (cob A s i))(m1:A.hd≠A.nt)(m2:A.hl≠A.nl)(m3:A.hl≠A.wl)(m4:A.nl≠A.wl)(m5:A.wb≠A.fh)(m6:A.wb≠A.yg)(m7:A.wb≠A.dm)(m8:A.fh≠A.yg)(m9:A.fh≠A.dm)(m10:A.yg≠A.dm)(rh:Rel H A.hx s.aM)(nf:s.aG=[]):IH H x A s:=by
 refine⟨c,λi j e=>?_,rh,(λ_ _ m=>by rw[nf]at m;cases m),(λ_ _ m=>by rw[nf]at m;cases m),(λ_ _ _ _ m=>by rw[nf]at m;cases m)⟩;have z:=congrArg (Option.map kdO) (c i);rw[e,c j]at z;have z:=LS z;cases i<;>cases j<;>first|rfl|exact absurd z (Nat.ne_of_beq_eq_false rfl)|exact absurd e (by assumption)|exact absurd e.symm (by assumption)
def qU:Sp:=λvs H Q E=>∃ x dx,∃ y l:Int,vs=[.ref x,.int y,.int l]∧H x=some (.ins 980 dx [])∧(y=0∨(7≤y∧y≤64))∧7≤l∧l≤400∧∀ A H',IH H' x A (s0 (decide (y>0)) y l)→But x H H'→(∀ b,aV x A (s0 (decide (y>0)) y l) b→b=x∨H b=none)→Q .non H'
abbrev iW:List Str:=["self", "young", "limit"]
theorem iH:ar iW ["self", "young", "limit"] (ao d6):=fsc
theorem dJ(T:Txt w K mg):Ok P w K mg base 4 823 ["self", "young", "limit"] (qU):=by
 refine T.o3 "IdealHeap.__init__" iH λcdv A' outer s' H vs Q E hr h=>?_;obtain⟨x,dx,y,l,rfl,hx,hy,l0,l1,k⟩:=h;refine⟨_,(af (au ((kO T).c hr px (aa (pv 1) (aa (pv 2) ah))))
  (af (au (Ek rfl T.m (T.cf 798) (gS T).g (hr.mono (by decide)) (gS (P:=P) (base:=base) T).b px (aa (pv 0) (aa (pQ vk (pv 1) aj (aF _)) ah))))
  (af (b8 (pv 0) (pv 1) rfl)
  (af (b8 (pv 0) (pv 2) rfl)
  (af (b8 (pv 0) bQ rfl)
  (ag (b8 (pv 0) iP rfl))))))),?_⟩
 refine⟨_,rfl,_,rfl,y,l,rfl,hy,l0,l1,?_⟩;refine⟨_,rfl,_,rfl,y,0,rfl,rfl,x,dx,_,rfl,hx,λhd hdx hl nt ntx nl wt wtx wb wl fh yg H1 R B1 fr=>?_⟩;obtain⟨my,emy⟩:∃ my:Bool,decide (y>0)=my:=⟨_,rfl⟩;rw[emy]at R k;have nx:∀ b,H b=none→b≠x:=λb h e=>by rw[e,hx]at h;cases h
 refine⟨_,rfl,_,rfl,x,980,dx,_,rfl,R.ax,T.ae,T.n,by show 7<1000;decide,?_⟩;refine⟨_,rfl,_,rfl,x,980,dx,_,rfl,ab,T.ae,T.n,by show 8<1000;decide,?_⟩;intro dm hdm;have ndm:dm≠x:=λe=>by rw[e,ab]at hdm;cases hdm
 have AW:H1 dm=none:=by rw[ak ndm,ak ndm]at hdm;exact hdm
 refine⟨_,rfl,x,980,dx,_,rfl,(by rw[ak (L4 ndm)];exact ab),T.ae,T.n,by show 9<1000;decide,?_⟩;refine⟨_,rfl,x,980,dx,_,rfl,ab,T.ae,T.n,by show 10<1000;decide,?_⟩;have K5:H dm=none:=by
  cases q:H dm with
  | none=>rfl
  | some u=>rw[B1 _ _ ndm q]at AW;cases AW
 have P:∀ {o1 o2 o3 o4:HO},But x H1 (upd (upd (upd (upd (upd H1 x o1) x o2) dm (.dK [])) x o3) x o4):=λ{o1 o2 o3 o4}=>(((But.self.trans But.self).trans (But.upd (by rw[ak ndm,ak ndm];exact AW))).trans But.self).trans But.self;have d2:∀ {o1 o2 o3 o4:HO},upd (upd (upd (upd (upd H1 x o1) x o2) dm (.dK [])) x o3) x o4 dm=some (.dK []):=λ{o1 o2 o3 o4}=>by rw[ak ndm,ak ndm];exact ab
 have f:=λ(b:Addr) (h:b=hd∨b=hl∨b=nt∨b=nl∨b=wt∨b=wb∨b=wl∨b=fh∨b=yg)=>nx b (fr b h);have n1:=f hd (.inl rfl);have n2:=f hl (.inr (.inl rfl));have n3:=f nt (.inr (.inr (.inl rfl)));have n4:=f nl (.inr (.inr (.inr (.inl rfl))));have n5:=f wt (.inr (.inr (.inr (.inr (.inl rfl)))));have n6:=f wb (.inr (.inr (.inr (.inr (.inr (.inl rfl))))));have n7:=f wl (.inr (.inr (.inr (.inr (.inr (.inr (.inl rfl)))))));have n8:=f fh (.inr (.inr (.inr (.inr (.inr (.inr (.inr (.inl rfl))))))));have n9:=f yg (.inr (.inr (.inr (.inr (.inr (.inr (.inr (.inr rfl))))))));have c:∀ {o1 o2 o3 o4:HO},o4=.ins 980 dx (atts ⟨dx,hd,hdx,hl,List.replicate 8 .non,nt,ntx,nl,wt,wtx,wb,wl,fh,λ_=>0,λ_=>[],yg,dm⟩ (s0 my y l))→∀ i,(upd (upd (upd (upd (upd H1 x o1) x o2) dm (.dK [])) x o3) x o4) (cad x ⟨dx,hd,hdx,hl,List.replicate 8 .non,nt,ntx,nl,wt,wtx,wb,wl,fh,λ_=>0,λ_=>[],yg,dm⟩ i)=some (cob ⟨dx,hd,hdx,hl,List.replicate 8 .non,nt,ntx,nl,wt,wtx,wb,wl,fh,λ_=>0,λ_=>[],yg,dm⟩ (s0 my y l) i):=λe i=>match i with
  | .x=>by rw[e];exact ab
  | .hd=>P _ _ n1 R.ahd|.hl=>P _ _ n2 R.ahl|.nt=>P _ _ n3 R.ant|.nl=>P _ _ n4 R.anl|.wt=>P _ _ n5 R.awt.i|.wb=>P _ _ n6 R.awt.b|.wl=>P _ _ n7 R.awt.l|.fh=>P _ _ n8 R.afh|.yg=>P _ _ n9 R.ayg|.dm=>d2
 refine k ⟨dx,hd,hdx,hl,List.replicate 8 .non,nt,ntx,nl,wt,wtx,wb,wl,fh,λ_=>0,λ_=>[],yg,dm⟩ _ (IH.new (c rfl) R.n1 R.n2 R.n3 R.n4 R.n5 R.n6 (ai R.awt.b AW) R.n7 (ai R.afh AW) (ai R.ayg AW) Rel.nil rfl) (B1.trans P) (λb hb=>?_);cases hb with
 | c i=>cases i with
  | x=>exact .inl rfl
  | hd=>exact .inr (fr hd (.inl rfl))
  | hl=>exact .inr (fr hl (.inr (.inl rfl)))
  | nt=>exact .inr (fr nt (.inr (.inr (.inl rfl))))
  | nl=>exact .inr (fr nl (.inr (.inr (.inr (.inl rfl)))))
  | wt=>exact .inr (fr wt (.inr (.inr (.inr (.inr (.inl rfl))))))
  | wb=>exact .inr (fr wb (.inr (.inr (.inr (.inr (.inr (.inl rfl)))))))
  | wl=>exact .inr (fr wl (.inr (.inr (.inr (.inr (.inr (.inr (.inl rfl))))))))
  | fh=>exact .inr (fr fh (.inr (.inr (.inr (.inr (.inr (.inr (.inr (.inl rfl)))))))))
  | yg=>exact .inr (fr yg (.inr (.inr (.inr (.inr (.inr (.inr (.inr (.inr rfl)))))))))
  | dm=>exact .inr K5
 | fl m=>cases m
end
section
variable{P:Program}{w:World}{K:W.Frag}{mg:Str→Option Value}{base:Heap}
theorem AX{fs:List (Key×V)}{t:Int}{v:V}(h:cC fs (Sum.inl t)=none):putK fs (Sum.inl t) v=fs++[(Sum.inl t,v)]:=dM v h
theorem Jb{ts:List Int}{t:Int}:(cC (ts.map tkv) (Sum.inl t)).isSome=decide (t∈ts):=by
 induction ts with
 | nil=>rfl
 | cons a r ih =>
  rw[L1];by_cases e:a=t
  ·subst e
   rw[eE (p:=tkv a) (k:=Sum.inl a) rfl];simp
  ·rw[eF (p:=tkv a) (λz=>e (Sum.inl.inj z)),ih]
   have:(t∈a::r)↔t∈r:=by
    rw[LQ];exact⟨λh=>h.elim (λz=>absurd z.symm e) id,.inr⟩
   simp only[this]
theorem Good.BM{s:HS}(g:Good s):∀ w,(s.nxt,w)∉s.aG:=λw m=>by have:=(g.lt _ _ m).2;omega
def EB:Sp:=λvs H Q E=>∃ x A s,∃ h n:Int,vs=[.ref x,.int h,.int n]∧IH H x A s∧Good s∧ok8 h∧0≤n∧n≤6∧∀ A' H',IH H' x A' (vP s h n)→Fr (aV x A s) H (aV x A' (vP s h n)) H'→Q .non H'
theorem wG:∀(n:Nat) (l:List Int) (a:Int),l.Pairwise (·< ·)→(∀ t∈l,a≤t∧t<a+n)→l.length≤n
 | _,[],_,_,_=>L8 _
 | 0,b::r,a,_,h=>by have:=h b LR;omega
 | n+1,b::r,a,p,h=>by
  have hb:=h b LR
  have:=wG n r (a+1) (List.pairwise_cons.mp p).2 λt m=>by
   have h1:=(List.pairwise_cons.mp p).1 t m;have h2:=h t (LU _ m);omega
  rw[Ma];omega
theorem qV{s:HS}(g:Good s):s.yng.length≤10000:=by
 refine wG 10000 s.yng 0 g.pA λt m=>?_;obtain⟨ws,m⟩:=g.yk t m
 have:=g.lt _ _ m
 have:=g.nx
 omega
theorem xn{s:HS}(g:Good s):s.bc.length≤10000:=by
 refine wG 10000 s.bc 0 g.qd λt m=>?_;obtain⟨ws,m⟩:=g.dk t m
 have:=g.lt _ _ m
 have:=g.nx
 omega
abbrev mR:List Str:=["self", "h", "n", "t"]
theorem gm:ar mR ["self", "h", "n"] (ao gL):=fsc
theorem k7(T:Txt w K mg):Ok P w K mg base 5 696 ["self", "h", "n"] (EB):=by
 refine T.o3 "Heap.add_thing" gm λcdv A' outer s' H vs Q E hr h=>?_;obtain⟨x,A,s,h,n,rfl,J,G,c,n0,n6,k⟩:=h;have hu:=bX hr;refine⟨_,(af (aw (i:=3) gm.nd rfl (Or.inl rfl) (aE (pv 0) rfl))
  (af (b8 (pv 0) (ay bZ (pv 3) aj) rfl)
  (af (bY hu (aE (pv 0) rfl) (pv 3) (ay wk (bM (aa bH ah)) (pv 2)) rfl)
  (af (aO (fF (aE (pv 0) rfl))
   (ag (bY hu (aE (pv 0) rfl) (pv 3) iP rfl))
   aC)
  (ag (au ((eT T).m T.aP hr (aE (pv 0) rfl) px (aa (pv 1) (aa ((fA T).c hr px (aa (pv 3) ah)) ah))))))))),?_⟩
 refine⟨_,rfl,x,980,_,_,.int s.nxt,rfl,J.ax,T.ae,T.n,Ig,?_⟩;refine⟨_,rfl,s.nxt,1,rfl,rfl,_,rfl,x,980,A.dx,_,rfl,J.ax,T.ae,T.n,by show 11<1000;decide,?_⟩;have w1:=J.K3 (n:=s.nxt+1);obtain⟨H1,e1⟩:∃ H1,upd H x (.ins 980 A.dx (cB "next_thing" (.int (s.nxt+1)) (atts A s)))=H1:=⟨_,rfl⟩;rw[e1]at w1;show tq _ _ _ _ (upd H x (.ins 980 A.dx (cB "next_thing" (.int (s.nxt+1)) (atts A s))));rw[e1];clear e1;obtain⟨J1,F1⟩:=w1;refine⟨by show 1≤sizeLine;decide,λp hp=>⟨_,rfl,p,n,_,rfl,rfl,ab,by omega,by omega,gC (by show 1*n.toNat≤20000;omega),λq hq=>?_⟩⟩;rw[CC];have s2:aq H1 (upd H1 p (.lst [.non])):=aq.upd hp;have J2:=J1.same s2;have w2:=J2.Io (t:=s.nxt) (xs:=List.replicate n.toNat .non) (ws:=List.replicate n.toNat .no) hq G.BM Rel.nil;obtain⟨J3,F3⟩:=w2;have J2':=J2.same (aq.upd (o:=.lst (List.replicate n.toNat .non)) hq);have vn:cC (s.aG.map (fkv A)) (Sum.inl s.nxt)=none:=by
  rw[AV];cases e:s.aG.lookup s.nxt with
  | none=>rfl
  | some w=>exact absurd (lookup_some e) (G.BM w)
 have dp:=jS.k (k:=Sum.inl s.nxt) (v:=.ref q) J2'.afh (by rw[Lp];exact eO (LL G.few (by decide)));rw[show putK ((({s with nxt:=s.nxt+1}:HS).aG).map (fkv A)) (Sum.inl s.nxt) (.ref q)=s.aG.map (fkv A)++[(Sum.inl s.nxt,.ref q)] from AX vn]at dp;refine⟨_,rfl,x,980,_,_,.ref A.fh,rfl,J2'.ax,T.ae,T.n,ir,_,rfl,A.fh,_,rfl,dp,?_⟩;have F03:=(F1.trans (Fr.same s2)).trans F3;obtain⟨A3,eA⟩:∃ A3:HA,{A with fa:=λu=>if u=s.nxt then q else A.fa u,fx:=λu=>if u=s.nxt then List.replicate n.toNat V.non else A.fx u}=A3:=⟨_,rfl⟩;obtain⟨H3,e3⟩:∃ H3,upd (upd (upd H1 p (.lst [.non])) q (.lst (List.replicate n.toNat .non))) A.fh (.dK (s.aG.map (fkv A)++[(Sum.inl s.nxt,.ref q)]))=H3:=⟨_,rfl⟩;have J3:IH H3 x A3 {s with nxt:=s.nxt+1,aG:=s.aG++[(s.nxt,List.replicate n.toNat .no)]}:=by rw[←e3,←eA];exact J3
 have F03:Fr (aV x A s) H (aV x A3 {s with nxt:=s.nxt+1,aG:=s.aG++[(s.nxt,List.replicate n.toNat .no)]}) H3:=by rw[←e3,←eA];exact F03
 show tq _ _ _ _ (upd (upd (upd H1 p (.lst [.non])) q (.lst (List.replicate n.toNat .non))) A.fh (.dK (s.aG.map (fkv A)++[(Sum.inl s.nxt,.ref q)])));rw[e3];clear e3 eA dp J2';have fin:∀(A4:HA) (H4:Hp) (ys:List Int),IH H4 x A4 {s with nxt:=s.nxt+1,aG:=s.aG++[(s.nxt,List.replicate n.toNat .no)],yng:=ys}→Fr (aV x A s) H (aV x A4 {s with nxt:=s.nxt+1,aG:=s.aG++[(s.nxt,List.replicate n.toNat .no)],yng:=ys}) H4→(if s.my=true then s.yng++[s.nxt] else s.yng)=ys→∀(t:Addr) (H5:Hp),aq H4 H5→H5 t=some (.tup [.str "thing",.int s.nxt])→xm [.ref A4.hd,.int h,.ref t] H5 (λ_ H'=>Q .non H') E:=by
  intro A4 H4 ys J4 F4 ey t H5 s5 ht;have J5:=J4.same s5;refine⟨A4.hd,A4.hdx,A4.hl,A4.hx,s.aM,.ref t,h,rfl,⟨J5.ahd,J5.ahl,J5.rhl,G.h8⟩,Sm.of (by omega) (by omega),?_⟩;rw[if_pos c];have w:=J5.za (J5.rhl.set (i:=h.toNat) (show WV H5 (.ref t) (.th s.nxt) from⟨t,rfl,ht⟩));have e:vP s h n={s with nxt:=s.nxt+1,aG:=s.aG++[(s.nxt,List.replicate n.toNat .no)],yng:=ys,aM:=s.aM.set h.toNat (.th s.nxt)}:=by unfold vP;rw[ey]
  rw[e]at k;exact k _ _ w.1 ((F4.trans (Fr.same s5)).trans w.2)
 refine⟨_,rfl,x,980,_,_,_,rfl,J3.ax,T.ae,T.n,DK,_,rfl,?_⟩;by_cases my:s.my=true
 ·refine iw my ⟨_,rfl,x,980,_,_,_,rfl,J3.ax,T.ae,T.n,vI,_,rfl,A3.yg,_,rfl,jS.k (k:=Sum.inl s.nxt) J3.ayg (by rw[Lp];exact eO (LL (show s.yng.length≤10000 from qV G) (by decide))),?_⟩
  have vy:cC (s.yng.map tkv) (Sum.inl s.nxt)=none:=by
   have:=Jb (ts:=s.yng) (t:=s.nxt)
   rw[decide_eq_false (λm=>by obtain⟨ws,m⟩:=G.yk _ m;exact G.BM ws m)]at this;cases q:cC (s.yng.map tkv) (Sum.inl s.nxt) with
   | none=>rfl
   | some v=>rw[q]at this;cases this
  have w4:=J3.K2 (ts:=s.yng++[s.nxt]);rw[LA]at w4;rw[show putK ((({s with nxt:=s.nxt+1,aG:=s.aG++[(s.nxt,List.replicate n.toNat .no)]}:HS).yng).map tkv) (Sum.inl s.nxt) (.bl true)=s.yng.map tkv++[s.nxt].map tkv from AX vy];obtain⟨J4,F4⟩:=w4;refine⟨_,rfl,x,980,_,_,_,rfl,J4.ax,T.ae,T.n,gY,A3.hd,A3.hdx,_,rfl,J4.ahd,rfl,_,rfl,_,rfl,s.nxt,rfl,G.n0,λt H5 s5 ht=>?_⟩;exact fin _ _ _ J4 (F03.trans F4) (by rw[if_pos my]) t H5 s5 ht
 ·refine b7 (L7.mpr my) ?_
  refine⟨_,rfl,x,980,_,_,_,rfl,J3.ax,T.ae,T.n,gY,A3.hd,A3.hdx,_,rfl,J3.ahd,rfl,_,rfl,_,rfl,s.nxt,rfl,G.n0,λt H5 s5 ht=>?_⟩;exact fin _ _ _ J3 F03 (by rw[if_neg my]) t H5 s5 ht
def Ab:Sp:=λvs H Q E=>∃ x A s,∃ h w:Int,vs=[.ref x,.int h,.int w]∧IH H x A s∧Good s∧Sm h∧Sm w∧(if ok8 h then(if ok8 w then ∀ A' H',IH H' x A' (g9 s h (nmW (s.names.getD w.toNat none)))→Fr (aV x A s) H (aV x A' (g9 s h (nmW (s.names.getD w.toNat none)))) H'→Q (nmV (s.names.getD w.toNat none)) H' else Bad 84 H E) else Bad 65 H E)
abbrev k8:List Str:=["self", "h", "w", "t"]
theorem fe:ar k8 ["self", "h", "w"] (ao fU):=fsc
theorem j9(T:Txt w K mg):Ok P w K mg base 5 745 ["self", "h", "w"] (Ab):=by
 refine T.o3 "Heap.read_thing" fe λcdv A' outer s' H vs Q E hr h=>?_;obtain⟨x,A,s,h,w,rfl,J,G,hh,hw,k⟩:=h;refine⟨_,(af (au ((bw T).c hr px (aa (pv 1) ah)))
  (af (aw (i:=3) fe.nd rfl (Or.inl rfl) ((j8 T).m T.bL hr (aE (pv 0) rfl) px (aa (pv 2) ah)))
  (af (au ((eT T).m T.aP hr (aE (pv 0) rfl) px (aa (pv 1) (aa (jr (az tN (pv 3) bH (aF _)) bH ((fA T).c hr px (aa (pv 3) ah))) ah))))
  (ag (aA (pv 3)))))),?_⟩
 refine⟨_,rfl,h,rfl,hh,?_⟩;by_cases c:ok8 h
 ·rw[if_pos c]at k ⊢
  refine⟨_,rfl,x,980,_,_,.ref A.nt,rfl,J.ax,T.ae,T.n,BJ,A.nt,A.ntx,_,rfl,J.ant,rfl,_,rfl,A.nt,A.ntx,A.nl,_,w,rfl,J.ntb G,hw,?_⟩;by_cases c2:ok8 w
  ·rw[if_pos c2]at k ⊢
   intro v hv;have hi:w.toNat<s.names.length:=(by rw[G.n8];omega);rw[Lz,Ls hi]at hv;obtain rfl:nmV s.names[w.toNat]=v:=LS hv;have gd:s.names.getD w.toNat none=s.names[w.toNat]:=(by simp[List.getD,hi]);rw[gd]at k;have mm:s.names[w.toNat]∈s.names:=Mb hi;obtain⟨z,ez⟩:∃ z,s.names[w.toNat]=z:=⟨_,rfl⟩;rw[ez]at k mm ⊢;refine⟨_,rfl,x,980,_,_,.ref A.hd,rfl,J.ax,T.ae,T.n,gY,A.hd,A.hdx,_,rfl,J.ahd,rfl,_,rfl,?_⟩;cases z with
   | none =>
    refine⟨_,rfl,rfl,_,rfl,aH (λ_=>?_) (λh=>absurd (by simp[nmV]) h)⟩;refine⟨A.hd,A.hdx,A.hl,A.hx,s.aM,.non,h,rfl,J.hn G,hh,?_⟩;rw[if_pos c];exact⟨_,rfl,let w:=J.za (J.rhl.set (i:=h.toNat) (show WV H .non .no from rfl));k _ _ w.1 w.2⟩
   | some t =>
    obtain⟨ws,m⟩:=G.nn t mm;refine⟨_,rfl,rfl,_,rfl,aH (λh=>by simp[nmV]at h) (λ_=>?_)⟩;refine⟨_,rfl,t,rfl,(G.lt _ _ m).1,λp H1 s1 hp=>?_⟩;have J1:=J.same s1;refine⟨A.hd,A.hdx,A.hl,A.hx,s.aM,.ref p,h,rfl,J1.hn G,hh,?_⟩;rw[if_pos c];exact⟨_,rfl,let w:=J1.za (J1.rhl.set (i:=h.toNat) (show WV H1 (.ref p) (.th t) from⟨p,rfl,hp⟩));k _ _ w.1 ((Fr.same s1).trans w.2)⟩
  ·rw[if_neg c2]at k ⊢
   exact k
 ·rw[if_neg c]at k ⊢
  exact k
def Ac:Sp:=λvs H Q E=>∃ x A s d kvs ts,vs=[.ref x,.ref d]∧IH H x A s∧Good s∧H d=some (.dK kvs)∧kvs.map (·.1)=ts.map Sum.inl∧(∀ t∈ts,∃ ws,(t,ws)∈s.aG)∧ts.length≤10000∧∀ H',aq H H'→Q (.int (wsum s ts)) H'
abbrev fg:List Str:=["self", "things"]
theorem jx:ar fg ["self", "things"] (ao cU):=fsc
theorem eJ(T:Txt w K mg):Ok P w K mg base 4 790 ["self", "things"] (Ac):=by
 refine T.o2 "Heap.words_among" jx λcdv A' outer s' H vs Q E hr h=>?_;obtain⟨x,A,s,d,kvs,ts,rfl,J,G,hd,hk,ht,hz,k⟩:=h;have hu:=bX hr;refine⟨_,(ag (aA (AS (aK (yu rfl) rfl T.z PyProof.Rows.Boot.«sum» (aa (cO (cl:=[("self",s'.heap.objs.size+1)]) (x := "t") (idx:=[0]) (NC:=["t", "self"]) ?co1 rfl (dj (eN (pv 1))) (λC fp s₀ H₀=>((oe T).c hr kz (aa (aK (yx rfl) rfl T.z PyProof.Rows.Boot.«len» (aa (bU hu (Cp rfl (pv 1) rfl) (pv 0) (λ_ _=>rfl)) ah)) ah)))) ah))))),?_⟩
 case co1 =>
  exact bP (sc:=ao cU) (N:=fg) (ns:=["self"]) rfl rfl rfl (by decide +kernel) rfl rfl (by
   intro q hq;rw[Lr.mp hq];rfl)
 have lk:kvs.length=ts.length:=by have:=congrArg List.length hk;simpa using this
 refine⟨_,rfl,d,kvs,hd,λo=>?_⟩;refine⟨d,o,kvs,rfl,ab,λL hL=>?_⟩;obtain⟨Hf,ef⟩:∃ Hf,upd H d (.frz o (.dK kvs))=Hf:=⟨_,rfl⟩;rw[ef]at hL ⊢;have fd:Hf d=some (.frz o (.dK kvs)):=by rw[←ef];exact ab
 have fo:∀ b u,b≠d→H b=some u→Hf b=some u:=λb u n q=>by rw[←ef,ak n];exact q
 have xd:x≠d:=bI J.ax hd (by intro z;cases z);have dg:∀ {Hc:Hp},aq Hf Hc→∀ {t:Int} {ws:List Wd},(t,ws)∈s.aG→eG Hc A.fh (.int t) (some (.ref (A.fa t))):=λ{Hc} sc {t ws} m=>by
  have e:cC (s.aG.map (fkv A)) (Sum.inl t)=some (.ref (A.fa t)):=by rw[AV,G.get m];rfl
  by_cases c:A.fh=d
  ·have ek:kvs=s.aG.map (fkv A):=by
    have:=J.afh
    rw[c,hd]at this;injection this with this;injection this
   exact .inl ⟨kvs,Sum.inl t,.inr ⟨o,by rw[c];exact sc _ _ fd⟩,rfl,by rw[ek,e]⟩
  ·exact .inl ⟨_,Sum.inl t,.inl (sc _ _ (fo _ _ c J.afh)),rfl,e.symm⟩
 refine rR (d:=d) (o:=o) (kvs:=kvs) (λi ys Hc=>ys=((ts.take i).map λt=>V.int (((fld s t).length:Int)+1))∧aq Hf Hc∧Hc L=some (.lst ys)) ⟨rfl,aq.upd hL,ab⟩ (λi ys Hc hi ⟨e,_,z⟩=>⟨z,by rw[e,Lp,LM];omega⟩) (λi ys Hc _ ⟨_,sc,_⟩=>sc _ _ fd) (gC (by omega)) (λi p ys Hc hi ⟨e,sc,z⟩=>?_) (λys Hc ⟨e,sc,z⟩=>?_)
 ·have hik:i<kvs.length:=(Lq.mp hi).1
  have hit:i<ts.length:=by omega
  have ep:p.1=Sum.inl ts[i]:=by
   have h1:=congrArg (λl=>l[i]?) hk;simp only[Lz,hi,Ls hit,Nm,Option.some.injEq]at h1;exact h1
  have hkv:kV p.1=.int ts[i]:=by rw[ep];rfl
  obtain⟨t,et⟩:∃ t,ts[i]=t:=⟨_,rfl⟩;obtain⟨ws,m⟩:=ht t (by rw[←et];exact Mb hit);have fm:=G.fld m;obtain⟨hl,rl⟩:=J.afl _ _ m;have f6:=G.f6 _ _ m;have ln:=rl.1;have nld:A.fa t≠d:=bI hl hd (by intro z;cases z);have hlc:=sc _ _ (fo _ _ nld hl);refine⟨_,rfl,x,980,_,_,.ref A.fh,rfl,sc _ _ (fo _ _ xd J.ax),T.ae,T.n,ir,_,rfl,A.fh,.ref (A.fa t),rfl,(by rw[hkv,et];exact dg sc m),A.fa t,_,rfl,.inl (SqL.of hlc),((A.fx t).length:Int),rfl,Sm.of (by omega) (by omega),?_⟩;rw[if_pos ⟨by omega,by omega⟩];refine⟨z,?_,λb u q=>by rw[ak (ai q hL)];exact sc b u q,ab⟩;rw[e,LI hit,LA,et];simp only[L1,ML];rw[fm,ln]
 ·rw[lk,LF (Lu _)]at e
  refine⟨L,ts.map λt=>((fld s t).length:Int)+1,rfl,SqL.of (by rw[z,e,LO];rfl),d,o,kvs,sc _ _ fd,(λo' u' z=>by have z:H d=some (.frz o' u'):=z;rw[hd]at z;cases z),?_⟩;refine k _ λb u q=>?_;by_cases c:b=d
  ·subst c
   rw[hd]at q;cases q;exact ab
  ·rw[ak c]
   exact sc _ _ (fo _ _ c q)
def CD:Sp:=λvs H Q E=>∃ x A s,vs=[.ref x]∧IH H x A s∧Good s∧∀ H',aq H H'→Q (.int (held s)) H'
abbrev mT:List Str:=["self"]
theorem lb:ar mT ["self"] (ao gO):=fsc
theorem lg(T:Txt w K mg):Ok P w K mg base 5 879 ["self"] (CD):=by
 refine T.o1 "IdealHeap.held" lb λcdv A' outer s' H vs Q E hr h=>?_;obtain⟨x,A,s,rfl,J,G,k⟩:=h;refine⟨_,(ag (aA ((eJ T).m T.ae hr (pv 0) px (aa (aE (pv 0) rfl) ah)))),?_⟩;exact⟨_,rfl,x,_,_,rfl,J.ax,(by kernel_rfl),_,rfl,x,980,_,_,.ref A.fh,rfl,J.ax,T.ae,T.n,ir,x,A,s,A.fh,_,keys s,rfl,J,G,J.afh,by rw[LO];unfold keys;rw[LO];rfl,(λt m=>by obtain⟨p,hp,rfl⟩:=LH.mp m;exact⟨p.2,hp⟩),by unfold keys;rw[Lp];exact G.few,k⟩
end
section
variable{P:Program}{w:World}{K:W.Frag}{mg:Str→Option Value}{base:Heap}
theorem yA{F F':Addr→Prop}{H:Hp}{p b:Addr}{u o o':HO}(hp:H p=none)(f:F b)(hb:H b=some u)(n:∀ xs,u≠.tup xs)(g:∀ c,F' c→F c∨c=p):Fr F H F' (upd (upd H p o) b o') where
 ext:=λc v nf q=>by rw[ak λe=>nf (by rw[e];exact f),ak (ai q hp)];exact q
 grow:=λc f'=>(g c f').imp id λe=>by rw[e];exact hp
 all:=λc v q=>by
  by_cases e:c=b
  ·exact⟨o',by rw[e];exact ab⟩
  ·exact⟨v,by rw[ak e,ak (ai q hp)];exact q⟩
 tup:=(cN.of (aq.upd hp)).trans (cN.set (aq.upd hp _ _ hb) n)
section
variable{H H':Hp}{x:Addr}{A A':HA}{s s':HS}
theorem IH.nw(J:IH H x A s)(i k:Cl)(ik:i≠k){v w:HO}{p:Addr}(hp:H p=none)(ek:cad x A' k=p)(ea:∀ j,j≠k→cad x A' j=cad x A j)(ef:A'.fa=A.fa)(ex:A'.fx=A.fx)(hv:cob A' s' i=v)(hw:cob A' s' k=w)(ho:∀ j,j≠i→j≠k→cob A' s' j=cob A s j)(fs:s'.aG=s.aG)(rh:Rel H A'.hx s'.aM) :
  IH (upd (upd H p w) (cad x A i) v) x A' s'∧Fr (aV x A s) H (aV x A' s') (upd (upd H p w) (cad x A i) v):=by
 have s1:aq H (upd H p w):=aq.upd hp;have nf:∀ b,aV x A s b→b≠p:=λb f e=>J.fresh hp (e ▸ f);have fr:=yA (o:=w) (o':=v) (F:=aV x A s) (F':=aV x A' s') hp (.c i) (J.c i) tT (λc f=>by
  cases f with
  | c j =>
   by_cases e:j=k
   ·rw[e];exact .inr ek
   ·rw[ea j e];exact .inl (.c j)
  | fl m=>rw[ef];exact .inl (.fl (by rw[←fs];exact m)))
 refine⟨⟨λj=>?_,λa b e=>?_,rh.keep fr.tup,λt ws m=>?_,λt ws m j=>?_,λt ws u vs m m' e=>?_⟩,fr⟩
 ·by_cases e:j=k
  ·rw[e,ek,ak (L4 (nf _ (.c i))),ab,hw]
  ·rw[ea j e]
   by_cases e2:j=i
   ·rw[e2,ab,hv]
   ·rw[ak λz=>e2 (J.n _ _ z),s1 _ _ (J.c j),ho j e2 e]
 ·by_cases c:a=k
  ·by_cases d:b=k
   ·rw[c,d]
   ·rw[c,ek,ea b d]at e
    exact absurd e.symm (nf _ (.c b))
  ·rw[ea a c]at e
   by_cases d:b=k
   ·rw[d,ek]at e
    exact absurd e (nf _ (.c a))
   ·rw[ea b d]at e
    exact J.n _ _ e
 ·rw[fs]at m
  rw[ef,ex,ak (J.l4 _ _ m i),s1 _ _ (J.afl _ _ m).1];exact⟨rfl,(J.afl _ _ m).2.keep fr.tup⟩
 ·rw[fs]at m
  rw[ef];by_cases e:j=k
  ·rw[e,ek];exact nf _ (.fl m)
  ·rw[ea j e];exact J.l4 _ _ m j
 ·rw[fs]at m m'
  rw[ef]at e;exact J.l5 _ _ _ _ m m' e
theorem IH.K6(J:IH H x A s){p:Addr}(hp:H p=none):IH (upd (upd H p (.dK [])) x (.ins 980 A.dx (cB "young_things" (.ref p) (atts A s)))) x {A with yg:=p} {s with yng:=[]}∧Fr (aV x A s) H (aV x {A with yg:=p} {s with yng:=[]}) (upd (upd H p (.dK [])) x (.ins 980 A.dx (cB "young_things" (.ref p) (atts A s)))) :=
 J.nw .x .yg (λz=>nomatch z) hp rfl (by intro j h;cases j<;>first|rfl|exact absurd rfl h) rfl rfl (by rw[Il];rfl) rfl (by intro j h1 h2;cases j<;>first|rfl|exact absurd rfl h1|exact absurd rfl h2) rfl J.rhl
theorem IH.K7(J:IH H x A s){p:Addr}(hp:H p=none):IH (upd (upd H p (.dK [])) x (.ins 980 A.dx (cB "doomed_things" (.ref p) (atts A s)))) x {A with dm:=p} {s with bc:=[]}∧Fr (aV x A s) H (aV x {A with dm:=p} {s with bc:=[]}) (upd (upd H p (.dK [])) x (.ins 980 A.dx (cB "doomed_things" (.ref p) (atts A s)))) :=
 J.nw .x .dm (λz=>nomatch z) hp rfl (by intro j h;cases j<;>first|rfl|exact absurd rfl h) rfl rfl (by rw[Im];rfl) rfl (by intro j h1 h2;cases j<;>first|rfl|exact absurd rfl h1|exact absurd rfl h2) rfl J.rhl
theorem IH.K8(J:IH H x A s){ns:List (Option Int)}{p:Addr}(hp:H p=none):IH (upd (upd H p (.lst (ns.map nmV))) A.nt (.ins 671 A.ntx [("things_named",.ref p)])) x {A with nl:=p} {s with names:=ns}∧Fr (aV x A s) H (aV x {A with nl:=p} {s with names:=ns}) (upd (upd H p (.lst (ns.map nmV))) A.nt (.ins 671 A.ntx [("things_named",.ref p)])) :=
 J.nw .nt .nl (λz=>nomatch z) hp rfl (by intro j h;cases j<;>first|rfl|exact absurd rfl h) rfl rfl rfl rfl (by intro j h1 h2;cases j<;>first|rfl|exact absurd rfl h1|exact absurd rfl h2) rfl J.rhl
def qe(fs:List (Int×List Wd))(t:Int):List (Int×List Wd):=fs.filter λp=>decide (p.1≠t)
theorem CF{fs:List (Int×List Wd)}{A:HA}{t:Int}:iQ (fs.map (fkv A)) (Sum.inl t)=(qe fs t).map (fkv A):=by
 unfold iQ qe;rw[NA];congr 1
 refine Mv λp _=>?_;show decide (Sum.inl p.1≠(Sum.inl t:Key))=decide (p.1≠t);simp
theorem IH.Ip(J:IH H x A s){t:Int}:IH (upd H A.fh (.dK ((qe s.aG t).map (fkv A)))) x A {s with aG:=qe s.aG t}∧Fr (aV x A s) H (aV x A {s with aG:=qe s.aG t}) (upd H A.fh (.dK ((qe s.aG t).map (fkv A)))) :=
 J.wr .fh (λ_=>rfl) rfl rfl rfl (by intro j h;cases j<;>first|rfl|exact absurd rfl h) (λp m=>(Mj.mp m).1) J.rhl
end
inductive Led(rs:List Wd)(F:Int→List Wd)(S:List Int):Int→Prop where
 | root {t:Int}:Wd.th t∈rs→t∈S→Led rs F S t
 | step {u t:Int}:Led rs F S u→Wd.th t∈F u→t∈S→Led rs F S t
theorem Led.mem{rs:List Wd}{F:Int→List Wd}{S:List Int}{t:Int}(h:Led rs F S t):t∈S:=by cases h<;>assumption
def amg(S:List Int):Wd→Option Int
 | .th t=>if t∈S then some t else none
 | _=>none
theorem hW{S:List Int}{w:Wd}{t:Int}:amg S w=some t↔w=.th t∧t∈S:=by
 cases w with
 | no=>exact⟨(λh=>by cases h),(λh=>by cases h.1)⟩
 | num n=>exact⟨(λh=>by cases h),(λh=>by cases h.1)⟩
 | th u =>
  show(if u∈S then some u else none)=some t↔_;by_cases c:u∈S
  ·rw[if_pos c]
   exact⟨(λh=>by cases h;exact⟨rfl,c⟩),(λh=>by cases h.1;rfl)⟩
  ·rw[if_neg c]
   exact⟨(λh=>by cases h),(λh=>by cases h.1;exact absurd h.2 c)⟩
inductive Rc(rs:List (Option Int))(F:Int→List (Option Int)):Int→Prop where
 | root {t:Int}:some t∈rs→Rc rs F t
 | step {u t:Int}:Rc rs F u→some t∈F u→Rc rs F t
theorem EC{rs:List Wd}{F:Int→List Wd}{S:List Int}{t:Int}:Rc (rs.map (amg S)) (λu=>(F u).map (amg S)) t↔Led rs F S t:=by
 constructor
 ·intro h
  induction h with
  | root m =>
   obtain⟨w,mw,e⟩:=LH.mp m;obtain⟨rfl,c⟩:=hW.mp e;exact .root mw c
  | step _ m ih =>
   obtain⟨w,mw,e⟩:=LH.mp m;obtain⟨rfl,c⟩:=hW.mp e;exact .step ih mw c
 ·intro h
  induction h with
  | root m c=>exact .root (LH.mpr ⟨_,m,hW.mpr ⟨rfl,c⟩⟩)
  | step _ m c ih=>exact .step ih (LH.mpr ⟨_,m,hW.mpr ⟨rfl,c⟩⟩)
theorem hX:∀ {ms ks:List Int},ms.Nodup→(∀ m∈ms,m∈ks)→ms.length≤ks.length
 | [],_,_,_=>L8 _
 | a::r,ks,nd,h=>by
  rw[Mw]at nd;have ha:=h a LR
  have:=hX (ms:=r) (ks:=ks.erase a) nd.2 λm hm=>(List.mem_erase_of_ne (λe=>nd.1 (by rw[←e];exact hm))).mpr (h m (LU _ hm))
  rw[List.length_erase_of_mem ha]at this
  have:0<ks.length:=List.length_pos_of_mem ha
  rw[Ma];omega
def Kys(kvs:List (Key×V))(ms:List Int):Prop:=kvs.map (·.1)=ms.map Sum.inl
theorem Kys.len{kvs:List (Key×V)}{ms:List Int}(k:Kys kvs ms):kvs.length=ms.length:=by have:=congrArg List.length k;simpa using this
theorem Kys.isS{kvs:List (Key×V)}{ms:List Int}(k:Kys kvs ms){t:Int}:(cC kvs (Sum.inl t)).isSome=decide (t∈ms):=by
 induction kvs generalizing ms with
 | nil=>cases ms with
  | nil=>rfl
  | cons a r=>cases k
 | cons p r ih=>cases ms with
  | nil=>cases k
  | cons a ms =>
   unfold Kys at k;rw[L1,L1]at k;injection k with k1 k2;by_cases e:a=t
   ·subst e
    rw[eE k1];simp
   ·rw[eF (λz=>e (Sum.inl.inj (k1.symm.trans z))),ih k2]
    have:(t∈a::ms)↔t∈ms:=by
     rw[LQ];exact⟨λh=>h.elim (λz=>absurd z.symm e) id,.inr⟩
    simp only[this]
theorem Kys.non{kvs:List (Key×V)}{ms:List Int}(k:Kys kvs ms){t:Int}(h:t∉ms):cC kvs (Sum.inl t)=none:=by
 have:=k.isS (t:=t)
 rw[decide_eq_false h]at this;cases q:cC kvs (Sum.inl t) with
 | none=>rfl
 | some v=>rw[q]at this;cases this
theorem Kys.snoc{kvs:List (Key×V)}{ms:List Int}(k:Kys kvs ms){t:Int}{v:V}(h:t∉ms):Kys (putK kvs (Sum.inl t) v) (ms++[t]):=by
 rw[dM v (k.non h)];unfold Kys at k ⊢;rw[LA,LA,k];rfl
theorem Kys.at_{kvs:List (Key×V)}{ms:List Int}(k:Kys kvs ms){i:Nat}{p:Key×V}(h:kvs[i]?=some p):∃ t,ms[i]?=some t∧kV p.1=.int t∧p.1=Sum.inl t:=by
 have h1:=congrArg (λl=>l[i]?) k;simp only[Lz,h,Nm]at h1;obtain⟨t,e1,e2⟩:=LG.mp h1.symm;exact⟨t,e1,by rw[←e2];rfl,e2.symm⟩
theorem qf(ts:List Int):Kys (ts.map tkv) ts:=by unfold Kys;rw[LO];rfl
theorem yV(s:HS)(A:HA):Kys (s.aG.map (fkv A)) (keys s):=by unfold Kys keys;rw[LO,LO];rfl
def drG(fs:List (Int×List Wd))(gs:List Int):List (Int×List Wd):=fs.filter λp=>decide (p.1∉gs)
def nmG(gs:List Int)(n:Option Int):Option Int:=match n with|none=>none|some t=>if t∈gs then none else some t
def brG(bs:List (Int×Int))(gs:List Int):List (Int×Int):=bs.filter λp=>decide (p.1∉gs)
def sdG(bs:List (Int×Int))(gs:List Int):List Int:=gs.filterMap λt=>bs.lookup t
def letGo(s:HS)(gs:List Int):HS:={s with aG:=drG s.aG gs,names:=s.names.map (nmG gs),aS:=brG s.aS gs,iN:=s.iN++sdG s.aS gs}
theorem cQ{fs:List (Int×List Wd)}{gs:List Int}{t:Int}{ws:List Wd}:(t,ws)∈drG fs gs↔(t,ws)∈fs∧t∉gs:=by unfold drG;rw[Mj];simp
theorem Ad{fs:List (Int×List Wd)}{gs:List Int}{t:Int}:drG fs (gs++[t])=qe (drG fs gs) t:=by
 unfold drG qe;rw[List.filter_filter];refine Mv λp _=>?_;simp[LB,not_or,Bool.and_comm]
theorem xo{fs:List (Int×List Wd)}:drG fs []=fs:=by unfold drG;simp
theorem uX{bs:List (Int×Int)}{gs:List Int}{t:Int}:brG bs (gs++[t])=(brG bs gs).filter λp=>decide (p.1≠t):=by
 unfold brG;rw[List.filter_filter];refine Mv λp _=>?_;simp[LB,not_or,Bool.and_comm]
theorem vQ{bs:List (Int×Int)}{gs:List Int}{t:Int}(h:t∉gs):(brG bs gs).lookup t=bs.lookup t:=by
 unfold brG;induction bs with
 | nil=>rfl
 | cons p r ih =>
  obtain⟨a,b⟩:=p;rw[List.filter_cons];by_cases c:a∈gs
  ·rw[if_neg (by simpa using c),ih,Mx]
   rw[show(t == a)=false from beq_eq_false_iff_ne.mpr λe=>h (by rw[e];exact c)]
  ·rw[if_pos (by simpa using c),Mx,Mx,ih]
theorem CG{bs:List (Int×Int)}{t:Int}:iQ (bs.map bkv) (Sum.inl t)=(bs.filter λp=>decide (p.1≠t)).map bkv:=by
 unfold iQ;rw[NA];congr 1
 refine Mv λp _=>?_;show decide (Sum.inl p.1≠(Sum.inl t:Key))=decide (p.1≠t);simp
theorem filter_none{bs:List (Int×Int)}{t:Int}(h:bs.lookup t=none):(bs.filter λp=>decide (p.1≠t))=bs:=List.filter_eq_self.mpr λp hp=>by simpa using lookup_none h p hp
theorem uY{bs:List (Int×Int)}{gs:List Int}{t:Int}:sdG bs (gs++[t])=sdG bs gs++(match bs.lookup t with|some v=>[v]|none=>[]):=by
 unfold sdG;rw[List.filterMap_append];congr 1
 cases e:bs.lookup t with
 | none=>simp[e]
 | some v=>simp[e]
end
section
variable{P:Program}{w:World}{K:W.Frag}{mg:Str→Option Value}{base:Heap}
structure Wk(H H4:Hp)(st mt:Addr)(rs:List (Option Int))(F:Int→List (Option Int))(S:List Int)(kvs:List (Key×V))(ms:List Int):Prop where
 sm:aq H H4
 hs:H4 st=some (.dK kvs)
 ky:Kys kvs ms
 nd:ms.Nodup
 sub:∀ m∈ms,m∈S
 snd:∀ m∈ms,Rc rs F m
 hm:H4 mt=some (.lst (ms.map V.int))
 rts:∀ t,some t∈rs→t∈ms
theorem Wk.same{H H4 H5:Hp}{st mt:Addr}{rs:List (Option Int)}{F:Int→List (Option Int)}{S:List Int}{kvs:List (Key×V)}{ms:List Int}(w:Wk H H4 st mt rs F S kvs ms)(k:aq H4 H5):Wk H H5 st mt rs F S kvs ms :=
 ⟨w.sm.trans k,k _ _ w.hs,w.ky,w.nd,w.sub,w.snd,k _ _ w.hm,w.rts⟩
theorem Wk.put{H H4:Hp}{st mt:Addr}{rs:List (Option Int)}{F:Int→List (Option Int)}{S:List Int}{kvs:List (Key×V)}{ms:List Int}(w:Wk H H4 st mt rs F S kvs ms)(h1:H st=none)(h2:H mt=none){n:Int}{v:V}(hn:n∉ms)(hS:n∈S)(hr:Rc rs F n) :
  Wk H (upd (upd H4 st (.dK (putK kvs (Sum.inl n) v))) mt (.lst (ms.map V.int++[.int n]))) st mt rs F S (putK kvs (Sum.inl n) v) (ms++[n]):=by
 have ne:st≠mt:=bI w.hs w.hm (by intro z;cases z);refine⟨λb u q=>?_,?_,w.ky.snoc hn,?_,λm h=>?_,λm h=>?_,?_,λt h=>LW _ (w.rts t h)⟩
 ·rw[ak (ai q h2),ak (ai q h1)]
  exact w.sm b u q
 ·rw[ak ne]
  exact ab
 ·rw[Mq]
  exact⟨w.nd,by simp,λa ha b hb=>by rw[Lr.mp hb];exact λe=>hn (by rw[←e];exact ha)⟩
 ·rcases LB.mp h with g|g
  ·exact w.sub m g
  ·rw[Lr.mp g];exact hS
 ·rcases LB.mp h with g|g
  ·exact w.snd m g
  ·rw[Lr.mp g];exact hr
 ·rw[LA]
  exact ab
theorem Ae{ms:List Int}{n:Int}(nd:ms.Nodup)(hn:n∉ms):(ms++[n]).Nodup:=by
 rw[Mq];exact⟨nd,by simp,λa ha b hb=>by rw[Lr.mp hb];exact λe=>hn (by rw[←e];exact ha)⟩
theorem ED{rs:List (Option Int)}{F:Int→List (Option Int)}{ms:List Int}(h0:∀ t,some t∈rs→t∈ms)(h1:∀ u∈ms,∀ t,some t∈F u→t∈ms){t:Int}(h:Rc rs F t):t∈ms:=by
 induction h with
 | root m=>exact h0 _ m
 | step _ m ih=>exact h1 _ ih _ m
def Af:Sp:=λvs H Q _=>∃(v r d:Addr) (rs:List (Option Int)) (S:List Int) (F:Int→List (Option Int)) (ad:Int→Addr),vs=[.ref v]∧H v=some (.tup [.ref r,.ref d])∧H r=some (.lst (rs.map nmV))∧H d=some (.dK (S.map λt=>(Sum.inl t,.ref (ad t))))∧(∀ t∈S,H (ad t)=some (.lst ((F t).map nmV)))∧(∀ t,some t∈rs→t∈S)∧(∀ u∈S,∀ t,some t∈F u→t∈S)∧S.length≤10000∧∀ st kvs ms H',aq H H'→H st=none→H' st=some (.dK kvs)→Kys kvs ms→ms.Nodup→(∀ t,t∈ms↔Rc rs F t)→Q (.ref st) H'
abbrev sS:List Str:=["view", "steps", "place", "thing", "met", "done"]
theorem br:ar sS ["view"] (ao eS):=fsc
theorem qW(T:Txt w K mg):Ok P w K mg base 1 433 ["view"] (Af):=by
 refine T.o1 "last_steps" br λcdv A' outer s' H vs Q E hr h=>?_;obtain⟨v,r,d,rs,S,F,ad,rfl,ht,hrs,hd,jy,hrt,hcl,BX,k⟩:=h;have hu:=bX hr;refine⟨_,(PSs.nox (af (aw (i:=1) br.nd rfl (Or.inl rfl) bQ)
  (af (bq LP rfl (jW rfl T.z (aa (aD aB (pv 0) aj (λ_ _=>rfl)) ah)) (o6 rfl (cv (aL (i:=2) br.nd rfl (Or.inl rfl)) (cv (aL (i:=3) br.nd rfl (Or.inl rfl)) jM)))
   (ag (aO (PW.pt (pw_and (az gF (pv 3) bH (aF _)) (pw_and1 (cA (bo hu (pv 3) (pv 1)) (by with_unfolding_all rfl)))))
    (ag (bY hu (pv 1) (pv 3) (aX (aa bH (aa (pv 2) ah))) rfl))
    aC)))
  (af (aw (i:=4) br.nd rfl (Or.inl rfl) (cM (kA rfl) rfl T.z PyProof.Rows.Boot.«list» (aa (pv 1) ah)))
  (af (aw (i:=5) br.nd rfl (Or.inl rfl) aj)
  (af (qt LP (az kq (pv 5) (aK aU rfl T.z PyProof.Rows.Boot.«len» (aa (pv 4) ah)) (aF _))
   (af (bq LP rfl (jW rfl T.z (aa (bU hu (aD aB (pv 0) aj (λ_ _=>rfl)) (aD bE (pv 4) (pv 5) (λ_ _=>rfl)) (λ_ _=>rfl)) ah)) (o6 rfl (cv (aL (i:=2) br.nd rfl (Or.inl rfl)) (cv (aL (i:=3) br.nd rfl (Or.inl rfl)) jM)))
    (ag (aO (PW.pt (pw_and (az gF (pv 3) bH (aF _)) (pw_and1 (cA (bo hu (pv 3) (pv 1)) (by with_unfolding_all rfl)))))
     (af (bY hu (pv 1) (pv 3) (aX (aa (aD bE (pv 4) (pv 5) (λ_ _=>rfl)) (aa (pv 2) ah))) rfl)
     (ag (au (kr PySem.F.plainAttrs_list PySem.F.slot_list_append PySem.F.type_list_append cw (pv 4) (aa (pv 3) ah)))))
     aC)))
   (ag (AA (i:=5) br.nd rfl (Or.inl rfl) aj AB))))
  (ag (aA (pv 1))))))))),?_⟩
 refine λst hst=>?_;have s0:aq H (upd H st (.dK [])):=aq.upd hst;have kyS:Kys (S.map λt=>((Sum.inl t:Key),V.ref (ad t))) S:=by unfold Kys;rw[LO];rfl
 have dgS:∀ {Hc:Hp},aq H Hc→∀ {t:Int},t∈S→eG Hc d (.int t) (some (.ref (ad t))):=λ{Hc} sc {t} m=>by
  have e:cC (S.map λt=>((Sum.inl t:Key),V.ref (ad t))) (Sum.inl t)=some (.ref (ad t)):=by
   clear kyS BX hcl hrt jy hd;induction S with
   | nil=>cases m
   | cons a r ih =>
    rw[L1];by_cases c:a=t
    ·rw[eE (by show Sum.inl a=Sum.inl t;rw[c]),c]
    ·rw[eF (λz=>c (Sum.inl.inj z))]
     exact ih ((LQ.mp m).resolve_left λz=>c z.symm)
  exact .inl ⟨_,Sum.inl t,.inl (sc _ _ hd),rfl,e.symm⟩
 have few:∀ {kvs:List (Key×V)} {ms:List Int},Kys kvs ms→ms.Nodup→(∀ m∈ms,m∈S)→kvs.length<sizeLine:=λk nd h=>by rw[k.len];exact eO (LL (hX nd h) (by omega))
 refine⟨_,rfl,v,_,0,.ref r,rfl,rfl,SqT.of (s0 _ _ ht),rfl,r,rfl,⟨_,SqL.of (s0 _ _ hrs)⟩,hV (K:=K) (a:=r) (xs:=rs.map nmV) (λi σ H2=>∃(v2 v3:Option V) (kvs:List (Key×V)) (ms:List Int),σ=[some (.ref v),some (.ref st),v2,v3,none,none]∧aq H H2∧H2 st=some (.dK kvs)∧Kys kvs ms∧ms.Nodup∧(∀ m∈ms,m∈S)∧(∀ m∈ms,Rc rs F m)∧∀(j:Nat) t,j<i→rs[j]?=some (some t)→t∈ms)
  ⟨none,none,[],[],rfl,s0,ab,rfl,List.nodup_nil,(λt h=>nomatch h),(λt h=>nomatch h),(λj t h=>absurd h (MN _))⟩ (λi σ H2 _ ⟨_,_,_,_,_,s2,_⟩=>SqL.of (s2 _ _ hrs)) ?_ ?_⟩
 ·rintro i x σ H2 t hx ⟨v2,v3,kvs,ms,rfl,s2,hs,ky,nd,sub,snd,fN⟩ htt
  have hi:i<rs.length:=by have:=(Lq.mp hx).1;rwa[Lp]at this
  have ri:rs[i]?=some rs[i]:=Ls hi;have hxe:x=nmV rs[i]:=by
   rw[Lz,ri]at hx;exact(LS hx).symm
  subst hxe;have s3:aq H2 (upd H2 t (.tup [.int (i:Int),nmV rs[i]])):=aq.upd htt;refine⟨t,_,rfl,SqT.of ab,rfl,_,_,rfl,_,_,rfl,rfl,?_⟩;cases hc:rs[i] with
  | none =>
   rw[hc]at s3 ri;refine⟨_,rfl,rfl,_,rfl,b4 (b4 ⟨_,_,kvs,ms,rfl,s2.trans s3,s3 _ _ hs,ky,nd,sub,snd,λj t hj e=>?_⟩)⟩;rcases Mi j i with z|z
   ·exact fN j t z e
   ·rw[show j=i by omega,ri]at e
    cases e
  | some n =>
   rw[hc]at s3 ri;have mr:=LD ri;refine⟨_,rfl,rfl,_,rfl,cZ ⟨_,rfl,_,rfl,st,_,rfl,eG.k (k:=Sum.inl n) (s3 _ _ hs),_,rfl,?_⟩⟩;rw[ky.isS];by_cases hin:n∈ms
   ·rw[decide_eq_true hin]
    refine b4 ⟨_,_,kvs,ms,rfl,s2.trans s3,s3 _ _ hs,ky,nd,sub,snd,λj t hj e=>?_⟩;rcases Mi j i with z|z
    ·exact fN j t z e
    ·rw[show j=i by omega,ri]at e
     cases e;exact hin
   ·rw[decide_eq_false hin]
    refine cZ ⟨_,rfl,by show 2≤sizeLine;decide,λu hu'=>?_⟩;have s4:=aq.upd (o:=.tup [V.non,V.int (i:Int)]) hu';refine⟨_,rfl,_,rfl,st,_,rfl,jS.k (k:=Sum.inl n) (s4 _ _ (s3 _ _ hs)) (few ky nd sub),_,_,putK kvs (Sum.inl n) (.ref u),ms++[n],rfl,λc u' g=>by rw[ak (ai g hst)];exact s4 _ _ (s3 _ _ (s2 c u' g)),ab,ky.snoc hin,Ae nd hin,λm h=>?_,λm h=>?_,λj t hj e=>?_⟩
    ·rcases LB.mp h with g|g
     ·exact sub m g
     ·rw[Lr.mp g];exact hrt n mr
    ·rcases LB.mp h with g|g
     ·exact snd m g
     ·rw[Lr.mp g];exact .root mr
    ·rcases Mi j i with z|z
     ·exact LW _ (fN j t z e)
     ·rw[show j=i by omega,ri]at e
      cases e;exact LJ _ LR
 ·rintro σ H2 ⟨v2,v3,kvs,ms,rfl,s2,hs,ky,nd,sub,snd,fN⟩
  refine⟨_,rfl,st,_,ms,rfl,.inl hs,ky,λmt hmt=>?_⟩;have s3:=aq.upd (o:=.lst (ms.map V.int)) hmt;have Hd:H mt=none:=aq.none s2 hmt;refine⟨λm σ H4=>∃(dn:Nat) (v2 v3:Option V) (kvs:List (Key×V)) (ms:List Int),m=S.length+1-dn∧σ=[some (.ref v),some (.ref st),v2,v3,some (.ref mt),some (.int (dn:Int))]∧Wk H H4 st mt rs F S kvs ms∧(∀ u∈ms.take dn,∀ t,some t∈F u→t∈ms)∧dn≤ms.length,⟨_,0,v2,v3,kvs,ms,rfl,rfl,⟨s2.trans s3,s3 _ _ hs,ky,nd,sub,snd,ab,λt h=>?_⟩,(λu h=>nomatch h),L8 _⟩,?_⟩
  ·obtain⟨j,hj⟩:=List.mem_iff_getElem?.mp h
   exact fN j t (by rw[Lp];exact(Lq.mp hj).1) hj
  clear hs ky nd sub snd fN s3 s2;rintro m σ H4 ⟨dn,v2,v3,kvs,ms,rfl,rfl,W,don,hdl⟩;have ml:=hX W.nd W.sub;refine⟨_,rfl,_,rfl,mt,_,rfl,.inl (SqL.of W.hm),_,_,rfl,rfl,_,rfl,aH (λh=>?_) (λh=>?_)⟩
  ·have hd1:dn<ms.length:=by
    have h1:(dn:Int)<((ms.map V.int).length:Int):=(by simpa using h);rw[Lp]at h1;omega
   refine⟨λσ' H'=>∃ m',m'<S.length+1-dn∧∃(dn:Nat) (v2 v3:Option V) (kvs:List (Key×V)) (ms:List Int),m'=S.length+1-dn∧σ'=[some (.ref v),some (.ref st),v2,v3,some (.ref mt),some (.int (dn:Int))]∧Wk H H' st mt rs F S kvs ms∧(∀ u∈ms.take dn,∀ t,some t∈F u→t∈ms)∧dn≤ms.length,λ_ _ h=>h,?_⟩;have tk:ms.take (dn+1)=ms.take dn++[ms[dn]]:=LI hd1;obtain⟨t,et⟩:∃ t,ms[dn]=t:=⟨_,rfl⟩;obtain⟨pre,tK⟩:∃ pre,ms.take dn=pre:=⟨_,rfl⟩;rw[et,tK]at tk;rw[tK]at don;have He:pre.length=dn:=(by rw[←tK,LM];omega);have htm:t∈ms:=(by rw[←et];exact Mb hd1);have hin:t∈S:=W.sub t htm;have at_:∀ {ns:List Int},ns.take (dn+1)=pre++[t]→ns[dn]?=some t:=λ{ns} e=>by
    have:(ns.take (dn+1))[dn]?=some t:=by rw[e,Mc (by omega),He,Nat.sub_self];rfl
    rwa[MW (Ng _)]at this
   have hat:∀ {ns:List Int},ns.take (dn+1)=pre++[t]→atI (ns.map V.int) (dn:Int)=some (.int t):=λe=>bK (by rw[Lz,at_ e];rfl);have rw_:=jy t hin;refine⟨_,rfl,v,_,1,.ref d,rfl,rfl,SqT.of (W.sm _ _ ht),rfl,_,rfl,_,rfl,mt,_,_,.int t,rfl,rfl,SqL.of W.hm,hat tk,d,_,rfl,dgS W.sm hin,ad t,rfl,⟨_,SqL.of (W.sm _ _ rw_)⟩,
    hV (K:=K) (a:=ad t) (xs:=(F t).map nmV) (λj σ H6=>∃(v2 v3:Option V) (kvs:List (Key×V)) (ms:List Int),σ=[some (.ref v),some (.ref st),v2,v3,some (.ref mt),some (.int (dn:Int))]∧Wk H H6 st mt rs F S kvs ms∧ms.take (dn+1)=pre++[t]∧dn<ms.length∧(∀ u∈pre,∀ t,some t∈F u→t∈ms)∧∀(q:Nat) n,q<j→(F t)[q]?=some (some n)→n∈ms)
    ⟨v2,v3,kvs,ms,rfl,W,tk,hd1,don,(λq n h=>absurd h (MN _))⟩ (λj σ H6 _ ⟨_,_,_,_,_,w6,_⟩=>SqL.of (w6.sm _ _ rw_)) ?_ ?_⟩
   ·clear W don hdl ml hd1 tk et tK htm
    rintro j x σ H6 u hx ⟨v2,v3,kvs,ms,rfl,W,tk,hd1,don,fN⟩ hut;have hlj:j<(F t).length:=(by have:=(Lq.mp hx).1;rwa[Lp]at this);have fj:(F t)[j]?=some (F t)[j]:=Ls hlj;have hxe:x=nmV (F t)[j]:=by
     rw[Lz,fj]at hx;exact(LS hx).symm
    subst hxe;have htm:t∈ms:=LD (at_ tk);refine⟨u,_,rfl,SqT.of ab,rfl,_,_,rfl,_,_,rfl,rfl,?_⟩;cases hc:(F t)[j] with
    | none =>
     rw[hc]at fj;have s7:=aq.upd (o:=.tup [.int (j:Int),nmV none]) hut;refine⟨_,rfl,rfl,_,rfl,b4 (b4 ⟨_,_,kvs,ms,rfl,W.same s7,tk,hd1,don,λq n hq e=>?_⟩)⟩;rcases Mi q j with z|z
     ·exact fN q n z e
     ·rw[show q=j by omega,fj]at e
      cases e
    | some n =>
     rw[hc]at fj;have mf:=LD fj;have hk:n∈S:=hcl t hin n mf;have s7:=aq.upd (o:=.tup [.int (j:Int),nmV (some n)]) hut;have W7:=W.same s7;refine⟨_,rfl,rfl,_,rfl,cZ ⟨_,rfl,_,rfl,st,_,rfl,eG.k (k:=Sum.inl n) W7.hs,_,rfl,?_⟩⟩;rw[W7.ky.isS];by_cases hn6:n∈ms
     ·rw[decide_eq_true hn6]
      refine b4 ⟨_,_,kvs,ms,rfl,W7,tk,hd1,don,λq n' hq e=>?_⟩;rcases Mi q j with z|z
      ·exact fN q n' z e
      ·rw[show q=j by omega,fj]at e
       cases e;exact hn6
     ·rw[decide_eq_false hn6]
      refine cZ ⟨_,rfl,_,rfl,mt,_,_,.int t,rfl,rfl,SqL.of W7.hm,hat tk,_,rfl,by show 2≤sizeLine;decide,λu2 hu2=>?_⟩;have s8:=aq.upd (o:=.tup [V.int t,V.int (j:Int)]) hu2;have W8:=W7.same s8;have W9:=W8.put (v:=.ref u2) hst Hd hn6 hk (.step (W.snd t htm) mf);have nms:mt≠st:=bI W8.hm W8.hs (by intro z;cases z);have zm9:upd (upd (upd H6 u (.tup [.int (j:Int),nmV (some n)])) u2 (.tup [V.int t,V.int (j:Int)])) st (.dK (putK kvs (Sum.inl n) (.ref u2))) mt=some (.lst (ms.map V.int)):=(by rw[ak nms];exact W8.hm);refine⟨_,rfl,_,rfl,st,_,rfl,jS.k (k:=Sum.inl n) W8.hs (few W8.ky W8.nd W8.sub),?_⟩;refine⟨_,rfl,.inl ⟨rfl,_,SqL.of zm9⟩,_,rfl,mt,_,_,rfl,rfl,zm9,by rw[Lp];exact eO (LL (hX W8.nd W8.sub) (by omega)),?_⟩;refine⟨_,_,_,ms++[n],rfl,W9,by rw[Ni (by omega)];exact tk,by rw[Lw];omega,λu h t' e=>LW _ (don u h t' e),λq n' hq e=>?_⟩;rcases Mi q j with z|z
      ·exact LW _ (fN q n' z e)
      ·rw[show q=j by omega,fj]at e
       cases e;exact LJ _ LR
   ·clear W don hdl ml hd1 tk et tK htm
    rintro σ H6 ⟨v2,v3,kvs,ms,rfl,W,tk,hd1,don,fN⟩;rw[Lp]at fN;have ml:=hX W.nd W.sub;refine⟨_,rfl,_,1,rfl,rfl,S.length+1-(dn+1),by omega,dn+1,v2,v3,kvs,ms,rfl,rfl,W,λu h t' e=>?_,hd1⟩;rw[tk]at h;rcases LB.mp h with g|g
    ·exact don u g t' e
    ·rw[Lr.mp g]at e
     obtain⟨q,hq⟩:=List.mem_iff_getElem?.mp e;exact fN q t' (Lq.mp hq).1 hq
  ·have hge:ms.length≤dn:=by
    have h1:¬(dn:Int)<((ms.map V.int).length:Int):=(by simpa using h);rw[Lp]at h1;omega
   rw[LF hge]at don;exact⟨_,rfl,k st kvs ms H4 W.sm hst W.hs W.ky W.nd λt=>⟨W.snd t,ED W.rts don⟩⟩
end
end K21
end
section
namespace L2
open PySem PySem.Spec PyProof.Rows LX
section
variable{X:Cx}
def K9(H₀:Hp)(t:TS):TS:=λD σ H=>t {D with nx:=λσ1 H1=>∃ d o kvs,H1 d=some (.frz o (.dK kvs))∧(∀ o u,H₀ d≠some (.frz o u))∧D.nx σ1 (upd H1 d (.dK kvs))} σ H
theorem CI{st:Stmt}{t:TS}(h:PS X st t):PS X st (K9 X.H₀ t):=by
 intro pins s σ H D I q;refine thn (h pins s σ H _ I q) λf s1 z=>?_;cases f with
 | next =>
  obtain⟨σ1,H1,I1,d,o,kvs,hd,h0,q⟩:=z;exact⟨σ1,_,I1.G7 hd h0 (by intro _ z;cases z) (by intro _ z;cases z) (by intro _ z;cases z),q⟩
 | ret v=>exact z
 | brk=>exact z
 | cont=>exact z
theorem Iq{n:Option Int}{zs:List Int}{f:Option Int→V}(hf:f none=.non)(hs:∀ t,f (some t)=.int t):inV (f n) (zs.map V.int)=(match n with|none=>false|some t=>decide (t∈zs)):=by
 unfold inV;cases n with
 | none =>
  rw[hf];show _=false;rw[List.any_map];refine List.any_eq_false.mpr λz _=>?_;simp[eqV]
 | some t =>
  rw[hs,List.any_map];show _=decide (t∈zs);induction zs with
  | nil=>rfl
  | cons a r ih =>
   rw[M8,ih];by_cases e:a=t
   ·subst e
    simp[eqV]
   ·have:(t∈a::r)↔t∈r:=by
     rw[LQ];exact⟨λh=>h.elim (λz=>absurd z.symm e) id,.inr⟩
    simp[eqV,e,this]
end
end L2
end
section
namespace K21
open PySem L2 LX
section
variable{P:Program}{w:World}{K:W.Frag}{mg:Str→Option Value}{base:Heap}
theorem jY{H:Hp}{xs:List V}{ws:List Wd}(r:Rel H xs ws){i:Nat}{x:V}(h:xs[i]?=some x):∃ w,ws[i]?=some w∧WV H x w:=by
 have hi:=(Lq.mp h).1;have hw:i<ws.length:=by rw[←r.1];exact hi
 obtain⟨v,hv,wv⟩:=r.get hw;rw[hv]at h;cases h;exact⟨_,Ls hw,wv⟩
def Ir:Sp:=λvs H Q _=>∃ v w d kvs S,vs=[v,.ref d]∧WV H v w∧Rd H d (.dK kvs)∧Kys kvs S∧Q (nmV (amg S w)) H
abbrev qX:List Str:=["value", "things"]
theorem pK:ar qX ["value", "things"] (ao jR):=fsc
theorem je(T:Txt w K mg):Ok P w K mg base 2 809 ["value", "things"] (Ir):=by
 refine T.o2 "thing_among" pK λcdv A' outer s' H vs Q E hr h=>?_;obtain⟨v,w,d,kvs,S,rfl,wv,hd,hk,k⟩:=h;have hu:=bX hr;refine⟨_,(PSs.nox (af (aO (PW.pt (pw_and (az cL ((kB T).c hr bR (aa (pv 0) ah)) aJ (aF _)) (pw_and1 (cA (wq hu (aD aB (pv 0) aj (λ_ _=>rfl)) (pv 1)) (by with_unfolding_all rfl)))))
   (ag (aA (aD aB (pv 0) aj (λ_ _=>rfl))))
   aC)
  (ag (aA bH)))),?_⟩
 refine⟨_,rfl,v,w,rfl,wv,?_⟩;cases w with
 | no=>exact⟨rfl,_,rfl,aH (λh=>absurd h (L7.mp (by kernel_rfl))) (λ_=>b4 k)⟩
 | num n=>exact⟨rfl,_,rfl,aH (λh=>absurd h (L7.mp (by kernel_rfl))) (λ_=>b4 k)⟩
 | th t =>
  obtain⟨a,rfl,ht⟩:=wv;refine⟨rfl,_,rfl,aH (λ_=>?_) (λh=>absurd (by kernel_rfl) h)⟩;refine⟨_,rfl,a,_,1,.int t,rfl,rfl,SqT.of ht,rfl,_,rfl,d,_,rfl,.inl ⟨kvs,Sum.inl t,hd,rfl,rfl⟩,_,rfl,?_⟩;rw[hk.isS];by_cases c:t∈S
  ·rw[decide_eq_true c]
   rw[show amg S (.th t)=some t from if_pos c]at k;exact cZ ⟨_,rfl,a,_,1,.int t,rfl,rfl,SqT.of ht,rfl,k⟩
  ·rw[decide_eq_false c]
   rw[show amg S (.th t)=none from if_neg c]at k;exact b4 k
def EE:Sp:=λvs H Q _=>∃ x A s l xs ws d kvs S,vs=[.ref x,.ref l,.ref d]∧IH H x A s∧Good s∧H l=some (.lst xs)∧Rel H xs ws∧ws.length≤100000∧H d=some (.dK kvs)∧Kys kvs S∧(∀ t∈S,∃ ws,(t,ws)∈s.aG)∧S.Nodup∧S.length≤10000∧∀ st kv ms H',aq H H'→H st=none→H' st=some (.dK kv)→Kys kv ms→ms.Nodup→(∀ t,t∈ms↔Led ws (fld s) S t)→Q (.ref st) H'
abbrev dU:List Str:=["self", "leads", "things", "fields", "t"]
theorem dA:ar dU ["self", "leads", "things"] (ao cF):=fsc
theorem dB(T:Txt w K mg):Ok P w K mg base 3 795 ["self", "leads", "things"] (EE):=by
 refine T.o3 "Heap.led_among" dA λcdv A' outer s' H vs Q E hr h=>?_;obtain⟨x,A,s,l,xs,ws,d,kvs,S,rfl,J,G,hl,rx,hw,hd,hk,hin,hnd,BX,k⟩:=h;have hu:=bX hr;refine⟨_,(PSs.nox (af (aw (i:=3) dA.nd rfl (Or.inl rfl) bQ)
  (af (bq LP rfl (dj (eN (pv 2))) (aL (i:=4) dA.nd rfl (Or.inl rfl))
   (ag (bY hu (pv 3) (pv 4) (cO (cl:=[("things",s'.heap.objs.size+1)]) (x := "value") (idx:=[2]) (NC:=["value", "things"]) ?co2 rfl (bh (bU hu (aE (pv 0) rfl) (pv 4) (λ_ _=>rfl))) (λC fp s₀ H₀=>((je T).c hr kz (aa (pv 0) (aa (pv 1) ah))))) rfl)))
  (ag (aA (AS ((qW T).c hr bR (aa (aX (aa (cO (cl:=[("things",s'.heap.objs.size+1)]) (x := "value") (idx:=[2]) (NC:=["value", "things"]) ?co1 rfl (bh (pv 1)) (λC fp s₀ H₀=>((je T).c hr kz (aa (pv 0) (aa (pv 1) ah))))) (aa (pv 3) ah))) ah)))))))),?_⟩
 case co1 =>
  exact bP (sc:=ao cF) (N:=dU) (ns:=["things"]) rfl rfl rfl (by decide +kernel) rfl rfl (by
   intro q hq;rw[Lr.mp hq];rfl)
 case co2 =>
  exact bP (sc:=ao cF) (N:=dU) (ns:=["things"]) rfl rfl rfl (by decide +kernel) rfl rfl (by
   intro q hq;rw[Lr.mp hq];rfl)
 intro fa hfa;have s1:=aq.upd (o:=.dK []) hfa;refine⟨_,rfl,d,kvs,s1 _ _ hd,λo=>?_⟩;have nfd:fa≠d:=L4 (ai hd hfa);have xd:x≠d:=bI J.ax hd (by intro z;cases z);have ld:l≠d:=bI hl hd (by intro z;cases z);have okH:∀ Hc:Hp,((∀ b u,b≠d→H b=some u→Hc b=some u)∧Hc d=some (.frz o (.dK kvs)))→cN H Hc:=λHc oc b us q=>oc.1 b _ (bI q hd (by intro z;cases z)) q;have dg:∀ {Hc:Hp},((∀ b u,b≠d→H b=some u→Hc b=some u)∧Hc d=some (.frz o (.dK kvs)))→∀ {t:Int} {ws:List Wd},(t,ws)∈s.aG→eG Hc A.fh (.int t) (some (.ref (A.fa t))):=λ{Hc} oc {t ws} m=>by
  have e:cC (s.aG.map (fkv A)) (Sum.inl t)=some (.ref (A.fa t)):=by rw[AV,G.get m];rfl
  by_cases c:A.fh=d
  ·have ek:kvs=s.aG.map (fkv A):=by
    have:=J.afh
    rw[c,hd]at this;injection this with this;injection this
   exact .inl ⟨kvs,Sum.inl t,.inr ⟨o,by rw[c];exact oc.2⟩,rfl,by rw[ek,e]⟩
  ·exact .inl ⟨_,Sum.inl t,.inl (oc.1 _ _ c J.afh),rfl,e.symm⟩
 have lk:=hk.len;refine⟨d,o,kvs,rfl,ab,eI (d:=d) (o:=o) (kvs:=kvs) (λi σ Hc=>∃(v4:Option V) (ad:Int→Addr),σ=[some (.ref x),some (.ref l),some (.ref d),some (.ref fa),v4]∧((∀ b u,b≠d→H b=some u→Hc b=some u)∧Hc d=some (.frz o (.dK kvs)))∧Hc fa=some (.dK ((S.take i).map λt=>(Sum.inl t,.ref (ad t))))∧∀ t∈S.take i,Hc (ad t)=some (.lst (((fld s t).map (amg S)).map nmV)))
  ⟨none,λ_=>0,rfl,⟨λb u n q=>by rw[ak n];exact s1 b u q,ab⟩,by rw[ak nfd];exact ab,(λt h=>nomatch h)⟩ (λi σ Hc _ ⟨_,_,_,oc,_⟩=>oc.2) ?_ ?_⟩
 ·rintro i p σ Hc hi ⟨v4,ad,rfl,oc,hf,jy⟩
  obtain⟨t,ht,ekv,ep⟩:=hk.at_ hi;have hlt:i<S.length:=(Lq.mp ht).1;have et:S[i]=t:=(Lq.mp ht).2;have mt:t∈S:=LD ht;obtain⟨w0,m⟩:=hin t mt;obtain⟨hl0,rl⟩:=J.afl _ _ m;have tc:=okH Hc oc;have fm:=G.fld m;rw[←fm]at rl;have nl:A.fa t≠d:=bI hl0 hd (by intro z;cases z);have hlc:=oc.1 _ _ nl hl0;have f6:=G.f6 _ _ m;rw[←fm]at f6;have lz:(fld s t).length≤sizeLine:=gC (by omega);refine⟨_,rfl,x,980,_,_,.ref A.fh,rfl,oc.1 _ _ xd J.ax,T.ae,T.n,ir,_,rfl,A.fh,.ref (A.fa t),rfl,(by rw[ekv];exact dg oc m),A.fa t,rfl,⟨_,SqL.of hlc⟩,λL hL=>?_⟩;refine bW (K:=K) (a:=A.fa t) (xs:=A.fx t) (λi ys H2=>ys=((fld s t).take i).map (λw=>nmV (amg S w))∧aq Hc H2∧H2 L=some (.lst ys)) ⟨rfl,aq.upd hL,ab⟩ (λi ys H2 hi ⟨e,_,z⟩=>⟨z,by rw[e,Lp,LM,←rl.1];omega⟩) (λi ys H2 hi ⟨_,s2,_⟩=>SqL.of (s2 _ _ hlc)) (by rw[rl.1];exact lz) (λi y ys H2 hi ⟨e,s2,z⟩=>?_) (λys H2 ⟨e,s2,z⟩=>?_)
  ·obtain⟨wd,hw,wv⟩:=jY rl hi
   refine⟨_,rfl,_,rfl,y,wd,d,kvs,S,rfl,wv.keep (tc.trans (cN.of s2)),.inr ⟨o,s2 _ _ oc.2⟩,hk,z,?_,λb u q=>by rw[ak (ai q hL)];exact s2 b u q,ab⟩;have hlt:i<(fld s t).length:=(Lq.mp hw).1;rw[LI hlt,LA,e,(Lq.mp hw).2];rfl
  ·rw[rl.1,LF (Lu _)]at e
   have zf:H2 fa=some (.dK ((S.take i).map λt=>(Sum.inl t,.ref (ad t)))):=s2 _ _ hf;have kyf:Kys ((S.take i).map λt=>((Sum.inl t:Key),V.ref (ad t))) (S.take i):=(by unfold Kys;rw[LO];rfl);have ni:t∉S.take i:=λz=>by
    have:=Mq.mp (show(S.take i++S.drop i).Nodup by rw[MO];exact hnd)
    exact this.2.2 t z t (by rw[MC hlt,et];exact LR) rfl
   have nLf:L≠fa:=L4 (ai hf hL);refine⟨_,rfl,_,rfl,fa,_,rfl,(by rw[ekv];exact jS.k (k:=Sum.inl t) zf (by rw[Lp,LM];exact eO (by omega))),?_⟩;rw[dM _ (kyf.non ni)];refine⟨_,λu=>if u=t then L else ad u,rfl,⟨λb u n q=>?_,?_⟩,?_,λu hu'=>?_⟩
   ·rw[ak (ai q hfa)]
    exact s2 _ _ (oc.1 b u n q)
   ·rw[ak (L4 nfd)]
    exact s2 _ _ oc.2
   ·rw[ab,LI hlt,LA,et]
    congr 3
    ·refine L3 λu hu'=>?_
     dsimp only;rw[if_neg λz=>ni (by rw[←z];exact hu')]
    ·simp only[L1,ML,if_true]
   ·rw[LI hlt,et]at hu'
    dsimp only;by_cases c:u=t
    ·subst c
     rw[if_pos rfl,ak nLf,z,e,LO];rfl
    ·rw[if_neg c]
     have mu:u∈S.take i:=(LB.mp hu').resolve_right λz=>c (Lr.mp z);have q:=jy u mu;rw[ak (λz=>by rw[z,hf]at q;cases q)];exact s2 _ _ q
 ·rintro σ Hc ⟨v4,ad,rfl,oc,hf,jy⟩
  rw[lk,LF (Lu _)]at hf jy;have tc:=okH Hc oc;have hlc:=oc.1 _ _ ld hl;have lz:ws.length≤sizeLine:=LL hw (by decide);have rl:=rx;refine⟨_,rfl,l,rfl,⟨_,SqL.of hlc⟩,λL hL=>?_⟩;refine bW (K:=K) (a:=l) (xs:=xs) (λi ys H2=>ys=(ws.take i).map (λw=>nmV (amg S w))∧aq Hc H2∧H2 L=some (.lst ys)) ⟨rfl,aq.upd hL,ab⟩ (λi ys H2 hi ⟨e,_,z⟩=>⟨z,by rw[e,Lp,LM,←rl.1];omega⟩) (λi ys H2 hi ⟨_,s2,_⟩=>SqL.of (s2 _ _ hlc)) (by rw[rl.1];exact lz) (λi y ys H2 hi ⟨e,s2,z⟩=>?_) (λys H2 ⟨e,s2,z⟩=>?_)
  ·obtain⟨wd,hw,wv⟩:=jY rl hi
   refine⟨_,rfl,_,rfl,y,wd,d,kvs,S,rfl,wv.keep (tc.trans (cN.of s2)),.inr ⟨o,s2 _ _ oc.2⟩,hk,z,?_,λb u q=>by rw[ak (ai q hL)];exact s2 b u q,ab⟩;have hlt:i<ws.length:=(Lq.mp hw).1;rw[LI hlt,LA,e,(Lq.mp hw).2];rfl
  ·rw[rl.1,LF (Lu _)]at e
   refine⟨_,rfl,by show 2≤sizeLine;decide,λv hv=>?_⟩;have s3:=aq.upd (o:=.tup [V.ref L,V.ref fa]) hv;have s4:=s2.trans s3;have bk:∀ {b:Addr},upd H2 v (.tup [V.ref L,V.ref fa]) b=none→H b=none:=λ{b} q=>by
    cases z:H b with
    | none=>rfl
    | some u =>
     by_cases c:b=d
     ·rw[c,s4 _ _ oc.2]at q;cases q
     ·rw[s4 _ _ (oc.1 b u c z)]at q;cases q
   refine⟨v,L,fa,ws.map (amg S),S,λt=>(fld s t).map (amg S),ad,rfl,ab,by rw[s3 _ _ z,e,LO];rfl,s4 _ _ hf,λt m=>s4 _ _ (jy t m),λt m=>?_,λu _ t m=>?_,BX,λst kv ms H5 s5 hst h5 k5 n5 m5=>?_⟩
   ·obtain⟨w,_,ew⟩:=LH.mp m
    exact(hW.mp ew).2
   ·obtain⟨w,_,ew⟩:=LH.mp m
    exact(hW.mp ew).2
   ·have fd5:=s5 _ _ (s4 _ _ oc.2)
    refine⟨d,o,kvs,fd5,(λo' u' q=>by have q:H d=some (.frz o' u'):=q;rw[hd]at q;cases q),?_⟩;have nst:st≠d:=λq=>by rw[q,fd5]at h5;cases h5
    refine k st kv ms _ (λb u q=>?_) (bk hst) (by rw[ak nst];exact h5) k5 n5 λt=>(m5 t).trans EC;by_cases c:b=d
    ·subst c
     rw[hd]at q;cases q;exact ab
    ·rw[ak c]
     exact s5 _ _ (s4 _ _ (oc.1 b u c q))
end
section
variable{P:Program}{w:World}{K:W.Frag}{mg:Str→Option Value}{base:Heap}
theorem lookup_mem{α:Type}{fs:List (Int×α)}{t:Int}{w:α}(m:(t,w)∈fs):∃ v,fs.lookup t=some v:=by
 cases e:fs.lookup t with
 | some v=>exact⟨v,rfl⟩
 | none=>exact absurd rfl (lookup_none e _ m)
theorem jI(gs:List Int):(gs.map V.int).all cE=true:=MK.mpr λv hv=>by obtain⟨n,_,rfl⟩:=LH.mp hv;rfl
theorem CJ(n:Option Int):cE (nmV n)=true:=by cases n<;>rfl
theorem qY{gs:List Int}(h:gs.Pairwise (·< ·)){i:Nat}{t:Int}(e:gs[i]?=some t):t∉gs.take i:=λm=>by
 have hlt:=(Lq.mp e).1;have et:=(Lq.mp e).2
 have:=MD.mp (show(gs.take i++gs.drop i).Pairwise (·< ·) by rw[MO];exact h)
 have:=this.2.2 t m t (by rw[MC hlt,et];exact LR)
 omega
theorem take_snoc{α:Type}{gs:List α}{i:Nat}{t:α}(e:gs[i]?=some t):gs.take (i+1)=gs.take i++[t]:=by rw[LI (Lq.mp e).1,(Lq.mp e).2]
theorem AY(bs:List (Int×Int))(gs:List Int):(sdG bs gs).length≤gs.length:=List.length_filterMap_le _ _
def CK:Sp:=λvs H Q _=>∃ x A s g gs,vs=[.ref A.nt,.ref g]∧IH H x A s∧s.names.length=8∧H g=some (.lst (gs.map V.int))∧∀ A' H',IH H' x A' {s with names:=s.names.map (nmG gs)}→Fr (aV x A s) H (aV x A' {s with names:=s.names.map (nmG gs)}) H'→Q .non H'
abbrev ft:List Str:=["self", "things"]
theorem jz:ar ft ["self", "things"] (ao cR):=fsc
theorem jA(T:Txt w K mg):Ok P w K mg base 1 668 ["self", "things"] (CK):=by
 refine T.o2 "NameTable.settle" jz λcdv A' outer s' H vs Q E hr h=>?_;obtain⟨x,A,s,g,gs,rfl,J,h8,hg,k⟩:=h;refine⟨_,(PSs.nox (ag (b8 (pv 0) (cO (cl:=[("things",s'.heap.objs.size+1)]) (x := "t") (idx:=[1]) (NC:=["t", "things"]) ?co1 rfl (bh (aE (pv 0) rfl)) (λC fp s₀ H₀=>(jr (az (r:=rIn K false) nz (pv 0) (pv 1) (by with_unfolding_all rfl)) bH (pv 0)))) rfl))),?_⟩
 case co1 =>
  exact bP (sc:=ao cR) (N:=ft) (ns:=["things"]) rfl rfl rfl (by decide +kernel) rfl rfl (by
   intro q hq;rw[Lr.mp hq];rfl)
 refine⟨_,rfl,A.nt,671,A.ntx,_,.ref A.nl,rfl,J.ant,T.bL,T.n,rfl,A.nl,rfl,⟨_,SqL.of J.anl⟩,λL hL=>?_⟩;refine bW (K:=K) (a:=A.nl) (xs:=s.names.map nmV) (λi zs H2=>zs=((s.names.take i).map (nmG gs)).map nmV∧aq H H2∧H2 L=some (.lst zs)) ⟨rfl,aq.upd hL,ab⟩ (λi zs H2 hi ⟨e,_,z⟩=>⟨z,by rw[Lp]at hi;rw[e,Lp,Lp,LM];omega⟩) (λi zs H2 hi ⟨_,s2,_⟩=>SqL.of (s2 _ _ J.anl)) (by rw[Lp,h8];decide) (λi y zs H2 hi ⟨e,s2,z⟩=>?_) (λzs H2 ⟨e,s2,z⟩=>?_)
 ·rw[Lz]at hi
  obtain⟨n,hn,rfl⟩:=LG.mp hi;have tk:=take_snoc hn;refine⟨_,rfl,_,rfl,g,_,rfl,.inl (SqL.of (s2 _ _ hg)),CJ n,jI gs,_,rfl,?_⟩;have sm:∀ {o:HO},aq H (upd H2 L o):=λb u q=>by rw[ak (ai q hL)];exact s2 b u q
  show if inV (nmV n) (gs.map V.int)=true then _ else _;rw[Iq (f:=nmV) rfl (λ_=>rfl),tk,e];cases n with
  | none =>
   refine b4 ⟨_,rfl,z.trans (by rw[e]),?_,sm,ab⟩;rw[LA,LA];rfl
  | some t =>
   show if decide (t∈gs)=true then _ else _;by_cases c:t∈gs
   ·rw[decide_eq_true c]
    refine cZ ⟨z.trans (by rw[e]),?_,sm,ab⟩;rw[LA,LA];simp[nmG,c,nmV]
   ·rw[decide_eq_false c]
    refine b4 ⟨_,rfl,z.trans (by rw[e]),?_,sm,ab⟩;rw[LA,LA];simp[nmG,c,nmV]
 ·rw[Lp,LF (Lu _)]at e
  rw[e]at z;refine⟨_,rfl,A.nt,671,A.ntx,_,rfl,s2 _ _ J.ant,T.bL,T.n,by show 1<1000;decide,?_⟩;have w:=J.K8 (ns:=s.names.map (nmG gs)) hL;have sm:aq (upd (upd H L (.lst ((s.names.map (nmG gs)).map nmV))) A.nt (.ins 671 A.ntx [("things_named",.ref L)])) (upd H2 A.nt (.ins 671 A.ntx [("things_named",.ref L)])):=λb u q=>by
   by_cases c:b=A.nt
   ·rw[c,ab]at q ⊢;exact q
   ·rw[ak c]at q ⊢
    by_cases c2:b=L
    ·rw[c2,ab]at q;rw[c2,z];exact q
    ·rw[ak c2]at q;exact s2 b u q
  exact k _ _ (w.1.same sm) (w.2.trans (Fr.same sm))
def wsF(s:HS)(gs:List Int):HS:={s with aS:=brG s.aS gs,iN:=s.iN++sdG s.aS gs}
theorem xq{s:HS}:wsF s []=s:=by cases s;simp[wsF,brG,sdG]
def CL:Sp:=λvs H Q _=>∃ x A s g gs,vs=[.ref A.wt,.ref g]∧IH H x A s∧H g=some (.lst (gs.map V.int))∧gs.Pairwise (·< ·)∧gs.length≤10000∧s.iN.length≤10000∧∀ A' H',IH H' x A' (wsF s gs)→Fr (aV x A s) H (aV x A' (wsF s gs)) H'→Q .non H'
abbrev ke:List Str:=["self", "things", "t"]
theorem eK:ar ke ["self", "things"] (ao eX):=fsc
theorem jB(T:Txt w K mg):Ok P w K mg base 1 607 ["self", "things"] (CL):=by
 refine T.o2 "WordTable.settle" eK λcdv A' outer s' H vs Q E hr h=>?_;obtain⟨x,A,s,g,gs,rfl,J,hg,asc,hn,hsd,k⟩:=h;have hu:=bX hr;refine⟨_,(PSs.nox (ag (bq LP rfl (bh (aK ue rfl T.z PyProof.Rows.Boot.«sorted» (aa (pv 1) ah))) (aL (i:=2) eK.nd rfl (Or.inl rfl))
   (ag (aO (cA (wq hu (pv 2) (aE (pv 0) rfl)) (by with_unfolding_all rfl))
    (ag (au (kr PySem.F.plainAttrs_list PySem.F.slot_list_append PySem.F.type_list_append cw (aE (pv 0) rfl) (aa (qw (aE (pv 0) rfl) (pv 2) ⟨rfl,rfl,rfl,rfl⟩) ah))))
    aC))))),?_⟩
 refine⟨_,rfl,g,gs,rfl,SqL.of hg,by omega,asc.imp λh=>Int.le_of_lt h,λp hp=>?_⟩;have s1:=aq.upd (o:=.lst (gs.map V.int)) hp;have J1:=J.same s1;have nfp:¬aV x A s p:=J.fresh hp;refine⟨p,rfl,⟨_,SqL.of ab⟩,cJ (K:=K) (a:=p) (xs:=gs.map V.int) (λi σ H2=>∃ v2,σ=[some (.ref A.wt),some (.ref g),v2]∧IH H2 x A (wsF s (gs.take i))∧Fr (aV x A s) (upd H p (.lst (gs.map V.int))) (aV x A (wsF s (gs.take i))) H2)
  ⟨none,rfl,(by rw[Mu,xq];exact J1),(by rw[Mu,xq];exact Fr.refl)⟩ (λi σ H2 _ ⟨_,_,_,fr⟩=>SqL.of (fr.out nfp ab).1) ?_ ?_⟩
 ·rintro i y σ H2 hi ⟨v2,rfl,J2,fr⟩
  rw[Lz]at hi;obtain⟨t,ht,rfl⟩:=LG.mp hi;have ni:=qY asc ht;have tk:=take_snoc ht;have hi':=(Lq.mp ht).1;have lk:(brG s.aS (gs.take i)).lookup t=s.aS.lookup t:=vQ ni;have vb:cC ((wsF s (gs.take i)).aS.map bkv) (Sum.inl t)=(s.aS.lookup t).map V.int:=by rw[G9];show((brG s.aS (gs.take i)).lookup t).map V.int=_;rw[lk]
  refine⟨_,rfl,_,rfl,A.wt,624,A.wtx,_,.ref A.wb,rfl,J2.awt,T.aY,T.n,rfl,A.wb,_,rfl,eG.k (k:=Sum.inl t) J2.awb,_,rfl,?_⟩;rw[vb,ME];cases e:s.aS.lookup t with
  | none =>
   have es:wsF s (gs.take (i+1))=wsF s (gs.take i):=by
    unfold wsF;rw[tk,uX,uY,e,filter_none (by rw[lk];exact e)];simp
   rw[es];exact b4 ⟨_,rfl,J2,fr⟩
  | some v =>
   have es:wsF s (gs.take (i+1))={wsF s (gs.take i) with aS:=(brG s.aS (gs.take i)).filter λp=>decide (p.1≠t),iN:=(s.iN++sdG s.aS (gs.take i))++[v]}:=by
    unfold wsF;rw[tk,uX,uY,e];simp
   rw[es];rw[e]at vb;refine cZ ⟨_,rfl,A.wt,624,A.wtx,_,.ref A.wl,rfl,J2.awt,T.aY,T.n,rfl,.inl ⟨rfl,_,SqL.of J2.awl⟩,?_⟩;refine⟨_,rfl,A.wt,624,A.wtx,_,.ref A.wb,rfl,J2.awt,T.aY,T.n,rfl,A.wb,rfl,.inl ⟨_,.inl J2.awb⟩,_,rfl,_,Sum.inl t,.int v,J2.awb,rfl,vb,?_⟩;rw[show iQ ((wsF s (gs.take i)).aS.map bkv) (Sum.inl t)=((brG s.aS (gs.take i)).filter λp=>decide (p.1≠t)).map bkv from CG];have w1:=J2.IY (bs:=(brG s.aS (gs.take i)).filter λp=>decide (p.1≠t));have w2:=w1.1.K1 (zs:=(s.iN++sdG s.aS (gs.take i))++[v]);refine⟨A.wl,_,.int v,rfl,rfl,w1.1.awl,eO ?_,?_⟩
   ·have:=AY s.aS (gs.take i)
    rw[LM]at this;show((s.iN++sdG s.aS (gs.take i)).map V.int).length≤20000;rw[Lp,Lw];omega
   ·rw[LA]at w2
    exact⟨_,rfl,w2.1,(fr.trans w1.2).trans w2.2⟩
 ·rintro σ H2 ⟨v2,rfl,J2,fr⟩
  rw[Lp,LF (Lu _)]at J2 fr;exact k _ _ J2 ((Fr.same s1).trans fr)
def Ag:Sp:=λvs H Q _=>∃ x A s g gs,vs=[.ref x,.ref g]∧IH H x A s∧s.names.length=8∧¬aV x A s g∧H g=some (.lst (gs.map V.int))∧gs.Pairwise (·< ·)∧gs.length≤10000∧s.iN.length≤10000∧(∀ t∈gs,∃ ws,(t,ws)∈s.aG)∧∀ A' H',IH H' x A' (letGo s gs)→Fr (aV x A s) H (aV x A' (letGo s gs)) H'→Q .non H'
abbrev qZ:List Str:=["self", "gone", "t"]
theorem jf:ar qZ ["self", "gone"] (ao jQ):=fsc
theorem jg(T:Txt w K mg):Ok P w K mg base 2 764 ["self", "gone"] (Ag):=by
 refine T.o2 "Heap.let_go" jf λcdv A' outer s' H vs Q E hr h=>?_;obtain⟨x,A,s,g,gs,rfl,J,h8,nfg,hg,asc,hn,hsd,hin,k⟩:=h;refine⟨_,(PSs.nox (af (bq LP rfl (bh (pv 1)) (aL (i:=2) jf.nd rfl (Or.inl rfl))
   (ag (au (qw (aE (pv 0) rfl) (pv 2) ⟨rfl,rfl,rfl,rfl⟩))))
  (af (au ((jA T).m T.bL hr (aE (pv 0) rfl) bR (aa (pv 1) ah)))
  (ag (au ((jB T).m T.aY hr (aE (pv 0) rfl) bR (aa (pv 1) ah))))))),?_⟩
 refine⟨_,rfl,g,rfl,⟨_,SqL.of hg⟩,cJ (K:=K) (a:=g) (xs:=gs.map V.int) (λi σ H2=>∃ v2,σ=[some (.ref x),some (.ref g),v2]∧IH H2 x A {s with aG:=drG s.aG (gs.take i)}∧Fr (aV x A s) H (aV x A {s with aG:=drG s.aG (gs.take i)}) H2)
  ⟨none,rfl,(by rw[Mu,xo];exact J),(by rw[Mu,xo];exact Fr.refl)⟩ (λi σ H2 _ ⟨_,_,_,fr⟩=>SqL.of (fr.out nfg hg).1) ?_ ?_⟩
 ·rintro i y σ H2 hi ⟨v2,rfl,J2,fr⟩
  rw[Lz]at hi;obtain⟨t,ht,rfl⟩:=LG.mp hi;have ni:=qY asc ht;have tk:=take_snoc ht;obtain⟨ws,m⟩:=hin t (LD ht);obtain⟨v,hv⟩:=lookup_mem (cQ.mpr ⟨m,ni⟩);have vf:cC ((drG s.aG (gs.take i)).map (fkv A)) (Sum.inl t)=some (.ref (A.fa t)):=by rw[AV,hv];rfl
  refine⟨_,rfl,x,980,_,_,.ref A.fh,rfl,J2.ax,T.ae,T.n,ir,A.fh,rfl,.inl ⟨_,.inl J2.afh⟩,_,rfl,_,Sum.inl t,_,J2.afh,rfl,vf,?_⟩;have w:=J2.Ip (t:=t);rw[CF];rw[tk,Ad];exact⟨_,rfl,w.1,fr.trans w.2⟩
 ·rintro σ H2 ⟨v2,rfl,J2,fr⟩
  rw[Lp,LF (Lu _)]at J2 fr;obtain⟨hg2,nf2⟩:=fr.out nfg hg;refine⟨_,rfl,x,980,_,_,.ref A.nt,rfl,J2.ax,T.ae,T.n,BJ,A.nt,A.ntx,_,rfl,J2.ant,rfl,_,rfl,x,A,_,g,gs,rfl,J2,h8,hg2,λA3 H3 J3 fr3=>?_⟩;obtain⟨hg3,nf3⟩:=fr3.out nf2 hg2;refine⟨_,rfl,x,980,_,_,.ref A3.wt,rfl,J3.ax,T.ae,T.n,DL,A3.wt,A3.wtx,_,rfl,J3.awt,rfl,_,rfl,x,A3,_,g,gs,rfl,J3,hg3,asc,hn,hsd,λA4 H4 J4 fr4=>?_⟩;exact k A4 H4 J4 ((fr.trans fr3).trans fr4)
end
section
variable{P:Program}{w:World}{K:W.Frag}{mg:Str→Option Value}{base:Heap}
def uZ(fs:List (Int×List Wd))(yn:List Int):List Wd:=fs.flatMap λq=>if q.1∈yn then[] else q.2
def rk(s:HS):List Wd:=s.aM++uZ s.aG s.yng
theorem rW{fs:List (Int×List Wd)}{q:Int×List Wd}{yn:List Int}:uZ (fs++[q]) yn=uZ fs yn++(if q.1∈yn then[] else q.2):=by unfold uZ;rw[List.flatMap_append];simp
theorem xt{fs:List (Int×List Wd)}{yn:List Int}(h:∀ t ws,(t,ws)∈fs→ws.length≤6):(uZ fs yn).length≤6*fs.length:=by
 induction fs with
 | nil=>exact Lu _
 | cons q r ih =>
  have i:=ih λt ws m=>h t ws (LU _ m)
  have:=h q.1 q.2 LR
  show((if q.1∈yn then[] else q.2)++uZ r yn).length≤6*(r.length+1);rw[Lw];by_cases c:q.1∈yn
  ·rw[if_pos c];simp;omega
  ·rw[if_neg c];omega
theorem Ah{fs:List (Int×List Wd)}{yn:List Int}{w:Wd}:w∈uZ fs yn↔∃ t ws,(t,ws)∈fs∧t∉yn∧w∈ws:=by
 unfold uZ;rw[Ny];constructor
 ·rintro⟨q,mq,h⟩
  by_cases c:q.1∈yn
  ·rw[if_pos c]at h;cases h
  ·rw[if_neg c]at h;exact⟨q.1,q.2,mq,c,h⟩
 ·rintro⟨t,ws,m,c,h⟩
  exact⟨(t,ws),m,by rw[if_neg c];exact h⟩
open Classical in
def eP(s:HS):List Int:=s.yng.filter λt=>decide (¬Led (rk s) (fld s) s.yng t)
def eQ(s:HS):HS:=letGo {s with yng:=[]} (eP s)
open Classical in
def rm(s:HS):List Int:=(keys s).filter λt=>decide (¬Led s.aM (fld s) (keys s) t)
def CM(s:HS):HS:={s with rnd:=true,bc:=rm s}
def o9(s:HS):Re:=if s.rnd=true then(some .on,s) else(none,CM (eQ s))
def DM(s:HS):HS:=letGo {s with rnd:=false,bc:=[]} s.bc
def AZ(s:HS):Re:=if s.rnd=true then(none,DM s) else(some .no,s)
open Classical in
def hZ(s:HS)(t:Int):HS:={s with bc:=s.bc.filter λu=>decide (¬Led [.th t] (fld s) s.bc u)}
def rdR(s:HS)(n:Option Int):HS:=match n with|some t=>if t∈s.bc then hZ s t else s|none=>s
def fJ(s:HS)(h w:Int):Re:=if ok8 h then(if ok8 w then(none,rdR (g9 s h (nmW (s.names.getD w.toNat none))) (s.names.getD w.toNat none)) else(some .name,s)) else(some .hand,s)
def mkR(s:HS)(n:Int):HS:=if s.my=true∧wsum s s.yng+(n+1)>s.room then eQ s else s
def fK(s:HS)(h n:Int):Re:=if ok8 h then(if 0≤n∧n≤6 then(if held (mkR s n)+(n+1)>s.limit then(some .room,mkR s n) else(none,vP (mkR s n) h n)) else(some .count,s)) else(some .hand,s)
theorem fB{l ms:List Int}{p:Int→Bool}(h:∀ t∈l,(p t=true↔t∉ms)):l.filter p=l.filter λt=>decide (t∉ms):=Mv λt m=>by
 have:=h t m
 by_cases c:t∈ms
 ·simp only[c,not_true,decide_false]
  cases e:p t with
  | false=>rfl
  | true=>exact absurd (this.mp e) (by simp[c])
 ·simp only[c,not_false_eq_true,decide_true]
  exact this.mpr c
open Classical in
theorem yB{s:HS}{ms:List Int}(h:∀ t,t∈ms↔Led (rk s) (fld s) s.yng t):(s.yng.filter λt=>decide (t∉ms))=eP s:=by
 unfold eP;refine(fB λt _=>?_).symm;rw[decide_eq_true_iff,h]
open Classical in
theorem Ai{s:HS}{ms:List Int}(h:∀ t,t∈ms↔Led s.aM (fld s) (keys s) t):((keys s).filter λt=>decide (t∉ms))=rm s:=by
 unfold rm;refine(fB λt _=>?_).symm;rw[decide_eq_true_iff,h]
open Classical in
theorem Aj{s:HS}{t:Int}{ms:List Int}(h:∀ u,u∈ms↔Led [.th t] (fld s) s.bc u):{s with bc:=s.bc.filter λu=>decide (u∉ms)}=hZ s t:=by
 unfold hZ;congr 1
 refine(fB λu _=>?_).symm;rw[decide_eq_true_iff,h]
theorem CN{H:Hp}{xs ys:List V}{ws zs:List Wd}(a:Rel H xs ws)(b:Rel H ys zs):Rel H (xs++ys) (ws++zs):=by
 refine⟨by rw[Lw,Lw,a.1,b.1],λi v w h1 h2=>?_⟩;by_cases c:i<xs.length
 ·rw[MB c]at h1
  rw[MB (by rw[←a.1];exact c)]at h2;exact a.2 i v w h1 h2
 ·rw[Mc (by omega)]at h1
  rw[Mc (by rw[←a.1];omega),←a.1]at h2;exact b.2 _ v w h1 h2
structure Gd(s:HS):Prop where
 g:Good s
 dy:∀ t∈s.bc,t∉s.yng
 dh:∀ t,Wd.th t∈s.aM→t∉s.bc
 df:∀ u ws t,(u,ws)∈s.aG→u∉s.bc→Wd.th t∈ws→t∉s.bc
 rd:s.rnd=false→s.bc=[]
theorem mem_keys{s:HS}{t:Int}:t∈keys s↔∃ ws,(t,ws)∈s.aG:=by
 unfold keys;rw[LH];exact⟨λ⟨p,m,e⟩=>⟨p.2,by rw[←e];exact m⟩,λ⟨ws,m⟩=>⟨_,m,rfl⟩⟩
theorem CO{fs:List (Int×List Wd)}{gs:List Int}(nd:gs.Nodup)(h:∀ t∈gs,∃ ws,(t,ws)∈fs):(drG fs gs).length+gs.length≤fs.length:=by
 have e:fs.length=(fs.filter λp=>decide (p.1∉gs)).length+(fs.filter λp=>!decide (p.1∉gs)).length:=by
  clear h;induction fs with
  | nil=>rfl
  | cons p r ih =>
   rw[List.filter_cons,List.filter_cons];by_cases c:p.1∈gs
   ·simp[c]at ih ⊢;omega
   ·simp[c]at ih ⊢;omega
 have le:gs.length≤((fs.filter λp=>!decide (p.1∉gs)).map (·.1)).length:=hX nd λt m=>by
  obtain⟨ws,mw⟩:=h t m;exact LH.mpr ⟨(t,ws),Mj.mpr ⟨mw,by simp[m]⟩,rfl⟩
 rw[Lp]at le;unfold drG;omega
theorem Good.letGo{s:HS}(g:Good s){gs:List Int}(asc:gs.Pairwise (·< ·))(hin:∀ t∈gs,∃ ws,(t,ws)∈s.aG)(hh:∀ t,Wd.th t∈s.aM→t∉gs)(hf:∀ u ws t,(u,ws)∈s.aG→u∉gs→Wd.th t∈ws→t∉gs)(hy:∀ t∈s.yng,t∉gs)(hd:∀ t∈s.bc,t∉gs):Good (letGo s gs) where
 h8:=g.h8
 n8:=by show(s.names.map (nmG gs)).length=8;rw[Lp];exact g.n8
 asc:=MP (List.Sublist.map _ MG) g.asc
 lt:=λt ws m=>g.lt t ws (cQ.mp m).1
 f6:=λt ws m=>g.f6 t ws (cQ.mp m).1
 hh:=λt m=>by obtain⟨ws,q⟩:=g.hh t m;exact⟨ws,cQ.mpr ⟨q,hh t m⟩⟩
 ff:=λu ws t m h=>by obtain⟨w',q⟩:=g.ff u ws t (cQ.mp m).1 h;exact⟨w',cQ.mpr ⟨q,hf u ws t (cQ.mp m).1 (cQ.mp m).2 h⟩⟩
 nn:=λt m=>by
  obtain⟨n,mn,e⟩:=LH.mp (show some t∈s.names.map (nmG gs) from m);cases n with
  | none=>cases e
  | some u =>
   have e:(if u∈gs then none else some u)=some t:=e;by_cases c:u∈gs
   ·rw[if_pos c]at e;cases e
   ·rw[if_neg c]at e
    cases e;obtain⟨ws,q⟩:=g.nn t mn;exact⟨ws,cQ.mpr ⟨q,c⟩⟩
 b12:=LL (MA _ _) g.b12
 bk:=λt z m=>by
  have m:=Mj.mp (show(t,z)∈brG s.aS gs from m);obtain⟨ws,q⟩:=g.bk t z m.1;exact⟨ws,cQ.mpr ⟨q,by simpa using m.2⟩⟩
 bnd:=MP (List.Sublist.map _ MG) g.bnd
 n0:=g.n0
 nx:=g.nx
 sd:=by
  have h1:=g.sd;have h2:=CO (g5 asc) hin;have h3:=AY s.aS gs;show((s.iN++sdG s.aS gs).length:Int)+(drG s.aG gs).length≤s.nxt;rw[Lw];omega
 yk:=λt m=>by obtain⟨ws,q⟩:=g.yk t m;exact⟨ws,cQ.mpr ⟨q,hy t m⟩⟩
 pA:=g.pA
 dk:=λt m=>by obtain⟨ws,q⟩:=g.dk t m;exact⟨ws,cQ.mpr ⟨q,hd t m⟩⟩
 qd:=g.qd
theorem Good.noY{s:HS}(g:Good s):Good {s with yng:=[]}:=⟨g.h8,g.n8,g.asc,g.lt,g.f6,g.hh,g.ff,g.nn,g.b12,g.bk,g.bnd,g.n0,g.nx,g.sd,(λt m=>nomatch m),List.Pairwise.nil,g.dk,g.qd⟩
theorem Good.noD{s:HS}(g:Good s){b:Bool}:Good {s with rnd:=b,bc:=[]}:=⟨g.h8,g.n8,g.asc,g.lt,g.f6,g.hh,g.ff,g.nn,g.b12,g.bk,g.bnd,g.n0,g.nx,g.sd,g.yk,g.pA,(λt m=>nomatch m),List.Pairwise.nil⟩
theorem Good.La{s:HS}(g:Good s){b:Bool}{ds:List Int}(h:∀ t∈ds,∃ ws,(t,ws)∈s.aG)(a:ds.Pairwise (·< ·)):Good {s with rnd:=b,bc:=ds}:=⟨g.h8,g.n8,g.asc,g.lt,g.f6,g.hh,g.ff,g.nn,g.b12,g.bk,g.bnd,g.n0,g.nx,g.sd,g.yk,g.pA,h,a⟩
theorem ck{s:HS}{t:Int}:t∈eP s↔t∈s.yng∧¬Led (rk s) (fld s) s.yng t:=by unfold eP;rw[Mj];simp
theorem qg{s:HS}(g:Good s):(eP s).Pairwise (·< ·):=MP MG g.pA
theorem rX{s:HS}(g:Good s):∀ t∈eP s,∃ ws,(t,ws)∈s.aG:=λt m=>g.yk t (ck.mp m).1
theorem CP{s:HS}{t:Int}(h:Wd.th t∈s.aM):t∉eP s:=λm=>(ck.mp m).2 (.root (LW _ h) (ck.mp m).1)
theorem EF{s:HS}(g:Good s){u t:Int}{ws:List Wd}(m:(u,ws)∈s.aG)(hu:u∉eP s)(h:Wd.th t∈ws):t∉eP s:=λmt=>by
 by_cases c:u∈s.yng
 ·have lu:Led (rk s) (fld s) s.yng u:=Mr λz=>hu (ck.mpr ⟨c,z⟩)
  exact(ck.mp mt).2 (.step lu (by rw[g.fld m];exact h) (ck.mp mt).1)
 ·exact(ck.mp mt).2 (.root (LJ _ (Ah.mpr ⟨u,ws,m,c,h⟩)) (ck.mp mt).1)
theorem Gd.small{s:HS}(d:Gd s):Gd (eQ s) where
 g:=d.g.noY.letGo (qg d.g) (rX d.g) (λt h=>CP h) (λu ws t m hu h=>EF d.g m hu h) (λt m=>nomatch m) (λt m z=>d.dy t m (ck.mp z).1)
 dy:=λt _ m=>nomatch m
 dh:=d.dh
 df:=λu ws t m hu h=>d.df u ws t (cQ.mp m).1 hu h
 rd:=d.rd
theorem fL{s:HS}{t:Int}:t∈rm s↔t∈keys s∧¬Led s.aM (fld s) (keys s) t:=by unfold rm;rw[Mj];simp
theorem Gd.beg{s:HS}(d:Gd s)(hy:s.yng=[]):Gd (CM s) where
 g:=d.g.La (λt m=>mem_keys.mp (fL.mp m).1) (MP MG d.g.asc)
 dy:=λt _ m=>by rw[show(CM s).yng=[] from hy]at m;cases m
 dh:=λt h m=>(fL.mp m).2 (.root h (fL.mp m).1)
 df:=λu ws t m hu h mt=>by
  have lu:Led s.aM (fld s) (keys s) u:=Mr λz=>hu (fL.mpr ⟨mem_keys.mpr ⟨ws,m⟩,z⟩);exact(fL.mp mt).2 (.step lu (by rw[d.g.fld m];exact h) (fL.mp mt).1)
 rd:=λh=>by cases h
theorem Gd.fin{s:HS}(d:Gd s):Gd (DM s) where
 g:=d.g.noD.letGo d.g.qd d.g.dk (λt h=>d.dh t h) (λu ws t m hu h=>d.df u ws t m hu h) (λt m z=>d.dy t z m) (λt m=>nomatch m)
 dy:=λt m=>nomatch m
 dh:=λt _ m=>nomatch m
 df:=λu ws t _ _ _ m=>nomatch m
 rd:=λ_=>rfl
theorem hG{s:HS}{t u:Int}:u∈(hZ s t).bc↔u∈s.bc∧¬Led [.th t] (fld s) s.bc u:=by unfold hZ;rw[Mj];simp
structure GdN(s:HS):Prop where
 g:Good s
 dy:∀ t∈s.bc,t∉s.yng
 df:∀ u ws t,(u,ws)∈s.aG→u∉s.bc→Wd.th t∈ws→t∉s.bc
 rd:s.rnd=false→s.bc=[]
theorem Good.Iu{s:HS}(g:Good s){ds:List Int}(h:ds.Sublist s.bc):Good {s with bc:=ds}:=⟨g.h8,g.n8,g.asc,g.lt,g.f6,g.hh,g.ff,g.nn,g.b12,g.bk,g.bnd,g.n0,g.nx,g.sd,g.yk,g.pA,(λt m=>g.dk t (h.subset m)),g.qd.sublist h⟩
theorem Gd.Iv{s:HS}(d:GdN s){t:Int}(ht:t∈s.bc)(hh:∀ u,Wd.th u∈s.aM→u=t∨u∉s.bc):Gd (hZ s t) where
 g:=d.g.Iu MG
 dy:=λu m=>d.dy u (hG.mp m).1
 dh:=λu h m=>by
  rcases hh u h with e|e
  ·exact(hG.mp m).2 (by rw[e];exact .root LR ht)
  ·exact e (hG.mp m).1
 df:=λu ws v m hu h mv=>by
  obtain⟨v1,v2⟩:=hG.mp mv;by_cases c:u∈s.bc
  ·have lu:Led [.th t] (fld s) s.bc u:=Mr λz=>hu (hG.mpr ⟨c,z⟩)
   exact v2 (.step lu (by rw[d.g.fld m];exact h) v1)
  ·exact d.df u ws v m c h v1
 rd:=λh=>by
  have:=d.rd h
  show s.bc.filter _=[];rw[this];rfl
theorem xu{s:HS}{n:Int}:(mkR s n).limit=s.limit:=by unfold mkR;split<;>rfl
theorem mU{s:HS}{n:Int}:(mkR s n).nxt=s.nxt:=by unfold mkR;split<;>rfl
theorem Gd.mkd{s:HS}(d:Gd s){n:Int}:Gd (mkR s n):=by
 unfold mkR;split
 ·exact d.small
 ·exact d
def yC:Sp:=λvs H Q _=>∃ x A s,vs=[.ref x]∧IH H x A s∧Good s∧∀ v A' H',IH H' x A' (eQ s)→Fr (aV x A s) H (aV x A' (eQ s)) H'→Q v H'
abbrev fu:List Str:=["self", "leads", "t", "kept", "gone"]
theorem bG:ar fu ["self"] (ao cT):=fsc
theorem jC(T:Txt w K mg):Ok P w K mg base 4 757 ["self"] (yC):=by
 refine T.o1 "Heap.small_round" bG λcdv A' outer s' H vs Q E hr h=>?_;obtain⟨x,A,s,rfl,J,G,k⟩:=h;have hu:=bX hr;refine⟨_,(PSs.nox (af (aw (i:=1) bG.nd rfl (Or.inl rfl) ((cV T).m0 T.aP hr (aE (pv 0) rfl) bR))
  (af (bq LP rfl (dj (eN (aE (pv 0) rfl))) (aL (i:=2) bG.nd rfl (Or.inl rfl))
   (ag (aO (cA (bo hu (pv 2) (aE (pv 0) rfl)) (by with_unfolding_all rfl))
    (ag (au (kr PySem.F.plainAttrs_list PySem.F.slot_list_extend PySem.F.type_list_extend xV (pv 1) (aa (bU hu (aE (pv 0) rfl) (pv 2) (λ_ _=>rfl)) ah))))
    aC)))
  (af (wF (aw (i:=3) bG.nd rfl (Or.inr rfl) ((dB T).m T.ae hr (pv 0) bR (aa (pv 1) (aa (aE (pv 0) rfl) ah)))))
  (af (zN (cl:=[("kept",s'.heap.objs.size+1)]) (x := "t") (idx:=[3]) (NC:=["t", "kept"]) (i:=4) bG.nd rfl rfl ?co1 rfl (dj (eN (aE (pv 0) rfl))) (λC fp s₀ H₀=>(cA (bo hu (pv 0) (pv 1)) (by with_unfolding_all rfl))) (λC fp s₀ H₀=>(pv 0)))
  (af (wF (b8 (pv 0) bQ rfl))
  (af (au ((jg T).m T.ae hr (pv 0) bR (aa (pv 4) ah)))
  (ag (aA (pv 4)))))))))),?_⟩
 case co1 =>
  exact bP (sc:=ao cT) (N:=fu) (ns:=["kept"]) rfl rfl rfl (by decide +kernel) rfl rfl (by
   intro q hq;rw[Lr.mp hq];rfl)
 refine⟨_,rfl,x,980,_,_,.ref A.hd,rfl,J.ax,T.ae,T.n,gY,A.hd,A.hdx,_,rfl,J.ahd,rfl,A.hd,A.hdx,A.hl,A.hx,s.aM,rfl,J.hn G,λp H1 s1 hp z1=>?_⟩;have J1:=J.same s1;have nfp:¬aV x A s p:=J.fresh hp;refine⟨_,rfl,x,980,_,_,.ref A.fh,rfl,J1.ax,T.ae,T.n,ir,A.fh,_,J1.afh,λo=>?_⟩;have yf:A.yg≠A.fh:=L4 J.d4;have pf:p≠A.fh:=λe=>nfp (by rw[e];exact .fh);have py:p≠A.yg:=λe=>nfp (by rw[e];exact .yg);have lk:(s.aG.map (fkv A)).length=s.aG.length:=Lp _;refine⟨A.fh,o,_,rfl,ab,eI (d:=A.fh) (o:=o) (kvs:=s.aG.map (fkv A)) (λi σ Hc=>∃ v2,σ=[some (.ref x),some (.ref p),v2,none,none]∧((∀ b u,b≠A.fh→b≠p→H1 b=some u→Hc b=some u)∧Hc A.fh=some (.frz o (.dK (s.aG.map (fkv A)))))∧∃ ys,Hc p=some (.lst ys)∧Rel Hc ys (s.aM++uZ (s.aG.take i) s.yng))
  ⟨none,rfl,⟨λb u n _ q=>by rw[ak n];exact q,ab⟩,A.hx,by rw[ak pf];exact z1,by rw[Mu,show uZ [] s.yng=[] from rfl,Ms];exact J1.rhl.keep (cN.set J1.afh (λ_ z=>nomatch z))⟩ (λi σ Hc _ ⟨_,_,oc,_⟩=>oc.2) ?_ ?_⟩
 ·rintro i q σ Hc hi ⟨v2,rfl,oc,ys,hy,ry⟩
  rw[Lz]at hi;obtain⟨⟨t,ws⟩,ht,rfl⟩:=LG.mp hi;have m:=LD ht;have tk:=take_snoc ht;obtain⟨hl,rl⟩:=J1.afl _ _ m;have nlf:A.fa t≠A.fh:=bI hl J1.afh (by intro z;cases z);have nlp:A.fa t≠p:=λe=>nfp (by rw[←e];exact .fl m);have hlc:=oc.1 _ _ nlf nlp hl;have tc:cN H1 Hc:=λb us q=>oc.1 b _ (bI q J1.afh (by intro z;cases z)) (bI q z1 (by intro z;cases z)) q;have xf:x≠A.fh:=bI J1.ax J1.afh (by intro z;cases z);have xp:x≠p:=λe=>nfp (by rw[←e];exact .x);have axc:=oc.1 _ _ xf xp J1.ax;have ygc:=oc.1 _ _ yf (L4 py) J1.ayg;refine⟨_,rfl,_,rfl,x,980,_,_,.ref A.yg,rfl,axc,T.ae,T.n,vI,A.yg,_,rfl,eG.k (k:=Sum.inl t) ygc,_,rfl,?_⟩;rw[(qf s.yng).isS];by_cases c:t∈s.yng
  ·rw[decide_eq_true c]
   refine b4 ⟨_,rfl,oc,ys,hy,?_⟩;rw[tk,rW,if_pos c,Ms];exact ry
  ·rw[decide_eq_false c]
   have fl:=xt (fs:=s.aG.take i) (yn:=s.yng) λt ws m=>G.f6 t ws (MR m);have f6:=G.f6 _ _ m;have fw:=G.few;have ly:ys.length≤60100:=(by rw[ry.1,Lw,G.h8];rw[LM]at fl;omega);refine cZ ⟨_,rfl,.inl ⟨rfl,_,SqL.of hy⟩,_,rfl,x,980,_,_,.ref A.fh,rfl,axc,T.ae,T.n,ir,_,rfl,A.fh,.ref (A.fa t),rfl,.inl ⟨_,Sum.inl t,.inr ⟨o,oc.2⟩,rfl,by rw[AV,G.get m];rfl⟩,p,A.fa t,ys,A.fx t,rfl,rfl,hy,hlc,?_,?_⟩
   ·have:=rl.1
    exact LL (show ys.length+(A.fx t).length≤70000 by omega) (by decide)
   ·refine⟨_,rfl,⟨λb u n1 n2 q=>by rw[ak n2];exact oc.1 b u n1 n2 q,by rw[ak (L4 pf)];exact oc.2⟩,_,ab,?_⟩
    rw[tk,rW,if_neg c,←Nc];exact((CN ry (rl.keep tc)).keep (cN.set hy (λ_ z=>nomatch z)))
 ·rintro σ Hc ⟨v2,rfl,oc,ys,hy,ry⟩
  rw[lk,LF (Lu _)]at ry;refine⟨A.fh,o,_,oc.2,(λo' u' q=>by have q:H A.fh=some (.frz o' u'):=q;rw[J.afh]at q;cases q),?_⟩;have kp:∀ b u,b≠p→H1 b=some u→upd Hc A.fh (.dK (s.aG.map (fkv A))) b=some u:=λb u n q=>by
   by_cases c:b=A.fh
   ·subst c
    rw[J1.afh]at q;cases q;exact ab
   ·rw[ak c];exact oc.1 b u c n q
  have hy2:upd Hc A.fh (.dK (s.aG.map (fkv A))) p=some (.lst ys):=by rw[ak pf];exact hy
  have ry2:Rel (upd Hc A.fh (.dK (s.aG.map (fkv A)))) ys (rk s):=ry.keep (λb us q=>by rw[ak λe=>by rw[e,oc.2]at q;cases q];exact q);obtain⟨H2,e2⟩:∃ H2,upd Hc A.fh (.dK (s.aG.map (fkv A)))=H2:=⟨_,rfl⟩;rw[e2]at kp hy2 ry2 ⊢;clear e2 ry hy oc;have t2:cN H1 H2:=λb us q=>kp b _ (bI q z1 (by intro z;cases z)) q;have J2:IH H2 x A s:=J1.keep (λb u f q=>kp b u (λe=>nfp (by rw[←e];exact f)) q) t2;have fr2:Fr (aV x A s) H (aV x A s) H2:=⟨λb u n q=>kp b u (ai q hp) (s1 _ _ q),λ_ f=>.inl f,λb u q=>⟨u,kp b u (ai q hp) (s1 _ _ q)⟩,(cN.of s1).trans t2⟩;have fl:=xt (fs:=s.aG) (yn:=s.yng) G.f6;have fw:=G.few;refine⟨_,rfl,x,_,_,rfl,J2.ax,(by kernel_rfl),_,rfl,_,rfl,x,980,_,_,.ref A.yg,rfl,J2.ax,T.ae,T.n,vI,x,A,s,p,ys,rk s,A.yg,_,s.yng,rfl,J2,G,hy2,ry2,by unfold rk;rw[Lw,G.h8];omega,J2.ayg,qf _,G.yk,g5 G.pA,qV G,λst kv ms H3 s3 hst h3 k3 n3 m3=>?_⟩;have J3:=J2.same s3;refine⟨_,rfl,x,980,_,_,.ref A.yg,rfl,J3.ax,T.ae,T.n,vI,A.yg,_,J3.ayg,λo2=>?_⟩;refine⟨A.yg,o2,_,rfl,ab,λL hL=>?_⟩;have nsy:st≠A.yg:=λe=>by rw[e,J2.ayg]at hst;cases hst
  have st3:upd H3 A.yg (.frz o2 (.dK (s.yng.map tkv))) st=some (.dK kv):=by rw[ak nsy];exact h3
  refine qa (d:=A.yg) (o:=o2) (kvs:=s.yng.map tkv) (λi zs Hc=>zs=((s.yng.take i).filter λt=>decide (t∉ms)).map V.int∧aq (upd H3 A.yg (.frz o2 (.dK (s.yng.map tkv)))) Hc∧Hc L=some (.lst zs)) ⟨rfl,aq.upd hL,ab⟩ (λi zs Hc hi ⟨e,_,z⟩=>⟨z,by rw[e,Lp];exact LL (MA _ _) (by rw[LM];omega)⟩) (λi zs Hc _ ⟨_,sc,_⟩=>sc _ _ ab) (by rw[Lp];exact gC (LL (qV G) (by decide))) (λi q zs Hc hi ⟨e,sc,z⟩=>?_) (λzs Hc ⟨e,sc,z⟩=>?_)
  ·obtain⟨t,ht,ekv,ep⟩:=(qf s.yng).at_ hi
   have tk:=take_snoc ht;rw[ekv];refine⟨_,rfl,_,rfl,st,_,rfl,eG.k (k:=Sum.inl t) (sc _ _ st3),_,rfl,?_⟩;rw[k3.isS];by_cases c:t∈ms
   ·rw[decide_eq_true c]
    refine b4 ⟨?_,sc,z⟩;rw[tk,Na,e];simp[c]
   ·rw[decide_eq_false c]
    refine cZ ⟨_,rfl,z,?_,λb u q=>by rw[ak (ai q hL)];exact sc b u q,ab⟩;rw[tk,Na,e];simp[c]
  ·rw[Lp,LF (Lu _)]at e
   have eg:(s.yng.filter λt=>decide (t∉ms))=eP s:=yB m3;rw[eg]at e;subst e;refine⟨A.yg,o2,_,sc _ _ ab,(λo' u' q=>by have q:H A.yg=some (.frz o' u'):=q;rw[J.ayg]at q;cases q),?_⟩;have sm:aq H3 (upd Hc A.yg (.dK (s.yng.map tkv))):=λb u q=>by
    by_cases c:b=A.yg
    ·subst c
     rw[J3.ayg]at q;cases q;exact ab
    ·rw[ak c];exact sc b u (by rw[ak c];exact q)
   have nLy:L≠A.yg:=λe=>by rw[e,ab]at hL;cases hL
   have zL:upd Hc A.yg (.dK (s.yng.map tkv)) L=some (.lst ((eP s).map V.int)):=(by rw[ak nLy];exact z);have hL3:H3 L=none:=(by rw[ak nLy]at hL;exact hL);have Lb:=J3.fresh hL3;obtain⟨H4,e4⟩:∃ H4,upd Hc A.yg (.dK (s.yng.map tkv))=H4:=⟨_,rfl⟩;rw[e4]at sm zL ⊢;clear e4;have J4:=J3.same sm;intro p2 hp2;have w:=J4.K6 hp2;have xp2:x≠p2:=ai J4.ax hp2;refine⟨_,rfl,x,980,A.dx,_,rfl,(by rw[ak xp2];exact J4.ax),T.ae,T.n,by show 11<1000;decide,?_⟩;obtain⟨J5,fr5⟩:=w;have oL:=fr5.out Lb zL;refine⟨_,rfl,x,_,_,rfl,J5.ax,(by kernel_rfl),_,rfl,x,_,_,L,eP s,rfl,J5,G.n8,oL.2,oL.1,qg G,LL (MA _ _) (qV G),(by have:=G.sd;have:=G.nx;show s.iN.length≤10000;omega),rX G,λA6 H6 J6 fr6=>⟨_,rfl,k _ A6 H6 J6 ((((fr2.trans (Fr.same s3)).trans (Fr.same sm)).trans fr5).trans fr6)⟩⟩
end
section
variable{P:Program}{w:World}{K:W.Frag}{mg:Str→Option Value}{base:Heap}
def Ak:Sp:=λvs H Q _=>∃ x A s,vs=[.ref x]∧IH H x A s∧Good s∧∀ A' H',IH H' x A' (eQ s)→Fr (aV x A s) H (aV x A' (eQ s)) H'→Q .non H'
abbrev lh:List Str:=["self"]
theorem kf:ar lh ["self"] (ao fV):=fsc
theorem cW(T:Txt w K mg):Ok P w K mg base 5 886 ["self"] (Ak):=by
 refine T.o1 "IdealHeap.small" kf λcdv A' outer s' H vs Q E hr h=>?_;obtain⟨x,A,s,rfl,J,G,k⟩:=h;refine⟨_,(PSs.nox (ag (au ((jC T).m0 T.ae hr (pv 0) bR)))),?_⟩;exact⟨_,rfl,x,_,_,rfl,J.ax,(by kernel_rfl),x,A,s,rfl,J,G,λv A' H' J' fr=>k A' H' J' fr⟩
def EG:Sp:=λvs H Q E=>∃ x A s,vs=[.ref x]∧IH H x A s∧Gd s∧Fin x A s H (o9 s) Q E
theorem IH.Lc{H:Hp}{x:Addr}{A:HA}{s:HS}(J:IH H x A s){b:Addr}(f:aV x A s b)(o:Obj)(u:HO):H b≠some (.frz o u):=by
 intro q;cases f with
 | c i=>rw[J.c i]at q;cases i<;>cases q
 | fl m=>rw[(J.afl _ _ m).1]at q;cases q
abbrev ll:List Str:=["self", "kept", "t"]
theorem cX:ar ll ["self"] (ao fW):=fsc
theorem kg(T:Txt w K mg):Ok P w K mg base 6 893 ["self"] (EG):=by
 refine T.o1 "IdealHeap.begin" cX λcdv A' outer s' H vs Q E hr h=>?_;obtain⟨x,A,s,rfl,J,Gs,k⟩:=h;have hu:=bX hr;refine⟨_,(af (aO (fF (aE (pv 0) rfl))
   (ag (bF rfl dE ((av T).e 179 hr px (aa aJ ah))))
   aC)
  (af (au ((cW T).m0 T.ae hr (pv 0) px))
  (af (b8 (pv 0) iP rfl)
  (af (aw (i:=1) cX.nd rfl (Or.inl rfl) ((dB T).m T.ae hr (pv 0) px (aa ((cV T).m0 T.aP hr (aE (pv 0) rfl) px) (aa (aE (pv 0) rfl) ah))))
  (ag (PS.nox (CI (bq LP rfl (dj (eN (aE (pv 0) rfl))) (aL (i:=2) cX.nd rfl (Or.inl rfl))
   (ag (aO (cA (bo hu (pv 2) (pv 1)) (by with_unfolding_all rfl))
    (ag (bY hu (aE (pv 0) rfl) (pv 2) iP rfl))
    aC)))))))))),?_⟩
 refine⟨_,rfl,x,980,_,_,.bl s.rnd,rfl,J.ax,T.ae,T.n,BK,_,rfl,?_⟩;by_cases c:s.rnd=true
 ·rw[show o9 s=(some .on,s) from if_pos c]at k
  exact iw c (λea hea=>aZ (T.ec 179) (λ_ q=>q) (k.bad J) ea hea)
 ·rw[show o9 s=(none,CM (eQ s)) from if_neg c]at k
  refine b7 (L7.mpr c) ?_;refine⟨_,rfl,x,_,_,rfl,J.ax,(by kernel_rfl),x,A,s,rfl,J,Gs.g,λA1 H1 J1 fr1=>?_⟩;have G1:=Gs.small;have d0:(eQ s).bc=[]:=Gs.rd (L7.mpr c);obtain⟨s1,es⟩:∃ s1,eQ s=s1:=⟨_,rfl⟩;rw[es]at J1 fr1 G1 k d0;refine⟨_,rfl,x,980,A1.dx,_,rfl,J1.ax,T.ae,T.n,by show 11<1000;decide,?_⟩;have w2:=J1.I0 (n:=true);obtain⟨H2,e2⟩:∃ H2,upd H1 x (.ins 980 A1.dx (cB "in_round" (.bl true) (atts A1 s1)))=H2:=⟨_,rfl⟩;rw[e2]at w2;show tq _ _ _ _ (upd H1 x (.ins 980 A1.dx (cB "in_round" (.bl true) (atts A1 s1))));rw[e2];clear e2;obtain⟨J2,fr2⟩:=w2;have G2:Good {s1 with rnd:=true}:=⟨G1.g.h8,G1.g.n8,G1.g.asc,G1.g.lt,G1.g.f6,G1.g.hh,G1.g.ff,G1.g.nn,G1.g.b12,G1.g.bk,G1.g.bnd,G1.g.n0,G1.g.nx,G1.g.sd,G1.g.yk,G1.g.pA,G1.g.dk,G1.g.qd⟩;refine⟨_,rfl,x,_,_,rfl,J2.ax,(by kernel_rfl),_,rfl,x,980,_,_,.ref A1.hd,rfl,J2.ax,T.ae,T.n,gY,A1.hd,A1.hdx,_,rfl,J2.ahd,rfl,A1.hd,A1.hdx,A1.hl,A1.hx,s1.aM,rfl,J2.hn G2,λp H3 s3 hp z3=>?_⟩;have J3:=J2.same s3;refine⟨_,rfl,x,980,_,_,.ref A1.fh,rfl,J3.ax,T.ae,T.n,ir,x,A1,_,p,A1.hx,s1.aM,A1.fh,_,keys s1,rfl,J3,G2,z3,J3.rhl,by rw[G1.g.h8];decide,J3.afh,yV s1 A1,(λt m=>mem_keys.mp m),g5 G1.g.asc,by unfold keys;rw[Lp];exact G1.g.few,λst kv ms H4 s4 hst h4 k4 n4 m4=>?_⟩;have J4:=J3.same s4;have fr4:=((fr1.trans fr2).trans (Fr.same s3)).trans (Fr.same s4);refine⟨_,rfl,x,980,_,_,.ref A1.fh,rfl,J4.ax,T.ae,T.n,ir,A1.fh,_,J4.afh,λo=>?_⟩;have df:A1.dm≠A1.fh:=L4 J4.d5;have sf:st≠A1.fh:=ai J3.afh hst |>.symm;have sd:st≠A1.dm:=ai J3.adm hst |>.symm;have xf:x≠A1.fh:=bI J4.ax J4.afh (by intro z;cases z);have xd:x≠A1.dm:=bI J4.ax J4.adm (by intro z;cases z);have Ld:H4 A1.dm=some (.dK []):=by have:=J4.adm;rw[show({s1 with rnd:=true}:HS).bc=[] from d0]at this;exact this
  refine⟨A1.fh,o,_,rfl,ab,eI (d:=A1.fh) (o:=o) (kvs:=s1.aG.map (fkv A1)) (λi σ Hc=>∃ v2,σ=[some (.ref x),some (.ref st),v2]∧((∀ b u,b≠A1.fh→b≠A1.dm→H4 b=some u→Hc b=some u)∧Hc A1.fh=some (.frz o (.dK (s1.aG.map (fkv A1)))))∧Hc A1.dm=some (.dK ((((keys s1).take i).filter λt=>decide (t∉ms)).map tkv)))
   ⟨none,rfl,⟨λb u n _ q=>by rw[ak n];exact q,ab⟩,by rw[ak df];exact Ld⟩ (λi σ Hc _ ⟨_,_,oc,_⟩=>oc.2) ?_ ?_⟩
  ·rintro i q σ Hc hi ⟨v2,rfl,oc,hdm⟩
   obtain⟨t,ht,ekv,ep⟩:=(yV s1 A1).at_ hi;have tk:=take_snoc ht;rw[ekv];refine⟨_,rfl,_,rfl,st,_,rfl,eG.k (k:=Sum.inl t) (oc.1 _ _ sf sd h4),_,rfl,?_⟩;rw[k4.isS];by_cases c2:t∈ms
   ·rw[decide_eq_true c2]
    refine b4 ⟨_,rfl,oc,?_⟩;rw[tk,Na,hdm];simp[c2]
   ·rw[decide_eq_false c2]
    have ni:t∉((keys s1).take i).filter λt=>decide (t∉ms):=λz=>qY (show(keys s1).Pairwise (·< ·) from G1.g.asc) ht (Mj.mp z).1;have lz:((((keys s1).take i).filter λt=>decide (t∉ms)).map tkv).length<sizeLine:=by
     rw[Lp];refine eO (LL (MA _ _) ?_)
     have:=G1.g.few
     rw[LM];unfold keys;rw[Lp];omega
    refine cZ ⟨_,rfl,x,980,_,_,.ref A1.dm,rfl,oc.1 _ _ xf xd J4.ax,T.ae,T.n,vJ,_,rfl,A1.dm,_,rfl,jS.k (k:=Sum.inl t) hdm lz,?_⟩;refine⟨_,rfl,⟨λb u n1 n2 q=>by rw[ak n2];exact oc.1 b u n1 n2 q,by rw[ak (L4 df)];exact oc.2⟩,?_⟩;rw[ab,dM _ ((qf _).non ni),tk,Na,LA];simp[c2,tkv]
  ·rintro σ Hc ⟨v2,rfl,oc,hdm⟩
   rw[Lp,LF (by unfold keys;rw[Lp];exact Lu _),Ai (show ∀ t,t∈ms↔Led s1.aM (fld s1) (keys s1) t from m4)]at hdm;refine⟨A1.fh,o,_,oc.2,(λo' u' q=>?_),?_⟩
   ·have q:H A1.fh=some (.frz o' u'):=q
    rcases(fr1.grow A1.fh .fh) with f|f
    ·obtain⟨u,hu1,_⟩:=J.is f
     rw[q]at hu1;cases hu1;obtain⟨u2,hu2,_⟩:=J.is f;exact absurd q (J.Lc f o' u')
    ·rw[f]at q;cases q
   ·have w5:=J4.IZ (ts:=rm s1)
    have sm:aq (upd H4 A1.dm (.dK ((rm s1).map tkv))) (upd Hc A1.fh (.dK (s1.aG.map (fkv A1)))):=λb u q=>by
     by_cases c3:b=A1.fh
     ·rw[c3,ak (L4 df)]at q
      rw[c3,ab];exact J4.afh.symm.trans q
     ·rw[ak c3]
      by_cases c4:b=A1.dm
      ·rw[c4,ab]at q
       rw[c4,hdm];exact q
      ·rw[ak c4]at q
       exact oc.1 b u c3 c4 q
    exact k A1 _ (w5.1.same sm) ((fr4.trans w5.2).trans (Fr.same sm))
def EH:Sp:=λvs H Q E=>∃ x A s,vs=[.ref x]∧IH H x A s∧Gd s∧Fin x A s H (AZ s) Q E
abbrev oJ:List Str:=["self", "gone"]
theorem gT:ar oJ ["self"] (ao ig):=fsc
theorem mV(T:Txt w K mg):Ok P w K mg base 4 900 ["self"] (EH):=by
 refine T.o1 "IdealHeap.end" gT λcdv A' outer s' H vs Q E hr h=>?_;obtain⟨x,A,s,rfl,J,Gs,k⟩:=h;refine⟨_,(af (aO (gw (fF (aE (pv 0) rfl)))
   (ag (bF rfl dE ((av T).e 198 hr px (aa aJ ah))))
   aC)
  (af (b8 (pv 0) iP rfl)
  (af (aw (i:=1) gT.nd rfl (Or.inl rfl) (cM (kA rfl) rfl T.z PyProof.Rows.Boot.«list» (aa (aE (pv 0) rfl) ah)))
  (af (b8 (pv 0) bQ rfl)
  (ag (au ((jg T).m T.ae hr (pv 0) px (aa (pv 1) ah)))))))),?_⟩
 refine⟨_,rfl,x,980,_,_,.bl s.rnd,rfl,J.ax,T.ae,T.n,BK,_,rfl,?_⟩;by_cases c:s.rnd=true
 ·rw[show AZ s=(none,DM s) from if_pos c]at k
  refine b7 (by rw[c];rfl) ?_;refine⟨_,rfl,x,980,A.dx,_,rfl,J.ax,T.ae,T.n,by show 11<1000;decide,?_⟩;have w2:=J.I0 (n:=false);obtain⟨H2,e2⟩:∃ H2,upd H x (.ins 980 A.dx (cB "in_round" (.bl false) (atts A s)))=H2:=⟨_,rfl⟩;rw[e2]at w2;show tq _ _ _ _ (upd H x (.ins 980 A.dx (cB "in_round" (.bl false) (atts A s))));rw[e2];clear e2;obtain⟨J2,fr2⟩:=w2;refine⟨_,rfl,x,980,_,_,.ref A.dm,rfl,J2.ax,T.ae,T.n,vJ,A.dm,_,s.bc,rfl,.inl J2.adm,qf _,λL hL=>?_⟩;have s3:=aq.upd (o:=.lst (s.bc.map V.int)) hL;have J3:=J2.same s3;have nfL:=J2.fresh hL;intro p2 hp2;have w:=J3.K7 hp2;have xp2:x≠p2:=ai J3.ax hp2;refine⟨_,rfl,x,980,A.dx,_,rfl,(by rw[ak xp2];exact J3.ax),T.ae,T.n,by show 11<1000;decide,?_⟩;obtain⟨J5,fr5⟩:=w;have oL:=fr5.out nfL ab;refine⟨_,rfl,x,_,_,rfl,J5.ax,(by kernel_rfl),_,rfl,x,_,_,L,s.bc,rfl,J5,Gs.g.n8,oL.2,oL.1,Gs.g.qd,xn Gs.g,(by have:=Gs.g.sd;have:=Gs.g.nx;show s.iN.length≤10000;omega),Gs.g.dk,λA6 H6 J6 fr6=>k A6 H6 J6 (((fr2.trans (Fr.same s3)).trans fr5).trans fr6)⟩
 ·rw[show AZ s=(some .no,s) from if_neg c]at k
  refine iw (by rw[L7.mpr c];rfl) ?_;exact λea hea=>aZ (T.ec 198) (λ_ q=>q) (k.bad J) ea hea
def EI:Sp:=λvs H Q _=>∃ x A s,vs=[.ref x]∧IH H x A s∧Q (.bl s.rnd) H
abbrev iX:List Str:=["self"]
theorem iI:ar iX ["self"] (ao d7):=fsc
theorem iJ(T:Txt w K mg):Ok P w K mg base 1 907 ["self"] (EI):=by
 refine T.o1 "IdealHeap.round_on" iI λcdv A' outer s' H vs Q E hr h=>?_;obtain⟨x,A,s,rfl,J,k⟩:=h;refine⟨_,(PSs.nox (ag (aA (aE (pv 0) rfl)))),?_⟩;exact⟨_,rfl,x,980,_,_,.bl s.rnd,rfl,J.ax,T.ae,T.n,BK,k⟩
end
section
variable{P:Program}{w:World}{K:W.Frag}{mg:Str→Option Value}{base:Heap}
theorem Iw{ts:List Int}{n:Option Int}:inO (ts.map tkv) (n.map Sum.inl)=(match n with|some t=>decide (t∈ts)|none=>false):=by
 cases n with
 | none=>rfl
 | some t=>exact Jb
theorem EJ(z:Option Int):nmV z=G8 (z.map Sum.inl):=by cases z<;>rfl
def Al:Sp:=λvs H Q _=>∃ x A s,∃ t:Int,vs=[.ref x,.int t]∧IH H x A s∧Good s∧0≤t∧∀ A' H',IH H' x A' (hZ s t)→Fr (aV x A s) H (aV x A' (hZ s t)) H'→Q .non H'
theorem Am{ts:List Int}{t:Int}{v:V}(h:cC (ts.map tkv) (Sum.inl t)=some v):v=.bl true:=by
 unfold cC at h;obtain⟨p,hp,e⟩:=LG.mp h;obtain⟨u,_,rfl⟩:=LH.mp (List.mem_of_find?_eq_some hp);exact e.symm
theorem CQ{ts:List Int}{t:Int}:iQ (ts.map tkv) (Sum.inl t)=(ts.filter λp=>decide (p≠t)).map tkv:=by
 unfold iQ;rw[NA];congr 1
 refine Mv λp _=>?_;show decide (Sum.inl p≠(Sum.inl t:Key))=decide (p≠t);simp
abbrev lq:List Str:=["self", "t", "spared", "other"]
theorem cY:ar lq ["self", "t"] (ao fY):=fsc
theorem kh(T:Txt w K mg):Ok P w K mg base 4 977 ["self", "t"] (Al):=by
 refine T.o2 "IdealHeap.spare" cY λcdv A' outer s' H vs Q E hr h=>?_;obtain⟨x,A,s,t,rfl,J,G,t0,k⟩:=h;refine⟨_,(PSs.nox (af (aw (i:=2) cY.nd rfl (Or.inl rfl) ((dB T).m T.ae hr (pv 0) bR (aa (bM (aa ((fA T).c hr bR (aa (pv 1) ah)) ah)) (aa (aE (pv 0) rfl) ah))))
  (ag (bq LP rfl (dj (eN (pv 2))) (aL (i:=3) cY.nd rfl (Or.inl rfl))
   (ag (au (qw (aE (pv 0) rfl) (pv 3) ⟨rfl,rfl,rfl,rfl⟩))))))),?_⟩
 refine⟨_,rfl,x,_,_,rfl,J.ax,(by kernel_rfl),_,rfl,t,rfl,t0,λtp H1 s1 hp=>⟨by show 1≤sizeLine;decide,λl hl=>?_⟩⟩;have s2:=aq.upd (o:=.lst [V.ref tp]) hl;have J2:=(J.same s1).same s2;have rl:Rel (upd H1 l (.lst [V.ref tp])) [.ref tp] [.th t]:=⟨rfl,λi v w h1 h2=>by
  cases i with
  | zero=>cases h1;cases h2;exact⟨tp,rfl,s2 _ _ hp⟩
  | succ i=>cases h1⟩
 refine⟨_,rfl,x,980,_,_,.ref A.dm,rfl,J2.ax,T.ae,T.n,vJ,x,A,s,l,_,[.th t],A.dm,_,s.bc,rfl,J2,G,ab,rl,by show 1≤100000;decide,J2.adm,qf _,G.dk,g5 G.qd,xn G,λst kv ms H3 s3 hst h3 k3 n3 m3=>?_⟩;have J3:=J2.same s3;have fr3:=((Fr.same (F:=aV x A s) s1).trans (Fr.same s2)).trans (Fr.same s3);have nfs:=J2.fresh hst;refine⟨_,rfl,st,kv,h3,λo=>?_⟩;have sub:∀ u∈ms,u∈s.bc:=λu m=>((m3 u).mp m).mem;have H4s:∀ b u,b≠st→H3 b=some u→upd H3 st (.frz o (.dK kv)) b=some u:=λb u n q=>by rw[ak n];exact q
 have t4:cN H3 (upd H3 st (.frz o (.dK kv))):=cN.set h3 (λ_ z=>nomatch z);have J4:IH (upd H3 st (.frz o (.dK kv))) x A s:=J3.keep (λb u f q=>H4s b u (λe=>nfs (by rw[←e];exact f)) q) t4;have bk:H st=none:=aq.none s1 (aq.none s2 hst);have fr4:Fr (aV x A s) H (aV x A s) (upd H3 st (.frz o (.dK kv))):=⟨λb u n q=>H4s b u (ai q bk) (fr3.ext b u n q),λ_ f=>.inl f,λb u q=>by obtain⟨u',q'⟩:=fr3.all b u q;exact⟨u',H4s b u' (ai q bk) q'⟩,fr3.tup.trans t4⟩;refine⟨st,o,kv,rfl,ab,eI (d:=st) (o:=o) (kvs:=kv) (λi σ Hc=>∃ v3,σ=[some (.ref x),some (.int t),some (.ref st),v3]∧IH Hc x A {s with bc:=s.bc.filter λu=>decide (u∉ms.take i)}∧Fr (aV x A s) H (aV x A {s with bc:=s.bc.filter λu=>decide (u∉ms.take i)}) Hc∧Hc st=some (.frz o (.dK kv)))
  ⟨none,rfl,(by rw[Mu,show(s.bc.filter λu=>decide (u∉([]:List Int)))=s.bc by simp];exact J4),(by rw[Mu,show(s.bc.filter λu=>decide (u∉([]:List Int)))=s.bc by simp];exact fr4),ab⟩ (λi σ Hc _ ⟨_,_,_,_,z⟩=>z) ?_ ?_⟩
 ·rintro i q σ Hc hi ⟨v3,rfl,Jc,frc,z⟩
  obtain⟨u,hu',ekv,ep⟩:=k3.at_ hi;have tk:=take_snoc hu';have ni:u∉ms.take i:=λm=>by
   have:=Mq.mp (show(ms.take i++ms.drop i).Nodup by rw[MO];exact n3)
   have hlt:=(Lq.mp hu').1;exact this.2.2 u m u (by rw[MC hlt,(Lq.mp hu').2];exact LR) rfl
  have mu:u∈s.bc.filter λu=>decide (u∉ms.take i):=Mj.mpr ⟨sub u (LD hu'),by simpa using ni⟩;have vd:cC ((s.bc.filter λu=>decide (u∉ms.take i)).map tkv) (Sum.inl u)=some (.bl true):=by
   have h1:=(qf (s.bc.filter λu=>decide (u∉ms.take i))).isS (t:=u);rw[decide_eq_true mu]at h1;obtain⟨v,hv⟩:=Option.isSome_iff_exists.mp h1;rw[hv,Am hv]
  rw[ekv];refine⟨_,rfl,x,980,_,_,.ref A.dm,rfl,Jc.ax,T.ae,T.n,vJ,A.dm,rfl,.inl ⟨_,.inl Jc.adm⟩,_,rfl,_,Sum.inl u,_,Jc.adm,rfl,vd,?_⟩;have w:=Jc.IZ (ts:=(s.bc.filter λu=>decide (u∉ms.take i)).filter λv=>decide (v≠u));rw[show iQ (({s with bc:=s.bc.filter λu=>decide (u∉ms.take i)}:HS).bc.map tkv) (Sum.inl u)=((s.bc.filter λu=>decide (u∉ms.take i)).filter λv=>decide (v≠u)).map tkv from CQ];have ef:((s.bc.filter λu=>decide (u∉ms.take i)).filter λv=>decide (v≠u))=s.bc.filter λv=>decide (v∉ms.take (i+1)):=by
   rw[List.filter_filter,tk];refine Mv λv _=>?_;simp[LB,not_or,Bool.and_comm]
  rw[ef]at w ⊢;have nsd:st≠A.dm:=λe=>by rw[e,Jc.adm]at z;cases z
  exact⟨_,rfl,w.1,frc.trans w.2,by rw[ak nsd];exact z⟩
 ·rintro σ Hc ⟨v3,rfl,Jc,frc,z⟩
  rw[k3.len,LF (Lu _),Aj m3]at Jc frc;exact k _ _ Jc frc
def An:Sp:=λvs H Q E=>∃ x A s,∃ h n:Int,vs=[.ref x,.int h,.int n]∧IH H x A s∧Gd s∧s.nxt<10000∧Sm h∧Sm n∧Fin x A s H (fK s h n) Q E
abbrev mW:List Str:=["self", "h", "n", "size"]
theorem gn:ar mW ["self", "h", "n"] (ao gM):=fsc
theorem lA(T:Txt w K mg):Ok P w K mg base 8 830 ["self", "h", "n"] (An):=by
 refine T.o3 "IdealHeap.make" gn λcdv A' outer s' H vs Q E hr h=>?_;obtain⟨x,A,s,h,n,rfl,J,Gs,hnx,hh,hn,k⟩:=h;refine⟨_,(af (au ((bw T).c hr px (aa (pv 1) ah)))
  (af (aw (i:=3) gn.nd rfl (Or.inl rfl) ((oe T).c hr px (aa (pv 2) ah)))
  (af (aO (PW.pt (pw_and (fF (aE (pv 0) rfl)) (pw_and1 (az vk (ay bZ ((eJ T).m T.ae hr (pv 0) px (aa (aE (pv 0) rfl) ah)) (pv 3)) (aE (pv 0) rfl) (aF _)))))
   (ag (au ((cW T).m0 T.ae hr (pv 0) px)))
   aC)
  (af (aO (az vk (ay bZ ((lg T).m0 T.ae hr (pv 0) px) (pv 3)) (aE (pv 0) rfl) (aF _))
   (ag (bF rfl dE ((av T).e 141 hr px (aa (cu (aI (dc (pv 3)) (aI bV cq))) ah))))
   aC)
  (ag (au ((k7 T).m T.ae hr (pv 0) px (aa (pv 1) (aa (pv 2) ah))))))))),?_⟩
 refine⟨_,rfl,h,rfl,hh,?_⟩;by_cases c:ok8 h
 ·rw[if_pos c]
  refine⟨_,rfl,n,rfl,hn,?_⟩;by_cases c2:0≤n∧n≤6
  ·rw[if_pos c2]
   have G:=Gs.g;have kk:Fin x A s H (if held (mkR s n)+(n+1)>s.limit then(some .room,mkR s n) else(none,vP (mkR s n) h n)) Q E:=by
    rw[show fK s h n=_ from by unfold fK;rw[if_pos c,if_pos c2]]at k;exact k
   have G2:Gd (mkR s n):=Gs.mkd;simp only[da];refine cP λN hN=>?_;have fin:∀(A2:HA) (H2:Hp),IH H2 x A2 (mkR s n)→Fr (aV x A s) H (aV x A2 (mkR s n)) H2→N [some (.ref x),some (.int h),some (.int n),some (.int (n+1))] H2:=by
    intro A2 H2 J2 fr2;refine hN _ _ ?_;refine⟨_,rfl,x,_,_,rfl,J2.ax,(by kernel_rfl),x,A2,_,rfl,J2,G2.g,λH3 s3=>?_⟩;have J3:=J2.same s3;have fr3:=fr2.trans (Fr.same s3);refine⟨_,rfl,held (mkR s n),n+1,rfl,rfl,_,rfl,x,980,_,_,.int (mkR s n).limit,rfl,J3.ax,T.ae,T.n,Ii,_,_,rfl,rfl,_,rfl,aH (λg=>?_) (λg=>?_)⟩
    ·have g:=of_decide_eq_true g
     rw[xu]at g;rw[if_pos g]at kk;exact⟨_,rfl,n+1,rfl,Sm.of (by omega) (by omega),λy hy ea hea=>aZ (T.ec 141) (λb q=>fr3.none q) (λH' s'=>kk A2 H' (J3.same s') (fr3.trans (Fr.same s'))) ea hea⟩
    ·have g:¬(held (mkR s n)+(n+1)>s.limit):=λz=>g (decide_eq_true (by rw[xu];exact z))
     rw[if_neg g]at kk;exact⟨_,rfl,x,_,_,rfl,J3.ax,(by kernel_rfl),_,rfl,_,rfl,x,A2,_,h,n,rfl,J3,G2.g,c,c2.1,c2.2,λA' H' J' fr=>kk A' H' J' (fr3.trans fr)⟩
   refine⟨_,rfl,x,980,_,_,.bl s.my,rfl,J.ax,T.ae,T.n,DK,_,rfl,?_⟩;by_cases my:s.my=true
   ·refine iw my ⟨_,rfl,x,_,_,rfl,J.ax,(by kernel_rfl),_,rfl,x,980,_,_,.ref A.yg,rfl,J.ax,T.ae,T.n,vI,x,A,s,A.yg,_,s.yng,rfl,J,G,J.ayg,qf _,G.yk,qV G,λH1 s1=>?_⟩
    have J1:=J.same s1;refine⟨_,rfl,wsum s s.yng,n+1,rfl,rfl,_,rfl,x,980,_,_,.int s.room,rfl,J1.ax,T.ae,T.n,Ih,_,_,rfl,rfl,_,rfl,aH (λg=>?_) (λg=>?_)⟩
    ·have g:=of_decide_eq_true g
     have em:mkR s n=eQ s:=if_pos ⟨my,g⟩;rw[em]at fin;exact⟨_,rfl,x,_,_,rfl,J1.ax,(by kernel_rfl),x,A,s,rfl,J1,G,λA2 H2 J2 fr2=>fin A2 H2 J2 ((Fr.same s1).trans fr2)⟩
    ·have em:mkR s n=s:=if_neg λz=>g (decide_eq_true z.2)
     rw[em]at fin;exact fin A H1 J1 (Fr.same s1)
   ·have em:mkR s n=s:=if_neg λz=>my z.1
    rw[em]at fin;exact b7 (L7.mpr my) (b4 (fin A H J Fr.refl))
  ·rw[if_neg c2]
   rw[show fK s h n=(some .count,s) by simp only[fK,if_pos c,if_neg c2]]at k;exact k.bad J
 ·rw[if_neg c]
  rw[show fK s h n=(some .hand,s) by simp only[fK,if_neg c]]at k;exact k.bad J
def Ao:Sp:=λvs H Q E=>∃ x A s,∃ h w:Int,vs=[.ref x,.int h,.int w]∧IH H x A s∧Good s∧Sm h∧Sm w∧Fin x A s H (fJ s h w) Q E
theorem fP{α:Type}{l:List α}{i:Nat}{a b:α}(h:b∈l.set i a):b∈l∨b=a:=by
 rw[List.mem_iff_getElem]at h;obtain⟨j,hj,e⟩:=h;rw[List.getElem_set]at e;split at e
 ·exact .inr e.symm
 ·exact .inl (by rw[←e];exact Mb _)
theorem Good.put{s:HS}(g:Good s){h:Int}{w:Wd}(c:∀ t,w=.th t→∃ ws,(t,ws)∈s.aG):Good (g9 s h w) :=
 ⟨by show(s.aM.set _ _).length=8;rw[Mt];exact g.h8,g.n8,g.asc,g.lt,g.f6,(λt m=>(fP m).elim (λq=>g.hh t q) λe=>c t e.symm),g.ff,g.nn,g.b12,g.bk,g.bnd,g.n0,g.nx,g.sd,g.yk,g.pA,g.dk,g.qd⟩
abbrev mX:List Str:=["self", "h", "w", "t"]
theorem gp:ar mX ["self", "h", "w"] (ao gN):=fsc
theorem lB(T:Txt w K mg):Ok P w K mg base 7 837 ["self", "h", "w"] (Ao):=by
 refine T.o3 "IdealHeap.read" gp λcdv A' outer s' H vs Q E hr h=>?_;obtain⟨x,A,s,h,w,rfl,J,G,hh,hw,k⟩:=h;refine⟨_,(af (aw (i:=3) gp.nd rfl (Or.inl rfl) ((j9 T).m T.ae hr (pv 0) px (aa (pv 1) (aa (pv 2) ah))))
  (ag (aO (cA (Co (pv 3) (aE (pv 0) rfl)) (by with_unfolding_all rfl))
   (ag (au ((kh T).m T.ae hr (pv 0) px (aa (pv 3) ah))))
   aC))),?_⟩
 refine⟨_,rfl,x,_,_,rfl,J.ax,(by kernel_rfl),_,rfl,_,rfl,x,A,s,h,w,rfl,J,G,hh,hw,?_⟩;by_cases c:ok8 h
 ·rw[if_pos c]
  by_cases c2:ok8 w
  ·rw[if_pos c2]
   rw[show fJ s h w=(none,rdR (g9 s h (nmW (s.names.getD w.toNat none))) (s.names.getD w.toNat none)) by simp only[fJ,if_pos c,if_pos c2]]at k;have hi:w.toNat<s.names.length:=(by rw[G.n8];omega);have gd:s.names.getD w.toNat none=s.names[w.toNat]:=(by simp[List.getD,hi]);have mm:s.names[w.toNat]∈s.names:=Mb hi;obtain⟨z,ez⟩:∃ z,s.names.getD w.toNat none=z:=⟨_,rfl⟩;rw[ez]at k ⊢;rw[←gd,ez]at mm;intro A1 H1 J1 fr;refine⟨_,rfl,_,rfl,x,980,_,_,_,rfl,J1.ax,T.ae,T.n,vJ,A1.dm,_,z.map Sum.inl,rfl,EJ z,.inl J1.adm,_,rfl,?_⟩;rw[Iw];cases z with
   | none=>exact b4 (k A1 H1 J1 fr)
   | some t =>
    show if decide (t∈s.bc)=true then _ else _;obtain⟨ws,m⟩:=G.nn t mm;by_cases c3:t∈s.bc
    ·rw[decide_eq_true c3]
     rw[show rdR (g9 s h (nmW (some t))) (some t)=hZ (g9 s h (nmW (some t))) t from if_pos c3]at k;have G2:Good (g9 s h (nmW (some t))):=G.put λu e=>by cases e;exact⟨ws,m⟩
     exact cZ ⟨_,rfl,x,_,_,rfl,J1.ax,(by kernel_rfl),_,rfl,x,A1,_,t,rfl,J1,G2,(G.lt _ _ m).1,λA2 H2 J2 fr2=>k A2 H2 J2 (fr.trans fr2)⟩
    ·rw[decide_eq_false c3]
     rw[show rdR (g9 s h (nmW (some t))) (some t)=g9 s h (nmW (some t)) from if_neg c3]at k;exact b4 (k A1 H1 J1 fr)
  ·rw[if_neg c2]
   rw[show fJ s h w=(some .name,s) by simp only[fJ,if_pos c,if_neg c2]]at k;exact k.bad J
 ·rw[if_neg c]
  rw[show fJ s h w=(some .hand,s) by simp only[fJ,if_neg c]]at k;exact k.bad J
end
section
variable{P:Program}{w:World}{K:W.Frag}{mg:Str→Option Value}{base:Heap}
inductive Dd where
 | make (h n:Int)|store (g k h:Int)|load (h g k:Int)|copy (h g:Int)|drop (h:Int)|number (h x:Int)|name (w h:Int)|read (h w:Int)|word (h x:Int)|small|turn
def Dd.its:Dd→List V
 | .make h n=>[.str "make",.int h,.int n]
 | .store g k h=>[.str "store",.int g,.int k,.int h]
 | .load h g k=>[.str "load",.int h,.int g,.int k]
 | .copy h g=>[.str "copy",.int h,.int g]
 | .drop h=>[.str "drop",.int h]
 | .number h x=>[.str "number",.int h,.int x]
 | .name w h=>[.str "name",.int w,.int h]
 | .read h w=>[.str "read",.int h,.int w]
 | .word h x=>[.str "word",.int h,.int x]
 | .small=>[.str "small"]
 | .turn=>[.str "turn"]
abbrev In8(h:Int):Prop:=0≤h∧h<8
def Dd.ok:Dd→Prop
 | .make h n=>In8 h∧0≤n∧n≤6
 | .store g k h=>In8 g∧0≤k∧k≤6∧In8 h
 | .load h g k=>In8 h∧In8 g∧0≤k∧k≤6
 | .copy h g=>In8 h∧In8 g
 | .drop h=>In8 h
 | .number h x=>In8 h∧-100000≤x∧x≤100000
 | .name w h=>In8 w∧In8 h
 | .read h w=>In8 h∧In8 w
 | .word h x=>In8 h∧-100000≤x∧x≤100000
 | .small=>True
 | .turn=>True
theorem m8(n d:Int):0≤n/d%8∧n/d%8<8:=⟨L0 _ (by decide),LV _ (by decide)⟩
def vR(K:W.Frag):Sp:=λvs H Q _=>∃(a:Addr) (ns:List Int) (m:Int),vs=[.ref a,.int m]∧SqL K H a (ns.map V.int)∧ns.length≤63∧∀ p (zs:List Int) H',aq H H'→H p=none→H' p=some (.lst (zs.map V.int))→zs.length≤200∧(0≤m→zs.length≤m.toNat)→(∀ z∈zs,0≤z∧z<65536)→Q (.ref p) H'
theorem h9(ns:List Int)(lo hi:Option Int):∃ cs:List Int,rD (ns.map V.int) lo hi=cs.map V.int∧cs.length≤ns.length∧(∀ c∈cs,c∈ns)∧∀ m,hi=some m→0≤m→cs.length≤m.toNat:=by
 refine⟨(ns.drop (HT.sIx ns.length 0 lo)).take (HT.sIx ns.length ns.length hi-HT.sIx ns.length 0 lo),?_,?_,λc hc=>List.mem_of_mem_drop (MR hc),λm e m0=>?_⟩
 ·unfold rD
  rw[Lp,List.map_take,List.map_drop]
 ·rw[LM,MI]
  omega
 ·subst e
  rw[LM]
  have:HT.sIx ns.length ns.length (some m)≤m.toNat:=by
   show(if m<0 then(m+(ns.length:Int)).toNat else min m.toNat ns.length)≤_;rw[if_neg (by omega)];omega
  omega
abbrev pL:List Str:=["script", "most", "found", "k", "near", "turn"]
theorem bj:ar pL ["script", "most"] (ao ja):=fsc
theorem oK(T:Txt w K mg):Ok P w K mg base 2 1060 ["script", "most"] (vR K):=by
 refine T.o2 "_law_numbers" bj λcdv A' outer s' H vs Q E hr h=>?_;obtain⟨a,ns,m,rfl,hS,hlen,k⟩:=h;refine⟨_,(PSs.nox (af (aw (i:=2) bj.nd rfl (Or.inl rfl) (bM ah))
  (af (bq LP rfl (fH rfl T.z (aa (aK aU rfl T.z PyProof.Rows.Boot.«len» (aa (pv 0) ah)) ah)) (aL (i:=3) bj.nd rfl (Or.inl rfl))
   (af (aw (i:=4) bj.nd rfl (Or.inl rfl) (ay aW (aD bE (pv 0) (pv 3) (λ_ _=>rfl)) aj))
   (af (aO (az cL (ay aW (aD bE (pv 0) aj (λ_ _=>rfl)) aj) aj (aF _))
    (af (aw (i:=4) bj.nd rfl (Or.inl rfl) (ay aW (ay dX (ay bZ (ay bZ (pv 4) (ay dX aj (pv 3))) aj) aj) aj))
    (ag (aw (i:=4) bj.nd rfl (Or.inl rfl) (ay aW (ay dX (pv 4) (pv 4)) aj))))
    aC)
   (ag (bq LP rfl (fH rfl T.z (aa aj ah)) (aL (i:=5) bj.nd rfl (Or.inl rfl))
    (af (aO (PW.pt (pw_or (az cL (pv 5) aj (aF _)) (pw_or1 (az vk (pv 4) aj (aF _)))))
     (ag (au (kr PySem.F.plainAttrs_list PySem.F.slot_list_append PySem.F.type_list_append cw (pv 2) (aa (ay aW (pv 4) aj) ah))))
     aC)
    (ag (aw (i:=4) bj.nd rfl (Or.inl rfl) (ay bB (pv 4) aj)))))))))
  (ag (aA (jt mB (pv 2) pT (jN (pv 1)))))))),?_⟩
 refine⟨by show 0≤sizeLine;decide,λp hp=>?_⟩;have s1:=aq.upd (o:=.lst []) hp;have z1:upd H p (.lst []) p=some (.lst (([]:List Int).map V.int)):=ab;obtain⟨H1,e1⟩:∃ H1,upd H p (.lst [])=H1:=⟨_,rfl⟩;show da 2 (V.ref p) _ (upd H p (.lst [])) _;rw[e1]at s1 z1 ⊢;clear e1;have hpa:∀ {Hx:Hp},aq H Hx→SqL K Hx a (ns.map V.int):=λs=>s.seq hS;refine⟨_,rfl,a,_,rfl,.inl (hpa s1),(ns.map V.int).length,rfl,by omega,by rw[Lp];omega,jF (lo:=0) (n:=(ns.map V.int).length) (λi σ Hx=>∃(v3 v4 v5:Option V) (zs:List Int),σ=[some (.ref a),some (.int m),some (.ref p),v3,v4,v5]∧aq H Hx∧Hx p=some (.lst (zs.map V.int))∧zs.length≤3*i∧∀ z∈zs,0≤z∧z<65536) ⟨none,none,none,[],rfl,s1,z1,Lu _,λz hz=>by cases hz⟩ ?_ ?_⟩
 ·rintro i σ Hx hi ⟨v3,v4,v5,zs,rfl,sx,zx,lx,bx⟩
  rw[Lp]at hi;have hk:atI (ns.map V.int) (0+(i:Int))=some (.int ns[i]):=by rw[Int.zero_add];exact bK (by rw[Lz,Ls hi];rfl)
  have h0:atI (ns.map V.int) 0=some (.int (ns[0]'(by omega))):=bK (j:=0) (by rw[Lz,Ls (by omega)];rfl);have b0:=L0 ns[i] (show(281474976710656:Int)≠0 by decide);have b1:=LV ns[i] (show(0:Int)<281474976710656 by decide);refine⟨_,rfl,_,rfl,a,_,_,_,rfl,rfl,hpa sx,hk,_,281474976710656,rfl,rfl,(by show(0:Int)<281474976710656;decide),?_⟩;obtain⟨ne,ene⟩:∃ ne:Int,ns[i]%281474976710656=ne:=⟨_,rfl⟩;rw[ene]at b0 b1;simp only[ene,da];refine cP λN hN=>?_;have rest:∀ near:Int,0≤near→N [some (.ref a),some (.int m),some (.ref p),some (.int (0+(i:Int))),some (.int near),v5] Hx:=by
   intro near n0;refine hN _ _ ?_;refine⟨3,rfl,by decide,by decide,jF (lo:=0) (n:=3) (λj σ Hy=>∃(near:Int) (v5:Option V) (zs:List Int),σ=[some (.ref a),some (.int m),some (.ref p),some (.int (0+(i:Int))),some (.int near),v5]∧0≤near∧aq H Hy∧Hy p=some (.lst (zs.map V.int))∧zs.length≤3*i+j∧∀ z∈zs,0≤z∧z<65536) ⟨near,v5,zs,rfl,n0,sx,zx,by omega,bx⟩ ?_ ?_⟩
   ·rintro j σ Hy hj ⟨near,v5,zs,rfl,n0,sy,zy,ly,by_⟩
    refine cP λM hM=>?_;have tail:∀(zs:List Int) (Hy:Hp),aq H Hy→Hy p=some (.lst (zs.map V.int))→zs.length≤3*i+(j+1)→(∀ z∈zs,0≤z∧z<65536)→M [some (.ref a),some (.int m),some (.ref p),some (.int (0+(i:Int))),some (.int near),some (.int (0+(j:Int)))] Hy:=by
     intro zs Hy sy zy ly by_;exact hM _ _ ⟨_,rfl,near,65536,rfl,rfl,⟨by decide,by decide⟩,near/65536,_,zs,rfl,Int.ediv_nonneg n0 (by decide),sy,zy,ly,by_⟩
    have app:M=M:=rfl;refine Ey λB hB=>?_;have grow:B [some (.ref a),some (.int m),some (.ref p),some (.int (0+(i:Int))),some (.int near),some (.int (0+(j:Int)))] Hy:=by
     refine hB _ _ ?_;refine⟨_,rfl,.inl ⟨rfl,_,SqL.of zy⟩,_,rfl,near,65536,rfl,rfl,(by show(0:Int)<65536;decide),p,_,_,rfl,rfl,zy,L6 (show(zs.map V.int).length≤1000 by rw[Lp];omega) (by decide),?_⟩;refine tail (zs++[near%65536]) _ (λb u g=>by rw[ak (ai g hp)];exact sy b u g) (by rw[ab,LA];rfl) (by rw[Lw,Mf];omega) (λz hz=>?_);rcases LB.mp hz with g|g
     ·exact by_ z g
     ·rw[Lr.mp g]
      exact⟨L0 _ (by decide),LV _ (by decide)⟩
    refine⟨_,rfl,rfl,_,rfl,aH (λ_=>cZ grow) (λ_=>⟨_,rfl,near,0,rfl,rfl,_,rfl,aH (λ_=>grow) (λ_=>tail zs Hy sy zy (by omega) by_)⟩)⟩
   ·rintro σ Hy ⟨near,v5,zs,rfl,n0,sy,zy,ly,by_⟩
    exact⟨_,_,_,zs,rfl,sy,zy,by omega,by_⟩
  refine⟨_,rfl,a,_,0,_,rfl,rfl,hpa sx,h0,_,2,rfl,rfl,(by show(0:Int)<2;decide),rfl,_,rfl,aH (λ_=>?_) (λ_=>rest ne b0)⟩;have q0:=L0 ((ne+7919*(0+(i:Int))+1)*48271) (show(2147483647:Int)≠0 by decide);have q1:=LV ((ne+7919*(0+(i:Int))+1)*48271) (show(0:Int)<2147483647 by decide);refine⟨_,rfl,_,rfl,7919,0+(i:Int),rfl,rfl,.inl ⟨by decide,by decide⟩,ne,_,rfl,rfl,_,1,rfl,rfl,_,48271,rfl,rfl,.inr ⟨by decide,by decide⟩,_,2147483647,rfl,rfl,(by show(0:Int)<2147483647;decide),?_⟩;obtain⟨n2,en2⟩:∃ n2:Int,(ne+7919*(0+(i:Int))+1)*48271%2147483647=n2:=⟨_,rfl⟩;rw[en2]at q0 q1;simp only[en2,da];refine⟨_,rfl,_,rfl,n2,n2,rfl,rfl,.inl ⟨by omega,by omega⟩,_,281474976710597,rfl,rfl,(by show(0:Int)<281474976710597;decide),?_⟩;exact rest _ (L0 _ (by decide))
 ·rintro σ Hx ⟨v3,v4,v5,zs,rfl,sx,zx,lx,bx⟩
  rw[Lp]at lx;obtain⟨cs,ec,cl,cm,cb⟩:=h9 zs none (some m);refine⟨_,rfl,_,rfl,_,rfl,p,_,rfl,SqL.of zx,λq hq=>?_⟩;rw[ec];have hq0:H q=none:=aq.none sx hq;exact k q cs _ (sx.trans (aq.upd hq)) hq0 ab ⟨by omega,λm0=>cb m rfl m0⟩ (λz hz=>bx z (cm z hz))
def CS:Sp:=λvs H Q _=>∃ n:Int,vs=[.int n]∧0≤n∧n<65536∧∀ q dd H',aq H H'→H q=none→H' q=some (.tup (Dd.its dd))→dd.ok→Q (.ref q) H'
abbrev ur:List Str:=["number", "a", "b", "c", "kind", "some"]
theorem cH:ar ur ["number"] (ao nU):=fsc
theorem sT(T:Txt w K mg):Ok P w K mg base 1 1067 ["number"] (CS):=by
 refine T.o1 "_law_deed" cH λcdv A' outer s' H vs Q E hr h=>?_;obtain⟨n,rfl,n0,n1,k⟩:=h;refine⟨_,(PSs.nox (af (aw (i:=1) cH.nd rfl (Or.inl rfl) (ay aW (ay bB (pv 0) aj) aj))
  (af (aw (i:=2) cH.nd rfl (Or.inl rfl) (ay aW (ay bB (pv 0) aj) aj))
  (af (aw (i:=3) cH.nd rfl (Or.inl rfl) (ay aW (ay bB (pv 0) aj) aj))
  (af (aw (i:=4) cH.nd rfl (Or.inl rfl) (ay aW (pv 0) aj))
  (af (aO (az kq (pv 4) aj (aF _))
   (ag (aA (aX (aa aJ (aa (pv 1) (aa (aD bE (bM (aa aj (aa aj (aa aj (aa aj (aa aj (aa aj (aa aj (aa aj ah))))))))) (pv 3) (λ_ _=>rfl)) ah))))))
   aC)
  (af (aO (az kq (pv 4) aj (aF _))
   (ag (aA (aX (aa aJ (aa (pv 1) (aa (ay aW (pv 3) aj) (aa (pv 2) ah)))))))
   aC)
  (af (aO (az kq (pv 4) aj (aF _))
   (ag (aA (aX (aa aJ (aa (pv 1) (aa (pv 2) (aa (ay aW (pv 3) aj) ah)))))))
   aC)
  (af (aw (i:=5) cH.nd rfl (Or.inl rfl) (bM (bp (aX (aa aJ (aa (pv 1) (aa (pv 2) ah)))) (bp (aX (aa aJ (aa (pv 1) ah))) (bp (aX (aa aJ (aa (pv 1) (aa (ay qG (ay dX (pv 2) aj) (pv 3)) ah)))) (bp (aX (aa aJ (aa (pv 2) (aa (pv 1) ah)))) ah))))))
  (ag (aA (aD bE (ay pY (pv 5) (bM (bp (aX (aa aJ (aa (pv 1) (aa (pv 2) ah)))) (bp (aX (aa aJ (aa (pv 1) (aa (ay qG (pv 0) aj) ah)))) (bp (aX (aa aJ ah)) (bp (aX (aa aJ ah)) ah)))))) (ay qG (pv 4) aj) (λ_ _=>rfl))))))))))))),?_⟩
 obtain⟨a,ea⟩:∃ a:Int,n/16%8=a:=⟨_,rfl⟩;obtain⟨b,eb⟩:∃ b:Int,n/128%8=b:=⟨_,rfl⟩;obtain⟨c,ec⟩:∃ c:Int,n/1024%8=c:=⟨_,rfl⟩;obtain⟨kd,ek⟩:∃ kd:Int,n%16=kd:=⟨_,rfl⟩;have ha:In8 a:=by rw[←ea];exact m8 n 16
 have hb:In8 b:=by rw[←eb];exact m8 n 128
 have hc:In8 c:=by rw[←ec];exact m8 n 1024
 have k0:0≤kd:=by rw[←ek];exact L0 _ (by decide)
 have k1:kd<16:=by rw[←ek];exact LV _ (by decide)
 refine⟨_,rfl,n,16,rfl,rfl,⟨by decide,by decide⟩,_,8,rfl,rfl,(by show(0:Int)<8;decide),?_⟩;simp only[ea,da];refine⟨_,rfl,n,128,rfl,rfl,⟨by decide,by decide⟩,_,8,rfl,rfl,(by show(0:Int)<8;decide),?_⟩;simp only[eb,da];refine⟨_,rfl,n,1024,rfl,rfl,⟨by decide,by decide⟩,_,8,rfl,rfl,(by show(0:Int)<8;decide),?_⟩;simp only[ec,da];refine⟨_,rfl,n,16,rfl,rfl,(by show(0:Int)<16;decide),?_⟩;simp only[ek,da];have c30:=L0 c (show(3:Int)≠0 by decide);have c31:=LV c (show(0:Int)<3 by decide);refine⟨_,rfl,kd,3,rfl,rfl,_,rfl,aH (λ_=>?_) (λg3=>?_)⟩
 ·obtain⟨m,hm,m0,m6⟩:∃ m:Int,atI [V.int 2,V.int 3,V.int 1,V.int 4,V.int 2,V.int 0,V.int 6,V.int 3] c=some (.int m)∧0≤m∧m≤6:=by
   obtain⟨c0,c8⟩:=hc;rcases(show c=0∨c=1∨c=2∨c=3∨c=4∨c=5∨c=6∨c=7 by omega) with rfl|rfl|rfl|rfl|rfl|rfl|rfl|rfl<;>exact⟨_,rfl,by decide,by decide⟩
  refine⟨_,rfl,by show 8≤sizeLine;decide,λl hl=>⟨_,rfl,l,_,c,_,rfl,rfl,SqL.of ab,hm,by show 3≤sizeLine;decide,λq hq=>?_⟩⟩;exact k q (.make a m) _ ((aq.upd hl).trans (aq.upd hq)) (aq.none (aq.upd hl) hq) ab ⟨ha,m0,m6⟩
 ·have g3:¬kd<3:=λz=>g3 (decide_eq_true z)
  refine⟨_,rfl,kd,6,rfl,rfl,_,rfl,aH (λ_=>?_) (λg6=>?_)⟩
  ·refine⟨_,rfl,_,rfl,c,3,rfl,rfl,(by show(0:Int)<3;decide),_,rfl,by show 4≤sizeLine;decide,λq hq=>?_⟩
   exact k q (.store a (c%3) b) _ (aq.upd hq) hq ab ⟨ha,c30,by omega,hb⟩
  ·have g6:¬kd<6:=λz=>g6 (decide_eq_true z)
   refine⟨_,rfl,kd,8,rfl,rfl,_,rfl,aH (λ_=>?_) (λg8=>?_)⟩
   ·refine⟨_,rfl,_,rfl,_,rfl,c,3,rfl,rfl,(by show(0:Int)<3;decide),by show 4≤sizeLine;decide,λq hq=>?_⟩
    exact k q (.load a b (c%3)) _ (aq.upd hq) hq ab ⟨ha,hb,c30,by omega⟩
   ·have g8:¬kd<8:=λz=>g8 (decide_eq_true z)
    refine⟨_,rfl,_,rfl,by show 3≤sizeLine;decide,λt1 h1=>⟨_,rfl,by show 2≤sizeLine;decide,λt2 h2=>⟨_,rfl,_,rfl,b,1000,rfl,rfl,.inr ⟨by decide,by decide⟩,_,rfl,_,c,rfl,rfl,by show 3≤sizeLine;decide,λt3 h3=>⟨_,rfl,_,rfl,by show 3≤sizeLine;decide,λt4 h4=>⟨by show 4≤sizeLine;decide,λl1 hl1=>?_⟩⟩⟩⟩⟩;have r1:=aq.upd (o:=.tup (Dd.its (.copy a b))) h1;have r2:=aq.upd (o:=.tup (Dd.its (.drop a))) h2;have r3:=aq.upd (o:=.tup (Dd.its (.number a (b*1000-c)))) h3;have r4:=aq.upd (o:=.tup (Dd.its (.name b a))) h4;have r5:=aq.upd (o:=.lst [V.ref t1,V.ref t2,V.ref t3,V.ref t4]) hl1;refine⟨_,rfl,_,rfl,_,rfl,by show 3≤sizeLine;decide,λt5 h5=>⟨_,rfl,_,rfl,n,30000,rfl,rfl,by show 3≤sizeLine;decide,λt6 h6=>⟨by show 1≤sizeLine;decide,λt7 h7=>⟨by show 1≤sizeLine;decide,λt8 h8=>⟨by show 4≤sizeLine;decide,λl2 hl2=>?_⟩⟩⟩⟩⟩;have r6:=aq.upd (o:=.tup (Dd.its (.read a b))) h5;have r7:=aq.upd (o:=.tup (Dd.its (.word a (n-30000)))) h6;have r8:=aq.upd (o:=.tup (Dd.its .small)) h7;have r9:=aq.upd (o:=.tup (Dd.its .turn)) h8;have r10:=aq.upd (o:=.lst [V.ref t5,V.ref t6,V.ref t7,V.ref t8]) hl2;refine⟨l1,l2,_,_,rfl,rfl,SqL.of ((r6.trans (r7.trans (r8.trans (r9.trans r10)))) _ _ ab),SqL.of ab,by show 8≤sizeLine;decide,λl3 hl3=>?_⟩;have r11:=aq.upd (o:=.lst ([V.ref t1,V.ref t2,V.ref t3,V.ref t4]++[V.ref t5,V.ref t6,V.ref t7,V.ref t8])) hl3;have q10:=r10.trans r11;have q9:=r9.trans q10;have q8:=r8.trans q9;have q7:=r7.trans q8;have q6:=r6.trans q7;have q5:=r5.trans q6;have q4:=r4.trans q5;have q3:=r3.trans q4;have q2:=r2.trans q3;have q1:=r1.trans q2;have p4:=((r1.trans r2).trans r3).trans r4;have p5:=p4.trans r5;have p6:=p5.trans r6;have p7:=p6.trans r7;have p8:=p7.trans r8;refine⟨_,rfl,kd,8,rfl,rfl,?_⟩;have cs:kd=8∨kd=9∨kd=10∨kd=11∨kd=12∨kd=13∨kd=14∨kd=15:=(by omega);have bb:-100000≤b*1000-c∧b*1000-c≤100000:=(by obtain⟨_,_⟩:=hb;obtain⟨_,_⟩:=hc;omega);rcases cs with rfl|rfl|rfl|rfl|rfl|rfl|rfl|rfl
    ·exact⟨l3,_,_,.ref t1,rfl,rfl,SqL.of ab,rfl,k t1 (.copy a b) _ q1 h1 (q2 _ _ ab) ⟨ha,hb⟩⟩
    ·exact⟨l3,_,_,.ref t2,rfl,rfl,SqL.of ab,rfl,k t2 (.drop a) _ q1 (aq.none r1 h2) (q3 _ _ ab) ha⟩
    ·exact⟨l3,_,_,.ref t3,rfl,rfl,SqL.of ab,rfl,k t3 (.number a (b*1000-c)) _ q1 (aq.none (r1.trans r2) h3) (q4 _ _ ab) ⟨ha,bb.1,bb.2⟩⟩
    ·exact⟨l3,_,_,.ref t4,rfl,rfl,SqL.of ab,rfl,k t4 (.name b a) _ q1 (aq.none ((r1.trans r2).trans r3) h4) (q5 _ _ ab) ⟨hb,ha⟩⟩
    ·exact⟨l3,_,_,.ref t5,rfl,rfl,SqL.of ab,rfl,k t5 (.read a b) _ q1 (aq.none p5 h5) (q7 _ _ ab) ⟨ha,hb⟩⟩
    ·exact⟨l3,_,_,.ref t6,rfl,rfl,SqL.of ab,rfl,k t6 (.word a (n-30000)) _ q1 (aq.none p6 h6) (q8 _ _ ab) ⟨ha,by omega,by omega⟩⟩
    ·exact⟨l3,_,_,.ref t7,rfl,rfl,SqL.of ab,rfl,k t7 .small _ q1 (aq.none p7 h7) (q9 _ _ ab) True.intro⟩
    ·exact⟨l3,_,_,.ref t8,rfl,rfl,SqL.of ab,rfl,k t8 .turn _ q1 (aq.none p8 h8) (q10 _ _ ab) True.intro⟩
end
section
variable{P:Program}{w:World}{K:W.Frag}{mg:Str→Option Value}{base:Heap}
def qh(s:HS):Re:=if s.rnd=true then AZ s else o9 s
def dDo(s:HS):Dd→Re
 | .make h n=>fK s h n
 | .store g k h=>cG s g k h
 | .load h g k=>eU s h g k
 | .copy h g=>jJ s h g
 | .drop h=>lZ s h
 | .number h x=>dt s h x
 | .name w h=>gr s w h
 | .read h w=>fJ s h w
 | .word h x=>eV s h x
 | .small=>(none,eQ s)
 | .turn=>qh s
def wH:Er→Str
 | .hand => "BadHand"
 | .name => "BadName"
 | .field => "BadField"
 | .count => "BadCount"
 | .room => "NoRoom"
 | .words => "TooManyWords"
 | .on => "RoundOn"
 | .no => "NoRound"
def wdV:Option Er→V
 | none=>.non
 | some e=>.str (wH e)
def Ap:Sp:=λvs H Q E=>∃ x A s q dd,vs=[.ref x,.ref q]∧IH H x A s∧Gd s∧s.nxt<10000∧H q=some (.tup (Dd.its dd))∧dd.ok∧Fin x A s H (dDo s dd) Q E
abbrev sU:List Str:=["hall", "deed"]
theorem ra:ar sU ["hall", "deed"] (ao lI):=fsc
theorem jZ(T:Txt w K mg):Ok P w K mg base 9 1074 ["hall", "deed"] (Ap):=by
 refine T.o2 "_law_plain" ra λcdv A' outer s' H vs Q E hr h=>?_;obtain⟨x,A,s,q,dd,rfl,J,Gs,hnx,hq,hok,k⟩:=h;refine⟨_,(ag (aO (az cL (aD aB (pv 1) aj (λ_ _=>rfl)) aJ (aF _))
   (ag (au ((lA T).m T.ae hr (pv 0) px (aa (aD aB (pv 1) aj (λ_ _=>rfl)) (aa (aD aB (pv 1) aj (λ_ _=>rfl)) ah)))))
   (ag (aO (az cL (aD aB (pv 1) aj (λ_ _=>rfl)) aJ (aF _))
    (ag (au ((qT T).m T.ae hr (pv 0) px (aa (aD aB (pv 1) aj (λ_ _=>rfl)) (aa (aD aB (pv 1) aj (λ_ _=>rfl)) (aa (aD aB (pv 1) aj (λ_ _=>rfl)) ah))))))
    (ag (aO (az cL (aD aB (pv 1) aj (λ_ _=>rfl)) aJ (aF _))
     (ag (au ((sP T).m T.ae hr (pv 0) px (aa (aD aB (pv 1) aj (λ_ _=>rfl)) (aa (aD aB (pv 1) aj (λ_ _=>rfl)) (aa (aD aB (pv 1) aj (λ_ _=>rfl)) ah))))))
     (ag (aO (az cL (aD aB (pv 1) aj (λ_ _=>rfl)) aJ (aF _))
      (ag (au ((sJ T).m T.ae hr (pv 0) px (aa (aD aB (pv 1) aj (λ_ _=>rfl)) (aa (aD aB (pv 1) aj (λ_ _=>rfl)) ah)))))
      (ag (aO (az cL (aD aB (pv 1) aj (λ_ _=>rfl)) aJ (aF _))
       (ag (au ((sM T).m T.ae hr (pv 0) px (aa (aD aB (pv 1) aj (λ_ _=>rfl)) ah))))
       (ag (aO (az cL (aD aB (pv 1) aj (λ_ _=>rfl)) aJ (aF _))
        (ag (au ((pJ T).m T.ae hr (pv 0) px (aa (aD aB (pv 1) aj (λ_ _=>rfl)) (aa (aD aB (pv 1) aj (λ_ _=>rfl)) ah)))))
        (ag (aO (az cL (aD aB (pv 1) aj (λ_ _=>rfl)) aJ (aF _))
         (ag (au ((sN T).m T.ae hr (pv 0) px (aa (aD aB (pv 1) aj (λ_ _=>rfl)) (aa (aD aB (pv 1) aj (λ_ _=>rfl)) ah)))))
         (ag (aO (az cL (aD aB (pv 1) aj (λ_ _=>rfl)) aJ (aF _))
          (ag (au ((lB T).m T.ae hr (pv 0) px (aa (aD aB (pv 1) aj (λ_ _=>rfl)) (aa (aD aB (pv 1) aj (λ_ _=>rfl)) ah)))))
          (ag (aO (az cL (aD aB (pv 1) aj (λ_ _=>rfl)) aJ (aF _))
           (ag (au ((sO T).m T.ae hr (pv 0) px (aa (aD aB (pv 1) aj (λ_ _=>rfl)) (aa (aD aB (pv 1) aj (λ_ _=>rfl)) ah)))))
           (ag (aO (az cL (aD aB (pv 1) aj (λ_ _=>rfl)) aJ (aF _))
            (ag (au ((cW T).m0 T.ae hr (pv 0) px)))
            (ag (aO (fF ((iJ T).m0 T.ae hr (pv 0) px))
             (ag (au ((mV T).m0 T.ae hr (pv 0) px)))
             (ag (au ((kg T).m0 T.ae hr (pv 0) px))))))))))))))))))))))))),?_⟩
 have G:=Gs.g;cases dd with
 | make h n =>
  replace hq:H q=some (.tup [.str "make",.int h,.int n]):=hq;obtain⟨⟨h0,h1⟩,n0,n1⟩:=hok;refine⟨_,rfl,q,_,0,.str "make",rfl,rfl,SqT.of hq,rfl,rfl,_,rfl,aH (λ_=>?_) (λz=>absurd (by decide +kernel) z)⟩;exact⟨_,rfl,x,_,_,rfl,J.ax,(by kernel_rfl),_,rfl,q,_,1,.int h,rfl,rfl,SqT.of hq,rfl,_,rfl,q,_,2,.int n,rfl,rfl,SqT.of hq,rfl,x,A,s,h,n,rfl,J,Gs,hnx,Sm.of (by omega) (by omega),Sm.of (by omega) (by omega),k⟩
 | store g kk h =>
  replace hq:H q=some (.tup [.str "store",.int g,.int kk,.int h]):=hq;obtain⟨⟨g0,g1⟩,k0,k1,h0,h1⟩:=hok;refine⟨_,rfl,q,_,0,.str "store",rfl,rfl,SqT.of hq,rfl,rfl,_,rfl,aH (λz=>absurd z (by decide +kernel)) (λ_=>?_)⟩;refine⟨_,rfl,q,_,0,.str "store",rfl,rfl,SqT.of hq,rfl,rfl,_,rfl,aH (λ_=>?_) (λz=>absurd (by decide +kernel) z)⟩;exact⟨_,rfl,x,_,_,rfl,J.ax,(by kernel_rfl),_,rfl,q,_,1,.int g,rfl,rfl,SqT.of hq,rfl,_,rfl,q,_,2,.int kk,rfl,rfl,SqT.of hq,rfl,_,rfl,q,_,3,.int h,rfl,rfl,SqT.of hq,rfl,x,A,s,g,kk,h,rfl,J,G,Sm.of (by omega) (by omega),Sm.of (by omega) (by omega),Sm.of (by omega) (by omega),k⟩
 | load h g kk =>
  replace hq:H q=some (.tup [.str "load",.int h,.int g,.int kk]):=hq;obtain⟨⟨h0,h1⟩,⟨g0,g1⟩,k0,k1⟩:=hok;refine⟨_,rfl,q,_,0,.str "load",rfl,rfl,SqT.of hq,rfl,rfl,_,rfl,aH (λz=>absurd z (by decide +kernel)) (λ_=>?_)⟩;refine⟨_,rfl,q,_,0,.str "load",rfl,rfl,SqT.of hq,rfl,rfl,_,rfl,aH (λz=>absurd z (by decide +kernel)) (λ_=>?_)⟩;refine⟨_,rfl,q,_,0,.str "load",rfl,rfl,SqT.of hq,rfl,rfl,_,rfl,aH (λ_=>?_) (λz=>absurd (by decide +kernel) z)⟩;exact⟨_,rfl,x,_,_,rfl,J.ax,(by kernel_rfl),_,rfl,q,_,1,.int h,rfl,rfl,SqT.of hq,rfl,_,rfl,q,_,2,.int g,rfl,rfl,SqT.of hq,rfl,_,rfl,q,_,3,.int kk,rfl,rfl,SqT.of hq,rfl,x,A,s,h,g,kk,rfl,J,G,Sm.of (by omega) (by omega),Sm.of (by omega) (by omega),Sm.of (by omega) (by omega),k⟩
 | copy h g =>
  replace hq:H q=some (.tup [.str "copy",.int h,.int g]):=hq;obtain⟨⟨h0,h1⟩,g0,g1⟩:=hok;refine⟨_,rfl,q,_,0,.str "copy",rfl,rfl,SqT.of hq,rfl,rfl,_,rfl,aH (λz=>absurd z (by decide +kernel)) (λ_=>?_)⟩;refine⟨_,rfl,q,_,0,.str "copy",rfl,rfl,SqT.of hq,rfl,rfl,_,rfl,aH (λz=>absurd z (by decide +kernel)) (λ_=>?_)⟩;refine⟨_,rfl,q,_,0,.str "copy",rfl,rfl,SqT.of hq,rfl,rfl,_,rfl,aH (λz=>absurd z (by decide +kernel)) (λ_=>?_)⟩;refine⟨_,rfl,q,_,0,.str "copy",rfl,rfl,SqT.of hq,rfl,rfl,_,rfl,aH (λ_=>?_) (λz=>absurd (by decide +kernel) z)⟩;exact⟨_,rfl,x,_,_,rfl,J.ax,(by kernel_rfl),_,rfl,q,_,1,.int h,rfl,rfl,SqT.of hq,rfl,_,rfl,q,_,2,.int g,rfl,rfl,SqT.of hq,rfl,x,A,s,h,g,rfl,J,G,Sm.of (by omega) (by omega),Sm.of (by omega) (by omega),k⟩
 | drop h =>
  replace hq:H q=some (.tup [.str "drop",.int h]):=hq;obtain⟨h0,h1⟩:=hok;refine⟨_,rfl,q,_,0,.str "drop",rfl,rfl,SqT.of hq,rfl,rfl,_,rfl,aH (λz=>absurd z (by decide +kernel)) (λ_=>?_)⟩;refine⟨_,rfl,q,_,0,.str "drop",rfl,rfl,SqT.of hq,rfl,rfl,_,rfl,aH (λz=>absurd z (by decide +kernel)) (λ_=>?_)⟩;refine⟨_,rfl,q,_,0,.str "drop",rfl,rfl,SqT.of hq,rfl,rfl,_,rfl,aH (λz=>absurd z (by decide +kernel)) (λ_=>?_)⟩;refine⟨_,rfl,q,_,0,.str "drop",rfl,rfl,SqT.of hq,rfl,rfl,_,rfl,aH (λz=>absurd z (by decide +kernel)) (λ_=>?_)⟩;refine⟨_,rfl,q,_,0,.str "drop",rfl,rfl,SqT.of hq,rfl,rfl,_,rfl,aH (λ_=>?_) (λz=>absurd (by decide +kernel) z)⟩;exact⟨_,rfl,x,_,_,rfl,J.ax,(by kernel_rfl),_,rfl,q,_,1,.int h,rfl,rfl,SqT.of hq,rfl,x,A,s,h,rfl,J,G,Sm.of (by omega) (by omega),k⟩
 | number h z =>
  replace hq:H q=some (.tup [.str "number",.int h,.int z]):=hq;obtain⟨⟨h0,h1⟩,z0,z1⟩:=hok;refine⟨_,rfl,q,_,0,.str "number",rfl,rfl,SqT.of hq,rfl,rfl,_,rfl,aH (λz=>absurd z (by decide +kernel)) (λ_=>?_)⟩;refine⟨_,rfl,q,_,0,.str "number",rfl,rfl,SqT.of hq,rfl,rfl,_,rfl,aH (λz=>absurd z (by decide +kernel)) (λ_=>?_)⟩;refine⟨_,rfl,q,_,0,.str "number",rfl,rfl,SqT.of hq,rfl,rfl,_,rfl,aH (λz=>absurd z (by decide +kernel)) (λ_=>?_)⟩;refine⟨_,rfl,q,_,0,.str "number",rfl,rfl,SqT.of hq,rfl,rfl,_,rfl,aH (λz=>absurd z (by decide +kernel)) (λ_=>?_)⟩;refine⟨_,rfl,q,_,0,.str "number",rfl,rfl,SqT.of hq,rfl,rfl,_,rfl,aH (λz=>absurd z (by decide +kernel)) (λ_=>?_)⟩;refine⟨_,rfl,q,_,0,.str "number",rfl,rfl,SqT.of hq,rfl,rfl,_,rfl,aH (λ_=>?_) (λz=>absurd (by decide +kernel) z)⟩;exact⟨_,rfl,x,_,_,rfl,J.ax,(by kernel_rfl),_,rfl,q,_,1,.int h,rfl,rfl,SqT.of hq,rfl,_,rfl,q,_,2,.int z,rfl,rfl,SqT.of hq,rfl,x,A,s,h,z,rfl,J,G,Sm.of (by omega) (by omega),Sm.of (by omega) (by omega),k⟩
 | name w h =>
  replace hq:H q=some (.tup [.str "name",.int w,.int h]):=hq;obtain⟨⟨w0,w1⟩,h0,h1⟩:=hok;refine⟨_,rfl,q,_,0,.str "name",rfl,rfl,SqT.of hq,rfl,rfl,_,rfl,aH (λz=>absurd z (by decide +kernel)) (λ_=>?_)⟩;refine⟨_,rfl,q,_,0,.str "name",rfl,rfl,SqT.of hq,rfl,rfl,_,rfl,aH (λz=>absurd z (by decide +kernel)) (λ_=>?_)⟩;refine⟨_,rfl,q,_,0,.str "name",rfl,rfl,SqT.of hq,rfl,rfl,_,rfl,aH (λz=>absurd z (by decide +kernel)) (λ_=>?_)⟩;refine⟨_,rfl,q,_,0,.str "name",rfl,rfl,SqT.of hq,rfl,rfl,_,rfl,aH (λz=>absurd z (by decide +kernel)) (λ_=>?_)⟩;refine⟨_,rfl,q,_,0,.str "name",rfl,rfl,SqT.of hq,rfl,rfl,_,rfl,aH (λz=>absurd z (by decide +kernel)) (λ_=>?_)⟩;refine⟨_,rfl,q,_,0,.str "name",rfl,rfl,SqT.of hq,rfl,rfl,_,rfl,aH (λz=>absurd z (by decide +kernel)) (λ_=>?_)⟩;refine⟨_,rfl,q,_,0,.str "name",rfl,rfl,SqT.of hq,rfl,rfl,_,rfl,aH (λ_=>?_) (λz=>absurd (by decide +kernel) z)⟩;exact⟨_,rfl,x,_,_,rfl,J.ax,(by kernel_rfl),_,rfl,q,_,1,.int w,rfl,rfl,SqT.of hq,rfl,_,rfl,q,_,2,.int h,rfl,rfl,SqT.of hq,rfl,x,A,s,w,h,rfl,J,G,Sm.of (by omega) (by omega),Sm.of (by omega) (by omega),k⟩
 | read h w =>
  replace hq:H q=some (.tup [.str "read",.int h,.int w]):=hq;obtain⟨⟨h0,h1⟩,w0,w1⟩:=hok;refine⟨_,rfl,q,_,0,.str "read",rfl,rfl,SqT.of hq,rfl,rfl,_,rfl,aH (λz=>absurd z (by decide +kernel)) (λ_=>?_)⟩;refine⟨_,rfl,q,_,0,.str "read",rfl,rfl,SqT.of hq,rfl,rfl,_,rfl,aH (λz=>absurd z (by decide +kernel)) (λ_=>?_)⟩;refine⟨_,rfl,q,_,0,.str "read",rfl,rfl,SqT.of hq,rfl,rfl,_,rfl,aH (λz=>absurd z (by decide +kernel)) (λ_=>?_)⟩;refine⟨_,rfl,q,_,0,.str "read",rfl,rfl,SqT.of hq,rfl,rfl,_,rfl,aH (λz=>absurd z (by decide +kernel)) (λ_=>?_)⟩;refine⟨_,rfl,q,_,0,.str "read",rfl,rfl,SqT.of hq,rfl,rfl,_,rfl,aH (λz=>absurd z (by decide +kernel)) (λ_=>?_)⟩;refine⟨_,rfl,q,_,0,.str "read",rfl,rfl,SqT.of hq,rfl,rfl,_,rfl,aH (λz=>absurd z (by decide +kernel)) (λ_=>?_)⟩;refine⟨_,rfl,q,_,0,.str "read",rfl,rfl,SqT.of hq,rfl,rfl,_,rfl,aH (λz=>absurd z (by decide +kernel)) (λ_=>?_)⟩;refine⟨_,rfl,q,_,0,.str "read",rfl,rfl,SqT.of hq,rfl,rfl,_,rfl,aH (λ_=>?_) (λz=>absurd (by decide +kernel) z)⟩;exact⟨_,rfl,x,_,_,rfl,J.ax,(by kernel_rfl),_,rfl,q,_,1,.int h,rfl,rfl,SqT.of hq,rfl,_,rfl,q,_,2,.int w,rfl,rfl,SqT.of hq,rfl,x,A,s,h,w,rfl,J,G,Sm.of (by omega) (by omega),Sm.of (by omega) (by omega),k⟩
 | word h z =>
  replace hq:H q=some (.tup [.str "word",.int h,.int z]):=hq;obtain⟨⟨h0,h1⟩,z0,z1⟩:=hok;refine⟨_,rfl,q,_,0,.str "word",rfl,rfl,SqT.of hq,rfl,rfl,_,rfl,aH (λz=>absurd z (by decide +kernel)) (λ_=>?_)⟩;refine⟨_,rfl,q,_,0,.str "word",rfl,rfl,SqT.of hq,rfl,rfl,_,rfl,aH (λz=>absurd z (by decide +kernel)) (λ_=>?_)⟩;refine⟨_,rfl,q,_,0,.str "word",rfl,rfl,SqT.of hq,rfl,rfl,_,rfl,aH (λz=>absurd z (by decide +kernel)) (λ_=>?_)⟩;refine⟨_,rfl,q,_,0,.str "word",rfl,rfl,SqT.of hq,rfl,rfl,_,rfl,aH (λz=>absurd z (by decide +kernel)) (λ_=>?_)⟩;refine⟨_,rfl,q,_,0,.str "word",rfl,rfl,SqT.of hq,rfl,rfl,_,rfl,aH (λz=>absurd z (by decide +kernel)) (λ_=>?_)⟩;refine⟨_,rfl,q,_,0,.str "word",rfl,rfl,SqT.of hq,rfl,rfl,_,rfl,aH (λz=>absurd z (by decide +kernel)) (λ_=>?_)⟩;refine⟨_,rfl,q,_,0,.str "word",rfl,rfl,SqT.of hq,rfl,rfl,_,rfl,aH (λz=>absurd z (by decide +kernel)) (λ_=>?_)⟩;refine⟨_,rfl,q,_,0,.str "word",rfl,rfl,SqT.of hq,rfl,rfl,_,rfl,aH (λz=>absurd z (by decide +kernel)) (λ_=>?_)⟩;refine⟨_,rfl,q,_,0,.str "word",rfl,rfl,SqT.of hq,rfl,rfl,_,rfl,aH (λ_=>?_) (λz=>absurd (by decide +kernel) z)⟩;exact⟨_,rfl,x,_,_,rfl,J.ax,(by kernel_rfl),_,rfl,q,_,1,.int h,rfl,rfl,SqT.of hq,rfl,_,rfl,q,_,2,.int z,rfl,rfl,SqT.of hq,rfl,x,A,s,h,z,rfl,J,G,Sm.of (by omega) (by omega),Sm.of (by omega) (by omega),k⟩
 | small =>
  replace hq:H q=some (.tup [.str "small"]):=hq;refine⟨_,rfl,q,_,0,.str "small",rfl,rfl,SqT.of hq,rfl,rfl,_,rfl,aH (λz=>absurd z (by decide +kernel)) (λ_=>?_)⟩;refine⟨_,rfl,q,_,0,.str "small",rfl,rfl,SqT.of hq,rfl,rfl,_,rfl,aH (λz=>absurd z (by decide +kernel)) (λ_=>?_)⟩;refine⟨_,rfl,q,_,0,.str "small",rfl,rfl,SqT.of hq,rfl,rfl,_,rfl,aH (λz=>absurd z (by decide +kernel)) (λ_=>?_)⟩;refine⟨_,rfl,q,_,0,.str "small",rfl,rfl,SqT.of hq,rfl,rfl,_,rfl,aH (λz=>absurd z (by decide +kernel)) (λ_=>?_)⟩;refine⟨_,rfl,q,_,0,.str "small",rfl,rfl,SqT.of hq,rfl,rfl,_,rfl,aH (λz=>absurd z (by decide +kernel)) (λ_=>?_)⟩;refine⟨_,rfl,q,_,0,.str "small",rfl,rfl,SqT.of hq,rfl,rfl,_,rfl,aH (λz=>absurd z (by decide +kernel)) (λ_=>?_)⟩;refine⟨_,rfl,q,_,0,.str "small",rfl,rfl,SqT.of hq,rfl,rfl,_,rfl,aH (λz=>absurd z (by decide +kernel)) (λ_=>?_)⟩;refine⟨_,rfl,q,_,0,.str "small",rfl,rfl,SqT.of hq,rfl,rfl,_,rfl,aH (λz=>absurd z (by decide +kernel)) (λ_=>?_)⟩;refine⟨_,rfl,q,_,0,.str "small",rfl,rfl,SqT.of hq,rfl,rfl,_,rfl,aH (λz=>absurd z (by decide +kernel)) (λ_=>?_)⟩;refine⟨_,rfl,q,_,0,.str "small",rfl,rfl,SqT.of hq,rfl,rfl,_,rfl,aH (λ_=>?_) (λz=>absurd (by decide +kernel) z)⟩;exact⟨_,rfl,x,_,_,rfl,J.ax,(by kernel_rfl),x,A,s,rfl,J,G,λA' H' J' fr=>k A' H' J' fr⟩
 | turn =>
  replace hq:H q=some (.tup [.str "turn"]):=hq;refine⟨_,rfl,q,_,0,.str "turn",rfl,rfl,SqT.of hq,rfl,rfl,_,rfl,aH (λz=>absurd z (by decide +kernel)) (λ_=>?_)⟩;refine⟨_,rfl,q,_,0,.str "turn",rfl,rfl,SqT.of hq,rfl,rfl,_,rfl,aH (λz=>absurd z (by decide +kernel)) (λ_=>?_)⟩;refine⟨_,rfl,q,_,0,.str "turn",rfl,rfl,SqT.of hq,rfl,rfl,_,rfl,aH (λz=>absurd z (by decide +kernel)) (λ_=>?_)⟩;refine⟨_,rfl,q,_,0,.str "turn",rfl,rfl,SqT.of hq,rfl,rfl,_,rfl,aH (λz=>absurd z (by decide +kernel)) (λ_=>?_)⟩;refine⟨_,rfl,q,_,0,.str "turn",rfl,rfl,SqT.of hq,rfl,rfl,_,rfl,aH (λz=>absurd z (by decide +kernel)) (λ_=>?_)⟩;refine⟨_,rfl,q,_,0,.str "turn",rfl,rfl,SqT.of hq,rfl,rfl,_,rfl,aH (λz=>absurd z (by decide +kernel)) (λ_=>?_)⟩;refine⟨_,rfl,q,_,0,.str "turn",rfl,rfl,SqT.of hq,rfl,rfl,_,rfl,aH (λz=>absurd z (by decide +kernel)) (λ_=>?_)⟩;refine⟨_,rfl,q,_,0,.str "turn",rfl,rfl,SqT.of hq,rfl,rfl,_,rfl,aH (λz=>absurd z (by decide +kernel)) (λ_=>?_)⟩;refine⟨_,rfl,q,_,0,.str "turn",rfl,rfl,SqT.of hq,rfl,rfl,_,rfl,aH (λz=>absurd z (by decide +kernel)) (λ_=>?_)⟩;refine⟨_,rfl,q,_,0,.str "turn",rfl,rfl,SqT.of hq,rfl,rfl,_,rfl,aH (λz=>absurd z (by decide +kernel)) (λ_=>?_)⟩;replace k:Fin x A s H (qh s) Q E:=k;refine⟨_,rfl,x,_,_,rfl,J.ax,(by kernel_rfl),x,A,s,rfl,J,_,rfl,?_⟩;by_cases c:s.rnd=true
  ·rw[show qh s=AZ s from if_pos c]at k
   exact iw c ⟨_,rfl,x,_,_,rfl,J.ax,(by kernel_rfl),x,A,s,rfl,J,Gs,k⟩
  ·rw[show qh s=o9 s from if_neg c]at k
   exact b7 (L7.mpr c) ⟨_,rfl,x,_,_,rfl,J.ax,(by kernel_rfl),x,A,s,rfl,J,Gs,k⟩
theorem CT(T:Txt w K mg)(e:Er):(∃ cd,cK K (erA e) cd∧cd.mro.contains (.ref 45)=true)∧wY K (erA e)∧AU P w K mg base (CXE P w) 1 "called" (erA e) (cy (wH e)):=by
 cases e with
 | hand=>exact⟨(T.sub 65),(T.ec 65).get,⟨_,_,_,(T.me (c:=65)),(f7 T).g,(f7 (P:=P) (base:=base) T).b⟩⟩
 | name=>exact⟨(T.sub 84),(T.ec 84).get,⟨_,_,_,(T.me (c:=84)),(f9 T).g,(f9 (P:=P) (base:=base) T).b⟩⟩
 | field=>exact⟨(T.sub 103),(T.ec 103).get,⟨_,_,_,(T.me (c:=103)),(fb T).g,(fb (P:=P) (base:=base) T).b⟩⟩
 | count=>exact⟨(T.sub 122),(T.ec 122).get,⟨_,_,_,(T.me (c:=122)),(eZ T).g,(eZ (P:=P) (base:=base) T).b⟩⟩
 | room=>exact⟨(T.sub 141),(T.ec 141).get,⟨_,_,_,(T.me (c:=141)),(gQ T).g,(gQ (P:=P) (base:=base) T).b⟩⟩
 | words=>exact⟨(T.sub 160),(T.ec 160).get,⟨_,_,_,(T.me (c:=160)),(dq T).g,(dq (P:=P) (base:=base) T).b⟩⟩
 | on=>exact⟨(T.sub 179),(T.ec 179).get,⟨_,_,_,(T.me (c:=179)),(gc T).g,(gc (P:=P) (base:=base) T).b⟩⟩
 | no=>exact⟨(T.sub 198),(T.ec 198).get,⟨_,_,_,(T.me (c:=198)),(gf T).g,(gf (P:=P) (base:=base) T).b⟩⟩
def CU:Sp:=λvs H Q E=>∃ x A s q dd,vs=[.ref x,.ref q]∧IH H x A s∧Gd s∧s.nxt<10000∧H q=some (.tup (Dd.its dd))∧dd.ok∧∀ A' H',IH H' x A' (dDo s dd).2→Fr (aV x A s) H (aV x A' (dDo s dd).2) H'→Q (wdV (dDo s dd).1) H'
abbrev uu:List Str:=["hall", "deed", "word", "e"]
theorem eW:ar uu ["hall", "deed"] (ao nV):=fsc
theorem sV(T:Txt w K mg):Ok P w K mg base 10 1081 ["hall", "deed"] (CU):=by
 refine T.o2 "_law_done" eW λcdv A' outer s' H vs Q E hr h=>?_;obtain⟨x,A,s,q,dd,rfl,J,Gs,hnx,hq,hok,k⟩:=h;obtain⟨cdH,xH⟩:=(T.h 45);refine⟨_,(af (aw (i:=2) eW.nd rfl (Or.inl rfl) bH)
  (af (AL (i:=3) rfl rfl rfl rfl T.m xH eW.nd rfl rfl (λpins E' EK hp=>ag (au (jV (jZ T).g (hr.mono (by decide)) rfl T.m T.kp (jZ (P:=P) (base:=base) T).b .nil hp (aa (pv 0) (aa (pv 1) ah))))) (λea=>ag (aw (i:=2) eW.nd rfl (Or.inl rfl) (show PE _ _ (tJ P w K mg base (CXE P w) 1 "called" (λ_ _ _ _=>False) (BP 3)) from rS (k:=1) (CX:=CXE P w) (pv 3) ⟨(hr.r0 (show 1≤9 by decide)).dp,(hr.r0 (show 1≤9 by decide)).un⟩ kz))))
  (ag (aA (pv 2))))),?_⟩
 refine⟨_,rfl,_,rfl,x,A,s,q,dd,rfl,J,Gs,hnx,hq,hok,λA1 H1 J1 fr=>?_⟩;cases e:(dDo s dd).1 with
 | none =>
  rw[e]at k;exact⟨_,rfl,k A1 H1 J1 fr⟩
 | some er =>
  rw[e]at k;obtain⟨⟨cd,xc,hm⟩,gt,md⟩:=CT (P:=P) (w:=w) (base:=base) T er;refine⟨erA er,cd,rfl,xc,hm,λea hea=>⟨.ref ea,rfl,false,ea,erA er,cy (wH er),rfl,ab,gt,md,_,rfl,?_⟩⟩;have s1:=aq.upd (o:=exo false (erA er) ea none) hea;exact⟨_,rfl,k A1 _ (J1.same s1) (fr.trans (Fr.same s1))⟩
end
end K21
end
section
namespace L2
open PySem PySem.Spec PyProof.Rows LX
theorem EL{X:Cx}{i:Nat}{x:Str}{st:Stmt}{t0 t1 t2 t3 t4:TE}(hh:∃ es p q1 q2,st=.Assign [.Name x q1] (.List es p) q2∧∃ e0 e1 e2 e3 e4,es=[e0,e1,e2,e3,e4]∧(PE X e0 t0∧nsE e0=true)∧(PE X e1 t1∧nsE e1=true)∧(PE X e2 t2∧nsE e2=true)∧(PE X e3 t3∧nsE e3=true)∧(PE X e4 t4∧nsE e4=true))(hN:X.N.Nodup)(hi:X.N[i]?=some x)(hx:Loc X.env.scope x)(hf:X.fn x=true∨X.env.scope.names.lookup x=some .local) :
  PS X st (wN (IP (cD t0 (cD t1 (cD t2 (cD t3 (cD t4 tu)))))) (da i)):=by
 obtain⟨es,p,q1,q2,rfl,e0,e1,e2,e3,e4,rfl,⟨h0,n0⟩,⟨h1,n1⟩,⟨h2,n2⟩,⟨h3,n3⟩,⟨h4,n4⟩⟩:=hh;exact Cs hN hi hx (bM (bp h0 (bp h1 (bp h2 (bp h3 (bp h4 ah n4) n3) n2) n1) n0)) hf
end L2
end
section
namespace K21
open PySem L2 LX
section
variable{P:Program}{w:World}{K:W.Frag}{mg:Str→Option Value}{base:Heap}
end
section
variable{P:Program}{w:World}{K:W.Frag}{mg:Str→Option Value}{base:Heap}
theorem Good.names{s:HS}(g:Good s){w:Nat}{t:Int}{ws:List Wd}(m:(t,ws)∈s.aG):Good {s with names:=s.names.set w (some t)} :=
 ⟨g.h8,by show(s.names.set _ _).length=8;rw[Mt];exact g.n8,g.asc,g.lt,g.f6,g.hh,g.ff,λu m'=>(fP m').elim (g.nn u) (λe=>by injection e with e;rw[e];exact⟨ws,m⟩),g.b12,g.bk,g.bnd,g.n0,g.nx,g.sd,g.yk,g.pA,g.dk,g.qd⟩
theorem yD{bs:List (Int×Int)}{t x:Int}:(rV bs t x).map (·.1)=if(bs.lookup t).isSome=true then bs.map (·.1) else bs.map (·.1)++[t]:=by
 unfold rV;by_cases c:(bs.lookup t).isSome=true
 ·rw[if_pos c,if_pos c,LO]
  refine L3 λp hp=>?_;show(if p.1=t then(t,x) else p).1=p.1;by_cases e:p.1=t
  ·rw[if_pos e];exact e.symm
  ·rw[if_neg e]
 ·rw[if_neg c,if_neg c,LA]
  rfl
theorem Good.aS{s:HS}(g:Good s){t x:Int}{ws:List Wd}(m:(t,ws)∈s.aG)(c:¬(s.aS.lookup t=none∧12≤s.aS.length)):Good {s with aS:=rV s.aS t x}:=by
 have kl:=yD (bs:=s.aS) (t:=t) (x:=x);have ln:=congrArg List.length kl;have mm:∀ u,u∈(rV s.aS t x).map (·.1)→u∈s.aS.map (·.1)∨u=t:=λu h=>by
  rw[kl]at h;split at h
  ·exact .inl h
  ·rcases LB.mp h with h|h
   ·exact .inl h
   ·exact .inr (Lr.mp h)
 refine⟨g.h8,g.n8,g.asc,g.lt,g.f6,g.hh,g.ff,g.nn,?_,λu y h=>?_,?_,g.n0,g.nx,g.sd,g.yk,g.pA,g.dk,g.qd⟩
 ·show(rV s.aS t x).length≤12
  rw[Lp]at ln;rw[ln];by_cases q:(s.aS.lookup t).isSome=true
  ·rw[if_pos q,Lp];exact g.b12
  ·rw[if_neg q,Lw,Lp,Mf]
   have:s.aS.lookup t=none:=by
    cases e:s.aS.lookup t with
    | none=>rfl
    | some v=>rw[e]at q;exact absurd rfl q
   have:¬12≤s.aS.length:=λz=>c ⟨this,z⟩
   omega
 ·rcases mm u (LH.mpr ⟨_,h,rfl⟩) with h|rfl
  ·obtain⟨p,hp,rfl⟩:=LH.mp h
   exact g.bk p.1 p.2 hp
  ·exact⟨ws,m⟩
 ·show((rV s.aS t x).map (·.1)).Nodup
  rw[kl];by_cases q:(s.aS.lookup t).isSome=true
  ·rw[if_pos q];exact g.bnd
  ·rw[if_neg q,Mq]
   refine⟨g.bnd,MH _ _,λa ma b mb e=>?_⟩;rw[Lr.mp mb]at e;subst e;obtain⟨p,hp,rfl⟩:=LH.mp ma;refine q ?_;rw[mem_lookup (w:=p.2) g.bnd hp];rfl
theorem rY{fs:List (Int×List Wd)}{t:Int}{ws:List Wd}:(jd fs t ws).map (·.1)=fs.map (·.1):=by
 unfold jd;rw[LO];refine L3 λp hp=>?_;show(if p.1=t then(t,ws) else p).1=p.1;by_cases e:p.1=t
 ·rw[if_pos e];exact e.symm
 ·rw[if_neg e]
theorem Aq{fs:List (Int×List Wd)}{t u:Int}{ws w:List Wd}(m:(u,w)∈fs):∃ w',(u,w')∈jd fs t ws:=by
 have:u∈(jd fs t ws).map (·.1):=by rw[rY];exact LH.mpr ⟨_,m,rfl⟩
 obtain⟨p,hp,rfl⟩:=LH.mp this;exact⟨p.2,hp⟩
theorem l7{fs:List (Int×List Wd)}{t u:Int}{ws w:List Wd}(m:(u,w)∈jd fs t ws):(u,w)∈fs∨(w=ws∧∃ w0,(u,w0)∈fs):=by
 obtain⟨p,hp,e⟩:=LH.mp m;by_cases c:p.1=t
 ·rw[if_pos c]at e
  cases e;exact .inr ⟨rfl,p.2,by rw[←c];exact hp⟩
 ·rw[if_neg c]at e
  subst e;exact .inl hp
theorem Good.jd{s:HS}(g:Good s){t:Int}{ws:List Wd}(l6:ws.length≤6)(c:∀ u,Wd.th u∈ws→∃ w,(u,w)∈s.aG):Good {s with aG:=jd s.aG t ws}:=by
 have hs:∀ u,(∃ w,(u,w)∈s.aG)→∃ w,(u,w)∈K21.jd s.aG t ws:=λu ⟨w,m⟩=>Aq m;refine⟨g.h8,g.n8,by show((K21.jd s.aG t ws).map (·.1)).Pairwise _;rw[rY];exact g.asc,λu w m=>?_,λu w m=>?_,λu m=>hs u (g.hh u m),λu w v m mv=>?_,λu m=>hs u (g.nn u m),g.b12,λu y m=>hs u (g.bk u y m),g.bnd,g.n0,g.nx,?_,λu m=>hs u (g.yk u m),g.pA,λu m=>hs u (g.dk u m),g.qd⟩
 ·rcases l7 m with m|⟨_,w0,m⟩
  ·exact g.lt u w m
  ·exact g.lt u w0 m
 ·rcases l7 m with m|⟨rfl,w0,m⟩
  ·exact g.f6 u w m
  ·exact l6
 ·rcases l7 m with m|⟨rfl,w0,m⟩
  ·exact hs v (g.ff u w v m mv)
  ·exact hs v (c v mv)
 ·show(s.iN.length:Int)+((K21.jd s.aG t ws).length:Int)≤s.nxt
  unfold K21.jd;rw[Lp];exact g.sd
theorem Good.Le{s:HS}(g:Good s){h n:Int}(n6:n≤6)(few:s.nxt<10000):Good (vP s h n):=by
 have hs:∀ u,(∃ w,(u,w)∈s.aG)→∃ w,(u,w)∈s.aG++[(s.nxt,List.replicate n.toNat Wd.no)]:=λu ⟨w,m⟩=>⟨w,LW _ m⟩;have mm:∀ {u:Int} {w:List Wd},(u,w)∈s.aG++[(s.nxt,List.replicate n.toNat Wd.no)]→(u,w)∈s.aG∨(u=s.nxt∧w=List.replicate n.toNat Wd.no):=λm=>by
  rcases LB.mp m with m|m
  ·exact .inl m
  ·cases Lr.mp m;exact .inr ⟨rfl,rfl⟩
 have my:∀ u∈(vP s h n).yng,u∈s.yng∨u=s.nxt:=λu m=>by
  have m:u∈(if s.my=true then s.yng++[s.nxt] else s.yng):=m;split at m
  ·exact(LB.mp m).imp id λz=>Lr.mp z
  ·exact .inl m
 refine⟨by show(s.aM.set _ _).length=8;rw[Mt];exact g.h8,g.n8,?_,λu w m=>?_,λu w m=>?_,λu m=>?_,λu w v m mv=>?_,λu m=>hs u (g.nn u m),g.b12,λu y m=>hs u (g.bk u y m),g.bnd,by show 0≤s.nxt+1;have:=g.n0;omega,by show s.nxt+1≤10000;omega,?_,λu m=>?_,?_,λu m=>hs u (g.dk u m),g.qd⟩
 ·show((s.aG++[(s.nxt,List.replicate n.toNat Wd.no)]).map (·.1)).Pairwise _
  rw[LA,MD];refine⟨g.asc,MH _ _,λa ma b mb=>?_⟩;obtain⟨p,hp,rfl⟩:=LH.mp ma;obtain rfl:b=s.nxt:=by simpa using mb
  exact(g.lt p.1 p.2 hp).2
 ·show 0≤u∧u<s.nxt+1
  have:=g.n0
  rcases mm m with m|⟨e,_⟩
  ·have:=g.lt u w m;omega
  ·omega
 ·rcases mm m with m|⟨_,e⟩
  ·exact g.f6 u w m
  ·rw[e,List.length_replicate];omega
 ·rcases fP m with m|e
  ·exact hs u (g.hh u m)
  ·injection e with e
   exact⟨_,LJ _ (Lr.mpr (by rw[e]))⟩
 ·rcases mm m with m|⟨_,e⟩
  ·exact hs v (g.ff u w v m mv)
  ·rw[e]at mv
   cases Mm mv
 ·show(s.iN.length:Int)+((s.aG++[(s.nxt,List.replicate n.toNat Wd.no)]).length:Int)≤s.nxt+1
  rw[Lw,Mf]
  have:=g.sd
  omega
 ·rcases my u m with m|e
  ·exact hs u (g.yk u m)
  ·exact⟨_,LJ _ (Lr.mpr (by rw[e]))⟩
 ·show(if s.my=true then s.yng++[s.nxt] else s.yng).Pairwise _
  split
  ·rw[MD]
   refine⟨g.pA,MH _ _,λa ma b mb=>?_⟩;obtain rfl:b=s.nxt:=(by simpa using mb);obtain⟨ws,m⟩:=g.yk a ma;exact(g.lt a ws m).2
  ·exact g.pA
theorem Gd.put{s:HS}(d:Gd s){h:Int}{w:Wd}(c:∀ t,w=.th t→(∃ ws,(t,ws)∈s.aG)∧t∉s.bc):Gd (g9 s h w) :=
 ⟨d.g.put λt e=>(c t e).1,d.dy,λt m=>(fP m).elim (d.dh t) (λe=>(c t e.symm).2),d.df,d.rd⟩
theorem Gd.add{s:HS}(d:Gd s){h n:Int}(n6:n≤6)(few:s.nxt<10000):Gd (vP s h n) where
 g:=d.g.Le n6 few
 dy:=λt m=>by
  obtain⟨ws,mt⟩:=d.g.dk t m;have lt:=(d.g.lt t ws mt).2;show t∉(if s.my=true then s.yng++[s.nxt] else s.yng);split
  ·intro z
   rcases LB.mp z with z|z
   ·exact d.dy t m z
   ·have:=Lr.mp z;omega
  ·exact d.dy t m
 dh:=λt m=>(fP m).elim (d.dh t) λe=>by
  injection e with e;intro z;obtain⟨ws,mt⟩:=d.g.dk t z
  have:=(d.g.lt t ws mt).2
  omega
 df:=λu ws t m hu h=>by
  rcases LB.mp m with m|m
  ·exact d.df u ws t m hu h
  ·cases Lr.mp m
   cases Mm h
 rd:=d.rd
theorem Gd.jd{s:HS}(d:Gd s){t:Int}{ws:List Wd}(l6:ws.length≤6)(c:∀ u,Wd.th u∈ws→(∃ w,(u,w)∈s.aG)∧u∉s.bc):Gd {s with aG:=jd s.aG t ws} where
 g:=d.g.jd l6 λu m=>(c u m).1
 dy:=d.dy
 dh:=d.dh
 df:=λu w v m hu h=>by
  rcases l7 m with m|⟨e,_⟩
  ·exact d.df u w v m hu h
  ·rw[e]at h;exact(c v h).2
 rd:=d.rd
theorem Gd.hnd{s:HS}(d:Gd s){h:Int}{w:Wd}(e:wat s.aM h=some w):∀ t,w=.th t→(∃ ws,(t,ws)∈s.aG)∧t∉s.bc:=λt z=>by
 have m:=LD (jw e).2.2;rw[z]at m;exact⟨d.g.hh t m,d.dh t m⟩
theorem xv{s:HS}{n:Option Int}:(rdR s n).nxt=s.nxt:=by
 unfold rdR;split
 ·split<;>rfl
 ·rfl
theorem Iy{s:HS}(d:Gd s)(few:s.nxt<10000){dd:Dd}(ok:dd.ok):Gd (dDo s dd).2∧s.nxt≤(dDo s dd).2.nxt∧(dDo s dd).2.nxt≤s.nxt+1:=by
 have same:Gd s∧s.nxt≤s.nxt∧s.nxt≤s.nxt+1:=⟨d,Mn _,by omega⟩;cases dd with
 | make h n =>
  show Gd (fK s h n).2∧s.nxt≤(fK s h n).2.nxt∧(fK s h n).2.nxt≤s.nxt+1;unfold fK;split
  ·split
   ·split
    ·exact⟨d.mkd,by rw[mU];exact Mn _,by rw[mU];omega⟩
    ·exact⟨d.mkd.add ok.2.2 (by rw[mU];exact few),by show s.nxt≤(mkR s n).nxt+1;rw[mU];omega,by show(mkR s n).nxt+1≤s.nxt+1;rw[mU];exact Mn _⟩
   ·exact same
  ·exact same
 | store g k h =>
  show Gd (cG s g k h).2∧s.nxt≤(cG s g k h).2.nxt∧(cG s g k h).2.nxt≤s.nxt+1;unfold cG;split
  ·rename_i t e
   split
   ·rename_i w e2
    split
    ·rename_i c
     have m:=d.g.hand e;refine⟨d.jd (by rw[Mt];exact d.g.f6 _ _ m) (λu hu=>?_),Mn _,by show s.nxt≤s.nxt+1;omega⟩;rcases fP hu with hu|hu
     ·exact⟨d.g.ff _ _ _ m hu,d.df _ _ _ m ((d.hnd e t rfl).2) hu⟩
     ·exact d.hnd e2 u hu.symm
    ·exact same
   ·exact same
  ·exact same
 | load h g k =>
  show Gd (eU s h g k).2∧s.nxt≤(eU s h g k).2.nxt∧(eU s h g k).2.nxt≤s.nxt+1;unfold eU;split
  ·split
   ·rename_i t e
    split
    ·rename_i c
     have m:=d.g.hand e;refine⟨d.put λu hu=>?_,Mn _,by show s.nxt≤s.nxt+1;omega⟩;have hi:k.toNat<(fld s t).length:=(by omega);have hm:Wd.th u∈fld s t:=(by rw[←hu,List.getD_eq_getElem?_getD,Ls hi];exact Mb hi);exact⟨d.g.ff _ _ _ m hm,d.df _ _ _ m ((d.hnd e t rfl).2) hm⟩
    ·exact same
   ·exact same
  ·exact same
 | copy h g =>
  show Gd (jJ s h g).2∧s.nxt≤(jJ s h g).2.nxt∧(jJ s h g).2.nxt≤s.nxt+1;unfold jJ;split
  ·split
   ·rename_i w e
    exact⟨d.put (d.hnd e),Mn _,by show s.nxt≤s.nxt+1;omega⟩
   ·exact same
  ·exact same
 | drop h =>
  show Gd (lZ s h).2∧s.nxt≤(lZ s h).2.nxt∧(lZ s h).2.nxt≤s.nxt+1;unfold lZ;split
  ·exact⟨d.put (λt e=>by cases e),Mn _,by show s.nxt≤s.nxt+1;omega⟩
  ·exact same
 | number h x =>
  show Gd (dt s h x).2∧s.nxt≤(dt s h x).2.nxt∧(dt s h x).2.nxt≤s.nxt+1;unfold dt;split
  ·split
   ·exact⟨d.put (λt e=>by cases e),Mn _,by show s.nxt≤s.nxt+1;omega⟩
   ·exact same
  ·exact same
 | name w h =>
  show Gd (gr s w h).2∧s.nxt≤(gr s w h).2.nxt∧(gr s w h).2.nxt≤s.nxt+1;unfold gr;split
  ·rename_i t e
   split
   ·exact⟨⟨d.g.names (d.g.hand e),d.dy,d.dh,d.df,d.rd⟩,Mn _,by show s.nxt≤s.nxt+1;omega⟩
   ·exact same
  ·exact same
 | read h w =>
  show Gd (fJ s h w).2∧s.nxt≤(fJ s h w).2.nxt∧(fJ s h w).2.nxt≤s.nxt+1;unfold fJ;split
  ·split
   ·rename_i c2
    refine⟨?_,by rw[xv];exact Mn _,by rw[xv];show s.nxt≤s.nxt+1;omega⟩;have hi:w.toNat<s.names.length:=(by rw[d.g.n8];omega);have gd:s.names.getD w.toNat none=s.names[w.toNat]:=(by simp[List.getD,hi]);have mm:s.names[w.toNat]∈s.names:=Mb hi;rw[←gd]at mm;cases e:s.names.getD w.toNat none with
    | none=>exact d.put (λt e=>by cases e)
    | some t =>
     rw[e]at mm;obtain⟨ws,m⟩:=d.g.nn t mm;show Gd (if t∈(g9 s h (.th t)).bc then hZ (g9 s h (.th t)) t else g9 s h (.th t));have g2:Good (g9 s h (.th t)):=d.g.put λu z=>by cases z;exact⟨ws,m⟩
     by_cases c:t∈s.bc
     ·rw[if_pos (show t∈(g9 s h (.th t)).bc from c)]
      refine Gd.Iv ⟨g2,d.dy,d.df,d.rd⟩ c λu hu=>?_;rcases fP hu with hu|hu
      ·exact .inr (d.dh u hu)
      ·injection hu with hu;exact .inl hu
     ·rw[if_neg (show ¬t∈(g9 s h (.th t)).bc from c)]
      exact d.put λu z=>by cases z;exact⟨⟨ws,m⟩,c⟩
   ·exact same
  ·exact same
 | word h x =>
  show Gd (eV s h x).2∧s.nxt≤(eV s h x).2.nxt∧(eV s h x).2.nxt≤s.nxt+1;unfold eV;split
  ·rename_i t e
   split
   ·split
    ·exact same
    ·rename_i c
     exact⟨⟨d.g.aS (d.g.hand e) c,d.dy,d.dh,d.df,d.rd⟩,Mn _,by show s.nxt≤s.nxt+1;omega⟩
   ·exact same
  ·exact same
 | small=>exact⟨d.small,Mn _,by show s.nxt≤s.nxt+1;omega⟩
 | turn =>
  show Gd (qh s).2∧s.nxt≤(qh s).2.nxt∧(qh s).2.nxt≤s.nxt+1;unfold qh;split
  ·rename_i c
   rw[show AZ s=(none,DM s) from if_pos c];exact⟨d.fin,Mn _,by show s.nxt≤s.nxt+1;omega⟩
  ·rename_i c
   rw[show o9 s=(none,CM (eQ s)) from if_neg c];exact⟨d.small.beg rfl,Mn _,by show s.nxt≤s.nxt+1;omega⟩
theorem gd0{my:Bool}{room limit:Int}:Gd (s0 my room limit):=⟨good0,(λt m=>nomatch m),(λt _ m=>nomatch m),(λu ws t m=>nomatch m),λ_=>rfl⟩
def BN(K:W.Frag):Sp:=λvs H Q _=>∃(a:Addr) (ns:List Int),vs=[.ref a]∧SqL K H a (ns.map V.int)∧ns.length≤63∧∀ H',Q (.bl true) H'
end
section
variable{P:Program}{w:World}{K:W.Frag}{mg:Str→Option Value}{base:Heap}
open Classical in
def yE:Sp:=λvs H Q _=>∃ x A s,vs=[.ref x]∧IH H x A s∧Good s∧(∀ p H',aq H H'→H p=none→H' p=some (.lst A.hx)→Q (.ref p) H')
abbrev lC:List Str:=["self"]
theorem kj:ar lC ["self"] (ao fX):=fsc
theorem fv(T:Txt w K mg):Ok P w K mg base 2 914 ["self"] (yE):=by
 refine T.o1 "IdealHeap.hands" kj λcdv A' outer s' H vs Q E hr h=>?_;obtain⟨x,A,s,rfl,J,G,k⟩:=h;refine⟨_,(PSs.nox (ag (aA ((cV T).m0 T.aP hr (aE (pv 0) rfl) bR)))),?_⟩;exact⟨_,rfl,x,980,_,_,.ref A.hd,rfl,J.ax,T.ae,T.n,gY,A.hd,A.hdx,_,rfl,J.ahd,rfl,A.hd,A.hdx,A.hl,A.hx,s.aM,rfl,J.hn G,k⟩
def vS:Sp:=λvs H Q _=>∃ x A s,vs=[.ref x]∧IH H x A s∧Good s∧(∀ p H',aq H H'→H p=none→H' p=some (.lst ((keys s).map V.int))→Q (.ref p) H')
abbrev km:List Str:=["self"]
theorem jD:ar km ["self"] (ao eY):=fsc
theorem eL(T:Txt w K mg):Ok P w K mg base 1 928 ["self"] (vS):=by
 refine T.o1 "IdealHeap.things" jD λcdv A' outer s' H vs Q E hr h=>?_;obtain⟨x,A,s,rfl,J,G,k⟩:=h;refine⟨_,(PSs.nox (ag (aA (aK (so rfl) rfl T.z PyProof.Rows.Boot.«sorted» (aa (aE (pv 0) rfl) ah))))),?_⟩;exact⟨_,rfl,x,980,_,_,.ref A.fh,rfl,J.ax,T.ae,T.n,ir,A.fh,_,keys s,rfl,.inl J.afh,yV s A,(by unfold keys;rw[Lp];exact LL G.few (by decide)),G.asc.imp (λh=>Int.le_of_lt h),λp hp=>k p _ (aq.upd hp) hp ab⟩
def EM:Sp:=λvs H Q E=>∃ x A s,∃ t:Int,vs=[.ref x,.int t]∧IH H x A s∧Good s∧Sm t∧(t∈keys s→Q .non H)∧(t∉keys s→Bad 243 H E)
abbrev jE:List Str:=["self", "t"]
theorem iY:ar jE ["self", "t"] (ao eD):=fsc
theorem iZ(T:Txt w K mg):Ok P w K mg base 3 771 ["self", "t"] (EM):=by
 refine T.o2 "Heap.look_at_held" iY λcdv A' outer s' H vs Q E hr h=>?_;obtain⟨x,A,s,t,rfl,J,G,ht,k,kb⟩:=h;have hu:=bX hr;refine⟨_,(ag (aO (cA (bo hu (pv 1) (aE (pv 0) rfl)) (by with_unfolding_all rfl))
   (ag (bF rfl dE ((av T).e 243 hr px (aa (cu (aI (dc (pv 1)) (aI bV cq))) ah))))
   aC)),?_⟩
 refine⟨_,rfl,_,rfl,x,980,_,_,.ref A.fh,rfl,J.ax,T.ae,T.n,ir,A.fh,_,rfl,eG.k (k:=Sum.inl t) J.afh,_,rfl,?_⟩;rw[(yV s A).isS];by_cases c:t∈keys s
 ·rw[decide_eq_true c]
  exact b4 (k c)
 ·rw[decide_eq_false c]
  exact cZ ⟨_,rfl,t,rfl,ht,λy hy ea hea=>aZ (T.ec 243) (λ_ q=>q) (kb c) ea hea⟩
def CV:Sp:=λvs H Q E=>∃ x A s,∃ t:Int,vs=[.ref x,.int t]∧IH H x A s∧Good s∧Sm t∧(t∈keys s→∀ p H',aq H H'→H p=none→H' p=some (.lst (A.fx t))→Q (.ref p) H')∧(t∉keys s→Bad 243 H E)
abbrev iK:List Str:=["self", "t"]
theorem hJ:ar iK ["self", "t"] (ao dG):=fsc
theorem du(T:Txt w K mg):Ok P w K mg base 4 935 ["self", "t"] (CV):=by
 refine T.o2 "IdealHeap.fields_of" hJ λcdv A' outer s' H vs Q E hr h=>?_;obtain⟨x,A,s,t,rfl,J,G,ht,k,kb⟩:=h;have hu:=bX hr;refine⟨_,(af (au ((iZ T).m T.ae hr (pv 0) px (aa (pv 1) ah)))
  (ag (aA (cM dC rfl T.z PyProof.Rows.Boot.«list» (aa (bU hu (aE (pv 0) rfl) (pv 1) (λ_ _=>rfl)) ah))))),?_⟩
 refine⟨_,rfl,x,_,_,rfl,J.ax,(by kernel_rfl),_,rfl,x,A,s,t,rfl,J,G,ht,λm=>?_,kb⟩;obtain⟨ws,mw⟩:=mem_keys.mp m;exact⟨_,rfl,x,980,_,_,.ref A.fh,rfl,J.ax,T.ae,T.n,ir,_,rfl,A.fh,_,rfl,J.Hb G mw,A.fa t,_,rfl,.inl (SqL.of (J.afl _ _ mw).1),λp hp=>k m p _ (aq.upd hp) hp ab⟩
end
end K21
end
section
namespace L2
open PySem PySem.Spec PyProof.Rows LX
section
variable{P:Program}{w:World}{K:W.Frag}{mg:Str→Option Value}{base:Heap}{N:List Str}{qual:Str}{scope:Scope}{f:Addr}{cdv:Value}{A:Around}{outer:List Env}{s₀:Shared}{H₀:Hp}{E₀:XK}
def XO(P:Program)(w:World)(qual:Str)(scope:Scope)(f:Addr)(cdv:Value)(A:Around)(outer:List Env)(s₀:Shared)(H₀:Hp)(E₀:XK)(base:Heap)(e:Value)(s:Shared):Prop :=
 ∃(ea:Addr) (c:Value) (od:Option Addr) (fs:Array Value) (sl:Array (Option Value)) (T0:Option Addr),e=.ref ea∧(A.deeper (envOfC qual scope s₀.heap.objs.size f cdv)).frames=some (envOfC qual scope s₀.heap.objs.size f cdv::outer)∧s.heap.FunFrames base (envOfC qual scope s₀.heap.objs.size f cdv::outer)∧s.heap.get? ea=some (a5 c od fs sl)∧jH s.heap ea fs T0 ∧
  ∀(m:Heap) (T:Addr) (fs':Array Value),s.heap.objs.size≤T→Kept (bt (envOfC qual scope s₀.heap.objs.size f cdv::outer)) (ea::T0.toList) s.heap m→m.get? ea=some (a5 c od fs' sl)→fs'[0]?=fs[0]?→jH m ea fs' (some T)→CXE P w outer H₀ s₀ E₀ (.ref ea) {s with heap:=m}
def XN(P:Program)(w:World)(outer:List Env)(s₀:Shared)(H₀:Hp)(E₀:XK)(L:Addr)(e:Value)(s:Shared):Prop :=
 ∃(ea T:Addr) (c oc:Value) (od d:Option Addr) (fs ts:Array Value) (sl sm:Array (Option Value)),e=.ref ea∧s.heap.get? ea=some (a5 c od fs sl)∧fs[1]?=some (.ref T)∧T≠ea∧s.heap.get? T=some (a5 oc d ts sm)∧ts[3]?=some (rawInt L) ∧
  ∀ m:Heap,(∀ b o,b≠T→s.heap.get? b=some o→m.get? b=some o)→jH m ea fs (some T)→m.get? ea=some (a5 c od fs sl)→CXE P w outer H₀ s₀ E₀ (.ref ea) {s with heap:=m}
def XR(P:Program)(w:World)(qual:Str)(scope:Scope)(f:Addr)(cdv:Value)(A:Around)(outer:List Env)(s₀:Shared)(H₀:Hp)(E₀:XK)(base:Heap)(e:Value)(s:Shared):Prop :=
 XO P w qual scope f cdv A outer s₀ H₀ E₀ base e s∨XN P w outer s₀ H₀ E₀ s₀.heap.objs.size e s
theorem Ar{pins:List (Addr×Obj)}{σ:St}{H H':Hp}{s s':Shared}{ea C T:Addr}{od:Option Addr}{fs:Array Value}{sl:Array (Option Value)}(I:Inv (cxE P w K mg base N qual scope f cdv A outer s₀ H₀ E₀) pins σ H s)
  (l:Lies P w (cxE P w K mg base N qual scope f cdv A outer s₀ H₀ E₀).stack H H' s ea C T od fs sl s') (hE:E₀ (.ref C) od H'):XO P w qual scope f cdv A outer s₀ H₀ E₀ base (.ref ea) s':=by
 refine⟨ea,_,_,_,_,_,rfl,I.ok.frames,Lies.frames I l,l.at_,l.trail,λm T' fs' z1 z2 z3 z4 z5=>?_⟩;obtain⟨un,hok⟩:=l.on (t':=s'.toks) I z2;have J:Inv (cxE P w K mg base N qual scope f cdv A outer s₀ H₀ E₀) pins σ H' {s' with heap:=m}:=I.yO l.os un hok l.bare (λb z=>absurd z (by simp));have old:∀ b o,s₀.heap.get? b=some o→∃ o',s.heap.get? b=some o':=λb o z=>I.base.there b o z (Mg);have e0:s₀.heap.get? ea=none:=by
  cases q:s₀.heap.get? ea with
  | none=>rfl
  | some o =>
   obtain⟨o',z⟩:=old ea o q;rw[l.Cf]at z;cases z
 have t0:s₀.heap.get? T'=none:=by
  cases q:s₀.heap.get? T' with
  | none=>rfl
  | some o =>
   obtain⟨o1,y1⟩:=old T' o q;obtain⟨o2,y2⟩:=l.un.there T' o1 y1 (by simp);exact absurd (LC y2) (Nw.mpr z1)
 obtain⟨a0,ha⟩:=l.args;exact⟨ea,C,T',od,fs',sl,H',rfl,⟨J.os,J.bare,J.base,J.hok,e0,t0,l.vx,l.hok.fresh z1,z3,⟨a0,by rw[z4];exact ha⟩,z5⟩,hE⟩
theorem CW{pins:List (Addr×Obj)}{σ:St}{H:Hp}{s:Shared}{ea C:Addr}{od:Option Addr}(I:Inv (cxE P w K mg base N qual scope f cdv A outer s₀ H₀ E₀) pins σ H s)(h1:H ea=some (exo true C ea od))(h0:H₀ ea=none)
  (hE:E₀ (.ref C) od (del H ea)):XO P w qual scope f cdv A outer s₀ H₀ E₀ base (.ref ea) s:=by
 obtain⟨fs,sl,a0,z,ha,hf⟩:=jU I.hok h1;have frz:∀ b,b∈frs (cxE P w K mg base N qual scope f cdv A outer s₀ H₀ E₀).stack→H b=none:=I.jK;have e0:s₀.heap.get? ea=none:=by
  cases q:s₀.heap.get? ea with
  | none=>rfl
  | some o =>
   have:=I.base.free ea o q h0 Mg
   rw[h1]at this;cases this
 refine⟨ea,_,_,_,_,_,rfl,I.ok.frames,I.stack,z,.none (hf rfl),λm T' fs' z1 z2 z3 z4 z5=>?_⟩;have hd:HOk P w (del H ea) s.heap:=I.hok.del (λy q=>by rw[h1]at q;cases q) λxs q=>by rw[h1]at q;cases q
 have hm:HOk P w (del H ea) m:=hd.keeps λb u o q r=>by
  obtain⟨q1,q2⟩:=qy q;exact z2.plain b o r (λhb=>by rw[frz b hb]at q1;cases q1) (by simpa using q2)
 have neE:∀ b o,s₀.heap.get? b=some o→b≠ea:=λb o q r=>by rw[r,e0]at q;cases q
 have t0:s₀.heap.get? T'=none:=by
  cases q:s₀.heap.get? T' with
  | none=>rfl
  | some o =>
   obtain⟨o2,y2⟩:=I.base.there T' o q Mg;exact absurd (LC y2) (Nw.mpr z1)
 have neL:∀ b o,s₀.heap.get? b=some o→b∈bt (cxE P w K mg base N qual scope f cdv A outer s₀ H₀ E₀).stack→b∈frs outer:=λb o q hb=>by
  rcases LQ.mp (I.o5 b hb) with r|r
  ·exact absurd (LC q) (by rw[r];exact Nw.mpr I.ok.above)
  ·exact r
 have sub:∀ b,b∈frs outer→b∈bt (cxE P w K mg base N qual scope f cdv A outer s₀ H₀ E₀).stack:=λb hb=>by
  obtain⟨x,hx,hy⟩:=Mh.mp hb;exact Mh.mpr ⟨x,LU _ hx,hy⟩
 refine⟨ea,C,T',od,fs',sl,del H ea,rfl,⟨I.os,I.bare,⟨λb o q n hb hx=>?_,λb o q n hb hx=>?_,λb o q n hx=>?_,λb o q hx=>?_,λb xs q=>?_,λb o u q=>?_,λb ps q=>?_⟩,hm,e0,t0,lX,?_,z3,⟨a0,by rw[z4];exact ha⟩,z5⟩,hE⟩
 ·exact z2.plain b o (I.base.keep b o q n hb hx) (λz=>hb (neL b o q z)) (by simpa using neE b o q)
 ·obtain⟨s1,y1⟩:=I.base.slot b o q n hb hx
  obtain⟨s2,y2⟩:=z2.frame b _ y1 (sub b hb) (by simpa using neE b o q);exact⟨s2,y2⟩
 ·rw[eM (neE b o q)]
  exact I.base.free b o q n hx
 ·obtain⟨o1,y1⟩:=I.base.there b o q hx
  by_cases hb:b∈bt (cxE P w K mg base N qual scope f cdv A outer s₀ H₀ E₀).stack
  ·obtain⟨s2,y2⟩:=z2.frame b _ y1 hb (by simpa using neE b o q)
   exact⟨_,y2⟩
  ·exact⟨_,z2.plain b _ y1 hb (by simpa using neE b o q)⟩
 ·have r:=I.base.ph b xs q
  rw[eM λe=>by rw[e,h1]at r;cases r];exact r
 ·have r:=I.base.nG b o u q
  rw[eM λe=>by rw[e,h1]at r;cases r];exact r
 ·obtain⟨more,r⟩:=I.base.pj b ps q
  exact⟨more,by rw[eM λe=>by rw[e,h1]at r;cases r];exact r⟩
 ·by_cases q:T'=ea
  ·rw[q];exact lX
  ·rw[eM q];exact I.hok.fresh z1
theorem XR.xe{e:Value}{s:Shared}(h:XR P w qual scope f cdv A outer s₀ H₀ E₀ base e s):(cxE P w K mg base N qual scope f cdv A outer s₀ H₀ E₀).xe e s:=by
 rcases h with⟨ea,c,od,fs,sl,T0,rfl,hA,F,he,t,k⟩|⟨ea,T,c,oc,od,d,fs,ts,sl,sm,rfl,he,h1,ne,hT,h3,k⟩
 ·exact wx hA F rfl he t k
 ·have h3s:3<ts.size:=(LZ.mp h3).1
  show wpAny _ _ (leaving _ (.ref ea)) _ _ s;unfold leaving noteFrame;refine wpAny_bind ?_;show wpAny _ _ (field (.ref ea) 1 >>= _) _ _ s;refine wpAny_bind (wpAny_field he rfl h1 ?_);rw[if_pos (show(Value.ref T != Value.none)=true by simp)];refine wpAny_bind (wpAny_field hT rfl h3 ?_);rw[if_pos (by simp)];exact wpAny_pure (iq he h1 ne hT h3s k)
theorem vT:PassesOwn (model P w) (A.deeper (envOfC qual scope s₀.heap.objs.size f cdv)) (envOfC qual scope s₀.heap.objs.size f cdv) (XR P w qual scope f cdv A outer s₀ H₀ E₀ base):=by
 intro e s h;have Jd:∀ {s1:Shared},XN P w outer s₀ H₀ E₀ s₀.heap.objs.size e s1→cameBackBy (model P w) (A.deeper (envOfC qual scope s₀.heap.objs.size f cdv)) (envOfC qual scope s₀.heap.objs.size f cdv) (XR P w qual scope f cdv A outer s₀ H₀ E₀ base) e s1:=by
  rintro s1 ⟨ea,T,c,oc,od,d,fs,ts,sl,sm,rfl,he,h1,ne,hT,h3,k⟩;have h3s:3<ts.size:=(LZ.mp h3).1;unfold cameBackBy setFlight;refine wpAny_bind (wpAny_field he rfl h1 ?_);dsimp only;rw[if_neg (by simp)];refine wpAny_bind (wpAny_field he rfl h1 ?_);rw[if_pos (show(Value.ref T != Value.none)=true by simp)];refine wpAny_setField hT rfl h3s ?_;have oth:∀ b o,b≠T→s1.heap.get? b=some o→(s1.heap.update T (Obj.mapFields (·.setIfInBounds 3 (rawInt s₀.heap.objs.size)))).get? b=some o:=λb o hb q=>(L9 _ _ (L4 hb)).trans q;exact .inr ⟨ea,T,c,oc,od,d,fs,ts.setIfInBounds 3 (rawInt s₀.heap.objs.size),sl,sm,rfl,oth _ _ (L4 ne) he,h1,ne,mG hT,by simp[h3s],λm q1 q2 q3=>k m (λb o hb q=>q1 b o hb (oth b o hb q)) q2 q3⟩
 rcases h with⟨ea,c,od,fs,sl,T0,rfl,hA,F,he,t,k⟩|⟨ea,T,c,oc,od,d,fs,ts,sl,sm,rfl,he,h1,ne,hT,h3,k⟩
 ·refine tE hA F rfl he t λm T oc ts z1 z2 z3 z4 z5=>Jd ?_
  have Te:T≠ea:=Mz (LK (LC he) z1);have f1:(fs.setIfInBounds 1 (Value.ref T))[1]?=some (.ref T):=by
   have:=t.size
   simp[this]
  refine⟨ea,T,c,oc,od,none,_,ts,sl,#[],rfl,z3,f1,Te,z4,z5,λm' q1 q2 q3=>k m' T _ z1 ⟨λb o q hb hx=>?_,λb o q hb hx=>?_⟩ q3 (by simp) q2⟩
  ·exact q1 b o (LN (LK (LC q) z1)) (z2.plain b o q hb hx)
  ·obtain⟨sm,r⟩:=z2.frame b o q hb hx
   exact⟨sm,q1 b _ (LN (LK (LC q) z1)) r⟩
 ·have h3s:3<ts.size:=(LZ.mp h3).1
  show wpAny _ _ (noteFrame (.ref ea) _) _ _ s;unfold noteFrame;show wpAny _ _ (field (.ref ea) 1 >>= _) _ _ s;refine wpAny_bind (wpAny_field he rfl h1 ?_);rw[if_pos (show(Value.ref T != Value.none)=true by simp)];refine wpAny_bind (wpAny_field hT rfl h3 ?_);rw[if_pos (by simp)];exact wpAny_pure (Jd ⟨ea,T,c,oc,od,d,fs,ts,sl,sm,rfl,he,h1,ne,hT,h3,k⟩)
abbrev cxR(P:Program)(w:World)(K:W.Frag)(mg:Str→Option Value)(base:Heap)(N:List Str)(qual:Str)(scope:Scope)(f:Addr)(cdv:Value)(A:Around)(outer:List Env)(s₀:Shared)(H₀:Hp)(E₀:XK):Cx :=
 (cxE P w K mg base N qual scope f cdv A outer s₀ H₀ E₀).qE (XR P w qual scope f cdv A outer s₀ H₀ E₀ base)
theorem PSs.xr{st:List Stmt}{t:TS}(h:PSs (cxR P w K mg base N qual scope f cdv A outer s₀ H₀ E₀) st t):PSs (cxE P w K mg base N qual scope f cdv A outer s₀ H₀ E₀) st t:=λpins s σ H D I hw =>
 wpAny_mono (h pins s σ H D (I.qE _) hw) (λ_ _ q=>q.fG) λ_ _ z=>z.xe
theorem A0:qz (cxR P w K mg base N qual scope f cdv A outer s₀ H₀ E₀) E₀:=λ_ _ _ _ _ _ _ I h1 h0 q=>.inl (CW I.fG h1 h0 q)
theorem fO{E:XK}(hE:∀ c od H',E c od H'→E₀ c od H'):bO (CXE P w) (cxR P w K mg base N qual scope f cdv A outer s₀ H₀ E₀) (λ_=>E):=λpins σ H s e s' I h=>by
 obtain⟨ea,C,T,od,fs,sl,H',rfl,l,q⟩:=h;exact .inl (Ar I.fG l (hE _ _ _ q))
theorem CY:PassesOwn (model P w) (cxR P w K mg base N qual scope f cdv A outer s₀ H₀ E₀).A (cxR P w K mg base N qual scope f cdv A outer s₀ H₀ E₀).env (cxR P w K mg base N qual scope f cdv A outer s₀ H₀ E₀).xe:=vT
end
section
open PySem.SeqAt
open PySem.AutoSeq1 (wpAny_loadPart')
open PySem.MeetsSeq PySem.MeetsSeq2 PySem.MeetsSeq3
end
theorem qi:∀ ns:List Int,HT.lexLt ns ns=false
 | []=>rfl
 | n::ns=>by rw[HT.bN,if_pos rfl];exact qi ns
section
variable{X:Cx}
end
section
variable{P:Program}{w:World}{A:Around}{E:Value→Shared→Prop}
theorem vU{s:Shared}{l r:Addr}{items:Array Value}{nl:Nat}{Q:List Value→Shared→Prop}(hA:A.handled=none)(hl:s.heap.get? l=some {cls:=.type "list",data:=.seq items nl})(hr:s.heap.get? r=some (revObj l ((items.size:Int)-1)))(hz:items.size≤sizeLine)
  (q:∀(h':Heap) (tk:Nat) (xw:Array Value),(∀ b o,b≠r→s.heap.get? b=some o→h'.get? b=some o)→ItemsOf (λi v=>items[items.size-1-i]?=some v) xw items.size→Q xw.toList {s with heap:=h',toks:=tk}) :
  wpAny (model P w) A (collect (.ref r)) Q E s:=by
 obtain⟨h0,g,d,t,os⟩:=s;dsimp only at hl hr q;unfold collect;refine wpAny_bind (wpAny_runValue (codeAny_builtin PySem.F.entry_proto_collect ?_));rw[Nk PySem.F.plain_proto_collect _];show wpAny _ _ (newList [] >>= λk=>again (.builtin "list.__iadd__" ⟨[k,.ref r],[]⟩)) _ _ _;refine wpAny_bind (wpAny_newObj_type (wpAny_pure ⟨plainId_quiet PySem.F.plain_list_iadd _,codeAny_builtin PySem.F.entry_list_iadd ?_⟩));rw[Nk PySem.F.plain_list_iadd _];have hS2:=LY h0 (o:={cls:=Value.type "list",data:=Data.seq ([]:List Value).toArray}) rfl;have r0:r<h0.objs.size:=LC hr;have l0:l<h0.objs.size:=LC hl;have oth:∀ b o,b≠h0.objs.size→h0.get? b=some o→(h0.push {cls:=.type "list",data:=.seq ([]:List Value).toArray}).get? b=some o:=λb o _ e=>Lx _ e;show wpAny _ _ (Builtin.List.listExtendWith (.ref h0.objs.size) (.ref r) (.ref h0.objs.size)) _ _ _;generalize hH:h0.push {cls:=.type "list",data:=.seq ([]:List Value).toArray}=H1 at *;have hr2:=oth r _ (LN r0) hr;have hl2:=oth l _ (LN l0) hl;have hTr:Shared.TypeIs {heap:=H1,gens:=g,drawn:=d,toks:=t,os:=os} (.ref r) "list_reverseiterator" := ⟨_,hr2,rfl⟩;have f1:=sj;have f2:=zS;unfold Builtin.List.listExtendWith;show wpAny _ _ (typeOf (Value.ref r) >>= _) _ _ _;refine wpAny_bind (wpAny_typeOf hTr ?_);have c1:¬(Builtin.List.listSameRef (Value.ref h0.objs.size) (Value.ref r)||Value.type "list_reverseiterator" == Value.type "list" || Value.type "list_reverseiterator" == Value.type "tuple")=true:=by
  have e1:Builtin.List.listSameRef (Value.ref h0.objs.size) (Value.ref r)=false:=by
   show(h0.objs.size == r)=false;exact beq_eq_false_iff_ne.mpr (Mz r0)
  rw[e1];decide
 rw[if_neg c1];refine wpAny_bind (wpAny_pyIter_revIter (l:=l) (i:=(items.size:Int)-1) ⟨_,hr2,rfl,rfl⟩ ?_);refine wpAny_bind (wpAny_holding ?_);have hsp:splitId "list_reverseiterator.__length_hint__" = some ("list_reverseiterator", "__length_hint__"):=by decide +kernel
 have uO:isSubtype (Value.type "list_reverseiterator") (Value.type "list_reverseiterator")=pure true:=by rw[isSubtype_type];rfl
 unfold Builtin.List.listLengthHint;wp_step
 wp_step
 dsimp only;wp_step
 wp_step
 wp_step
 wp_step
 dsimp only;rw[hsp];dsimp only;wp_step
 wp_step
 wp_step
 wp_step
 wp_step
 wp_step
 wp_step
 refine wpAny_pure ⟨plainId_quiet PySem.F.plain_extend_loop _,?_⟩;have nlr:l≠r:=λz=>by
  rw[z,hr]at hl
  have:=congrArg Obj.cls (LS hl)
  revert this;show Value.type "list_reverseiterator" = Value.type "list" → False;decide
 have h3:A.in1.handled=none:=by simp[hA]
 have nS:h0.objs.size∉[r,l]:=by
  simp only[LQ,Mg,or_false,not_or];exact⟨Mz r0,Mz l0⟩
 refine codeAny_extend_loopS (Walks.listRev (prog:=P) (w:=w) h3 r l nlr items).toS hz h0.objs.size nS _ (items.size-0) 0 _ #[] _ rfl (L8 _) ⟨L8 _,?_,⟨_,hl2,rfl,_,rfl⟩⟩ hS2 ⟨rfl,λi v z=>by simp at z⟩ λs' xw c' hm hS' hacc=>?_
 ·refine⟨_,hr2,rfl,?_⟩
  show _=_;simp[revObj]
 ·obtain⟨h',g',d',tk',os'⟩:=s'
  have eg:g'=g:=hm.gens;have ed:d'=d:=hm.drawn;have eo:os'=os:=hm.os;subst eg ed eo;show wpAny _ A (load h0.objs.size >>= _) _ _ _;refine wpAny_bind (wpAny_load hS' (wpAny_pure (q h' tk' xw (λb o nb e=>?_) hacc)));have hb0:=LC e;exact hm.heap b o (by simp only[LQ,Mg,or_false,not_or];exact⟨LN hb0,nb⟩) (oth b o (LN hb0) e)
theorem uv{s:Shared}{l r:Addr}{items:Array Value}{nl:Nat}{Q:Value→Shared→Prop}(hA:A.handled=none)(hl:s.heap.get? l=some {cls:=.type "list",data:=.seq items nl})(hr:s.heap.get? r=some (revObj l ((items.size:Int)-1)))(hz:items.size≤sizeLine)
  (q:∀(h':Heap) (tk:Nat) (xw:Array Value),(∀ b o,b≠r→s.heap.get? b=some o→h'.get? b=some o)→ItemsOf (λi v=>items[items.size-1-i]?=some v) xw items.size→Q (.ref h'.objs.size) {s with heap:=h'.push {cls:=.type "tuple",data:=.seq xw},toks:=tk}) :
  wpAny (model P w) A (call (.type "tuple") [.ref r]) Q E s:=by
 have hTr:s.TypeIs (.ref r) "list_reverseiterator" := ⟨_,hr,rfl⟩;refine callType_codes (Q₁:=λv u=>u.TypeIs v "tuple" ∧ Q v u) PySem.F.called_tuple (PySem.F.typeCall_tuple_1 _) PySem.F.entry_object_init ?_ λv u h=>⟨h.1,PySem.F.args_object_init_2 v _,object_init_meets PySem.F.called_tuple.init.lookup PySem.F.called_tuple.made (by decide) P w A.in1 _ u ⟨h.1,rfl,h.2⟩⟩;refine codeAny_of_tree ?_;show wpAny _ _ (checkBuiltinCall "tuple.__new__" ⟨[.type "tuple",.ref r],[]⟩ >>= λ_=>again (.builtin "tuple.__new__" ⟨[.type "tuple",.ref r],[]⟩)) _ _ s;refine wpAny_bind (wpAny_of_eq (PySem.F.newCall_tuple_1 _) (wpAny_pure ⟨plainId_quiet PySem.F.plain_tuple_new _,codeAny_builtin PySem.F.entry_tuple_new ?_⟩));rw[Nk PySem.F.plain_tuple_new _];have f1:=sub_tuple_self;have f2:=init_tuple_lookup;have f3:=madeHere_tuple;wp_walk using wpAny_typeOf hTr,vU (s:=s) (by simp[hA]) hl hr hz
 intro h' tk acc k ha;have e:acc.toList.toArray=acc:=by simp
 show wpAny _ _ (Builtin.Tuple.tupleExact acc.toList.toArray >>= λv=>ret v) _ _ _;rw[e];unfold Builtin.Tuple.tupleExact;refine wpAny_bind (wpAny_newObj_type (wpAny_pure ?_) (by show acc.size≤sizeLine;rw[ha.1];exact hz));exact⟨⟨_,LY _ rfl,rfl⟩,q h' tk acc k ha⟩
end
section
variable{X:Cx}
def CZ(te:TE):TE:=λσ H Q=>te σ H λx H1=>∃(p:Addr) (xs:List V),x=.ref p∧H1 p=some (.lst xs)∧∀ l,H1 l=none→Q (.ref l) (upd H1 l (.tup xs.reverse))
theorem yF{e:Expr}{te:TE}{p1 p2 p3 pos:Pos}{x y:Str}(hc:X.calm=true)(hg:Gl X x)(hm:X.mg x=none)(hv:bootBuiltins x=some (.type "tuple"))(hg2:Gl X y)(hm2:X.mg y=none)(hv2:bootBuiltins y=some (.type "reversed"))(he:PE X e te)
  (hn:x ≠ "__name__" := by decide) (hdb:(x == ("__debug__" : Str))=false:=by decide) (hn2:y ≠ "__name__" := by decide) (Lf:(y == ("__debug__" : Str))=false:=by decide)
  (hs1:starEach [e] X.env=[(false,eval e X.env)]:=by rfl) (hs2:starEach [.Call (.Name y p2) [e] [] p3] X.env=[(false,eval (.Call (.Name y p2) [e] [] p3) X.env)]:=by rfl) :
  PE X (.Call (.Name x p1) [.Call (.Name y p2) [e] [] p3] [] pos) (CZ te):=by
 intro pins s σ H Q I h;refine wpAny_Call_Name_kw (jL I hg hm hv ?_ hn hdb);refine PyProof.Rows.callWith_type1 ?_ hs2 rfl;rw[hs2];show wpAny _ _ (spliced ((false,eval (.Call (.Name y p2) [e] [] p3) X.env)::backTo pos [])) _ _ s;refine MY (wpAny_Call_Name_kw (jL I hg2 hm2 hv2 ?_ hn2 Lf));refine PyProof.Rows.callWith_type1 ?_ hs1 rfl;rw[hs1];show wpAny _ _ (spliced ((false,eval e X.env)::backTo p3 [])) _ _ s;refine MY (thn (he pins s σ H _ I h) λu s1 ⟨v,H1,I1,r1,p,xs,ex,hp,q⟩=>?_);subst ex;cases (show u=Value.ref p from r1);refine Nb ?_;obtain⟨its,n,rv,ho,hz⟩:=I1.lst hp;have hl:=rv.length;refine call_reversed_list (items:=its.toArray) ⟨_,ho,rfl,_,rfl⟩ (Nb ?_);have hp2:(s1.heap.push (revObj p ((its.toArray.size:Int)-1))).get? p=_:=Lx _ ho;have I2:Inv X pins σ H1 {s1 with heap:=s1.heap.push (revObj p ((its.toArray.size:Int)-1)),toks:=s1.toks}:=I1.kept (t':=s1.toks) λb o z=>Lx _ z;refine uv (s:={s1 with heap:=s1.heap.push (revObj p ((its.toArray.size:Int)-1))}) (items:=its.toArray) (I1.ok.hd hc) hp2 (LY _ rfl) (by rw[Ly];omega) λh' tk xw k hacc=>?_;have ea:=yq hacc;subst ea;have I4:Inv X pins σ H1 {s1 with heap:=h',toks:=tk}:=by
  refine Inv.turned (s:={s1 with heap:=s1.heap.push (revObj p ((its.toArray.size:Int)-1)),toks:=s1.toks}) (t':=tk) (h':=h') (it:=s1.heap.objs.size) I2 (λb o hb e=>k b o hb e) I1.fresh (Mz I1.lt) (.inr I1.sz) (λy a q z=>?_) (λp hp z=>?_)
  ·obtain⟨v,q'⟩:=I1.cell y a q
   exact absurd q'.lt (by rw[z];exact My _)
  ·exact absurd (LC (I1.pin p hp).1) (by rw[z];exact My _)
 refine⟨.ref h'.objs.size,_,I4.laid (o:=.tup xs.reverse) (t':=tk) (λb o z=>Lx _ z) (Lu _) ⟨by rw[List.length_reverse];exact hz,its.reverse,rv.reverse,IsTup.new _ _⟩,rfl,q _ I4.fresh⟩
end
end L2
end
section
namespace K21.R
open PySem L2 LX
abbrev Iz:Stmt:=jn
abbrev xy:Stmt:=gy
abbrev mY:Stmt:=gz
abbrev kE:Stmt:=jo
abbrev DN:Stmt:=jq
abbrev A5:Stmt:=eS
section
variable{P:Program}{w:World}{K:W.Frag}{mg:Str→Option Value}{base:Heap}
def wI(K:W.Frag):Sp:=λvs H Q _=>∃(a:Addr) (ns:List Int) (j:Nat),vs=[.ref a,.int j]∧SqL K H a (ns.map V.int)∧∀ n:Int,Q (.int n) H
theorem C0{f:Addr}{fd:FuncData}(F:Fun K "_law_cell" "_law_cell" Iz f fd)(zl:mg "len" = none):gZ P w K mg base (CXE P w) 1 f fd ["script", "k"] (wI K):=by
 refine F.okE (N:=["script", "k"]) ⟨rfl,rfl,rfl,by decide +kernel,rfl,by decide +kernel,by decide +kernel⟩ (λvs H Q E h=>?_) (λcdv A outer s H vs Q E hr h=>?_)
 ·obtain⟨a,ns,j,rfl,_⟩:=h
  rfl
 ·obtain⟨a,ns,j,rfl,hS,k⟩:=h
  refine⟨_,af (aO (az kq (pv 1) (aK aU rfl zl PyProof.Rows.Boot.«len» (aa (pv 0) ah)) (aF _)) (ag (aA (aD bE (pv 0) (pv 1) (λ_ _=>rfl)))) aC) (ag (aA aj)),?_⟩;refine⟨_,rfl,_,rfl,a,_,rfl,.inl hS,_,_,rfl,rfl,_,rfl,aH (λh=>?_) (λ_=>k 0)⟩;simp only[Lp,decide_eq_true_eq]at h;have hj:j<ns.length:=by omega
  exact⟨_,rfl,_,rfl,a,_,_,.int (ns[j]'hj),rfl,rfl,hS,bK (by rw[Lz,Ls hj];rfl),k _⟩
def qA:Sp:=λvs H Q _=>∃ c:Int,vs=[.int c]∧∀(p:Addr) (ds:List Int) (H':Hp),aq H H'→H' p=some (.lst (ds.map V.int))→H p=none→ds.length=6→Q (.ref p) H'
theorem scD:ar ["cell", "rest", "told", "k", "near"] ["cell"] (ao xy):=⟨rfl,rfl,rfl,by decide +kernel,rfl,by decide +kernel,by decide +kernel⟩
theorem yG{f:Addr}{fd:FuncData}(F:Fun K "_law_digits" "_law_digits" xy f fd)(zr:mg "range" = none):gZ P w K mg base (CXE P w) 1 f fd ["cell"] qA:=by
 refine F.okE scD (λvs H Q E h=>?_) (λcdv A outer s H vs Q E hr h=>?_)
 ·obtain⟨c,rfl,_⟩:=h
  rfl
 ·obtain⟨c,rfl,k⟩:=h
  refine⟨_,PSs.nox (af (aw (i:=1) scD.nd rfl (Or.inl rfl) (ay bB (pv 0) aj)) (af (aw (i:=2) scD.nd rfl (Or.inl rfl) (bM ah))
   (af (bq LP rfl (fH rfl zr (aa aj ah)) (aL (i:=3) scD.nd rfl (Or.inl rfl))
    (ag (aO (az cL (ay aW (pv 0) aj) aj (aF _))
     (af (au (kr PySem.F.plainAttrs_list PySem.F.slot_list_append PySem.F.type_list_append cw (pv 2) (aa (ay aW (pv 1) aj) ah))) (ag (aw (i:=1) scD.nd rfl (Or.inl rfl) (ay bB (pv 1) aj))))
     (af (aw (i:=4) scD.nd rfl (Or.inl rfl) (ay aW (ay bZ (ay bZ (pv 1) (ay dX aj (pv 3))) aj) aj))
     (af (aw (i:=4) scD.nd rfl (Or.inl rfl) (ay bZ (ay aW (ay dX (pv 4) (pv 4)) aj) (ay dX aj (pv 3))))
     (ag (au (kr PySem.F.plainAttrs_list PySem.F.slot_list_append PySem.F.type_list_append cw (pv 2) (aa (ay aW (ay bB (ay aW (ay dX (pv 4) (pv 4)) aj) aj) aj) ah)))))))))
   (ag (aA (pv 2)))))),?_⟩
  refine⟨_,rfl,c,2,rfl,rfl,⟨by decide,by decide⟩,by show 0≤sizeLine;exact L8 _,λp hp=>?_⟩;refine⟨6,rfl,by decide,by decide,jF (lo:=0) (n:=6) (λi σ H2=>∃(r:Int) (v3 v4:Option V) (ds:List Int),σ=[some (.int c),some (.int r),some (.ref p),v3,v4]∧aq H H2∧H2 p=some (.lst (ds.map V.int))∧ds.length=i)
   ⟨_,none,none,[],rfl,aq.upd hp,ab,rfl⟩ ?_ ?_⟩
  ·rintro i σ H2 hi ⟨r,v3,v4,ds,rfl,s2,z,hl⟩
   have fin:∀ d:Int,aq H (upd H2 p (.lst (ds.map V.int++[V.int d])))∧upd H2 p (.lst (ds.map V.int++[V.int d])) p=some (.lst ((ds++[d]).map V.int))∧(ds++[d]).length=i+1:=λd =>
    ⟨λb u q=>by rw[ak (ai q hp)];exact s2 b u q,by rw[ab,LA];rfl,by rw[Lw,hl];rfl⟩
   have hz:(ds.map V.int).length<sizeLine:=(by rw[Lp,hl];exact Nat.lt_trans hi (by decide));refine⟨_,rfl,c,2,rfl,rfl,(by show(0:Int)<2;decide),rfl,_,rfl,aH (λ_=>?_) (λ_=>?_)⟩
   ·refine⟨_,rfl,.inl ⟨rfl,_,SqL.of z⟩,_,rfl,r,60,rfl,rfl,(by show(0:Int)<60;decide),p,_,_,rfl,rfl,z,hz,?_⟩
    refine⟨_,rfl,r,60,rfl,rfl,⟨by decide,by decide⟩,?_⟩;exact⟨_,_,_,_,rfl,fin _⟩
   ·refine⟨_,rfl,_,rfl,7919,_,rfl,rfl,.inl ⟨by decide,by decide⟩,r,_,rfl,rfl,_,11,rfl,rfl,_,2305843009213693951,rfl,rfl,(by show(0:Int)<2305843009213693951;decide),?_⟩
    have b0:=L0 (r+7919*(0+(i:Int))+11) (show(2305843009213693951:Int)≠0 by decide);have b1:=LV (r+7919*(0+(i:Int))+11) (show(0:Int)<2305843009213693951 by decide);obtain⟨n1,e1⟩:∃ n1,(r+7919*(0+(i:Int))+11)%2305843009213693951=n1:=⟨_,rfl⟩;rw[e1]at b0 b1;have c0:=L0 (n1*n1) (show(1000000007:Int)≠0 by decide);have c1:=LV (n1*n1) (show(0:Int)<1000000007 by decide);refine⟨_,rfl,_,rfl,_,_,rfl,rfl,.inl ?_,_,1000000007,rfl,rfl,(by show(0:Int)<1000000007;decide),_,rfl,31,_,rfl,rfl,.inl ⟨by decide,by decide⟩,_,_,rfl,rfl,?_⟩
    ·show _<(r+7919*(0+(i:Int))+11)%2305843009213693951∧(r+7919*(0+(i:Int))+11)%2305843009213693951<_
     rw[e1];omega
    ·refine⟨_,rfl,.inl ⟨rfl,_,SqL.of z⟩,_,rfl,_,rfl,_,_,rfl,rfl,.inl ?_,_,998244353,rfl,rfl,(by show(0:Int)<998244353;decide),_,8,rfl,rfl,⟨by decide,by decide⟩,_,60,rfl,rfl,(by show(0:Int)<60;decide),p,_,_,rfl,rfl,z,hz,?_⟩
     ·show _<(r+7919*(0+(i:Int))+11)%2305843009213693951*((r+7919*(0+(i:Int))+11)%2305843009213693951)%1000000007+31*(0+(i:Int))∧(r+7919*(0+(i:Int))+11)%2305843009213693951*((r+7919*(0+(i:Int))+11)%2305843009213693951)%1000000007+31*(0+(i:Int))<_
      rw[e1];omega
     ·exact⟨_,_,_,_,rfl,fin _⟩
  ·rintro σ H2 ⟨r,v3,v4,ds,rfl,s2,z,hl⟩
   exact⟨_,rfl,k p ds H2 s2 z hp hl⟩
theorem xA{H H':Hp}{a:Addr}{xs:List V}(h:SqL K H a xs)(s:aq H H'):SqL K H' a xs:=Or.imp (λr=>Or.elim r (λe=>.inl (s _ _ e)) λ⟨o,e⟩=>.inr ⟨o,s _ _ e⟩) id h
def DO:Stmt→Option Expr
 | .Assign _ e _=>some e
 | _=>none
def qj:Option Expr→Scope
 | some (.ListComp _ _ sc _)=>sc
 | _=>default
abbrev Je:Scope:=qj (DO ((aN mY).head!))
theorem cS:yT (ao mY) Je "k" [] ["script", "many", "told", "k", "cell", "place", "digit", "at"] []:=by decide +kernel
def qB(K:W.Frag):Sp:=λvs H Q _=>∃(a:Addr) (ns:List Int),vs=[.ref a,.int 100]∧SqL K H a (ns.map V.int)∧ns.length≤1000∧∀(p:Addr) (ds:List Int) (H':Hp),aq H H'→H' p=some (.lst (ds.map V.int))→H p=none→ds.length=100→Q (.ref p) H'
theorem scS:ar ["script", "many", "told", "k", "cell", "place", "digit", "at"] ["script", "many"] (ao mY):=⟨rfl,rfl,rfl,by decide +kernel,rfl,by decide +kernel,by decide +kernel⟩
theorem yH{f fD:Addr}{fd fdD:FuncData}(F:Fun K "_law_stream" "_law_stream" mY f fd)(zr:mg "range" = none)(ze:mg "enumerate" = none)(GD:gZ P w K mg base (CXE P w) 1 fD fdD ["cell"] qA)(mD:mg "_law_digits" = some (.ref fD))(kD:PySem.W.keepIn K (.ref fD)=true)(bD:Binds K fdD ["cell"] []) :
  gZ P w K mg base (CXE P w) 2 f fd ["script", "many"] (qB K):=by
 refine F.okE scS (λvs H Q E h=>?_) (λcdv A outer s H vs Q E hr h=>?_)
 ·obtain⟨a,ns,rfl,_⟩:=h
  rfl
 ·obtain⟨a,ns,rfl,hS,hz,k⟩:=h
  have co:gB (cxE P w K mg base ["script", "many", "told", "k", "cell", "place", "digit", "at"] "_law_stream" (ao mY) f cdv A outer s H E).nox Je [] "k" [] ["k"] :=
   bP rfl rfl rfl cS rfl rfl (by intro q hq;cases hq)
  refine⟨_,PSs.nox (af (tG (i:=2) scS.nd rfl rfl co rfl (fH rfl zr (aa (pv 1) ah))
     (λC fp s₀ H₀=>ay aW (ay bZ (ay bZ (ay dX (ay dX (pv 0) (pv 0)) aj) (ay dX aj (pv 0))) aj) aj))
   (af (bq LP rfl (jW rfl ze (aa (pv 0) ah)) (o6 rfl (cv (aL (i:=3) scS.nd rfl (Or.inl rfl)) (cv (aL (i:=4) scS.nd rfl (Or.inl rfl)) jM)))
    (ag (bq LP rfl (jW rfl ze (aa (jV GD hr rfl mD kD bD .nil bR (aa (pv 4) ah)) ah)) (o6 rfl (cv (aL (i:=5) scS.nd rfl (Or.inl rfl)) (cv (aL (i:=6) scS.nd rfl (Or.inl rfl)) jM)))
     (af (aw (i:=7) scS.nd rfl (Or.inl rfl) (ay aW (ay bZ (ay dX aj (pv 3)) (pv 5)) (pv 1)))
     (ag (lS (ay aW (ay bZ (ay dX (aD bE (pv 2) (pv 7) (λ_ _=>rfl)) aj) (pv 6)) aj) (lR (pv 2) (pv 7) set_list)))))))
   (ag (aA (pv 2))))),?_⟩
  refine⟨_,rfl,100,rfl,by decide,by decide,λD hD=>?_⟩;refine pZ (lo:=0) (n:=100) (λi zs H2=>∃ ds:List Int,zs=ds.map V.int∧ds.length=i∧aq H H2∧H2 D=some (.lst zs)) ⟨[],rfl,rfl,aq.upd hD,ab⟩ (λi zs H2 hi ⟨ds,e,l,_,z⟩=>⟨z,by rw[e,Lp];exact l⟩)
   (by decide) (λi zs H2 hi ⟨ds,e,l,s2,z⟩=>?_) (λzs H2 ⟨ds,e,l,s2,z⟩=>?_)
  ·refine⟨_,rfl,_,rfl,0+(i:Int),0+(i:Int),rfl,rfl,.inl ⟨by omega,by omega⟩,_,7,rfl,rfl,.inr ⟨by decide,by decide⟩,_,rfl,13,_,rfl,rfl,.inl ⟨by decide,by decide⟩,_,_,rfl,rfl,_,5,rfl,rfl,_,61,rfl,rfl,(by show(0:Int)<61;decide),z,ds++[((0+(i:Int))*(0+(i:Int))*7+13*(0+(i:Int))+5)%61],?_,?_,?_,ab⟩
   ·rw[LA,e];rfl
   ·rw[Lw,l];rfl
   ·exact λb u q=>by rw[ak (ai q hD)];exact s2 b u q
  ·have fin:∀ {H3:Hp} {zs:List V},aq H H3→aq H (upd H3 D (.lst zs)):=λs3 b u q=>by rw[ak (ai q hD)];exact s3 b u q
   refine⟨_,rfl,a,rfl,⟨_,xA hS s2⟩,hV (K:=K) (a:=a) (xs:=ns.map V.int) (λi σ H3=>∃(v3 v4 v5 v6 v7:Option V) (ds:List Int),σ=[some (.ref a),some (.int 100),some (.ref D),v3,v4,v5,v6,v7]∧aq H H3∧H3 D=some (.lst (ds.map V.int))∧ds.length=100)
    ⟨none,none,none,none,none,ds,rfl,s2,by rw[←e];exact z,l⟩ (λi σ H3 _ ⟨_,_,_,_,_,_,_,s3,_⟩=>xA hS s3) ?_ ?_⟩
   ·rintro i x σ H3 t hi ⟨v3,v4,v5,v6,v7,ds3,rfl,s3,z3,l3⟩ ht
    have hlt:i<ns.length:=(by have:=(Lq.mp hi).1;rwa[Lp]at this);rw[Lz]at hi;obtain⟨n,hn,rfl⟩:=LG.mp hi;have s4:aq H (upd H3 t (.tup [.int (i:Int),.int n])):=s3.trans (aq.upd ht);have z4:upd H3 t (.tup [.int (i:Int),.int n]) D=some (.lst (ds3.map V.int)):=(by rw[ak (ai z3 ht)];exact z3);refine⟨t,_,rfl,SqT.of ab,rfl,_,_,rfl,_,_,rfl,rfl,?_⟩;refine⟨_,rfl,n,rfl,λp2 ds2 H5 s5 z5 hp2 l2=>?_⟩;have nD:D≠p2:=ai z4 hp2;refine⟨p2,rfl,⟨_,SqL.of z5⟩,hV (K:=K) (a:=p2) (xs:=ds2.map V.int) (λj σ H6=>∃(v5 v6 v7:Option V) (ds:List Int),σ=[some (.ref a),some (.int 100),some (.ref D),some (.int (i:Int)),some (.int n),v5,v6,v7]∧aq H H6∧H6 D=some (.lst (ds.map V.int))∧ds.length=100∧H6 p2=some (.lst (ds2.map V.int)))
     ⟨_,_,_,ds3,rfl,s4.trans s5,s5 _ _ z4,l3,z5⟩ (λj σ H6 _ ⟨_,_,_,_,_,_,_,_,q⟩=>SqL.of q) ?_ ?_⟩
    ·rintro j y σ H6 t2 hj ⟨v5,v6,v7,ds6,rfl,s6,z6,l6,q6⟩ ht2
     have hjt:j<ds2.length:=(by have:=(Lq.mp hj).1;rwa[Lp]at this);rw[Lz]at hj;obtain⟨d,hd,rfl⟩:=LG.mp hj;have s7:aq H (upd H6 t2 (.tup [.int (j:Int),.int d])):=s6.trans (aq.upd ht2);have z7:upd H6 t2 (.tup [.int (j:Int),.int d]) D=some (.lst (ds6.map V.int)):=(by rw[ak (ai z6 ht2)];exact z6);have q7:upd H6 t2 (.tup [.int (j:Int),.int d]) p2=some (.lst (ds2.map V.int)):=(by rw[ak (ai q6 ht2)];exact q6);refine⟨t2,_,rfl,SqT.of ab,rfl,_,_,rfl,_,_,rfl,rfl,?_⟩;refine⟨_,rfl,6,_,rfl,rfl,.inl ⟨by decide,by decide⟩,_,rfl,_,_,rfl,rfl,_,rfl,_,100,rfl,rfl,(by show(0:Int)<100;decide),?_⟩;have b0:=L0 (6*(i:Int)+(j:Int)) (show(100:Int)≠0 by decide);have b1:=LV (6*(i:Int)+(j:Int)) (show(0:Int)<100 by decide);obtain⟨m,em⟩:∃ m:Nat,(6*(i:Int)+(j:Int))%100=(m:Int):=⟨((6*(i:Int)+(j:Int))%100).toNat,by omega⟩;have hm:m<ds6.length:=(by omega);have hat:atI (ds6.map V.int) ((6*(i:Int)+(j:Int))%100)=some (.int (ds6[m]'hm)):=by
      rw[em];exact bK (by rw[Lz,Ls hm];rfl)
     have hix:ixN (ds6.map V.int).length ((6*(i:Int)+(j:Int))%100)=some m:=by
      rw[em];unfold ixN;rw[if_pos (by omega),if_pos (by rw[Lp];omega)];rfl
     refine⟨_,rfl,_,rfl,D,_,_,.int (ds6[m]'hm),rfl,rfl,SqL.of z7,hat,_,7,rfl,rfl,.inr ⟨by decide,by decide⟩,_,rfl,_,_,rfl,rfl,_,100003,rfl,rfl,(by show(0:Int)<100003;decide),?_⟩;refine⟨_,rfl,_,rfl,D,_,_,m,rfl,rfl,z7,hix,?_⟩;refine⟨_,_,_,ds6.set m ((ds6[m]'hm*7+d)%100003),rfl,fin s7,?_,by rw[Mt];exact l6,?_⟩
     ·rw[ab,List.map_set]
     ·rw[ak (L4 nD)]
      exact q7
    ·rintro σ H6 ⟨v5,v6,v7,ds6,rfl,s6,z6,l6,_⟩
     exact⟨_,_,_,_,_,ds6,rfl,s6,z6,l6⟩
   ·rintro σ H3 ⟨v3,v4,v5,v6,v7,ds3,rfl,s3,z3,l3⟩
    exact⟨_,rfl,k D ds3 H3 s3 z3 hD l3⟩
def oV:Option Int→V
 | none=>.non
 | some n=>.int n
abbrev Fs:=List (Int×List (Option Int))
def kvl(ad:Int→Addr)(ks:Fs):List (Key×V):=ks.map λp=>(Sum.inl p.1,V.ref (ad p.1))
structure Vw(H:Hp)(r d:Addr)(o:Obj)(ad:Int→Addr)(rs:List (Option Int))(ks:Fs):Prop where
 hr:H r=some (.lst (rs.map oV))
 hd:H d=some (.frz o (.dK (kvl ad ks)))
 hl:∀ p∈ks,H (ad p.1)=some (.lst (p.2.map oV))
theorem Vw.same{H H':Hp}{r d:Addr}{o:Obj}{ad:Int→Addr}{rs:List (Option Int)}{ks:Fs}(v:Vw H r d o ad rs ks)(s:aq H H'):Vw H' r d o ad rs ks:=⟨s _ _ v.hr,s _ _ v.hd,λp hp=>s _ _ (v.hl p hp)⟩
structure Rt(rs:List (Option Int))(ks:Fs):Prop where
 nd:(ks.map (·.1)).Nodup
 pos:∀ p∈ks,0≤p.1
 kl:ks.length≤11
 rl:rs.length≤20
 fl:∀ p∈ks,p.2.length≤6
 ri:∀ n,some n∈rs→n∈ks.map (·.1)
 fi:∀ p∈ks,∀ n,some n∈p.2→n∈ks.map (·.1)
 top:∀ p∈ks,p.1≤1000
theorem gU(ad:Int→Addr)(t:Int):∀ ks:Fs,cC (kvl ad ks) (Sum.inl t)=if t∈ks.map (·.1) then some (V.ref (ad t)) else none
 | []=>rfl
 | (k,fs)::r=>by
  have ih:=gU ad t r;by_cases e:k=t
  ·subst e
   rw[show kvl ad ((k,fs)::r)=(Sum.inl k,V.ref (ad k))::kvl ad r from rfl,eE rfl,if_pos (by simp)]
  ·rw[show kvl ad ((k,fs)::r)=(Sum.inl k,V.ref (ad k))::kvl ad r from rfl,eF (λz=>e (by injection z)),ih]
   have:(t∈((k,fs)::r).map (·.1))↔t∈r.map (·.1):=by
    rw[L1,LQ];exact⟨λz=>z.resolve_left λy=>e y.symm,.inr⟩
   simp only[this]
def IA:Stmt→Nat→Stmt
 | .For _ _ b _ _,i=>b.getD i (.Pass ⟨0,0,0,0⟩)
 | s,_=>s
abbrev NV:List Str:=["script", "cell", "stream", "things", "named", "fields", "at", "thing", "many", "roots"]
abbrev DP:Scope:=qj (DO ((aN kE).getD 2 (.Pass ⟨0,0,0,0⟩)))
abbrev DQ:Scope:=qj (DO (IA ((aN kE).getD 6 (.Pass ⟨0,0,0,0⟩)) 1))
abbrev DR:Scope:=qj (DO ((aN kE).getD 8 (.Pass ⟨0,0,0,0⟩)))
theorem cV1:yT (ao kE) DP "k" ["cell"] NV [1]:=by decide +kernel
theorem cV2:yT (ao kE) DQ "number" ["named"] NV [4]:=by decide +kernel
theorem cV3:yT (ao kE) DR "number" ["named"] NV [4]:=by decide +kernel
theorem scV:ar NV ["script"] (ao kE):=⟨rfl,rfl,rfl,by decide +kernel,rfl,by decide +kernel,by decide +kernel⟩
def A7(K:W.Frag):Sp:=λvs H Q _=>∃(a:Addr) (ns:List Int),vs=[.ref a]∧SqL K H a (ns.map V.int)∧ns.length≤1000 ∧
 ∀(v r d:Addr) (o:Obj) (ad:Int→Addr) (rs:List (Option Int)) (ks:Fs) (H':Hp),aq H H'→H' v=some (.tup [.ref r,.ref d])→Vw H' r d o ad rs ks→Rt rs ks→rs.length≤19→Q (.ref v) H'
theorem h9(ns:List Int)(lo hi:Option Int):∃ cs:List Int,rD (ns.map V.int) lo hi=cs.map V.int∧cs.length≤ns.length:=by
 refine⟨(ns.drop (HT.sIx (ns.map V.int).length 0 lo)).take (HT.sIx (ns.map V.int).length (ns.map V.int).length hi-HT.sIx (ns.map V.int).length 0 lo),?_,?_⟩
 ·unfold rD
  rw[List.map_take,List.map_drop]
 ·rw[LM,MI]
  omega
theorem xB(ns:List Int)(lo hi:Option Int){cs:List Int}(e:rD (ns.map V.int) lo hi=cs.map V.int):cs.length≤HT.sIx ns.length ns.length hi-HT.sIx ns.length 0 lo:=by
 have:=congrArg List.length e
 rw[Lp]at this;rw[←this];unfold rD;rw[LM,Lp];omega
def thg(b st:Int)(k:Nat):Int:=b+(0+(k:Int))*st
theorem C1{b st:Int}(h:0<st){i j:Nat}(e:thg b st i=thg b st j):i=j:=by
 unfold thg at e;have e1:(0+(i:Int))*st=(0+(j:Int))*st:=by omega
 have:=Int.eq_of_mul_eq_mul_right (by omega) e1
 omega
theorem vV{b st:Int}(h:0<st)(n:Nat):((List.range n).map (thg b st)).Nodup :=
 List.Pairwise.map _ (λi j q e=>q (C1 h e)) List.nodup_range
def nmd(ts:List Int):List (Option Int):=[none]++ts.map some++ts.map some
theorem C2(ts:List Int):(nmd ts).map oV=[V.non]++ts.map V.int++ts.map V.int:=by
 unfold nmd;rw[LA,LA,LO];rfl
theorem C3(ts:List Int):(nmd ts).length=1+ts.length+ts.length:=by
 unfold nmd;simp;omega
theorem C4{ts:List Int}{n:Int}(h:some n∈nmd ts):n∈ts:=by
 unfold nmd at h;simp at h;exact h
theorem u4(ts:List Int)(q:Int)(i:Int)(h0:0≤i)(h1:i<(1+ts.length+ts.length:Nat)):∃ x:Option Int,atI ([V.non]++ts.map V.int++ts.map V.int) i=some (oV x)∧∀ n,x=some n→n∈ts:=by
 obtain⟨m,rfl⟩:∃ m:Nat,i=(m:Int):=⟨i.toNat,by omega⟩;have hm:m<(nmd ts).length:=by rw[C3];omega
 refine⟨(nmd ts)[m],?_,λn e=>C4 (by rw[←e];exact Mb hm)⟩;rw[←C2];exact bK (by rw[Lz,Ls hm];rfl)
abbrev Jf(K:W.Frag):List V→Hp→VK→Prop:=λxs H Q=>∃ p ys,xs=[.ref p]∧(SqL K H p ys∨SqT K H p ys)∧Q (.int ys.length) H
theorem EN(c:Int):∃ cnt:Int,atI [V.int 3,V.int 1,V.int 6,V.int 9,V.int 11,V.int 0] (c%6)=some (.int cnt)∧0≤cnt∧cnt≤11:=by
 have b0:=L0 c (show(6:Int)≠0 by decide);have b1:=LV c (show(0:Int)<6 by decide);obtain e|e|e|e|e|e:c%6=((0:Nat):Int)∨c%6=((1:Nat):Int)∨c%6=((2:Nat):Int)∨c%6=((3:Nat):Int)∨c%6=((4:Nat):Int)∨c%6=((5:Nat):Int):=by omega
 all_goals rw[e]
 ·exact⟨3,bK rfl,by decide,by decide⟩
 ·exact⟨1,bK rfl,by decide,by decide⟩
 ·exact⟨6,bK rfl,by decide,by decide⟩
 ·exact⟨9,bK rfl,by decide,by decide⟩
 ·exact⟨11,bK rfl,by decide,by decide⟩
 ·exact⟨0,bK rfl,by decide,by decide⟩
theorem C5(ns:List Int)(at' m:Int)(h0:0≤at')(h1:0≤m){cs:List Int}(e:rD (ns.map V.int) (some (at'+1)) (some (at'+1+m))=cs.map V.int):(cs.length:Int)≤m:=by
 have h:=xB ns _ _ e;simp only[HT.sIx]at h;rw[if_neg (by omega),if_neg (by omega)]at h;omega
theorem C6(ns:List Int)(m:Int)(h1:0≤m){cs:List Int}(e:rD (ns.map V.int) none (some m)=cs.map V.int):(cs.length:Int)≤m:=by
 have h:=xB ns _ _ e;simp only[HT.sIx]at h;rw[if_neg (by omega)]at h;omega
theorem C7{f fC fS:Addr}{fd fdC fdS:FuncData}(F:Fun K "_law_view" "_law_view" kE f fd)(zr:mg "range" = none)(zl:mg "len" = none)
  (GC:gZ P w K mg base (CXE P w) 1 fC fdC ["script", "k"] (wI K)) (mC:mg "_law_cell" = some (.ref fC)) (kC:PySem.W.keepIn K (.ref fC)=true) (bC:Binds K fdC ["script", "k"] [])
  (GS:gZ P w K mg base (CXE P w) 2 fS fdS ["script", "many"] (qB K)) (mS:mg "_law_stream" = some (.ref fS)) (kS:PySem.W.keepIn K (.ref fS)=true) (bS:Binds K fdS ["script", "many"] []) :
  gZ P w K mg base (CXE P w) 3 f fd ["script"] (A7 K):=by
 refine F.okE scV (λvs H Q E h=>?_) (λcdv A outer s H vs Q E hr h=>?_)
 ·obtain⟨a,ns,rfl,_⟩:=h
  rfl
 ·obtain⟨a,ns,rfl,hS,hz,k⟩:=h
  have co1:gB (cxE P w K mg base NV "_law_view" (ao kE) f cdv A outer s H E).nox DP [("cell",s.heap.objs.size+1)] "k" [1] ["k", "cell"] :=
   bP rfl rfl rfl cV1 rfl rfl (by intro q hq;rw[Lr.mp hq];rfl)
  have co2:gB (cxE P w K mg base NV "_law_view" (ao kE) f cdv A outer s H E).nox DQ [("named",s.heap.objs.size+2)] "number" [4] ["number", "named"] :=
   bP rfl rfl rfl cV2 rfl rfl (by intro q hq;rw[Lr.mp hq];rfl)
  have co3:gB (cxE P w K mg base NV "_law_view" (ao kE) f cdv A outer s H E).nox DR [("named",s.heap.objs.size+2)] "number" [4] ["number", "named"] :=
   bP rfl rfl rfl cV3 rfl rfl (by intro q hq;rw[Lr.mp hq];rfl)
  have hu:=bX hr;refine⟨_,PSs.nox (af (aw (i:=1) scV.nd rfl (Or.inr rfl) (jV GC (hr.mono (by decide)) rfl mC kC bC .nil bR (aa (pv 0) (aa aj ah))))
   (af (aw (i:=2) scV.nd rfl (Or.inl rfl) (jV GS hr rfl mS kS bS .nil bR (aa (jt mB (pv 0) (jN aj) pT) (aa aj ah))))
   (af (tG (i:=3) scV.nd rfl rfl co1 rfl (fH rfl zr (aa (aD bE (bM (aa aj (aa aj (aa aj (aa aj (aa aj (aa aj ah))))))) (ay aW (pv 1) aj) (λ_ _=>rfl)) ah))
     (λC fp s₀ H₀=>ay bZ (ay aW (ay bB (pv 1) aj) aj) (ay dX (pv 0) (ay bZ aj (ay aW (ay bB (pv 1) aj) aj)))))
   (af (aw (i:=4) scV.nd rfl (Or.inr rfl) (ay AH (ay AH (bM (aa bH ah)) (pv 3)) (pv 3)))
   (af (aw (i:=5) scV.nd rfl (Or.inl rfl) bQ)
   (af (aw (i:=6) scV.nd rfl (Or.inl rfl) aj)
   (af (bq LP rfl (bh (pv 3)) (aL (i:=7) scV.nd rfl (Or.inl rfl))
     (af (aw (i:=8) scV.nd rfl (Or.inl rfl) (ay aW (aD bE (pv 2) (pv 6) (λ_ _=>rfl)) aj))
     (af (bY hu (pv 5) (pv 7) (cO co2 rfl (bh (jt mB (pv 2) (jN (ay bZ (pv 6) aj)) (jN (ay bZ (ay bZ (pv 6) aj) (pv 8)))))
       (λC fp s₀ H₀=>aD (r:=E6 K) bE (pv 1) (ay aW (ay bB (pv 0) aj) (aK (r:=Jf K) aU rfl zl PyProof.Rows.Boot.«len» (aa (pv 1) ah))) (λ_ _=>rfl))) rfl)
     (ag (aw (i:=6) scV.nd rfl (Or.inl rfl) (ay bZ (ay bZ (pv 6) aj) (pv 8)))))))
   (af (aw (i:=8) scV.nd rfl (Or.inl rfl) (ay aW (ay bZ (ay bB (pv 1) aj) aj) aj))
   (af (tG (i:=9) scV.nd rfl rfl co3 rfl (bh (jt mB (pv 2) pT (jN (pv 8))))
     (λC fp s₀ H₀=>aD (r:=E6 K) bE (pv 1) (ay aW (ay bB (pv 0) aj) (aK (r:=Jf K) aU rfl zl PyProof.Rows.Boot.«len» (aa (pv 1) ah))) (λ_ _=>rfl)))
   (ag (aA (eN (aX (aa (pv 9) (aa (pv 5) ah))))))))))))))),?_⟩
  refine⟨_,rfl,a,ns,0,rfl,hS,λcell=>?_⟩;refine⟨_,rfl,_,rfl,a,_,rfl,hS,λp1 hp1=>?_⟩;obtain⟨c1,ec1,lc1⟩:=h9 ns (some 1) none;rw[ec1];refine⟨p1,c1,rfl,SqL.of ab,by omega,λst ds H1 s1 z1 hst lds=>?_⟩;have s1':aq H H1:=(aq.upd hp1).trans s1;have z2:(0:Int)≤cell/6%4:=L0 _ (by decide);obtain⟨b,eb⟩:∃ b:Int,cell/6%4=b:=⟨_,rfl⟩;have z3:(0:Int)≤cell/24%3:=L0 _ (by decide);obtain⟨sp,es⟩:∃ sp:Int,1+cell/24%3=sp:=⟨_,rfl⟩;have hsp:0<sp:=by omega
  have z2u:cell/6%4<4:=LV _ (by decide);have z3u:cell/24%3<3:=LV _ (by decide);rw[eb]at z2 z2u;obtain⟨cnt,hat,cn0,cn1⟩:=EN cell;refine⟨by show 6≤sizeLine;decide,λp2 hp2=>?_⟩;refine⟨_,rfl,cell,6,rfl,rfl,(by show(0:Int)<6;decide),p2,_,_,.int cnt,rfl,rfl,SqL.of ab,hat,cnt,rfl,by omega,by omega,λD hD=>?_⟩;have sc:aq H1 (upd (upd H1 p2 (.lst [V.int 3,V.int 1,V.int 6,V.int 9,V.int 11,V.int 0])) D (.lst [])):=(aq.upd hp2).trans (aq.upd hD);have hD1:H1 D=none:=(aq.upd hp2).free hD;refine pZ (lo:=0) (n:=cnt.toNat) (λi zs H2=>zs=((List.range i).map (thg b sp)).map V.int∧aq H1 H2∧H2 D=some (.lst zs)) ⟨rfl,sc,ab⟩ (λi zs H2 hi ⟨e,_,z⟩=>⟨z,by rw[e,Lp,Lp,List.length_range]⟩)
   (LL (show cnt.toNat≤11 by omega) (by decide)) (λi zs H2 hi ⟨e,s2,z⟩=>?_) (λzs H2 ⟨e,s2,z⟩=>?_)
  ·refine⟨_,rfl,cell,6,rfl,rfl,⟨by decide,by decide⟩,_,4,rfl,rfl,(by show(0:Int)<4;decide),_,rfl,_,rfl,cell,24,rfl,rfl,⟨by decide,by decide⟩,_,3,rfl,rfl,(by show(0:Int)<3;decide),1,_,rfl,rfl,_,_,rfl,rfl,.inl ⟨by omega,by omega⟩,_,_,rfl,rfl,z,?_,?_,ab⟩
   ·rw[e,List.range_succ,LA,LA,eb,es]
    rfl
   ·exact λc u q=>by rw[ak (ai q hD1)];exact s2 c u q
  ·obtain⟨ts,ets⟩:∃ ts:List Int,(List.range cnt.toNat).map (thg b sp)=ts:=⟨_,rfl⟩
   have tl:ts.length=cnt.toNat:=(by rw[←ets,Lp,List.length_range]);have Lo:ts.length≤11:=(by omega);have tnd:ts.Nodup:=(by rw[←ets];exact vV hsp _);have E5:∀ t∈ts,0≤t:=λt ht=>by
    rw[←ets]at ht;obtain⟨j,_,rfl⟩:=LH.mp ht
    have:=Int.mul_nonneg (show(0:Int)≤0+(j:Int) by omega) (show 0≤sp by omega)
    unfold thg;omega
   have Lg:∀ t∈ts,t≤1000:=λt ht=>by
    rw[←ets]at ht;obtain⟨j,hj,rfl⟩:=LH.mp ht;have hj:=Nd.mp hj;have h3:sp=1∨sp=2∨sp=3:=(by omega);unfold thg;rcases h3 with h|h|h
    ·rw[h];omega
    ·rw[h];omega
    ·rw[h];omega
   rw[ets]at e;subst e;refine⟨by show 1≤sizeLine;decide,λp3 hp3=>⟨_,rfl,p3,D,_,_,rfl,rfl,ab,aq.upd hp3 _ _ z,LL (show[V.non].length+(ts.map V.int).length≤12 by rw[Lp];simp;omega) (by decide),λp4 hp4=>?_⟩⟩;have z4:=aq.upd (o:=.lst ([V.non]++ts.map V.int)) hp4 _ _ (aq.upd (o:=.lst [V.non]) hp3 _ _ z);refine⟨_,rfl,p4,D,_,_,rfl,rfl,ab,z4,LL (show([V.non]++ts.map V.int).length+(ts.map V.int).length≤23 by rw[Lw,Lp];simp;omega) (by decide),λp5 hp5=>?_⟩;obtain⟨H5,e5⟩:∃ H5,upd (upd (upd H2 p3 (.lst [V.non])) p4 (.lst ([V.non]++ts.map V.int))) p5 (.lst ([V.non]++ts.map V.int++ts.map V.int))=H5:=⟨_,rfl⟩;have s5:aq H1 H5:=(by rw[←e5];exact((s2.trans (aq.upd hp3)).trans (aq.upd hp4)).trans (aq.upd hp5));have d5:H5 D=some (.lst (ts.map V.int)):=(by rw[←e5];exact aq.upd hp5 _ _ z4);have n5:H5 p5=some (.lst ([V.non]++ts.map V.int++ts.map V.int)):=(by rw[←e5];exact ab);have st5:H5 st=some (.lst (ds.map V.int)):=s5 _ _ z1;rw[e5];refine λp6 hp6=>?_;have nl:(([V.non]++ts.map V.int++ts.map V.int).length:Int)=((1+ts.length+ts.length:Nat):Int):=by
    rw[Lw,Lw,Lp];rfl
   have np6:∀ {Hx:Hp} {kvs:List (Key×V)} {c:Addr} {xs:List V},Hx p6=some (.dK kvs)→Hx c=some (.lst xs)→c≠p6:=λg1 g2=>bI g2 g1 (by intro z;cases z);refine⟨_,rfl,D,rfl,⟨_,SqL.of (aq.upd hp6 _ _ d5)⟩,cJ (K:=K) (a:=D) (xs:=ts.map V.int) (λi σ Hx=>∃(at':Nat) (v7 v8:Option V) (ad:Int→Addr) (ks:Fs),
     σ=[some (.ref a),some (.int cell),some (.ref st),some (.ref D),some (.ref p5),some (.ref p6),some (.int (at':Int)),v7,v8,none]∧aq H5 Hx∧Hx p6=some (.dK (kvl ad ks))∧ks.map (·.1)=ts.take i ∧
     (∀ p∈ks,Hx (ad p.1)=some (.lst (p.2.map oV))∧p.2.length≤6∧∀ n,some n∈p.2→n∈ts)∧at'≤10+7*i)
    ⟨10,none,none,λ_=>0,[],rfl,aq.upd hp6,ab,rfl,(λp hp=>nomatch hp),Lu _⟩ (λi σ Hx _ ⟨_,_,_,_,_,_,sx,_⟩=>SqL.of (sx _ _ d5)) ?_ ?_⟩
   ·rintro i x σ Hx hi ⟨at',v7,v8,ad,ks,rfl,sx,g6,gk,gl,ga⟩
    have hlt:i<ts.length:=(by have:=(Lq.mp hi).1;rwa[Lp]at this);have hxe:x=.int ts[i]:=by
     rw[Lz,Ls hlt]at hi;exact(LS hi).symm
    subst hxe;have ha:at'<ds.length:=(by omega);have Lh:atI (ds.map V.int) (at':Int)=some (.int (ds[at']'ha)):=bK (by rw[Lz,Ls ha];rfl);refine⟨_,rfl,_,rfl,st,_,_,.int (ds[at']'ha),rfl,rfl,SqL.of (sx _ _ st5),Lh,_,7,rfl,rfl,(by show(0:Int)<7;decide),?_⟩;have m0:=L0 (ds[at']'ha) (show(7:Int)≠0 by decide);have m1:=LV (ds[at']'ha) (show(0:Int)<7 by decide);obtain⟨m,em⟩:∃ m:Int,(ds[at']'ha)%7=m:=⟨_,rfl⟩;rw[em]at m0 m1;refine⟨_,rfl,_,rfl,_,1,rfl,rfl,_,rfl,_,rfl,_,1,rfl,rfl,_,rfl,_,_,rfl,rfl,_,rfl,st,ds.map V.int,rfl,SqL.of (sx _ _ st5),λq hq=>?_⟩;obtain⟨cs,ecs,lcs⟩:=h9 ds (some ((at':Int)+1)) (some ((at':Int)+1+m));have l6:=C5 ds (at':Int) m (by omega) m0 ecs;show Dm _ _ _ _;rw[em,ecs];refine⟨q,rfl,⟨_,SqL.of ab⟩,λE' hE'=>?_⟩;have sE:aq Hx (upd (upd Hx q (.lst (cs.map V.int))) E' (.lst [])):=(aq.upd hq).trans (aq.upd hE');have hE1:Hx E'=none:=(aq.upd hq).free hE';refine bW (K:=K) (a:=q) (xs:=cs.map V.int) (λj zs H7=>∃ fs:List (Option Int),zs=fs.map oV∧fs.length=j∧(∀ n,some n∈fs→n∈ts)∧aq Hx H7∧H7 E'=some (.lst zs)∧H7 q=some (.lst (cs.map V.int)))
     ⟨[],rfl,rfl,(λn hn=>nomatch hn),sE,ab,aq.upd hE' _ _ ab⟩ (λj zs H7 _ ⟨fs,e1,e2,_,_,e3,_⟩=>⟨e3,by rw[e1,Lp];exact e2⟩) (λj zs H7 _ ⟨fs,_,_,_,_,_,e4⟩=>SqL.of e4)
     (LL (show(cs.map V.int).length≤6 by rw[Lp];omega) (by decide)) (λj x zs H7 hx ⟨fs,e1,e2,e3,s7,g7,q7⟩=>?_) (λzs H7 ⟨fs,e1,e2,e3,s7,g7,q7⟩=>?_)
    ·rw[Lz]at hx
     obtain⟨n,hn,rfl⟩:=LG.mp hx;have n7:=s7 _ _ (sx _ _ n5);have i0:=L0 (n/3) (show((1+ts.length+ts.length:Nat):Int)≠0 by omega);have i1:=LV (n/3) (show(0:Int)<((1+ts.length+ts.length:Nat):Int) by omega);obtain⟨y,hy,my⟩:=u4 ts 0 _ i0 i1;refine⟨_,rfl,_,rfl,n,3,rfl,rfl,⟨by decide,by decide⟩,_,rfl,p5,_,rfl,.inl (SqL.of n7),_,_,rfl,rfl,(by show(0:Int)<_;rw[nl];omega),p5,_,_,oV y,rfl,rfl,SqL.of n7,(by rw[nl];exact hy),g7,fs++[y],?_,?_,?_,?_,ab,?_⟩
     ·rw[e1,LA];rfl
     ·rw[Lw,e2];rfl
     ·intro n' hn'
      rcases LB.mp hn' with h|h
      ·exact e3 n' h
      ·exact my n' (Lr.mp h).symm
     ·exact λc u g=>by rw[ak (ai g hE1)];exact s7 c u g
     ·rw[ak (ai ab hE')];exact q7
    ·rw[Lp]at e2
     have g67:=s7 _ _ g6;have tk:ts.take (i+1)=ts.take i++[ts[i]]:=LI hlt;have tnk:ts[i]∉ts.take i:=λhm=>by
      have h1:(ts.take i++[ts[i]]).Nodup:=by rw[←tk];exact(Nu _ _).nodup tnd
      have:=(Mq.mp h1).2.2 _ hm _ (Lr.mpr rfl)
      exact this rfl
     have vn:cC (kvl ad ks) (Sum.inl ts[i])=none:=(by rw[gU,gk,if_neg tnk]);have kl:(kvl ad ks).length<sizeLine:=by
      unfold kvl
      have:=congrArg List.length gk
      rw[Lp]at this;rw[Lp,this,LM];exact L6 (show min i ts.length≤11 by omega) (by decide)
     refine⟨_,rfl,_,rfl,p6,_,rfl,jS.k (k:=Sum.inl ts[i]) g67 kl,?_⟩;rw[dM _ vn];refine⟨_,rfl,_,1,rfl,rfl,_,rfl,_,_,rfl,rfl,?_⟩;have nE:E'≠p6:=np6 g67 g7;have cg:kvl ad ks++[(Sum.inl ts[i],V.ref E')]=kvl (λk=>if k=ts[i] then E' else ad k) (ks++[(ts[i],fs)]):=by
      unfold kvl;rw[LA];congr 1
      ·refine L3 λp hp=>?_
       have e9:(if p.1=ts[i] then E' else ad p.1)=ad p.1:=if_neg λz=>tnk (by rw[←z,←gk];exact L5 hp);show _=(Sum.inl p.1,V.ref (if p.1=ts[i] then E' else ad p.1));rw[e9]
      ·simp
     refine⟨(at'+1+m.toNat),some (.int ts[i]),some (.int ((ds[at']'ha)%7)),λk=>if k=ts[i] then E' else ad k,ks++[(ts[i],fs)],?_,?_,?_,?_,?_,?_⟩
     ·have:((at'+1+m.toNat:Nat):Int)=(at':Int)+1+m:=by omega
      rw[this,←em];rfl
     ·exact λc u g=>by rw[ak (ai g hp6)];exact s7 c u (sx c u g)
     ·rw[ab,cg]
     ·rw[LA,gk,tk];rfl
     ·intro p hp
      rcases LB.mp hp with h|h
      ·obtain⟨g1,g2,g3⟩:=gl p h
       refine⟨?_,g2,g3⟩;show upd H7 p6 _ (if p.1=ts[i] then E' else ad p.1)=_;rw[if_neg λz=>tnk (by rw[←z,←gk];exact L5 h)];have g1':=s7 _ _ g1;rw[ak (np6 g67 g1')];exact g1'
      ·rw[Lr.mp h]
       refine⟨?_,by show fs.length≤6;omega,e3⟩;show upd H7 p6 _ (if ts[i]=ts[i] then E' else _)=_;rw[if_pos rfl,ak nE,g7,e1]
     ·omega
   ·rintro σ Hx ⟨at',v7,v8,ad,ks,rfl,sx,g6,gk,gl,ga⟩
    rw[Lp,LF (Lu _)]at gk;refine⟨_,rfl,cell,72,rfl,rfl,⟨by decide,by decide⟩,_,4,rfl,rfl,_,10,rfl,rfl,(by show(0:Int)<10;decide),?_⟩;have m0:=L0 (cell/72+4) (show(10:Int)≠0 by decide);have m1:=LV (cell/72+4) (show(0:Int)<10 by decide);obtain⟨m,em⟩:∃ m:Int,(cell/72+4)%10=m:=⟨_,rfl⟩;rw[em]at m0 m1;refine⟨_,rfl,_,rfl,_,rfl,st,ds.map V.int,rfl,SqL.of (sx _ _ st5),λq hq=>?_⟩;obtain⟨cs,ecs,lcs⟩:=h9 ds none (some m);have l9:=C6 ds m m0 ecs;show Dm _ _ _ _;rw[em,ecs];refine⟨q,rfl,⟨_,SqL.of ab⟩,λE' hE'=>?_⟩;have sE:aq Hx (upd (upd Hx q (.lst (cs.map V.int))) E' (.lst [])):=(aq.upd hq).trans (aq.upd hE');have hE1:Hx E'=none:=(aq.upd hq).free hE';refine bW (K:=K) (a:=q) (xs:=cs.map V.int) (λj zs H7=>∃ fs:List (Option Int),zs=fs.map oV∧fs.length=j∧(∀ n,some n∈fs→n∈ts)∧aq Hx H7∧H7 E'=some (.lst zs)∧H7 q=some (.lst (cs.map V.int)))
     ⟨[],rfl,rfl,(λn hn=>nomatch hn),sE,ab,aq.upd hE' _ _ ab⟩ (λj zs H7 _ ⟨fs,e1,e2,_,_,e3,_⟩=>⟨e3,by rw[e1,Lp];exact e2⟩) (λj zs H7 _ ⟨fs,_,_,_,_,_,e4⟩=>SqL.of e4)
     (LL (show(cs.map V.int).length≤9 by rw[Lp];omega) (by decide)) (λj x zs H7 hx ⟨fs,e1,e2,e3,s7,g7,q7⟩=>?_) (λzs H7 ⟨fs,e1,e2,e3,s7,g7,q7⟩=>?_)
    ·rw[Lz]at hx
     obtain⟨n,hn,rfl⟩:=LG.mp hx;have n7:=s7 _ _ (sx _ _ n5);have i0:=L0 (n/5) (show((1+ts.length+ts.length:Nat):Int)≠0 by omega);have i1:=LV (n/5) (show(0:Int)<((1+ts.length+ts.length:Nat):Int) by omega);obtain⟨y,hy,my⟩:=u4 ts 0 _ i0 i1;refine⟨_,rfl,_,rfl,n,5,rfl,rfl,⟨by decide,by decide⟩,_,rfl,p5,_,rfl,.inl (SqL.of n7),_,_,rfl,rfl,(by show(0:Int)<_;rw[nl];omega),p5,_,_,oV y,rfl,rfl,SqL.of n7,(by rw[nl];exact hy),g7,fs++[y],?_,?_,?_,?_,ab,?_⟩
     ·rw[e1,LA];rfl
     ·rw[Lw,e2];rfl
     ·intro n' hn'
      rcases LB.mp hn' with h|h
      ·exact e3 n' h
      ·exact my n' (Lr.mp h).symm
     ·exact λc u g=>by rw[ak (ai g hE1)];exact s7 c u g
     ·rw[ak (ai ab hE')];exact q7
    ·rw[Lp]at e2
     have g67:=s7 _ _ g6;refine⟨_,rfl,_,rfl,by show 2≤sizeLine;decide,λv hv=>⟨p6,kvl ad ks,aq.upd hv _ _ g67,λo=>?_⟩⟩;have nv:v≠p6:=λz=>by rw[z,g67]at hv;cases hv
     have up:∀ {c:Addr} {xs:List V},H7 c=some (.lst xs)→upd (upd H7 v (.tup [V.ref E',V.ref p6])) p6 (.frz o (.dK (kvl ad ks))) c=some (.lst xs):=λg=>by
      rw[ak (np6 g67 g)];exact aq.upd hv _ _ g
     have hp0:H p6=none:=(s1'.trans s5).free hp6;refine k v E' p6 o ad fs ks _ (λc u g=>?_) ?_ ⟨up (by rw[g7,e1]),ab,λp hp=>up (s7 _ _ (gl p hp).1)⟩ ⟨?_,?_,?_,?_,?_,?_,?_,λp hp=>Lg _ (by rw[←gk];exact L5 hp)⟩ ?_
     ·rw[ak (ai g hp0)]
      exact aq.upd hv _ _ (s7 _ _ (sx _ _ (s5 _ _ (s1' _ _ g))))
     ·rw[ak nv,ab]
     ·rw[gk];exact tnd
     ·exact λp hp=>E5 _ (by rw[←gk];exact L5 hp)
     ·have:=congrArg List.length gk
      rw[Lp]at this;omega
     ·omega
     ·exact λp hp=>(gl p hp).2.1
     ·rw[gk];exact e3
     ·rw[gk];exact λp hp=>(gl p hp).2.2
     ·omega
abbrev keys(ks:Fs):List Int:=ks.map (·.1)
theorem vW{H:Hp}{r d:Addr}{o:Obj}{ad:Int→Addr}{rs:List (Option Int)}{ks:Fs}(v:Vw H r d o ad rs ks):Rd H d (.dK (kvl ad ks)):=.inr ⟨o,v.hd⟩
theorem rb{H:Hp}{d:Addr}{o:Obj}{ad:Int→Addr}{ks:Fs}(h:H d=some (.frz o (.dK (kvl ad ks))))(t:Int):eG H d (.int t) (if t∈keys ks then some (V.ref (ad t)) else none):=.inl ⟨_,Sum.inl t,.inr ⟨o,h⟩,rfl,by rw[gU]⟩
theorem mZ{H:Hp}{d:Addr}{o:Obj}{ad:Int→Addr}{ks:Fs}(h:H d=some (.frz o (.dK (kvl ad ks)))){t:Int}(ht:t∈keys ks):eG H d (.int t) (some (V.ref (ad t))):=by
 have:=rb h t
 rwa[if_pos ht]at this
theorem wJ{ad:Int→Addr}{ks:Fs}{i:Nat}{p:Key×V}(h:(kvl ad ks)[i]?=some p):∃ q∈ks,ks[i]?=some q∧p=(Sum.inl q.1,V.ref (ad q.1)):=by
 unfold kvl at h;rw[Lz]at h;obtain⟨q,hq,rfl⟩:=LG.mp h;exact⟨q,LD hq,hq,rfl⟩
def qk(ks:Fs)(t:Int):List (Option Int):=match ks.find? (λp=>decide (p.1=t)) with
 | some p=>p.2
 | none=>[]
theorem l8:∀ {ks:Fs},(keys ks).Nodup→∀ {p:Int×List (Option Int)},p∈ks→qk ks p.1=p.2
 | [],_,_,h=>nomatch h
 | q::r,nd,p,h=>by
  obtain⟨n1,n2⟩:=Mw.mp (show(q.1::keys r).Nodup from nd);unfold qk;rcases LQ.mp h with e|h
  ·subst e
   rw[List.find?_cons_of_pos (by simp)]
  ·have ne:¬q.1=p.1:=λz=>n1 (by rw[z];exact L5 h)
   rw[List.find?_cons_of_neg (by simpa using ne)];exact l8 n2 h
theorem DS{H:Hp}{r d:Addr}{o:Obj}{ad:Int→Addr}{rs:List (Option Int)}{ks:Fs}(v:Vw H r d o ad rs ks)(rt:Rt rs ks){t:Int}(ht:t∈keys ks):H (ad t)=some (.lst ((qk ks t).map oV))∧(qk ks t).length≤6∧∀ n,some n∈qk ks t→n∈keys ks:=by
 obtain⟨p,hp,rfl⟩:=LH.mp ht;rw[l8 rt.nd hp];exact⟨v.hl p hp,rt.fl p hp,rt.fi p hp⟩
theorem bu{H H':Hp}{a:Addr}{xs:List V}(h:SqT K H a xs)(s:aq H H'):SqT K H' a xs:=Or.imp (λr=>Or.elim r (λe=>.inl (s _ _ e)) λ⟨o,e⟩=>.inr ⟨o,s _ _ e⟩) id h
theorem scY:ar ["view", "fields", "thing"] ["view"] (ao DN):=⟨rfl,rfl,rfl,by decide +kernel,rfl,by decide +kernel,by decide +kernel⟩
theorem C8(x:Option Int):cE (oV x)=true:=by cases x<;>rfl
theorem nC{H:Hp}{a b:Addr}{fs:List (Option Int)}(ha:H a=some (.lst (fs.map oV)))(hb:H b=some (.lst (fs.map oV))):p9 K H 1 (.ref a) (.ref b) :=
 .lst (SqL.of ha) (SqL.of hb) rfl λj h1 h2=>.flat (by rw[List.getElem_map];exact C8 _)
theorem ql{ad:Int→Addr}{ks:Fs}:∀ p∈kvl ad ks,∃ i,p.1=Sum.inl i:=λp hp=>by
 obtain⟨q,_,rfl⟩:=LH.mp hp;exact⟨_,rfl⟩
theorem A8{H:Hp}{r d r' d':Addr}{o o':Obj}{ad ad':Int→Addr}{rs:List (Option Int)}{ks:Fs}(v:Vw H r d o ad rs ks)(v':Vw H r' d' o' ad' rs ks):∀ p∈kvl ad' ks,∃ y,cC (kvl ad ks) p.1=some y∧p9 K H 1 p.2 y:=λp hp=>by
 obtain⟨q,hq,rfl⟩:=LH.mp hp;exact⟨.ref (ad q.1),by rw[gU,if_pos (L5 hq)],nC (v'.hl q hq) (v.hl q hq)⟩
end
end K21.R
end
section
namespace K21
open PySem L2 LX
section
variable{P:Program}{w:World}{K:W.Frag}{mg:Str→Option Value}{base:Heap}
def thO:Wd→Option Int
 | .th t=>some t
 | _=>none
theorem IB(o:Option Int):R.oV o=nmV o:=by cases o<;>rfl
theorem tV(l:List (Option Int)):l.map R.oV=l.map nmV:=L3 λo _=>IB o
def vks(s:HS):R.Fs:=(keys s).map λt=>(t,(fld s t).map thO)
def vrs(s:HS):List (Option Int):=s.aM.map thO
theorem j0{H:Hp}{a:Addr}{o:HO}(_:aq H (upd H a o)):upd H a o a=some o:=ab
def xC:Sp:=λvs H Q _=>∃ v w,vs=[v]∧WV H v w∧Q (nmV (thO w)) H
abbrev vX:List Str:=["value"]
theorem uw:ar vX ["value"] (ao pV):=fsc
theorem og(T:Txt w K mg):Ok P w K mg base 2 405 ["value"] (xC):=by
 refine T.o1 "thing_in" uw λcdv A' outer s' H vs Q E hr h=>?_;obtain⟨v,w,rfl,wv,k⟩:=h;refine⟨_,(PSs.nox (ag (aA (jr (az cL ((kB T).c hr bR (aa (pv 0) ah)) aJ (aF _)) (aD aB (pv 0) aj (λ_ _=>rfl)) bH)))),?_⟩;refine⟨_,rfl,v,w,rfl,wv,?_⟩;cases w with
 | no=>exact⟨rfl,_,rfl,aH (λh=>absurd h (L7.mp (by kernel_rfl))) (λ_=>k)⟩
 | num n=>exact⟨rfl,_,rfl,aH (λh=>absurd h (L7.mp (by kernel_rfl))) (λ_=>k)⟩
 | th t =>
  obtain⟨a,rfl,ht⟩:=wv;exact⟨rfl,_,rfl,aH (λ_=>⟨_,rfl,a,_,1,.int t,rfl,rfl,SqT.of ht,rfl,k⟩) (λh=>absurd (by kernel_rfl) h)⟩
def A9:Sp:=λvs H Q _=>∃ x A s,vs=[.ref x]∧IH H x A s∧Good s∧∀(v r d:Addr) (o:Obj) (ad:Int→Addr) (H':Hp),aq H H'→H d=none→H r=none→(∀ t∈keys s,H (ad t)=none)→H' v=some (.tup [.ref r,.ref d])→R.Vw H' r d o ad (vrs s) (vks s)→Q (.ref v) H'
abbrev nF:List Str:=["hall", "fields", "t"]
theorem kF:ar nF ["hall"] (ao jG):=fsc
theorem qm(T:Txt w K mg):Ok P w K mg base 5 377 ["hall"] (A9):=by
 refine T.o1 "view_of" kF λcdv A' outer s' H vs Q E hr h=>?_;obtain⟨x,A,s,rfl,J,G,k⟩:=h;have hu:=bX hr;refine⟨_,(PSs.nox (af (aw (i:=1) kF.nd rfl (Or.inl rfl) bQ)
  (af (bq LP rfl (bh ((eL T).m0 T.ae hr (pv 0) bR)) (aL (i:=2) kF.nd rfl (Or.inl rfl))
   (ag (bY hu (pv 1) (pv 2) (cO (cl:=[]) (x := "value") (idx:=[]) (NC:=["value"]) (by exact bP (sc:=ao jG) (N:=nF) (ns:=[]) rfl rfl rfl (by decide +kernel) rfl rfl (by intro q hq;cases hq)) rfl (bh ((du T).m T.ae hr (pv 0) bR (aa (pv 2) ah))) (λC fp s₀ H₀=>((og T).c hr kz (aa (pv 0) ah)))) rfl)))
  (ag (aA (aX (aa (cO (cl:=[]) (x := "value") (idx:=[]) (NC:=["value"]) (by exact bP (sc:=ao jG) (N:=nF) (ns:=[]) rfl rfl rfl (by decide +kernel) rfl rfl (by intro q hq;cases hq)) rfl (bh ((fv T).m0 T.ae hr (pv 0) bR)) (λC fp s₀ H₀=>((og T).c hr kz (aa (pv 0) ah)))) (aa (eN (pv 1)) ah)))))))),?_⟩
 have lz0:(keys s).length≤10000:=by unfold keys;rw[Lp];exact G.few
 intro d hd;have s0:=aq.upd (o:=.dK []) hd;have J0:=J.same s0;refine⟨_,rfl,x,_,_,rfl,J0.ax,(by kernel_rfl),x,A,s,rfl,J0,G,λp1 H1 s1 hp1 z1=>?_⟩;have J1:=J0.same s1;have zd1:=s1 _ _ (j0 s0);have nfd:¬aV x A s d:=J.fresh hd;have np1:p1≠d:=bI z1 zd1 (by intro z;cases z);have back:∀ {b:Addr},b≠d→H1 b=none→H b=none:=λ{b} n q=>aq.none (s0.trans s1) q;have Jc_:∀ Hc:Hp,(∀ c u,c≠d→H1 c=some u→Hc c=some u)→IH Hc x A s:=λHc sx=>J1.keep (λc u f q=>sx c u (λz=>nfd (by rw[←z];exact f)) q) (λc us q=>sx c _ (bI q zd1 (by intro z;cases z)) q);refine⟨p1,rfl,⟨_,SqL.of z1⟩,cJ (K:=K) (a:=p1) (xs:=(keys s).map V.int) (λj σ Hc=>∃(v2:Option V) (ad:Int→Addr),σ=[some (.ref x),some (.ref d),v2]∧(∀ c u,c≠d→H1 c=some u→Hc c=some u)∧Hc d=some (.dK (((keys s).take j).map λt=>(Sum.inl t,.ref (ad t))))∧∀ t∈(keys s).take j,H1 (ad t)=none∧Hc (ad t)=some (.lst (((fld s t).map thO).map nmV)))
  ⟨none,λ_=>0,rfl,(λ_ _ _ q=>q),zd1,(λt h=>nomatch h)⟩ (λj σ Hc _ ⟨_,_,_,sx,_⟩=>SqL.of (sx _ _ np1 z1)) ?_ ?_⟩
 ·rintro j v σ Hc hj ⟨v2,ad,rfl,sx,zd,jy⟩
  rw[Lz]at hj;obtain⟨t,ht,rfl⟩:=LG.mp hj;have mt:t∈keys s:=LD ht;obtain⟨ws,mw⟩:=mem_keys.mp mt;have lt:=G.lt _ _ mw;have nx:=G.nx;have Jc:=Jc_ Hc sx;have tk:=take_snoc ht;have ni:t∉(keys s).take j:=qY (show(keys s).Pairwise (·< ·) from G.asc) ht;have ky:Kys (((keys s).take j).map λt=>((Sum.inl t:Key),V.ref (ad t))) ((keys s).take j):=by unfold Kys;rw[LO];rfl
  refine⟨_,rfl,x,_,_,rfl,Jc.ax,(by kernel_rfl),_,rfl,x,A,s,t,rfl,Jc,G,Sm.of (by omega) (by omega),λ_ p2 H3 s3 hp2 z2=>⟨p2,rfl,⟨_,SqL.of z2⟩,λL hL=>?_⟩,λh=>absurd mt h⟩;have rl:=((Jc.same s3).afl _ _ mw).2;rw[←G.fld mw]at rl;have f6:=G.f6 _ _ mw;rw[←G.fld mw]at f6;have lz:(fld s t).length≤sizeLine:=gC (by omega);refine bW (K:=K) (a:=p2) (xs:=A.fx t) (λi ys H2=>ys=((fld s t).take i).map (λw=>nmV (thO w))∧aq H3 H2∧H2 L=some (.lst ys)) ⟨rfl,aq.upd hL,ab⟩ (λi ys H2 hi ⟨e,_,z⟩=>⟨z,by rw[e,Lp,LM,←rl.1];omega⟩) (λi ys H2 hi ⟨_,s2,_⟩=>SqL.of (s2 _ _ z2)) (by rw[rl.1];exact lz) (λi y ys H2 hi ⟨e,s2,z⟩=>?_) (λys H2 ⟨e,s2,z⟩=>?_)
  ·obtain⟨wd,hw,wv⟩:=jY rl hi
   refine⟨_,rfl,y,wd,rfl,wv.keep (cN.of s2),z,?_,λb u q=>by rw[ak (ai q hL)];exact s2 b u q,ab⟩;have hlt:i<(fld s t).length:=(Lq.mp hw).1;rw[LI hlt,LA,e,(Lq.mp hw).2];rfl
  ·rw[rl.1,LF (Lu _)]at e
   have sz:=s3.trans s2;have nL:L≠d:=L4 (ai (s3 _ _ zd) hL);have hL1:H1 L=none:=by
    cases q:H1 L with
    | none=>rfl
    | some u=>rw[s3 _ _ (sx _ _ nL q)]at hL;cases hL
   refine⟨_,rfl,_,rfl,d,_,rfl,jS.k (k:=Sum.inl t) (sz _ _ zd) (by rw[Lp,LM];exact eO (by omega)),?_⟩;rw[dM _ (ky.non ni)];refine⟨_,λu=>if u=t then L else ad u,rfl,(λc u n q=>by rw[ak n];exact sz _ _ (sx c u n q)),?_,λu hu'=>?_⟩
   ·rw[ab,tk,LA]
    congr 3
    ·refine L3 λu hu'=>?_
     dsimp only;rw[if_neg λz=>ni (by rw[←z];exact hu')]
    ·simp only[L1,ML,if_true]
   ·rw[tk]at hu'
    dsimp only;by_cases c:u=t
    ·subst c
     rw[if_pos rfl];exact⟨hL1,by rw[ak nL,z,e,LO];rfl⟩
    ·rw[if_neg c]
     have mu:u∈(keys s).take j:=(LB.mp hu').resolve_right λz=>c (Lr.mp z);obtain⟨q1,q2⟩:=jy u mu;exact⟨q1,by rw[ak (λz=>by rw[z,zd]at q2;cases q2)];exact sz _ _ q2⟩
 ·rintro σ Hc ⟨v2,ad,rfl,sx,zd,jy⟩
  rw[Lp,LF (Lu _)]at zd jy;have Jc:=Jc_ Hc sx;refine⟨_,rfl,x,_,_,rfl,Jc.ax,(by kernel_rfl),x,A,s,rfl,Jc,G,λp2 H3 s3 hp2 z2=>⟨p2,rfl,⟨_,SqL.of z2⟩,λL hL=>?_⟩⟩;have rl:=(Jc.same s3).rhl;have lz:s.aM.length≤sizeLine:=gC (by rw[G.h8];decide);refine bW (K:=K) (a:=p2) (xs:=A.hx) (λi ys H2=>ys=(s.aM.take i).map (λw=>nmV (thO w))∧aq H3 H2∧H2 L=some (.lst ys)) ⟨rfl,aq.upd hL,ab⟩ (λi ys H2 hi ⟨e,_,z⟩=>⟨z,by rw[e,Lp,LM,←rl.1];omega⟩) (λi ys H2 hi ⟨_,s2,_⟩=>SqL.of (s2 _ _ z2)) (by rw[rl.1];exact lz) (λi y ys H2 hi ⟨e,s2,z⟩=>?_) (λys H2 ⟨e,s2,z⟩=>?_)
  ·obtain⟨wd,hw,wv⟩:=jY rl hi
   refine⟨_,rfl,y,wd,rfl,wv.keep (cN.of s2),z,?_,λb u q=>by rw[ak (ai q hL)];exact s2 b u q,ab⟩;have hlt:i<s.aM.length:=(Lq.mp hw).1;rw[LI hlt,LA,e,(Lq.mp hw).2];rfl
  ·rw[rl.1,LF (Lu _)]at e
   have sz:=s3.trans s2;have zd2:=sz _ _ zd;refine⟨_,rfl,d,_,zd2,λo=>⟨by show 2≤sizeLine;decide,λv hv=>?_⟩⟩;have up:∀ c u,c≠d→H2 c=some u→upd (upd H2 d (.frz o (.dK ((keys s).map λt=>(Sum.inl t,.ref (ad t)))))) v (.tup [V.ref L,V.ref d]) c=some u:=λc u n q=>by
    have q':upd H2 d (.frz o (.dK ((keys s).map λt=>(Sum.inl t,.ref (ad t))))) c=some u:=(by rw[ak n];exact q);rw[ak (ai q' hv)];exact q'
   have nL:L≠d:=L4 (ai (s3 _ _ zd) hL);have nv:d≠v:=λq=>by rw[←q,ab]at hv;cases hv
   have sx3:∀ {b:Addr},b≠d→Hc b=none→H1 b=none:=λ{b} n q=>by
    cases q':H1 b with
    | none=>rfl
    | some u=>rw[sx _ _ n q']at q;cases q
   refine k v L d o ad _ (λc u q=>?_) hd (back nL (sx3 nL (aq.none s3 hL))) (λt m=>back (λq=>by have:=(jy t m).2;rw[q,zd]at this;cases this) (jy t m).1) ab ⟨?_,?_,?_⟩
   ·have n:c≠d:=ai q hd
    exact up c u n (sz _ _ (sx c u n (s1 _ _ (s0 _ _ q))))
   ·rw[tV]
    refine up _ _ nL ?_;rw[z,e];show _=some (HO.lst ((s.aM.map thO).map nmV));rw[LO];rfl
   ·rw[ak nv,ab]
    congr 3
    show _=R.kvl ad ((keys s).map λt=>(t,(fld s t).map thO));unfold R.kvl;rw[LO];rfl
   ·intro p hp
    obtain⟨t,mt,rfl⟩:=LH.mp hp
    have:=(jy t mt).2
    rw[tV];exact up _ _ (λq=>by rw[q,zd]at this;cases this) (sz _ _ this)
end
end K21
end
section
namespace K21.R
open PySem L2 LX HT
theorem lex_trans:∀ {a b c:List Int},lexLt a b=true→lexLt b c=true→lexLt a c=true
 | [],[],_,h,_=>absurd h Lv
 | [],_::_,[],_,h=>absurd h Lv
 | [],_::_,_::_,_,_=>rfl
 | _::_,[],_,h,_=>absurd h Lv
 | _::_,_::_,[],_,h=>absurd h Lv
 | x::a,y::b,z::c,h1,h2=>by
  rw[bN]at h1 h2 ⊢;by_cases e1:x=y
  ·rw[if_pos e1]at h1
   subst e1;by_cases e2:x=z
   ·rw[if_pos e2]at h2 ⊢
    exact lex_trans h1 h2
   ·rw[if_neg e2]at h2 ⊢
    exact h2
  ·rw[if_neg e1]at h1
   have g1:=of_decide_eq_true h1;by_cases e2:y=z
   ·subst e2
    rw[if_neg e1];exact h1
   ·rw[if_neg e2]at h2
    have g2:=of_decide_eq_true h2;rw[if_neg (by omega)];exact decide_eq_true (by omega)
theorem xD:∀ {a b:List Int},a.length=b.length→lexLt a b=true→∀ x y,lexLt (a++x) (b++y)=true
 | [],[],_,h,_,_=>absurd h Lv
 | [],_::_,h,_,_,_=>by cases h
 | _::_,[],h,_,_,_=>by cases h
 | u::a,v::b,hl,h,x,y=>by
  show lexLt (u::(a++x)) (v::(b++y))=true;rw[bN]at h ⊢;by_cases e:u=v
  ·rw[if_pos e]at h ⊢
   exact xD (by simpa using hl) h x y
  ·rw[if_neg e]at h ⊢
   exact h
theorem u5:∀(a:List Int) (x y:List Int),lexLt (a++x) (a++y)=lexLt x y
 | [],_,_=>rfl
 | u::a,x,y=>by
  show lexLt (u::(a++x)) (u::(a++y))=_;rw[bN,if_pos rfl];exact u5 a x y
abbrev Wy:=Int×List Int
def key(w:Wy):List Int:=(w.2.length:Int)::w.1::w.2
def Lt(a b:Wy):Prop:=lexLt (key a) (key b)=true
def on(w:Wy)(q:Int):Wy:=(w.1,w.2++[q])
theorem rf(w:Wy)(q:Int):(on w q).2.length=w.2.length+1:=by
 show(w.2++[q]).length=_;rw[Lw,Mf]
theorem Lt.irr(a:Wy):¬Lt a a:=λh=>by
 have:=qi (key a)
 rw[h]at this;cases this
theorem Lt.trans{a b c:Wy}(h1:Lt a b)(h2:Lt b c):Lt a c:=lex_trans h1 h2
theorem Lt.wK{a b:Wy}(h:a.2.length<b.2.length):Lt a b:=by
 show lexLt ((a.2.length:Int)::_) ((b.2.length:Int)::_)=true;rw[bN,if_neg (by omega)];exact decide_eq_true (by omega)
theorem Lt.len{a b:Wy}(h:Lt a b):a.2.length≤b.2.length:=by
 rcases Mi b.2.length a.2.length with z|z
 ·exact absurd (Lt.trans h (Lt.wK z)) (Lt.irr _)
 ·exact z
theorem Lt.on{a b:Wy}(h:Lt a b)(p q:Int):Lt (on a p) (on b q):=by
 rcases Mi a.2.length b.2.length with z|z
 ·exact Lt.wK (by rw[rf,rf];omega)
 ·have el:a.2.length=b.2.length:=Nat.le_antisymm h.len z
  have h':lexLt (a.1::a.2) (b.1::b.2)=true:=by
   have h:lexLt ((a.2.length:Int)::a.1::a.2) ((b.2.length:Int)::b.1::b.2)=true:=h;rwa[bN,if_pos (by omega)]at h
  show lexLt (((a.2++[p]).length:Int)::((a.1::a.2)++[p])) (((b.2++[q]).length:Int)::((b.1::b.2)++[q]))=true;rw[bN,if_pos (by rw[Lw,Lw,el];rfl)];exact xD (by rw[Ma,Ma,el]) h' _ _
theorem Lt.xE(a:Wy){p q:Int}(h:p<q):Lt (K21.R.on a p) (K21.R.on a q):=by
 show lexLt (((a.2++[p]).length:Int)::((a.1::a.2)++[p])) (((a.2++[q]).length:Int)::((a.1::a.2)++[q]))=true;rw[bN,if_pos (by rw[Lw,Lw];rfl),u5,bN,if_neg (by omega)];exact decide_eq_true h
theorem Lt.root{i j:Int}(h:i<j):Lt (i,[]) (j,[]):=by
 show lexLt [0,i] [0,j]=true;rw[bN,if_pos rfl,bN,if_neg (by omega)];exact decide_eq_true h
inductive Led(rs:List (Option Int))(ks:Fs):Wy→Int→Prop
 | root {i:Nat} {t:Int}:rs[i]?=some (some t)→Led rs ks ((i:Int),[]) t
 | step {w:Wy} {p:Int×List (Option Int)} {q:Nat} {t:Int}:Led rs ks w p.1→p∈ks→p.2[q]?=some (some t)→Led rs ks (on w q) t
structure Cls(rs:List (Option Int))(ks:Fs)(ms:List Int)(wy:Int→Wy):Prop where
 snd:∀ t∈ms,Led rs ks (wy t) t
 rt:∀(i:Nat) t,rs[i]?=some (some t)→t∈ms∧¬Lt ((i:Int),[]) (wy t)
 st:∀ p∈ks,p.1∈ms→∀(q:Nat) t,p.2[q]?=some (some t)→t∈ms∧¬Lt (on (wy p.1) q) (wy t)
end K21.R
end
section
namespace K21.R
open PySem L2 LX
section
variable{P:Program}{w:World}{K:W.Frag}{mg:Str→Option Value}{base:Heap}
def ext{α:Type}(g:Int→α)(n:Int)(c:α):Int→α:=λk=>if k=n then c else g k
theorem c5{α:Type}(g:Int→α)(n:Int)(c:α):ext g n c n=c:=if_pos rfl
theorem de{α:Type}(g:Int→α){n k:Int}(c:α)(h:k≠n):ext g n c k=g k:=if_neg h
def Fr(ms:List Int)(wy:Int→Wy)(c:Wy):Option Int×Int→Prop
 | (none,q)=>c=(q,[])
 | (some s,q)=>s∈ms∧c=on (wy s) q
structure Bf(rs:List (Option Int))(ks:Fs)(ms:List Int)(wy:Int→Wy)(fr:Int→Option Int×Int):Prop where
 asc:ms.Pairwise λa b=>Lt (wy a) (wy b)
 snd:∀ t∈ms,Led rs ks (wy t) t
 dep:∀ i (h:i<ms.length),(wy ms[i]).2.length≤i
 fro:∀ t∈ms,Fr ms wy (wy t) (fr t)
theorem Bf.put{rs:List (Option Int)}{ks:Fs}{ms:List Int}{wy:Int→Wy}{fr:Int→Option Int×Int}(b:Bf rs ks ms wy fr){n:Int}{c:Wy}{f:Option Int×Int}(hn:n∉ms)(lt:∀ t∈ms,Lt (wy t) c)(hl:Led rs ks c n)(hd:c.2.length≤ms.length)(hf:Fr ms wy c f) :
  Bf rs ks (ms++[n]) (ext wy n c) (ext fr n f):=by
 have ne:∀ {t},t∈ms→t≠n:=λh z=>hn (by rw[←z];exact h);have frm:∀ {c:Wy} {f:Option Int×Int},Fr ms wy c f→Fr (ms++[n]) (ext wy n c) c f∧∀ c',Fr (ms++[n]) (ext wy n c') c f:=λ{c f} h=>by
  have g:∀ c',Fr (ms++[n]) (ext wy n c') c f:=λc'=>by
   match f,h with
   | (none,q),h=>exact h
   | (some s,q),h=>exact⟨LW _ h.1,by rw[de _ _ (ne h.1)];exact h.2⟩
  exact⟨g c,g⟩
 refine⟨?_,λt ht=>?_,λi h=>?_,λt ht=>?_⟩
 ·rw[MD]
  refine⟨b.asc.imp_of_mem λ{x y} hx hy h=>?_,MH _ _,λx hx y hy=>?_⟩
  ·rw[de _ _ (ne hx),de _ _ (ne hy)]
   exact h
  ·rw[Lr.mp hy,c5,de _ _ (ne hx)]
   exact lt x hx
 ·rcases LB.mp ht with g|g
  ·rw[de _ _ (ne g)]
   exact b.snd t g
  ·rw[Lr.mp g,c5]
   exact hl
 ·by_cases hi:i<ms.length
  ·rw[List.getElem_append_left hi,de _ _ (ne (Mb hi))]
   exact b.dep i hi
  ·rw[Lw,Mf]at h
   have ei:i=ms.length:=(by omega);subst ei;rw[List.getElem_append_right (Lu _)];simp only[Nat.sub_self,List.getElem_cons_zero];rw[c5];exact hd
 ·rcases LB.mp ht with g|g
  ·rw[de _ _ (ne g),de _ _ (ne g)]
   exact(frm (b.fro t g)).2 c
  ·rw[Lr.mp g,c5,c5]
   exact(frm hf).1
structure Sd(H:Hp)(st:Addr)(ms:List Int)(ea:Int→Addr)(fr:Int→Option Int×Int):Prop where
 hs:H st=some (.dK (ms.map λt=>(Sum.inl t,V.ref (ea t))))
 nd:ms.Nodup
 he:∀ t∈ms,H (ea t)=some (.tup [oV (fr t).1,.int (fr t).2])
theorem Sd.val{ea:Int→Addr}{ms:List Int}(n:Int):cC (ms.map λt=>((Sum.inl t:Key),V.ref (ea t))) (Sum.inl n)=if n∈ms then some (V.ref (ea n)) else none:=by
 have:=gU ea n (ms.map λt=>(t,[]))
 unfold kvl at this;rw[LO,LO]at this;have e:List.map ((λ(x:Int×List (Option Int))=>x.1) ∘ λt=>(t,[])) ms=ms:=by
  show List.map (λt=>t) ms=ms;exact List.map_id _
 rw[e]at this;exact this
theorem Sd.same{H H':Hp}{st:Addr}{ms:List Int}{ea:Int→Addr}{fr:Int→Option Int×Int}(m:Sd H st ms ea fr)(s:aq H H'):Sd H' st ms ea fr:=⟨s _ _ m.hs,m.nd,λt h=>s _ _ (m.he t h)⟩
theorem Sd.but{H:Hp}{st mt:Addr}{ms:List Int}{ea:Int→Addr}{fr:Int→Option Int×Int}{xs ys:List V}(m:Sd H st ms ea fr)(h:H mt=some (.lst xs)):Sd (upd H mt (.lst ys)) st ms ea fr :=
 ⟨(ak (bI m.hs h (by intro z;cases z))).trans m.hs,m.nd,λt ht=>(ak (bI (m.he t ht) h (by intro z;cases z))).trans (m.he t ht)⟩
theorem Sd.put{H:Hp}{st:Addr}{ms:List Int}{ea:Int→Addr}{fr:Int→Option Int×Int}(m:Sd H st ms ea fr){n:Int}(hn:n∉ms){u:Addr}{f:Option Int×Int}(hu:H u=some (.tup [oV f.1,.int f.2]))(hl:ms.length≤1000) :
  ∃ H',jS H st (.int n) (.ref u) H'∧Sd H' st (ms++[n]) (ext ea n u) (ext fr n f)∧∀ c v,c≠st→H c=some v→H' c=some v:=by
 have ne:∀ {t},t∈ms→t≠n:=λh z=>hn (by rw[←z];exact h);have e:cC (ms.map λt=>((Sum.inl t:Key),V.ref (ea t))) (Sum.inl n)=none:=by rw[Sd.val,if_neg hn]
 have ek:(ms++[n]).map (λt=>((Sum.inl t:Key),V.ref (ext ea n u t)))=(ms.map λt=>((Sum.inl t:Key),V.ref (ea t)))++[(Sum.inl n,V.ref u)]:=by
  have e1:ms.map (λt=>((Sum.inl t:Key),V.ref (ext ea n u t)))=ms.map λt=>((Sum.inl t:Key),V.ref (ea t)):=L3 λt ht=>by rw[de _ _ (ne ht)]
  rw[LA,e1];show _++[((Sum.inl n:Key),V.ref (ext ea n u n))]=_;rw[c5]
 have oth:∀ c v,c≠st→H c=some v→upd H st (.dK ((ms++[n]).map λt=>(Sum.inl t,V.ref (ext ea n u t)))) c=some v:=λc v h1 h2=>(ak h1).trans h2;refine⟨upd H st (.dK ((ms++[n]).map λt=>(Sum.inl t,V.ref (ext ea n u t)))),?_,⟨ab,?_,λt ht=>?_⟩,oth⟩
 ·rw[ek,←dM (V.ref u) e]
  exact jS.k (k:=Sum.inl n) m.hs (L6 (show(ms.map λt=>((Sum.inl t:Key),V.ref (ea t))).length≤1000 by rw[Lp];exact hl) (by decide))
 ·rw[Mq]
  refine⟨m.nd,by simp,λa ha b hb=>?_⟩;rw[Lr.mp hb];exact ne ha
 ·rcases LB.mp ht with g|g
  ·rw[de _ _ (ne g),de _ _ (ne g)]
   exact oth _ _ (bI (m.he t g) m.hs (by intro z;cases z)) (m.he t g)
  ·rw[Lr.mp g,c5,c5]
   exact oth _ _ (bI hu m.hs (by intro z;cases z)) hu
end
end K21.R
end
section
namespace K21.R
open PySem L2 LX HT
def In(ms:List Int)(wy:Int→Wy)(a:Wy)(t:Int):Prop:=t∈ms∧¬Lt a (wy t)
theorem In.put{ms:List Int}{wy:Int→Wy}{a:Wy}{t n:Int}(h:In ms wy a t)(hn:n∉ms)(c:Wy):In (ms++[n]) (ext wy n c) a t:=⟨LW _ h.1,by rw[de _ _ (λz=>hn (by rw[←z];exact h.1))];exact h.2⟩
theorem In.new(ms:List Int)(wy:Int→Wy)(n:Int)(c:Wy):In (ms++[n]) (ext wy n c) c n:=⟨LJ _ (Lr.mpr rfl),by rw[c5];exact Lt.irr _⟩
theorem In.of_lt{ms:List Int}{wy:Int→Wy}{a:Wy}{t:Int}(h:t∈ms)(l:Lt (wy t) a):In ms wy a t:=⟨h,λz=>Lt.irr _ (Lt.trans z l)⟩
theorem xF{ms:List Int}{wy:Int→Wy}{n:Int}{c:Wy}{p:Wy→Prop}(hn:n∉ms)(h:∀ t∈ms,p (wy t))(hc:p c):∀ t∈ms++[n],p (ext wy n c t):=λt ht=>by
 rcases LB.mp ht with g|g
 ·rw[de _ _ (λz=>hn (by rw[←z];exact g))]
  exact h t g
 ·rw[Lr.mp g,c5]
  exact hc
structure Wq(rs:List (Option Int))(ks:Fs)(ms:List Int)(wy:Int→Wy)(fr:Int→Option Int×Int)(pre:List Int):Prop where
 bf:Bf rs ks ms wy fr
 rts:∀(i:Nat) t,rs[i]?=some (some t)→In ms wy ((i:Int),[]) t
 ins:∀ t∈ms,t∈keys ks
 psb:∀ t∈pre,t∈ms
 don:∀ t∈pre,∀(q:Nat) n,(qk ks t)[q]?=some (some n)→In ms wy (on (wy t) q) n
theorem Wq.put{rs:List (Option Int)}{ks:Fs}{ms:List Int}{wy:Int→Wy}{fr:Int→Option Int×Int}{pre:List Int}(b:Wq rs ks ms wy fr pre){n:Int}{c:Wy}{f:Option Int×Int}(hn:n∉ms)(lt:∀ t∈ms,Lt (wy t) c)(hl:Led rs ks c n)(hd:c.2.length≤ms.length)(hf:Fr ms wy c f)(hk:n∈keys ks) :
  Wq rs ks (ms++[n]) (ext wy n c) (ext fr n f) pre:=by
 refine⟨b.bf.put hn lt hl hd hf,λi t h=>(b.rts i t h).put hn c,λt ht=>?_,λt ht=>LW _ (b.psb t ht),λt ht q m h=>?_⟩
 ·rcases LB.mp ht with g|g
  ·exact b.ins t g
  ·rw[Lr.mp g];exact hk
 ·rw[de _ _ (λz=>hn (by rw[←z];exact b.psb t ht))]
  exact(b.don t ht q m h).put hn c
theorem Wq.cls{rs:List (Option Int)}{ks:Fs}{ms:List Int}{wy:Int→Wy}{fr:Int→Option Int×Int}(b:Wq rs ks ms wy fr ms)(nd:(keys ks).Nodup):Cls rs ks ms wy :=
 ⟨b.bf.snd,b.rts,λp hp hm q t h=>b.don p.1 hm q t (by rw[l8 nd hp];exact h)⟩
section
variable{P:Program}{w:World}{K:W.Frag}{mg:Str→Option Value}{base:Heap}
def xG(K:W.Frag):Sp:=λvs H Q _=>∃(v r d:Addr) (o:Obj) (ad:Int→Addr) (rs:List (Option Int)) (ks:Fs),vs=[.ref v]∧SqT K H v [.ref r,.ref d]∧Vw H r d o ad rs ks∧Rt rs ks ∧
 ∀(st:Addr) (ms:List Int) (ea:Int→Addr) (wy:Int→Wy) (fr:Int→Option Int×Int) (H':Hp),aq H H'→H st=none→Sd H' st ms ea fr→ms.length≤ks.length→Bf rs ks ms wy fr→Cls rs ks ms wy→(∀ t∈ms,t∈keys ks)→Q (.ref st) H'
abbrev NS:List Str:=["view", "steps", "place", "thing", "met", "done"]
theorem scT:ar NS ["view"] (ao A5):=⟨rfl,rfl,rfl,by decide +kernel,rfl,by decide +kernel,by decide +kernel⟩
def WS(H:Hp)(v st mt:Addr)(rs:List (Option Int))(ks:Fs)(m:Nat)(σ:St)(H4:Hp):Prop:=∃(dn:Nat) (v2 v3:Option V) (ms:List Int) (ea:Int→Addr) (wy:Int→Wy) (fr:Int→Option Int×Int),m=20-dn∧σ=[some (.ref v),some (.ref st),v2,v3,some (.ref mt),some (.int (dn:Int))]∧aq H H4∧Sd H4 st ms ea fr∧H4 mt=some (.lst (ms.map V.int)) ∧
 Wq rs ks ms wy fr (ms.take dn)∧(∀ t∈ms,∀ s∈ms.drop dn,∀ q:Int,Lt (wy t) (on (wy s) q))∧dn≤ms.length
theorem As{f:Addr}{fd:FuncData}(F:Fun K "last_steps" "last_steps" A5 f fd)(zl:mg "list" = none)(ze:mg "enumerate" = none)(zn:mg "len" = none):gZ P w K mg base (CXE P w) 1 f fd ["view"] (xG K):=by
 refine F.okE scT (λvs H Q E h=>?_) (λcdv A outer s H vs Q E hr h=>?_)
 ·obtain⟨v,r,d,o,ad,rs,ks,rfl,_⟩:=h
  rfl
 ·obtain⟨v,r,d,o,ad,rs,ks,rfl,ht,hv,rt,k⟩:=h
  have hu:=bX hr;refine⟨_,PSs.nox (af (aw (i:=1) scT.nd rfl (Or.inl rfl) bQ)
   (af (bq LP rfl (jW rfl ze (aa (aD aB (pv 0) aj (λ_ _=>rfl)) ah)) (o6 rfl (cv (aL (i:=2) scT.nd rfl (Or.inl rfl)) (cv (aL (i:=3) scT.nd rfl (Or.inl rfl)) jM)))
    (ag (aO (PW.pt (pw_and (az gF (pv 3) bH (aF _)) (pw_and1 (cA (bo hu (pv 3) (pv 1)) (by with_unfolding_all rfl))))) (ag (bY hu (pv 1) (pv 3) (aX (aa bH (aa (pv 2) ah))) rfl)) aC)))
   (af (aw (i:=4) scT.nd rfl (Or.inl rfl) (cM (kA rfl) rfl zl PyProof.Rows.Boot.«list» (aa (pv 1) ah)))
   (af (aw (i:=5) scT.nd rfl (Or.inl rfl) aj)
   (af (qt LP (az kq (pv 5) (aK aU rfl zn PyProof.Rows.Boot.«len» (aa (pv 4) ah)) (aF _))
    (af (bq LP rfl (jW rfl ze (aa (bU hu (aD aB (pv 0) aj (λ_ _=>rfl)) (aD bE (pv 4) (pv 5) (λ_ _=>rfl)) (λ_ _=>rfl)) ah)) (o6 rfl (cv (aL (i:=2) scT.nd rfl (Or.inl rfl)) (cv (aL (i:=3) scT.nd rfl (Or.inl rfl)) jM)))
     (ag (aO (PW.pt (pw_and (az gF (pv 3) bH (aF _)) (pw_and1 (cA (bo hu (pv 3) (pv 1)) (by with_unfolding_all rfl)))))
      (af (bY hu (pv 1) (pv 3) (aX (aa (aD bE (pv 4) (pv 5) (λ_ _=>rfl)) (aa (pv 2) ah))) rfl)
      (ag (au (kr PySem.F.plainAttrs_list PySem.F.slot_list_append PySem.F.type_list_append cw (pv 4) (aa (pv 3) ah))))) aC)))
    (ag (AA (i:=5) scT.nd rfl (Or.inl rfl) aj AB))))
   (ag (aA (pv 1)))))))),?_⟩
  refine λst hst=>?_;have s0:aq H (upd H st (.dK [])):=aq.upd hst;have hr0:=s0 _ _ hv.hr;have kl:=rt.kl;have qo:∀ {ms:List Int},ms.Nodup→(∀ m∈ms,m∈keys ks)→ms.length≤ks.length:=λnd h=>by
   have:=rN nd h
   have kk:(keys ks).length=ks.length:=Lp _;omega
  refine⟨_,rfl,v,_,0,.ref r,rfl,rfl,bu ht s0,rfl,r,rfl,⟨_,SqL.of hr0⟩,hV (K:=K) (a:=r) (xs:=rs.map oV) (λi σ H2=>∃(v2 v3:Option V) (ms:List Int) (ea:Int→Addr) (wy:Int→Wy) (fr:Int→Option Int×Int),σ=[some (.ref v),some (.ref st),v2,v3,none,none]∧aq H H2∧Sd H2 st ms ea fr∧Bf rs ks ms wy fr∧(∀ m∈ms,m∈keys ks)∧(∀ t∈ms,Lt (wy t) ((i:Int),[]))∧∀(j:Nat) t,j<i→rs[j]?=some (some t)→In ms wy ((j:Int),[]) t)
   ⟨none,none,[],(λ_=>0),(λ_=>(0,[])),(λ_=>(none,0)),rfl,s0,⟨ab,List.nodup_nil,(λt h=>nomatch h)⟩,⟨.nil,(λt h=>nomatch h),(λi h=>absurd h (MN _)),(λt h=>nomatch h)⟩,(λt h=>nomatch h),(λt h=>nomatch h),(λj t h=>absurd h (MN _))⟩ (λi σ H2 _ ⟨_,_,_,_,_,_,_,s2,_⟩=>SqL.of (s2 _ _ hv.hr)) ?_ ?_⟩
  ·rintro i x σ H2 t hx ⟨v2,v3,ms,ea,wy,fr,rfl,s2,M,B,uO,hlt,fN⟩ htt
   have hi:i<rs.length:=(by have:=(Lq.mp hx).1;rwa[Lp]at this);have ri:rs[i]?=some rs[i]:=Ls hi;have hxe:x=oV rs[i]:=by
    rw[Lz,ri]at hx;exact(LS hx).symm
   subst hxe;have s3:aq H2 (upd H2 t (.tup [.int (i:Int),oV rs[i]])):=aq.upd htt;have M3:=M.same s3;have ml:=qo M.nd uO;have up:∀ t∈ms,Lt (wy t) (((i+1:Nat):Int),[]):=λt h=>Lt.trans (hlt t h) (Lt.root (by omega));refine⟨t,_,rfl,SqT.of ab,rfl,_,_,rfl,_,_,rfl,rfl,?_⟩;cases hc:rs[i] with
   | none =>
    rw[hc]at s3 M3 ri;refine⟨_,rfl,rfl,_,rfl,b4 (b4 ⟨_,_,ms,ea,wy,fr,rfl,s2.trans s3,M3,B,uO,up,λj t hj e=>?_⟩)⟩;rcases Mi j i with z|z
    ·exact fN j t z e
    ·rw[show j=i by omega,ri]at e
     cases e
   | some n =>
    rw[hc]at s3 M3 ri;have hk:n∈keys ks:=rt.ri n (LD ri);refine⟨_,rfl,rfl,_,rfl,cZ ⟨_,rfl,_,rfl,st,_,rfl,eG.k (k:=Sum.inl n) M3.hs,_,rfl,?_⟩⟩;rw[Sd.val];by_cases hin:n∈ms
    ·rw[if_pos hin]
     refine b4 ⟨_,_,ms,ea,wy,fr,rfl,s2.trans s3,M3,B,uO,up,λj t hj e=>?_⟩;rcases Mi j i with z|z
     ·exact fN j t z e
     ·have ej:j=i:=by omega
      subst ej;rw[ri]at e;cases e;exact In.of_lt hin (hlt n hin)
    ·rw[if_neg hin]
     refine cZ ⟨_,rfl,by show 2≤sizeLine;decide,λu hu'=>?_⟩;have s4:=aq.upd (o:=.tup [V.non,V.int (i:Int)]) hu';obtain⟨H5,pd,M5,k5⟩:=(M3.same s4).put hin (f:=(none,(i:Int))) ab (by omega);refine⟨_,rfl,_,rfl,st,_,rfl,pd,_,_,ms++[n],_,ext wy n ((i:Int),[]),_,rfl,λc u' g=>k5 _ _ (ai g hst) (s4 _ _ (s3 _ _ (s2 c u' g))),M5,B.put hin hlt (.root ri) (L8 _) rfl,λm h=>?_,xF (p:=λc=>Lt c (((i+1:Nat):Int),[])) hin up (Lt.root (by omega)),λj t hj e=>?_⟩
     ·rcases LB.mp h with g|g
      ·exact uO m g
      ·rw[Lr.mp g];exact hk
     ·rcases Mi j i with z|z
      ·exact(fN j t z e).put hin _
      ·have ej:j=i:=by omega
       subst ej;rw[ri]at e;cases e;exact In.new _ _ _ _
  ·rintro σ H2 ⟨v2,v3,ms,ea,wy,fr,rfl,s2,M,B,uO,hlt,fN⟩
   refine⟨_,rfl,st,_,ms,rfl,.inl M.hs,by rw[LO];rfl,λmt hmt=>?_⟩;have s3:=aq.upd (o:=.lst (ms.map V.int)) hmt;have Hd:H mt=none:=s2.free hmt;refine⟨WS H v st mt rs ks,⟨20,0,v2,v3,ms,ea,wy,fr,rfl,rfl,s2.trans s3,M.same s3,ab,⟨B,λi t h=>fN i t (by rw[Lp];exact(Lq.mp h).1) h,uO,(λt h=>nomatch h),(λt h=>nomatch h)⟩,λt h s _ q=>Lt.wK (by have:=(hlt t h).len;rw[rf];exact Nat.lt_succ_of_le (LL this (L8 _))),L8 _⟩,?_⟩;clear M B uO hlt fN s3 s2;rintro m σ H4 ⟨dn,v2,v3,ms,ea,wy,fr,rfl,rfl,s4,M,zm,W,hlt,hdl⟩;have ml:=qo M.nd W.ins;refine⟨_,rfl,_,rfl,mt,_,rfl,.inl (SqL.of zm),_,_,rfl,rfl,_,rfl,aH (λh=>?_) (λh=>?_)⟩
   ·have hd:dn<ms.length:=by
     have h1:(dn:Int)<((ms.map V.int).length:Int):=(by simpa using h);rw[Lp]at h1;omega
    refine⟨λσ' H'=>∃ m',m'<20-dn∧WS H v st mt rs ks m' σ' H',λ_ _ h=>h,?_⟩;have tk:ms.take (dn+1)=ms.take dn++[ms[dn]]:=LI hd;obtain⟨t,et⟩:∃ t,ms[dn]=t:=⟨_,rfl⟩;obtain⟨pre,tK⟩:∃ pre,ms.take dn=pre:=⟨_,rfl⟩;rw[et,tK]at tk;rw[tK]at W;have He:pre.length=dn:=(by rw[←tK,LM];omega);have htm:t∈ms:=(by rw[←et];exact Mb hd);have hin:t∈keys ks:=W.ins t htm;have at_:∀ {ns:List Int},ns.take (dn+1)=pre++[t]→ns[dn]?=some t:=λ{ns} e=>by
     have:(ns.take (dn+1))[dn]?=some t:=by rw[e,Mc (by omega),He,Nat.sub_self];rfl
     rwa[MW (Ng _)]at this
    have hat:∀ {ns:List Int},ns.take (dn+1)=pre++[t]→atI (ns.map V.int) (dn:Int)=some (.int t):=λe=>bK (by rw[Lz,at_ e];rfl);have v4:=hv.same s4;obtain⟨f1,f2,f3⟩:=DS v4 rt hin;have Hg:∀ t'∈ms,Lt (wy t') (on (wy t) ((0:Nat):Int)):=λt' h=>hlt t' h t (by rw[MC hd,et];exact LR) _;obtain⟨p,hp,ep⟩:=LH.mp hin;have efs:qk ks t=p.2:=(by rw[←ep];exact l8 rt.nd hp);refine⟨_,rfl,v,_,1,.ref d,rfl,rfl,bu ht s4,rfl,_,rfl,_,rfl,mt,_,_,.int t,rfl,rfl,SqL.of zm,hat tk,d,_,rfl,mZ v4.hd hin,ad t,rfl,⟨_,SqL.of f1⟩,
     hV (K:=K) (a:=ad t) (xs:=(qk ks t).map oV) (λj σ H6=>∃(v2 v3:Option V) (ms:List Int) (ea:Int→Addr) (wy:Int→Wy) (fr:Int→Option Int×Int),σ=[some (.ref v),some (.ref st),v2,v3,some (.ref mt),some (.int (dn:Int))]∧aq H H6∧Sd H6 st ms ea fr∧H6 mt=some (.lst (ms.map V.int))∧Wq rs ks ms wy fr pre∧ms.take (dn+1)=pre++[t]∧dn<ms.length∧(∀ t'∈ms,Lt (wy t') (on (wy t) (j:Int)))∧∀(q:Nat) n,q<j→(qk ks t)[q]?=some (some n)→In ms wy (on (wy t) q) n)
     ⟨v2,v3,ms,ea,wy,fr,rfl,s4,M,zm,W,tk,hd,Hg,(λq n h=>absurd h (MN _))⟩ (λj σ H6 _ ⟨_,_,_,_,_,_,_,s6,_⟩=>SqL.of (DS (hv.same s6) rt hin).1) ?_ ?_⟩
    ·clear M zm W hlt hdl ml hd tk et tK htm Hg s4 v4 f1
     rintro j x σ H6 u hx ⟨v2,v3,ms,ea,wy,fr,rfl,s6,M6,zm6,W,tk,hd,hlt,fN⟩ hut;have hlj:j<(qk ks t).length:=(by have:=(Lq.mp hx).1;rwa[Lp]at this);have fj:(qk ks t)[j]?=some (qk ks t)[j]:=Ls hlj;have hxe:x=oV (qk ks t)[j]:=by
      rw[Lz,fj]at hx;exact(LS hx).symm
     subst hxe;have htm:t∈ms:=LD (at_ tk);have ml6:=qo M6.nd W.ins;have up:∀ t'∈ms,Lt (wy t') (on (wy t) ((j+1:Nat):Int)):=λt' h=>Lt.trans (hlt t' h) (Lt.xE _ (by omega));refine⟨u,_,rfl,SqT.of ab,rfl,_,_,rfl,_,_,rfl,rfl,?_⟩;cases hc:(qk ks t)[j] with
     | none =>
      rw[hc]at fj;have s7:=aq.upd (o:=.tup [.int (j:Int),oV none]) hut;refine⟨_,rfl,rfl,_,rfl,b4 (b4 ⟨_,_,ms,ea,wy,fr,rfl,s6.trans s7,M6.same s7,s7 _ _ zm6,W,tk,hd,up,λq n hq e=>?_⟩)⟩;rcases Mi q j with z|z
      ·exact fN q n z e
      ·rw[show q=j by omega,fj]at e
       cases e
     | some n =>
      rw[hc]at fj;have hk:n∈keys ks:=f3 n (LD fj);have s7:=aq.upd (o:=.tup [.int (j:Int),oV (some n)]) hut;have M7:=M6.same s7;refine⟨_,rfl,rfl,_,rfl,cZ ⟨_,rfl,_,rfl,st,_,rfl,eG.k (k:=Sum.inl n) M7.hs,_,rfl,?_⟩⟩;rw[Sd.val];by_cases hn6:n∈ms
      ·rw[if_pos hn6]
       refine b4 ⟨_,_,ms,ea,wy,fr,rfl,s6.trans s7,M7,s7 _ _ zm6,W,tk,hd,up,λq n' hq e=>?_⟩;rcases Mi q j with z|z
       ·exact fN q n' z e
       ·have eq:q=j:=by omega
        subst eq;rw[fj]at e;cases e;exact In.of_lt hn6 (hlt n hn6)
      ·rw[if_neg hn6]
       refine cZ ⟨_,rfl,_,rfl,mt,_,_,.int t,rfl,rfl,SqL.of (s7 _ _ zm6),hat tk,_,rfl,by show 2≤sizeLine;decide,λu2 hu2=>?_⟩;have s8:=aq.upd (o:=.tup [V.int t,V.int (j:Int)]) hu2;obtain⟨H9,pd,M9,k9⟩:=(M7.same s8).put hn6 (f:=(some t,(j:Int))) ab (by omega);have zm8:=s8 _ _ (s7 _ _ zm6);have nms:mt≠st:=bI zm8 (M7.same s8).hs (by intro z;cases z);have zm9:=k9 _ _ nms zm8;have ntn:t≠n:=λz=>hn6 (by rw[←z];exact htm);have dep:(wy t).2.length≤dn:=by
        have:=W.bf.dep dn hd
        rwa[(Lq.mp (at_ tk)).2]at this
       refine⟨_,rfl,_,rfl,st,_,rfl,pd,?_⟩;refine⟨_,rfl,.inl ⟨rfl,_,SqL.of zm9⟩,_,rfl,mt,_,_,rfl,rfl,zm9,L6 (show(ms.map V.int).length≤12 by rw[Lp];omega) (by decide),?_⟩;refine⟨_,_,ms++[n],_,ext wy n (on (wy t) (j:Int)),_,rfl,λc u' g=>?_,M9.but zm9,by rw[LA];exact ab,W.put hn6 hlt (.step (p:=p) (by rw[ep];exact W.bf.snd t htm) hp (by rw[←efs];exact fj)) (by rw[rf];omega) ⟨htm,rfl⟩ hk,by rw[Ni (by omega)];exact tk,by rw[Lw];omega,?_,λq n' hq e=>?_⟩
       ·rw[ak (ai g Hd)]
        exact k9 _ _ (ai g hst) (s8 _ _ (s7 _ _ (s6 c u' g)))
       ·rw[de _ _ ntn]
        exact xF (p:=λc=>Lt c (on (wy t) ((j+1:Nat):Int))) hn6 up (Lt.xE _ (by omega))
       ·rw[de _ _ ntn]
        rcases Mi q j with z|z
        ·exact(fN q n' z e).put hn6 _
        ·have eq:q=j:=by omega
         subst eq;rw[fj]at e;cases e;exact In.new _ _ _ _
    ·clear M zm W hlt hdl ml hd tk et tK htm Hg s4 v4 f1
     rintro σ H6 ⟨v2,v3,ms,ea,wy,fr,rfl,s6,M6,zm6,W,tk,hd,hlt,fN⟩;rw[Lp]at fN hlt;have fin:∃ m',m'<20-dn∧WS H v st mt rs ks m' [some (.ref v),some (.ref st),v2,v3,some (.ref mt),some (.int ((dn:Int)+1))] H6:=by
      have ml6:=qo M6.nd W.ins;have htm:t∈ms:=LD (at_ tk);refine⟨20-(dn+1),by omega,dn+1,v2,v3,ms,ea,wy,fr,rfl,rfl,s6,M6,zm6,⟨W.bf,W.rts,W.ins,λt' h=>MR h,λt' h q n e=>?_⟩,λt' h' s' hs' q=>?_,hd⟩
      ·rw[tk]at h
       rcases LB.mp h with g|g
       ·exact W.don t' g q n e
       ·rw[Lr.mp g]at e ⊢
        exact fN q n (Lq.mp e).1 e
      ·have Li:Lt (wy t) (wy s'):=by
        have e1:ms=(pre++[t])++ms.drop (dn+1):=by rw[←tk,MO]
        have:=W.bf.asc
        rw[e1]at this;exact(MD.mp this).2.2 t (LJ _ (Lr.mpr rfl)) s' hs'
       exact Lt.trans (hlt t' h') (Li.on _ _)
     exact⟨_,rfl,_,1,rfl,rfl,fin⟩
   ·have hge:ms.length≤dn:=by
     have h1:¬(dn:Int)<((ms.map V.int).length:Int):=(by simpa using h);rw[Lp]at h1;omega
    rw[LF hge]at W;exact⟨_,rfl,k st ms ea wy fr H4 s4 hst M ml W.bf (W.cls rt.nd) W.ins⟩
end
end K21.R
end
section
namespace K21
open PySem L2 LX
section
variable{P:Program}{w:World}{K:W.Frag}{mg:Str→Option Value}{base:Heap}
def Okl(fs:List (Option Int))(ks:R.Fs):Prop:=∀ n,some n∈fs→n∈R.keys ks
structure Rv(rs:List (Option Int))(ks:R.Fs):Prop where
 nd:(ks.map (·.1)).Nodup
 pos:∀ p∈ks,0≤p.1
 kl:ks.length≤11
 rl:rs.length≤20
 fl:∀ p∈ks,p.2.length≤6
 top:∀ p∈ks,p.1≤1000
 sr:∀ n,some n∈rs→Sm n
 sf:∀ p∈ks,∀ n,some n∈p.2→Sm n
def Okv(rs:List (Option Int))(ks:R.Fs):Prop:=Okl rs ks∧∀ p∈ks,Okl p.2 ks
theorem Rv.rt{rs:List (Option Int)}{ks:R.Fs}(v:Rv rs ks)(h:Okv rs ks):R.Rt rs ks:=⟨v.nd,v.pos,v.kl,v.rl,v.fl,h.1,h.2,v.top⟩
def Au:Sp:=λvs H Q E=>∃ l d o ad fs ks,vs=[.ref l,.ref d]∧H l=some (.lst (fs.map R.oV))∧H d=some (.frz o (.dK (R.kvl ad ks)))∧(∀ n,some n∈fs→Sm n)∧(Okl fs ks→Q .non H)∧(¬Okl fs ks→Bad 243 H E)
abbrev pM:List Str:=["told", "fields", "t"]
theorem iy:ar pM ["told", "fields"] (ao i7):=fsc
theorem iB(T:Txt w K mg):Ok P w K mg base 3 419 ["told", "fields"] (Au):=by
 refine T.o2 "look_at_told" iy λcdv A' outer s' H vs Q E hr h=>?_;obtain⟨l,d,o,ad,fs,ks,rfl,hl,hd,sm,k,kb⟩:=h;have hu:=bX hr;refine⟨_,(PSs.xr (ag (bq CY rfl (bh (pv 0)) (aL (i:=2) iy.nd rfl (Or.inl rfl))
   (ag (aO (PW.pt (pw_and (az gF (pv 2) bH (aF _)) (pw_and1 (cA (bo hu (pv 2) (pv 1)) (by with_unfolding_all rfl)))))
    (ag (bF rfl A0 ((av T).e 243 hr (fO λ_ _ _ q=>q) (aa (cu (aI bV (aI (dc (pv 2)) (aI bV cq)))) ah))))
    aC))))),?_⟩
 refine⟨_,rfl,l,rfl,⟨_,SqL.of hl⟩,cJ (K:=K) (a:=l) (xs:=fs.map R.oV) (λi σ H2=>H2=H∧(∀ n,some n∈fs.take i→n∈R.keys ks)∧∃ v2,σ=[some (.ref l),some (.ref d),v2]) ⟨rfl,(λ_ h=>nomatch h),none,rfl⟩ (λi σ H2 _ ⟨e,_⟩=>by rw[e];exact SqL.of hl) ?_ ?_⟩
 ·rintro i x σ H2 hx ⟨rfl,hi,v2,rfl⟩
  rw[Lz]at hx;obtain⟨y,hy,rfl⟩:=LG.mp hx;have tk:fs.take (i+1)=fs.take i++[y]:=by rw[Nf,hy];rfl
  simp only[da];cases y with
  | none=>exact⟨_,rfl,rfl,_,rfl,b4 (b4 ⟨rfl,(λn h=>by rw[tk]at h;exact(LB.mp h).elim (hi n) λh=>by cases Lr.mp h),_,rfl⟩)⟩
  | some n =>
   refine⟨_,rfl,rfl,_,rfl,cZ ⟨_,rfl,_,rfl,d,_,rfl,R.rb hd n,_,rfl,?_⟩⟩;by_cases c:n∈R.keys ks
   ·rw[if_pos c]
    exact b4 ⟨rfl,(λm h=>by rw[tk]at h;exact(LB.mp h).elim (hi m) λh=>by cases Lr.mp h;exact c),_,rfl⟩
   ·rw[if_neg c]
    exact cZ ⟨_,rfl,n,rfl,sm n (LD hy),λ_ _ ea hea=>aZ (T.ec 243) (λ_ q=>q) (kb λh=>c (h n (LD hy))) ea hea⟩
 ·rintro σ H2 ⟨rfl,hi,v2,rfl⟩
  rw[Lp,MU]at hi;exact k hi
def Av(K:W.Frag):Sp:=λvs H Q E=>∃ v r d o ad rs ks,vs=[.ref v]∧SqT K H v [.ref r,.ref d]∧R.Vw H r d o ad rs ks∧Rv rs ks∧(Okv rs ks→Q .non H)∧(¬Okv rs ks→Bad 243 H E)
abbrev pN:List Str:=["view", "fields", "t"]
theorem eB:ar pN ["view"] (ao i6):=fsc
theorem bA(T:Txt w K mg):Ok P w K mg base 4 412 ["view"] (Av K):=by
 refine T.o1 "look_at_view" eB λcdv A' outer s' H vs Q E hr h=>?_;obtain⟨v,r,d,o,ad,rs,ks,rfl,ht,hv,rv,k,kb⟩:=h;have hu:=bX hr;refine⟨_,(PSs.xr (af (aw (i:=1) eB.nd rfl (Or.inl rfl) (aD aB (pv 0) aj (λ_ _=>rfl)))
  (af (au ((iB T).c hr (fO λ_ _ _ q=>q) (aa (aD aB (pv 0) aj (λ_ _=>rfl)) (aa (pv 1) ah))))
  (ag (bq CY rfl (dj (pv 1)) (aL (i:=2) eB.nd rfl (Or.inl rfl))
   (af (aO (az kq (pv 2) aj (aF _))
    (ag (bF rfl A0 ((av T).e 243 hr (fO λ_ _ _ q=>q) (aa (cu (aI (dc (pv 2)) (aI bV cq))) ah))))
    aC)
   (ag (au ((iB T).c hr (fO λ_ _ _ q=>q) (aa (bU hu (pv 1) (pv 2) (λ_ _=>rfl)) (aa (pv 1) ah))))))))))),?_⟩
 refine⟨_,rfl,v,_,1,.ref d,rfl,rfl,ht,rfl,?_⟩;refine⟨_,rfl,v,_,0,.ref r,rfl,rfl,ht,rfl,_,rfl,r,d,o,ad,rs,ks,rfl,hv.hr,hv.hd,rv.sr,λok0=>?_,λno=>kb λh=>no h.1⟩;refine⟨_,rfl,d,o,_,rfl,hv.hd,eI (d:=d) (o:=o) (kvs:=R.kvl ad ks) (λi σ H2=>H2=H∧(∀ p∈ks.take i,Okl p.2 ks)∧∃ v2,σ=[some (.ref v),some (.ref d),v2]) ⟨rfl,(λ_ h=>nomatch h),none,rfl⟩ (λi σ H2 _ ⟨e,_⟩=>by rw[e];exact hv.hd) ?_ ?_⟩
 ·rintro i p σ H2 hx ⟨rfl,hi,v2,rfl⟩
  obtain⟨q,hq,eq,rfl⟩:=R.wJ hx;have h0:=rv.pos q hq;have tk:ks.take (i+1)=ks.take i++[q]:=by rw[Nf,eq];rfl
  simp only[da];refine⟨_,rfl,_,0,rfl,rfl,_,rfl,aH (λh=>?_) (λ_=>?_)⟩
  ·have h1:q.1<0:=by simpa using h
   omega
  ·refine⟨_,rfl,_,rfl,d,_,rfl,R.mZ hv.hd (L5 hq),_,rfl,ad q.1,d,o,ad,q.2,ks,rfl,hv.hl q hq,hv.hd,rv.sf q hq,λokq=>?_,λno=>kb λh=>no (h.2 q hq)⟩
   exact⟨rfl,(λp h=>by rw[tk]at h;exact(LB.mp h).elim (hi p) λh=>by rw[Lr.mp h];exact okq),_,rfl⟩
 ·rintro σ H2 ⟨rfl,hi,v2,rfl⟩
  have ln:(R.kvl ad ks).length=ks.length:=Lp _;rw[ln,MU]at hi;exact k ⟨ok0,hi⟩
end
section
variable{P:Program}{w:World}{K:W.Frag}{x qual:Str}{st:Stmt}{f:Addr}{fd:FuncData}
theorem _root_.L2.Fun.b1{p0:Str}(F:Fun K x qual st f fd)(h:∀(kV doc pm:Value) (an:Option Addr) (cdv ct:Value) (u0:Value),bindArgs (PySem.W.fnOf x qual (di st) (aN st) (ao st) .none kV doc pm an cdv ct) ⟨[u0],[]⟩=pure (([p0]:List Str).zip [u0]):=by intros;rfl):Binds K fd [p0] []:=F.binds (ps:=[p0]) λkV doc pm an cdv ct us hl=>match us,hl with|[u0],_=>h kV doc pm an cdv ct u0
theorem _root_.L2.Fun.b2{p0 p1:Str}(F:Fun K x qual st f fd)(h:∀(kV doc pm:Value) (an:Option Addr) (cdv ct:Value) (u0 u1:Value),bindArgs (PySem.W.fnOf x qual (di st) (aN st) (ao st) .none kV doc pm an cdv ct) ⟨[u0,u1],[]⟩=pure (([p0,p1]:List Str).zip [u0,u1]):=by intros;rfl):Binds K fd [p0,p1] []:=F.binds (ps:=[p0,p1]) λkV doc pm an cdv ct us hl=>match us,hl with|[u0,u1],_=>h kV doc pm an cdv ct u0 u1
end
section
variable{P:Program}{w:World}{K:W.Frag}{mg:Str→Option Value}{base:Heap}
theorem lP(T:Txt w K mg):Ok P w K mg base 1 989 ["script", "k"] (R.wI K) :=
 have F:=T.fnn (st:=jn) (f:=989) "_law_cell" "_law_cell"
 ⟨⟨T.e,T.mm,T.zz⟩,R.C0 F T.z,F.b2⟩
theorem jh(T:Txt w K mg):Ok P w K mg base 1 1003 ["cell"] (R.qA) :=
 have F:=T.fnn (st:=gy) (f:=1003) "_law_digits" "_law_digits"
 ⟨⟨T.e,T.mm,T.zz⟩,R.yG F T.z,F.b1⟩
theorem bT(T:Txt w K mg):Ok P w K mg base 1 433 ["view"] (R.xG K) :=
 have F:=T.fnn (st:=eS) (f:=433) "last_steps" "last_steps"
 ⟨⟨T.e,T.mm,T.zz⟩,R.As F T.z T.z T.z,F.b1⟩
theorem DT{ms:List Int}{ea:Int→Addr}:Kys (ms.map λt=>((Sum.inl t:Key),V.ref (ea t))) ms:=by unfold Kys;rw[LO];rfl
def DU(K:W.Frag):Sp:=λvs H Q E=>∃ v r d o ad rs ks,vs=[.ref v]∧SqT K H v [.ref r,.ref d]∧R.Vw H r d o ad rs ks∧Rv rs ks∧(Okv rs ks→∀ x H',aq H H'→Q x H')∧(¬Okv rs ks→Bad 243 H E)
abbrev yI:List Str:=["view"]
theorem vY:ar yI ["view"] (ao rF):=fsc
theorem vZ(T:Txt w K mg):Ok P w K mg base 5 384 ["view"] (DU K):=by
 refine T.o1 "reached" vY λcdv A' outer s' H vs Q E hr h=>?_;obtain⟨v,r,d,o,ad,rs,ks,rfl,ht,hv,rv,k,kb⟩:=h;refine⟨_,(af (au ((bA T).c hr px (aa (pv 0) ah)))
  (ag (aA (aK (dD rfl) rfl T.z PyProof.Rows.Boot.«sorted» (aa ((bT T).c hr px (aa (pv 0) ah)) ah))))),?_⟩
 refine⟨_,rfl,v,r,d,o,ad,rs,ks,rfl,ht,hv,rv,λok=>?_,kb⟩;refine⟨_,rfl,v,r,d,o,ad,rs,ks,rfl,ht,hv,rv.rt ok,λst ms ea wy fr H1 s1 hst M ml B C ins=>?_⟩;have kl:=rv.kl;exact⟨st,_,ms,rfl,.inl M.hs,DT,by omega,λl out hl po pw=>k ok _ _ (s1.trans (aq.upd hl))⟩
def yJ(K:W.Frag):Sp:=λvs H Q E=>∃(v r d:Addr) (t:Int) (o:Obj) (ad:Int→Addr) (ks:R.Fs),vs=[.ref v,.int t]∧SqT K H v [.ref r,.ref d]∧H d=some (.frz o (.dK (R.kvl ad ks)))∧Sm t∧(t∈R.keys ks→Q .non H)∧(t∉R.keys ks→Bad 243 H E)
abbrev oO:List Str:=["view", "thing"]
theorem ng:ar oO ["view", "thing"] (ao ib):=fsc
theorem dW(T:Txt w K mg):Ok P w K mg base 3 426 ["view", "thing"] (yJ K):=by
 refine T.o2 "look_at_thing" ng λcdv A' outer s' H vs Q E hr h=>?_;obtain⟨v,r,d,t,o,ad,ks,rfl,ht,hd,sm,k,kb⟩:=h;have hu:=bX hr;refine⟨_,(ag (aO (cA (bo hu (pv 1) (aD aB (pv 0) aj (λ_ _=>rfl))) (by with_unfolding_all rfl))
   (ag (bF rfl dE ((av T).e 243 hr px (aa (cu (aI bV (aI (dc (pv 1)) cq))) ah))))
   aC)),?_⟩
 refine⟨_,rfl,_,rfl,v,_,1,.ref d,rfl,rfl,ht,rfl,d,_,rfl,R.rb hd t,_,rfl,?_⟩;by_cases c:t∈R.keys ks
 ·rw[if_pos c]
  exact b4 (k c)
 ·rw[if_neg c]
  exact cZ ⟨_,rfl,t,rfl,sm,λ_ _ ea hea=>aZ (T.ec 243) (λ_ q=>q) (kb c) ea hea⟩
def DV(K:W.Frag):Sp:=λvs H Q E=>∃ v r d o ad rs ks,∃ t:Int,vs=[.ref v,.int t]∧SqT K H v [.ref r,.ref d]∧R.Vw H r d o ad rs ks∧Rv rs ks∧Sm t∧(Okv rs ks∧t∈R.keys ks→∀ x H',aq H H'→Q x H')∧(¬(Okv rs ks∧t∈R.keys ks)→Bad 243 H E)
def WB(H:Hp)(v st pl:Addr)(t:Int)(ms:List Int)(ea:Int→Addr)(wy:Int→R.Wy)(fr:Int→Option Int×Int)(m:Nat)(σ:St)(H4:Hp):Prop:=∃(s:Int) (ns:List Int),m=(wy s).2.length∧σ=[some (.ref v),some (.int t),some (.ref st),some (.ref pl),some (.ref (ea s))]∧aq H H4∧R.Sd H4 st ms ea fr∧H4 pl=some (.lst (ns.map V.int))∧s∈ms∧wy t=((wy s).1,(wy s).2++ns.reverse)
abbrev Aw:List Str:=["view", "thing", "steps", "places", "step"]
theorem hR:ar Aw ["view", "thing"] (ao uF):=fsc
theorem yK(T:Txt w K mg):Ok P w K mg base 5 391 ["view", "thing"] (DV K):=by
 refine T.o2 "way_to" hR λcdv A' outer s' H vs Q E hr h=>?_;obtain⟨v,r,d,o,ad,rs,ks,t,rfl,ht,hv,rv,sm,k,kb⟩:=h;have hu:=bX hr;refine⟨_,(PSs.xr (af (au ((bA T).c hr (fO λ_ _ _ q=>q) (aa (pv 0) ah)))
  (af (au ((dW T).c hr (fO λ_ _ _ q=>q) (aa (pv 0) (aa (pv 1) ah))))
  (af (aw (i:=2) hR.nd rfl (Or.inl rfl) ((bT T).c hr (fO λ_ _ _ q=>q) (aa (pv 0) ah)))
  (af (aO (cA (bo hu (pv 1) (pv 2)) (by with_unfolding_all rfl))
   (ag (aA bH))
   aC)
  (af (aw (i:=3) hR.nd rfl (Or.inl rfl) (bM ah))
  (af (aw (i:=4) hR.nd rfl (Or.inl rfl) (bU hu (pv 2) (pv 1) (λ_ _=>rfl)))
  (af (qt CY (az gF (aD aB (pv 4) aj (λ_ _=>rfl)) bH (aF _))
   (af (au (kr PySem.F.plainAttrs_list PySem.F.slot_list_append PySem.F.type_list_append cw (pv 3) (aa (aD aB (pv 4) aj (λ_ _=>rfl)) ah)))
   (ag (aw (i:=4) hR.nd rfl (Or.inl rfl) (bU hu (pv 2) (aD aB (pv 4) aj (λ_ _=>rfl)) (λ_ _=>rfl))))))
  (ag (aA (aX (aa (aD aB (pv 4) aj (λ_ _=>rfl)) (aa (yF rfl rfl T.z PyProof.Rows.Boot.«tuple» rfl T.z PyProof.Rows.Boot.«reversed» (pv 3)) ah))))))))))))),?_⟩
 refine⟨_,rfl,v,r,d,o,ad,rs,ks,rfl,ht,hv,rv,λok=>?_,λno=>kb λh=>no h.1⟩;have rt:=rv.rt ok;refine⟨_,rfl,_,rfl,v,r,d,t,o,ad,ks,rfl,ht,hv.hd,sm,λhin=>?_,λno=>kb λh=>no h.2⟩;have kx:=k ⟨ok,hin⟩;refine⟨_,rfl,v,r,d,o,ad,rs,ks,rfl,ht,hv,rt,λst ms ea wy fr H1 s1 hst M ml B C ins=>?_⟩;refine⟨_,rfl,_,rfl,st,_,rfl,eG.k (k:=Sum.inl t) M.hs,_,rfl,?_⟩;rw[R.Sd.val];by_cases htm:t∈ms
 ·rw[if_pos htm]
  refine b4 ?_;have wl:∀ {s},s∈ms→(wy s).2.length<ks.length:=λ{s} hs=>by
   obtain⟨i,hi,e⟩:=List.getElem_of_mem hs
   have:=B.dep i hi
   rw[e]at this;omega
  refine⟨by show 0≤sizeLine;decide,λpl hpl=>?_⟩;have dg:∀ {Hx:Hp},R.Sd Hx st ms ea fr→∀ {n},n∈ms→eG Hx st (.int n) (some (V.ref (ea n))):=λM n h=>by
   have:=eG.k (k:=Sum.inl n) M.hs
   rwa[R.Sd.val,if_pos h]at this
  have s2:=aq.upd (o:=.lst []) hpl;have Lj:H pl=none:=s1.free hpl;have M2:=M.same s2;have kl:=rt.kl;refine⟨_,rfl,_,rfl,st,_,rfl,dg M2 htm,?_⟩;refine⟨WB H v st pl t ms ea wy fr,⟨_,t,[],rfl,rfl,s1.trans s2,M2,ab,htm,by rw[List.reverse_nil,Ms]⟩,?_⟩;rintro m σ H4 ⟨s',ns,rfl,rfl,s4,M4,zp,hs,ew⟩;have he:=M4.he s' hs;have hB:=B.fro s' hs;have lw:(wy t).2.length=(wy s').2.length+ns.length:=by rw[ew];simp
  have lt:=wl htm;rcases ef:fr s' with⟨fo,q⟩;rw[ef]at he hB;refine⟨_,rfl,ea s',_,0,R.oV fo,rfl,rfl,SqT.of he,rfl,rfl,_,rfl,?_⟩;cases fo with
  | none =>
   refine b4 ⟨_,rfl,ea s',_,1,.int q,rfl,rfl,SqT.of he,rfl,_,rfl,pl,_,rfl,zp,λtp htp=>⟨by show 2≤sizeLine;decide,λa ha=>?_⟩⟩;exact kx _ _ ((s4.trans (aq.upd htp)).trans (aq.upd ha))
  | some c =>
   have hB:c∈ms∧wy s'=R.on (wy c) q:=hB;have lc:(wy s').2.length=(wy c).2.length+1:=(by rw[hB.2];exact R.rf _ _);refine cZ ⟨λσ' H'=>∃ m',m'<(wy s').2.length∧WB H v st pl t ms ea wy fr m' σ' H',λ_ _ h=>h,?_⟩;refine⟨_,rfl,.inl ⟨rfl,_,SqL.of zp⟩,_,rfl,ea s',_,1,.int q,rfl,rfl,SqT.of he,rfl,pl,_,_,rfl,rfl,zp,L6 (show(ns.map V.int).length≤12 by rw[Lp];omega) (by decide),?_⟩;have M5:=M4.but (ys:=ns.map V.int++[V.int q]) zp;have he5:=M5.he s' hs;rw[ef]at he5;refine⟨_,rfl,_,rfl,ea s',_,0,.int c,rfl,rfl,SqT.of he5,rfl,st,_,rfl,dg M5 hB.1,_,?_,c,ns++[q],rfl,rfl,λc' u' g=>?_,M5,by rw[LA];exact ab,hB.1,?_⟩
   ·omega
   ·rw[ak (ai g Lj)]
    exact s4 c' u' g
   ·rw[ew,hB.2,List.reverse_append]
    show((wy c).1,((wy c).2++[q])++ns.reverse)=((wy c).1,(wy c).2++([q]++ns.reverse));rw[Nc]
 ·rw[if_neg htm]
  exact cZ (kx _ H1 s1)
theorem EO(ns:List Int):(ns.map some).map R.oV=ns.map V.int:=by rw[LO];rfl
def C9(K:W.Frag):Sp:=λvs H Q E=>∃ v r d th o ad rs ks,∃ ns:List Int,vs=[.ref v,.ref th]∧SqT K H v [.ref r,.ref d]∧R.Vw H r d o ad rs ks∧Rv rs ks∧H th=some (.lst (ns.map V.int))∧ns.length≤20∧(∀ n∈ns,Sm n)∧(Okv rs ks∧(∀ n∈ns,n∈R.keys ks)→∀ x H',aq H H'→Q x H')∧(¬(Okv rs ks∧∀ n∈ns,n∈R.keys ks)→Bad 243 H E)
abbrev Ax:List Str:=["view", "things", "thing"]
theorem rZ:ar Ax ["view", "things"] (ao uG):=fsc
theorem yL(T:Txt w K mg):Ok P w K mg base 5 398 ["view", "things"] (C9 K):=by
 refine T.o2 "led_to" rZ λcdv A' outer s' H vs Q E hr h=>?_;obtain⟨v,r,d,th,o,ad,rs,ks,ns,rfl,ht,hv,rv,hth,hz,sm,k,kb⟩:=h;refine⟨_,(PSs.xr (af (au ((bA T).c hr (fO λ_ _ _ q=>q) (aa (pv 0) ah)))
  (af (bq CY rfl (bh (pv 1)) (aL (i:=2) rZ.nd rfl (Or.inl rfl))
   (ag (au ((dW T).c hr (fO λ_ _ _ q=>q) (aa (pv 0) (aa (pv 2) ah))))))
  (ag (aA (aK (dD rfl) rfl T.z PyProof.Rows.Boot.«sorted» (aa ((bT T).c hr (fO λ_ _ _ q=>q) (aa (aX (aa (pv 1) (aa (aD aB (pv 0) aj (λ_ _=>rfl)) ah))) ah)) ah))))))),?_⟩
 refine⟨_,rfl,v,r,d,o,ad,rs,ks,rfl,ht,hv,rv,λok=>?_,λno=>kb λh=>no h.1⟩;have rt:=rv.rt ok;refine⟨_,rfl,th,rfl,⟨_,SqL.of hth⟩,cJ (K:=K) (a:=th) (xs:=ns.map V.int) (λi σ H2=>H2=H∧(∀ n∈ns.take i,n∈R.keys ks)∧∃ v2,σ=[some (.ref v),some (.ref th),v2]) ⟨rfl,(λ_ h=>nomatch h),none,rfl⟩ (λi σ H2 _ ⟨e,_⟩=>by rw[e];exact SqL.of hth) ?_ ?_⟩
 ·rintro i x σ H2 hx ⟨rfl,hi,v2,rfl⟩
  rw[Lz]at hx;obtain⟨t,htj,rfl⟩:=LG.mp hx;have mt:=LD htj;exact⟨_,rfl,_,rfl,v,r,d,t,o,ad,ks,rfl,ht,hv.hd,sm t mt,λc=>⟨rfl,(λn h=>by rw[Nf,htj]at h;exact(LB.mp h).elim (hi n) λh=>by cases Lr.mp h;exact c),_,rfl⟩,λno=>kb λh=>no (h.2 t mt)⟩
 ·rintro σ H2 ⟨rfl,hi,v2,rfl⟩
  rw[Lp,MU]at hi;have kx:=k ⟨ok,hi⟩;refine⟨_,rfl,_,rfl,v,_,1,.ref d,rfl,rfl,ht,rfl,by show 2≤sizeLine;decide,λt htt=>?_⟩;have s1:=aq.upd (o:=.tup [V.ref th,V.ref d]) htt;have v1:=hv.same s1;have kl:=rt.kl;refine⟨t,th,d,o,ad,ns.map some,ks,rfl,SqT.of ab,⟨by rw[EO];exact s1 _ _ hth,v1.hd,v1.hl⟩,⟨rt.nd,rt.pos,rt.kl,by rw[Lp];exact hz,rt.fl,λn h=>?_,rt.fi,rt.top⟩,λst ms ea wy fr H3 s3 hst M ml B C ins=>?_⟩
  ·obtain⟨m,hm,e⟩:=LH.mp h
   injection e with e;rw[←e];exact hi m hm
  ·exact⟨st,_,ms,rfl,.inl M.hs,DT,by omega,λl out hl po pw=>kx _ _ ((s1.trans s3).trans (aq.upd hl))⟩
end
end K21
end
section
namespace K21.R
open PySem L2 LX HT
section
variable{P:Program}{w:World}{K:W.Frag}{mg:Str→Option Value}{base:Heap}
def xI(K:W.Frag):Sp:=λvs H Q _=>∃(v r d:Addr) (o:Obj) (ad:Int→Addr) (rs:List (Option Int)) (ks:Fs),vs=[.ref v]∧SqT K H v [.ref r,.ref d]∧Vw H r d o ad rs ks∧Rt rs ks ∧
 ∀(v' r' d':Addr) (o':Obj) (ad':Int→Addr) (H':Hp),aq H H'→H' v'=some (.tup [.ref r',.ref d'])→Vw H' r' d' o' ad' rs ks→H r'=none→(∀ p∈ks,H (ad' p.1)=none∧ad' p.1≠r')→(∀ p∈ks,∀ q∈ks,ad' p.1=ad' q.1→p.1=q.1)→Q (.ref v') H'
theorem Ay{f:Addr}{fd:FuncData}(F:Fun K "_law_copy" "_law_copy" DN f fd)(zl:mg "list" = none):gZ P w K mg base (CXE P w) 1 f fd ["view"] (xI K):=by
 refine F.okE scY (λvs H Q E h=>?_) (λcdv A outer s H vs Q E hr h=>?_)
 ·obtain⟨v,r,d,o,ad,rs,ks,rfl,_⟩:=h
  rfl
 ·obtain⟨v,r,d,o,ad,rs,ks,rfl,ht,hv,rt,k⟩:=h
  have hu:=bX hr;refine⟨_,PSs.nox (af (aw (i:=1) scY.nd rfl (Or.inl rfl) bQ)
   (af (bq LP rfl (dj (aD aB (pv 0) aj (λ_ _=>rfl))) (aL (i:=2) scY.nd rfl (Or.inl rfl))
    (ag (bY hu (pv 1) (pv 2) (cM dC rfl zl PyProof.Rows.Boot.«list» (aa (bU hu (aD aB (pv 0) aj (λ_ _=>rfl)) (pv 2) (λ_ _=>rfl)) ah)) rfl)))
   (ag (aA (eN (aX (aa (cM dC rfl zl PyProof.Rows.Boot.«list» (aa (aD aB (pv 0) aj (λ_ _=>rfl)) ah)) (aa (pv 1) ah)))))))),?_⟩
  refine λp6 hp6=>?_;have np6:∀ {Hx:Hp} {kvs:List (Key×V)} {c:Addr} {xs:List V},Hx p6=some (.dK kvs)→Hx c=some (.lst xs)→c≠p6:=λg1 g2=>bI g2 g1 (by intro z;cases z);have s6:aq H (upd H p6 (.dK [])):=aq.upd hp6;refine⟨_,rfl,v,_,1,.ref d,rfl,rfl,bu ht s6,rfl,d,o,_,rfl,s6 _ _ hv.hd,eI (d:=d) (o:=o) (kvs:=kvl ad ks) (λi σ H2=>∃(v2:Option V) (ad':Int→Addr),σ=[some (.ref v),some (.ref p6),v2]∧aq H H2∧H2 p6=some (.dK (kvl ad' (ks.take i)))∧(∀ p∈ks.take i,H (ad' p.1)=none∧H2 (ad' p.1)=some (.lst (p.2.map oV)))∧∀ p∈ks.take i,∀ q∈ks.take i,ad' p.1=ad' q.1→p.1=q.1)
   ⟨none,λ_=>0,rfl,s6,ab,(λp hp=>nomatch hp),(λp hp=>nomatch hp)⟩ (λi σ H2 _ ⟨_,_,_,s2,_⟩=>s2 _ _ hv.hd) ?_ ?_⟩
  ·rintro i p σ H2 hx ⟨v2,ad',rfl,s2,g6,gl,gi⟩
   obtain⟨q,hq,hqi,rfl⟩:=wJ hx;obtain⟨hlt,eq⟩:=Lq.mp hqi;have tk:ks.take (i+1)=ks.take i++[q]:=(by rw[LI hlt,eq]);have v2':=hv.same s2;have hin:q.1∈keys ks:=L5 hq;refine⟨_,rfl,v,_,1,.ref d,rfl,rfl,bu ht s2,rfl,_,rfl,d,_,rfl,mZ v2'.hd hin,ad q.1,_,rfl,.inl (SqL.of (v2'.hl q hq)),λl hl=>?_⟩;have nk:q.1∉keys (ks.take i):=λg=>by
    have h1:(keys (ks.take i)++[q.1]).Nodup:=by
     have e9:keys (ks.take (i+1))=keys (ks.take i)++[q.1]:=by
      show(ks.take (i+1)).map (·.1)=_;rw[tk,LA];rfl
     rw[←e9];exact((Nu _ _).map _).nodup rt.nd
    exact(Mq.mp h1).2.2 _ g _ (Lr.mpr rfl) rfl
   have g63:=aq.upd (o:=.lst (q.2.map oV)) hl _ _ g6;have kl:(kvl ad' (ks.take i)).length<sizeLine:=by
    unfold kvl
    have:=rt.kl
    rw[Lp,LM];exact L6 (show min i ks.length≤11 by omega) (by decide)
   refine⟨_,rfl,_,rfl,p6,_,rfl,jS.k (k:=Sum.inl q.1) g63 kl,?_⟩;rw[dM _ (by rw[gU,if_neg nk])];have nl:l≠p6:=λz=>by rw[z,g6]at hl;cases hl
   have cg:kvl ad' (ks.take i)++[(Sum.inl q.1,V.ref l)]=kvl (λk=>if k=q.1 then l else ad' k) (ks.take (i+1)):=by
    rw[tk];unfold kvl;rw[LA];congr 1
    ·refine L3 λp hp=>?_
     have e9:(if p.1=q.1 then l else ad' p.1)=ad' p.1:=if_neg λz=>nk (by rw[←z];exact L5 hp);show _=(Sum.inl p.1,V.ref (if p.1=q.1 then l else ad' p.1));rw[e9]
    ·simp
   refine⟨some (.int q.1),λk=>if k=q.1 then l else ad' k,rfl,λc u g=>?_,?_,?_,?_⟩
   ·rw[ak (ai g hp6)]
    exact aq.upd hl _ _ (s2 _ _ g)
   ·rw[ab,cg]
   ·intro p hp
    rw[tk]at hp;rcases LB.mp hp with h|h
    ·show H (if p.1=q.1 then l else ad' p.1)=none∧upd (upd H2 l _) p6 _ (if p.1=q.1 then l else ad' p.1)=_
     have g1:=(gl p h).2;rw[if_neg λz=>nk (by rw[←z];exact L5 h),ak (np6 g6 g1)];exact⟨(gl p h).1,aq.upd hl _ _ g1⟩
    ·rw[Lr.mp h]
     show H (if q.1=q.1 then l else _)=none∧upd (upd H2 l _) p6 _ (if q.1=q.1 then l else _)=_;rw[if_pos rfl,ak nl,ab];exact⟨s2.free hl,rfl⟩
   ·intro p hp p' hp'
    rw[tk]at hp hp';have old:∀ {x:Int×List (Option Int)},x∈ks.take i→(if x.1=q.1 then l else ad' x.1)=ad' x.1∧ad' x.1≠l:=λ{x} h=>⟨if_neg λz=>nk (by rw[←z];exact L5 h),λz=>by
     have g1:=(gl x h).2;rw[z,hl]at g1;cases g1⟩
    show(if p.1=q.1 then l else ad' p.1)=(if p'.1=q.1 then l else ad' p'.1)→_;rcases LB.mp hp with h|h<;>rcases LB.mp hp' with h'|h'
    ·rw[(old h).1,(old h').1]
     exact gi p h p' h'
    ·rw[(old h).1,Lr.mp h',if_pos rfl]
     exact λz=>absurd z (old h).2
    ·rw[(old h').1,Lr.mp h,if_pos rfl]
     exact λz=>absurd z.symm (old h').2
    ·rw[Lr.mp h,Lr.mp h']
     exact λ_=>rfl
  ·rintro σ H2 ⟨v2,ad',rfl,s2,g6,gl,gi⟩
   have el:(kvl ad ks).length=ks.length:=(by unfold kvl;rw[Lp]);rw[el,LF (Lu _)]at g6 gl gi;have v2':=hv.same s2;refine⟨_,rfl,v,_,0,.ref r,rfl,rfl,bu ht s2,rfl,r,_,rfl,.inl (SqL.of v2'.hr),λl hl=>⟨_,rfl,by show 2≤sizeLine;decide,λt htt=>?_⟩⟩;have g64:=aq.upd (o:=.lst (rs.map oV)) hl _ _ g6;refine⟨p6,kvl ad' ks,aq.upd htt _ _ g64,λo'=>?_⟩;have nv:t≠p6:=λz=>by rw[z,g64]at htt;cases htt
   have up:∀ {c:Addr} {xs:List V},upd H2 l (.lst (rs.map oV)) c=some (.lst xs)→upd (upd (upd H2 l (.lst (rs.map oV))) t (.tup [V.ref l,V.ref p6])) p6 (.frz o' (.dK (kvl ad' ks))) c=some (.lst xs):=λg=>by
    rw[ak (np6 g64 g)];exact aq.upd htt _ _ g
   refine k t l p6 o' ad' _ (λc u g=>?_) ?_ ⟨up ab,ab,λp hp=>up (aq.upd hl _ _ (gl p hp).2)⟩ (s2.free hl) (λp hp=>⟨(gl p hp).1,λz=>by have g1:=(gl p hp).2;rw[z,hl]at g1;cases g1⟩) gi
   ·rw[ak (ai g hp6)]
    exact aq.upd htt _ _ (aq.upd hl _ _ (s2 _ _ g))
   ·rw[ak nv,ab]
end
end K21.R
end
section
namespace K21
open PySem L2 LX
section
variable{P:Program}{w:World}{K:W.Frag}{mg:Str→Option Value}{base:Heap}
theorem ji(T:Txt w K mg):Ok P w K mg base 2 1008 ["script", "many"] (R.qB K) :=
 have F:=T.fnn (st:=gz) (f:=1008) "_law_stream" "_law_stream"
 ⟨⟨T.e,T.mm,T.zz⟩,R.yH F T.z T.z (jh T).g T.m T.kp (jh (P:=P) (base:=base) T).b,F.b2⟩
theorem sW(T:Txt w K mg):Ok P w K mg base 3 1013 ["script"] (R.A7 K) :=
 have F:=T.fnn (st:=jo) (f:=1013) "_law_view" "_law_view"
 ⟨⟨T.e,T.mm,T.zz⟩,R.C7 F T.z T.z (lP T).g T.m T.kp (lP (P:=P) (base:=base) T).b (ji T).g T.m T.kp (ji (P:=P) (base:=base) T).b,F.b1⟩
theorem sX(T:Txt w K mg):Ok P w K mg base 1 1020 ["view"] (R.xI K) :=
 have F:=T.fnn (st:=jq) (f:=1020) "_law_copy" "_law_copy"
 ⟨⟨T.e,T.mm,T.zz⟩,R.Ay F T.z,F.b1⟩
def De(K:W.Frag):Sp:=λvs H Q _=>∃ v r d o ad rs ks,vs=[.ref v]∧SqT K H v [.ref r,.ref d]∧R.Vw H r d o ad rs ks∧Rv rs ks∧∀ b H',(b=true↔¬Okv rs ks)→aq H H'→Q (.bl b) H'
theorem ER{rs:List (Option Int)}{ks:R.Fs}{ns:List Int}(h:∀ n,n∈ns↔some n∈rs++ks.flatMap (·.2)∧n∉R.keys ks):(!decide (ns=[]))=true↔¬Okv rs ks:=by
 have e:(!decide (ns=[]))=true↔¬ns=[]:=by simp
 rw[e];refine not_congr ⟨λz=>?_,λok=>?_⟩
 ·subst z
  have g:∀ n,some n∈rs++ks.flatMap (·.2)→n∈R.keys ks:=λn q=>Mr λc=>nomatch (h n).mpr ⟨q,c⟩;exact⟨λn q=>g n (LW _ q),λp hp n q=>g n (LJ _ (Ny.mpr ⟨p,hp,q⟩))⟩
 ·refine List.eq_nil_iff_forall_not_mem.mpr λn hn=>?_
  obtain⟨q,c⟩:=(h n).mp hn;rcases LB.mp q with z|z
  ·exact c (ok.1 n z)
  ·obtain⟨p,hp,z⟩:=Ny.mp z
   exact c (ok.2 p hp n z)
abbrev qq:List Str:=["view", "told", "thing"]
theorem gu:ar qq ["view"] (ao ku):=fsc
theorem ux(T:Txt w K mg):Ok P w K mg base 1 1039 ["view"] (De K):=by
 refine T.o1 "_law_bad" gu λcdv A' outer s' H vs Q E hr h=>?_;obtain⟨v,r,d,o,ad,rs,ks,rfl,ht,hv,rv,k⟩:=h;have hu:=bX hr;have hu0:=Nat.lt_of_succ_lt hu;refine⟨_,(PSs.nox (af (aw (i:=1) gu.nd rfl (Or.inl rfl) (cM dC rfl T.z PyProof.Rows.Boot.«list» (aa (aD aB (pv 0) aj (λ_ _=>rfl)) ah)))
  (af (bq LP rfl (dj (aD aB (pv 0) aj (λ_ _=>rfl))) (aL (i:=2) gu.nd rfl (Or.inl rfl))
   (ag (aw (i:=1) gu.nd rfl (Or.inl rfl) (ay pY (pv 1) (bU hu (aD aB (pv 0) aj (λ_ _=>rfl)) (pv 2) (λ_ _=>rfl))))))
  (ag (aA (pQ (wD hu0) (uQ (cl:=[("view",s'.heap.objs.size+1)]) (x := "thing") (idx:=[0]) (NC:=["thing", "view"]) ?co1 rfl (bh (pv 1)) (λC fp s₀ H₀=>(PW.pt (pw_and (az gF (pv 0) bH (aF _)) (pw_and1 (cA (bo hu (pv 0) (aD (r:=Du K) aB (pv 1) aj (λ_ _=>rfl))) (by with_unfolding_all rfl)))))) (λC fp s₀ H₀=>(pv 0))) (bM ah) (aF _))))))),?_⟩
 case co1 =>
  exact bP (sc:=ao ku) (N:=qq) (ns:=["view"]) rfl rfl rfl (by decide +kernel) rfl rfl (by
   intro q hq;rw[Lr.mp hq];rfl)
 refine⟨_,rfl,v,_,0,.ref r,rfl,rfl,ht,rfl,r,_,rfl,.inl (SqL.of hv.hr),λl0 hl0=>?_⟩;have s0:=aq.upd (o:=.lst (rs.map R.oV)) hl0;refine⟨_,rfl,v,_,1,.ref d,rfl,rfl,R.bu ht s0,rfl,d,o,_,rfl,s0 _ _ hv.hd,eI (d:=d) (o:=o) (kvs:=R.kvl ad ks) (λi σ H2=>∃(v2:Option V) (l:Addr),σ=[some (.ref v),some (.ref l),v2]∧aq H H2∧H2 l=some (.lst ((rs++(ks.take i).flatMap (·.2)).map R.oV))∧(rs++(ks.take i).flatMap (·.2)).length≤20+6*i)
  ⟨none,l0,rfl,s0,by rw[Mu,Nz,Ms];exact ab,by rw[Mu,Nz,Ms];have:=rv.rl;omega⟩ (λi σ H2 _ ⟨_,_,_,s2,_⟩=>s2 _ _ hv.hd) ?_ ?_⟩
 ·rintro i p σ H2 hx ⟨v2,l,rfl,s2,gl,lz⟩
  obtain⟨q,hq,eq,rfl⟩:=R.wJ hx;have hlt:=(Lq.mp eq).1;have tk:ks.take (i+1)=ks.take i++[q]:=by rw[Nf,eq];rfl
  have v2':=hv.same s2;have fq:=rv.fl q hq;have kl:=rv.kl;have ef:rs++(ks.take (i+1)).flatMap (·.2)=(rs++(ks.take i).flatMap (·.2))++q.2:=by rw[tk,List.flatMap_append,Nc,List.flatMap_cons,Nz,Ms]
  refine⟨_,rfl,_,rfl,v,_,1,.ref d,rfl,rfl,R.bu ht s2,rfl,_,rfl,d,_,rfl,R.mZ v2'.hd (L5 hq),l,ad q.1,_,_,rfl,rfl,SqL.of gl,SqL.of (v2'.hl q hq),?_,λp hp=>?_⟩
  ·rw[Lp,Lp]
   exact LL (show _≤1000 by omega) (by decide)
  ·refine⟨_,p,rfl,s2.trans (aq.upd hp),?_,?_⟩
   ·rw[ef]
    exact ab.trans (by rw[←LA])
   ·rw[ef,Lw]
    omega
 ·rintro σ H2 ⟨v2,l,rfl,s2,gl,lz⟩
  have ln:(R.kvl ad ks).length=ks.length:=Lp _;have kl:=rv.kl;rw[ln,MU]at gl lz;obtain⟨gs,eg⟩:∃ gs,rs++ks.flatMap (·.2)=gs:=⟨_,rfl⟩;rw[eg]at gl lz;refine⟨_,rfl,l,rfl,⟨_,SqL.of gl⟩,λL hL=>?_⟩;refine vC (K:=K) (a:=l) (xs:=gs.map R.oV) (λi ys H8=>(∃ ns:List Int,ys=ns.map V.int∧ns.length≤i∧∀ n,n∈ns↔some n∈gs.take i∧n∉R.keys ks)∧aq H2 H8∧H8 L=some (.lst ys)) ⟨⟨[],rfl,Lu _,λn=>⟨(λh=>nomatch h),λh=>nomatch h.1⟩⟩,aq.upd hL,ab⟩
   (λi ys H8 hi ⟨⟨ns,e,l,_⟩,_,z⟩=>⟨z,by rw[e,Lp];exact l⟩) (λi ys H8 _ ⟨_,s8,_⟩=>SqL.of (s8 _ _ gl)) (by rw[Lp];exact LL (show _≤1000 by omega) (by decide)) (λi x ys H8 hx ⟨⟨ns,e,le,h⟩,s8,z⟩=>?_) (λys H8 ⟨⟨ns,e,le,h⟩,s8,z⟩=>?_)
  ·rw[Lz]at hx
   obtain⟨y,hy,rfl⟩:=LG.mp hx;have tk:gs.take (i+1)=gs.take i++[y]:=(by rw[Nf,hy];rfl);have s28:=s2.trans s8;cases y with
   | none=>exact⟨_,rfl,rfl,_,rfl,b4 (b4 ⟨⟨ns,e,by omega,λn=>by rw[h n,tk];simp⟩,s8,z⟩)⟩
   | some n =>
    refine⟨_,rfl,rfl,_,rfl,cZ ⟨_,rfl,_,rfl,v,_,1,.ref d,rfl,rfl,R.bu ht s28,rfl,d,_,rfl,R.rb (s28 _ _ hv.hd) n,_,rfl,?_⟩⟩;by_cases c:n∈R.keys ks
    ·rw[if_pos c]
     refine b4 ⟨⟨ns,e,by omega,λm=>?_⟩,s8,z⟩;rw[h m,tk];refine and_congr_left λhm=>⟨LW _,λq=>(LB.mp q).elim id λq=>?_⟩;cases Lr.mp q;exact absurd c hm
    ·rw[if_neg c]
     refine cZ ⟨_,rfl,z,⟨ns++[n],by rw[e,LA];rfl,by rw[Lw];show ns.length+1≤_;omega,λm=>?_⟩,λc u g=>by rw[ak (ai g hL)];exact s8 c u g,ab⟩;rw[tk,LB,LB,h m,Lr,Lr];constructor
     ·rintro(⟨a,b⟩|rfl)
      ·exact⟨.inl a,b⟩
      ·exact⟨.inr rfl,c⟩
     ·rintro⟨a|a,b⟩
      ·exact .inl ⟨a,b⟩
      ·exact .inr (by injection a)
  ·rw[Lp,MU]at h
   refine⟨by show 0≤sizeLine;decide,λe2 he2=>⟨L,e2,ns,[],rfl,rfl,SqL.of (aq.upd he2 _ _ (by rw[←e];exact z)),SqL.of ab,k _ _ (ER λn=>by rw[eg];exact h n) (s2.trans (s8.trans (aq.upd he2)))⟩⟩
end
section
variable{P:Program}{w:World}{K:W.Frag}{mg:Str→Option Value}{base:Heap}
namespace R
def j1(ks:Fs)(x:Int)(g:List (Option Int)):Fs:=ks.map λp=>if p.1=x then(p.1,g) else p
theorem iO(x:Int)(g:List (Option Int))(p:Int×List (Option Int)):(if p.1=x then(p.1,g) else p).1=p.1:=by split<;>rfl
theorem mh(ks:Fs)(x:Int)(g:List (Option Int)):keys (j1 ks x g)=keys ks:=by
 unfold keys j1;rw[LO];exact L3 λp _=>iO x g p
theorem ES{rs:List (Option Int)}{ks:Fs}(rt:Rt rs ks){x:Int}{g:List (Option Int)}(hg:∀ n,some n∉g)(hl:g.length≤6):Rt rs (j1 ks x g):=by
 have mm:∀ p∈j1 ks x g,∃ q∈ks,p=if q.1=x then(q.1,g) else q:=λp hp=>by
  obtain⟨q,hq,e⟩:=LH.mp hp;exact⟨q,hq,e.symm⟩
 refine⟨by show(keys (j1 ks x g)).Nodup;rw[mh];exact rt.nd,λp hp=>?_,by unfold j1;rw[Lp];exact rt.kl,rt.rl,λp hp=>?_,λn hn=>by show n∈keys (j1 ks x g);rw[mh];exact rt.ri n hn,λp hp n hn=>?_,λp hp=>?_⟩
 ·obtain⟨q,hq,rfl⟩:=mm p hp
  rw[iO];exact rt.pos q hq
 ·obtain⟨q,hq,rfl⟩:=mm p hp
  split
  ·exact hl
  ·exact rt.fl q hq
 ·show n∈keys (j1 ks x g)
  rw[mh];obtain⟨q,hq,rfl⟩:=mm p hp;by_cases e:q.1=x
  ·rw[if_pos e]at hn
   exact absurd hn (hg n)
  ·rw[if_neg e]at hn
   exact rt.fi q hq n hn
 ·obtain⟨q,hq,rfl⟩:=mm p hp
  rw[iO];exact rt.top q hq
theorem Df{ad:Int→Addr}{ks:Fs}{x:Int}(hx:x∈keys ks)(g:List (Option Int))(e:Addr):putK (kvl ad ks) (Sum.inl x) (V.ref e)=kvl (λk=>if k=x then e else ad k) (j1 ks x g):=by
 have h1:((kvl ad ks).any λkv=>decide (kv.1=Sum.inl x))=true:=by
  rw[ju,gU,if_pos hx];rfl
 unfold putK;rw[if_pos h1];unfold kvl j1;rw[LO,LO];refine L3 λp _=>?_;show(if(Sum.inl p.1:Key)=Sum.inl x then(Sum.inl p.1,V.ref e) else(Sum.inl p.1,V.ref (ad p.1)))=(Sum.inl (if p.1=x then(p.1,g) else p).1,V.ref (if(if p.1=x then(p.1,g) else p).1=x then e else ad (if p.1=x then(p.1,g) else p).1));rw[iO];by_cases h:p.1=x
 ·rw[if_pos (by rw[h]),if_pos h]
 ·rw[if_neg (λz=>h (by injection z)),if_neg h]
end R
abbrev sg:List Str:=["view", "thing", "bare", "without"]
theorem kG:ar sg ["view", "thing"] (ao nA):=fsc
theorem wa(T:Txt w K mg):Ok P w K mg base 5 457 ["view", "thing"] (DV K):=by
 refine T.o2 "only_by" kG λcdv A' outer s' H vs Q E hr h=>?_;obtain⟨v,r,d,o,ad,rs,ks,x,rfl,ht,hv,rv,sm,k,kb⟩:=h;have hu:=bX hr;refine⟨_,(PSs.xr (af (au ((bA T).c hr (fO λ_ _ _ q=>q) (aa (pv 0) ah)))
  (af (au ((dW T).c hr (fO λ_ _ _ q=>q) (aa (pv 0) (aa (pv 1) ah))))
  (af (aw (i:=2) kG.nd rfl (Or.inl rfl) (cM vE rfl T.z PyProof.Rows.Boot.«dict» (aa (aD aB (pv 0) aj (λ_ _=>rfl)) ah)))
  (af (bY hu (pv 2) (pv 1) (bM ah) rfl)
  (af (aw (i:=3) kG.nd rfl (Or.inr rfl) ((bT T).c hr (fO λ_ _ _ q=>q) (aa (eN (aX (aa (aD aB (pv 0) aj (λ_ _=>rfl)) (aa (pv 2) ah)))) ah)))
  (ag (aA (aK si rfl T.z PyProof.Rows.Boot.«sorted» (aa (uQ (cl:=[("without",s'.heap.objs.size+1)]) (x := "t") (idx:=[3]) (NC:=["t", "without"]) (by exact bP (sc:=ao nA) (N:=sg) (ns:=["without"]) rfl rfl rfl (by decide +kernel) rfl rfl (by intro q hq;rw[Lr.mp hq];rfl)) rfl (dj (eN ((bT T).c hr (fO λ_ _ _ q=>q) (aa (pv 0) ah)))) (λC fp s₀ H₀=>cA (bo hu (pv 0) (pv 1)) (by with_unfolding_all rfl)) (λC fp s₀ H₀=>pv 0)) ah)))))))))),?_⟩
 refine⟨_,rfl,v,r,d,o,ad,rs,ks,rfl,ht,hv,rv,λok=>?_,λno=>kb λh=>no h.1⟩;have rt:=rv.rt ok;refine⟨_,rfl,_,rfl,v,r,d,x,o,ad,ks,rfl,ht,hv.hd,sm,λhx=>?_,λno=>kb λh=>no h.2⟩;have kx:=k ⟨ok,hx⟩;refine⟨_,rfl,v,_,1,.ref d,rfl,rfl,ht,rfl,d,_,rfl,R.vW hv,λb hb=>?_⟩;have s1:=aq.upd (o:=.dK (R.kvl ad ks)) hb;have kl:(R.kvl ad ks).length<sizeLine:=by
  unfold R.kvl
  have:=rt.kl
  rw[Lp];exact L6 this (by decide)
 refine⟨L8 _,λe he=>?_⟩;have s2:=s1.trans (aq.upd (o:=.lst []) he);have nb:e≠b:=λz=>by rw[z,ab]at he;cases he
 refine⟨_,rfl,_,rfl,b,_,rfl,jS.k (k:=Sum.inl x) (aq.upd he _ _ ab) kl,?_⟩;rw[R.Df hx [] e];obtain⟨H3,e3⟩:∃ H3,upd (upd (upd H b (.dK (R.kvl ad ks))) e (.lst [])) b (.dK (R.kvl (λk=>if k=x then e else ad k) (R.j1 ks x [])))=H3:=⟨_,rfl⟩;have s3:aq H H3:=λc u g=>by rw[←e3,ak (ai g hb)];exact s2 c u g
 have zb:H3 b=some (.dK (R.kvl (λk=>if k=x then e else ad k) (R.j1 ks x []))):=by rw[←e3];exact ab
 have ze:H3 e=some (.lst []):=by rw[←e3,ak nb];exact ab
 rw[e3];refine⟨_,rfl,v,_,0,.ref r,rfl,rfl,R.bu ht s3,rfl,_,rfl,by show 2≤sizeLine;decide,λt htt=>⟨b,_,aq.upd htt _ _ zb,λo2=>?_⟩⟩;obtain⟨H4,e4⟩:∃ H4,upd (upd H3 t (.tup [V.ref r,V.ref b])) b (.frz o2 (.dK (R.kvl (λk=>if k=x then e else ad k) (R.j1 ks x []))))=H4:=⟨_,rfl⟩;have nt:t≠b:=λz=>by rw[z,zb]at htt;cases htt
 have s4:aq H H4:=λc u g=>by rw[←e4,ak (ai g hb)];exact aq.upd htt _ _ (s3 c u g)
 have l4:∀ {c:Addr} {xs:List V},H3 c=some (.lst xs)→H4 c=some (.lst xs):=λ{c xs} g=>by
  rw[←e4,ak (bI g zb (by intro z;cases z))];exact aq.upd htt _ _ g
 have zt:H4 t=some (.tup [V.ref r,V.ref b]):=by rw[←e4,ak nt];exact ab
 have zb4:H4 b=some (.frz o2 (.dK (R.kvl (λk=>if k=x then e else ad k) (R.j1 ks x [])))):=by rw[←e4];exact ab
 rw[e4];have g0:∀ n:Int,some n∉([]:List (Option Int)):=λn h=>nomatch h;have vc:R.Vw H4 r b o2 (λk=>if k=x then e else ad k) rs (R.j1 ks x []):=by
  refine⟨s4 _ _ hv.hr,zb4,λp hp=>?_⟩;obtain⟨q,hq,rfl⟩:=LH.mp hp;show H4 (if(if q.1=x then(q.1,([]:List (Option Int))) else q).1=x then e else ad (if q.1=x then(q.1,([]:List (Option Int))) else q).1)=_;rw[R.iO];by_cases h:q.1=x
  ·rw[if_pos h,if_pos h]
   exact l4 ze
  ·rw[if_neg h,if_neg h]
   exact s4 _ _ (hv.hl q hq)
 refine⟨t,r,b,o2,_,rs,R.j1 ks x [],rfl,SqT.of zt,vc,R.ES rt g0 (L8 _),λwo mw ew wyw frw H5 s5 hwo M5 ml5 _ _ _=>?_⟩;have s5':=s4.trans s5;refine⟨_,rfl,v,r,d,o,ad,rs,ks,rfl,R.bu ht s5',hv.same s5',rt,λst ms ea wy fr H6 s6 hst M6 ml6 _ _ _=>⟨st,_,M6.hs,λo3=>⟨st,o3,_,rfl,ab,λDq hD=>?_⟩⟩⟩;have nws:wo≠st:=λz=>by rw[←z,M5.hs]at hst;cases hst
 have Lk:H st=none:=s5'.free hst;obtain⟨kv,ekv⟩:∃ kv,(ms.map λt=>((Sum.inl t:Key),V.ref (ea t)))=kv:=⟨_,rfl⟩;have kk:∀(i:Nat) p,kv[i]?=some p→∃ n:Int,p.1=Sum.inl n∧ms[i]?=some n:=λi p h=>by
  rw[←ekv,Lz]at h;obtain⟨n,hn,rfl⟩:=LG.mp h;exact⟨n,rfl,hn⟩
 have lk:kv.length≤11:=by rw[←ekv,Lp];exact LL ml6 rt.kl
 rw[ekv]at hD ⊢;obtain⟨H7,e7⟩:∃ H7,upd H6 st (.frz o3 (.dK kv))=H7:=⟨_,rfl⟩;have s7:aq H H7:=λc u g=>by rw[←e7,ak (ai g Lk)];exact s6 _ _ (s5' c u g)
 have z7:H7 st=some (.frz o3 (.dK kv)):=by rw[←e7];exact ab
 have w7:H7 wo=some (.dK (mw.map λt=>((Sum.inl t:Key),V.ref (ew t)))):=by rw[←e7,ak nws];exact s6 _ _ M5.hs
 rw[e7]at hD ⊢;refine qa (d:=st) (o:=o3) (kvs:=kv) (λi ys H8=>(∃ ns:List Int,ys=ns.map V.int∧ns.length≤i)∧aq H7 H8∧H8 Dq=some (.lst ys)) ⟨⟨[],rfl,Lu _⟩,aq.upd hD,ab⟩ (λi ys H8 hi ⟨⟨ns,e,l⟩,_,z⟩=>⟨z,by rw[e,Lp];exact l⟩) (λi ys H8 _ ⟨_,s8,_⟩=>s8 _ _ z7) (LL lk (by decide)) (λi p ys H8 hp ⟨⟨ns,e,l⟩,s8,z⟩=>?_) (λys H8 ⟨⟨ns,e,l⟩,s8,z⟩=>?_)
 ·obtain⟨n,ep,_⟩:=kk i p hp
  rw[ep];have w8:=s8 _ _ w7;refine⟨_,rfl,_,rfl,wo,_,rfl,eG.k (k:=Sum.inl n) w8,_,rfl,?_⟩;rw[R.Sd.val];by_cases hin:n∈mw
  ·rw[if_pos hin]
   exact b4 ⟨⟨ns,e,by omega⟩,s8,z⟩
  ·rw[if_neg hin]
   exact cZ ⟨_,rfl,z,⟨ns++[n],by rw[e,LA];rfl,by rw[Lw];show ns.length+1≤_;omega⟩,λc u g=>by rw[ak (ai g hD)];exact s8 c u g,ab⟩
 ·exact⟨Dq,ns,rfl,by rw[←e];exact SqL.of z,by omega,λl out hl po pw=>kx _ _ ((s7.trans s8).trans (aq.upd hl))⟩
end
section
variable{P:Program}{w:World}{K:W.Frag}{mg:Str→Option Value}{base:Heap}
theorem ET(c:Int)(a b e f:Int):∃ far:Int,atI [V.int a,V.int b,V.int e,V.int f] (c%4)=some (.int far)∧(far=a∨far=b∨far=e∨far=f):=by
 have b0:=L0 c (show(4:Int)≠0 by decide);have b1:=LV c (show(0:Int)<4 by decide);obtain h|h|h|h:c%4=((0:Nat):Int)∨c%4=((1:Nat):Int)∨c%4=((2:Nat):Int)∨c%4=((3:Nat):Int):=by omega
 all_goals rw[h]
 ·exact⟨a,bK rfl,.inl rfl⟩
 ·exact⟨b,bK rfl,.inr (.inl rfl)⟩
 ·exact⟨e,bK rfl,.inr (.inr (.inl rfl))⟩
 ·exact⟨f,bK rfl,.inr (.inr (.inr rfl))⟩
def Dg(K:W.Frag):Sp:=λvs H Q _=>∃ v r d o ad rs ks,∃ cell:Int,vs=[.ref v,.int cell]∧SqT K H v [.ref r,.ref d]∧R.Vw H r d o ad rs ks∧R.Rt rs ks∧rs.length≤19∧∀(v' r' d':Addr) (o':Obj) (ad':Int→Addr) (rs':List (Option Int)) (ks':R.Fs) (H':Hp),aq H H'→H' v'=some (.tup [.ref r',.ref d'])→R.Vw H' r' d' o' ad' rs' ks'→R.keys ks'=R.keys ks→Rv rs' ks'→Q (.ref v') H'
theorem Dh{n j:Nat}(h:j<n):ixN n (j:Int)=some j:=by
 unfold ixN;rw[if_pos (by omega),if_pos (by omega)];rfl
theorem Ba{ns:List Int}(h:ns≠[])(c:Int):∃ n∈ns,atI (ns.map V.int) (c%((ns.map V.int).length:Int))=some (.int n):=by
 have l0:0<(ns.map V.int).length:=by rw[Lp];exact Nn.mpr h
 have b0:=L0 c (show(((ns.map V.int).length:Nat):Int)≠0 by omega);have b1:=LV c (show(0:Int)<((ns.map V.int).length:Nat) by omega);obtain⟨j,hj⟩:∃ j:Nat,c%((ns.map V.int).length:Int)=(j:Int):=⟨(c%((ns.map V.int).length:Int)).toNat,by omega⟩;rw[hj]at b1 ⊢;have lj:j<ns.length:=by rw[Lp]at b1;omega
 exact⟨ns[j],Mb lj,bK (by rw[Lz,Ls lj];rfl)⟩
theorem EU(n:Nat)(h:0<n)(c:Int):∃ j,j<n∧ixN n (c%(n:Int))=some j:=by
 have b0:=L0 c (show(n:Int)≠0 by omega);have b1:=LV c (show(0:Int)<(n:Int) by omega);obtain⟨j,hj⟩:∃ j:Nat,c%(n:Int)=(j:Int):=⟨(c%(n:Int)).toNat,by omega⟩;rw[hj]at b1 ⊢;exact⟨j,by omega,Dh (by omega)⟩
theorem xJ{H:Hp}{a:Addr}{xs:List V}(h:H a=some (.lst xs))(f:∀ x∈xs,cE x=true):Rp H 1 (.ref a) (.l (xs.map .a)):=by
 refine⟨a,xs,rfl,h,(Lp _).symm,λi u x h1 h2=>?_⟩;rw[Lz,h1]at h2;cases h2;exact Rp.flat (f u (LD h1))
theorem ne_nil{xs:List V}:(!eqD 1 (.l (xs.map .a)) (.l (([]:List V).map .a)))=!xs.isEmpty:=by cases xs<;>simp[eqD]
theorem wc{rs:List (Option Int)}{ks:R.Fs}(rt:R.Rt rs ks)(rl:rs.length≤19){rs':List (Option Int)}{far:Int}(sf:Sm far)(l:rs'.length≤20)(hr:∀ n,some n∈rs'→n=far∨some n∈rs){ks':R.Fs}(hk:R.keys ks'=R.keys ks)(hl:∀ p∈ks',p.2.length≤6)(hf:∀ p∈ks',∀ n,some n∈p.2→n=far∨n∈R.keys ks):Rv rs' ks':=by
 have sk:∀ n,n∈R.keys ks→Sm n:=λn h=>by
  obtain⟨p,hp,rfl⟩:=LH.mp h;have a:=rt.pos p hp;have b:=rt.top p hp;exact Sm.of (by omega) (by omega)
 have kin:∀ p∈ks',p.1∈R.keys ks:=λp hp=>by rw[←hk];exact L5 hp
 have le:=congrArg List.length hk;have e9:ks'.length=ks.length:=by
  unfold R.keys at le;rwa[Lp,Lp]at le
 have kl:=rt.kl;refine⟨by show(R.keys ks').Nodup;rw[hk];exact rt.nd,λp hp=>?_,by omega,l,hl,λp hp=>?_,λn h=>?_,λp hp n h=>?_⟩
 ·obtain⟨q,hq,e⟩:=LH.mp (kin p hp)
  rw[←e];exact rt.pos q hq
 ·obtain⟨q,hq,e⟩:=LH.mp (kin p hp)
  rw[←e];exact rt.top q hq
 ·exact(hr n h).elim (λe=>by rw[e];exact sf) λh=>sk n (rt.ri n h)
 ·exact(hf p hp n h).elim (λe=>by rw[e];exact sf) (sk n)
abbrev we:List Str:=["view", "cell", "made", "far", "names", "row"]
theorem eh:ar we ["view", "cell"] (ao pW):=fsc
theorem uy(T:Txt w K mg):Ok P w K mg base 2 1046 ["view", "cell"] (Dg K):=by
 refine T.o2 "_law_put" eh λcdv A' outer s' H vs Q E hr h=>?_;obtain⟨v,r,d,o,ad,rs,ks,cell,rfl,ht,hv,rt,rl,k⟩:=h;have hu:=bX hr;have hu0:=Nat.lt_of_succ_lt hu;refine⟨_,(PSs.nox (af (aw (i:=2) eh.nd rfl (Or.inl rfl) ((sX T).c hr bR (aa (pv 0) ah)))
  (af (aw (i:=3) eh.nd rfl (Or.inl rfl) (aD bE (bM (aa (Dn AD aj) (aa (ay aW (ay bB (pv 1) aj) aj) (aa (ay tM aj aj) (aa (ay qG (Dn AD aj) (ay aW (ay bB (pv 1) aj) (ay tM aj aj))) ah))))) (ay aW (ay bB (pv 1) aj) aj) (λ_ _=>rfl)))
  (af (aw (i:=4) eh.nd rfl (Or.inl rfl) (aK (dD rfl) rfl T.z PyProof.Rows.Boot.«sorted» (aa (aD aB (pv 0) aj (λ_ _=>rfl)) ah)))
  (af (aO (az cL (ay aW (pv 1) aj) aj (aF _))
   (ag (au (kr PySem.F.plainAttrs_list PySem.F.slot_list_insert PySem.F.type_list_insert yp (aD aB (pv 2) aj (λ_ _=>rfl)) (aa (ay aW (ay bB (pv 1) aj) (ay bZ (aK aU rfl T.z PyProof.Rows.Boot.«len» (aa (aD aB (pv 2) aj (λ_ _=>rfl)) ah)) aj)) (aa (pv 3) ah)))))
   aC)
  (af (aO (PW.pt (pw_and (az cL (ay aW (pv 1) aj) aj (aF _)) (pw_and1 (az (wD hu0) (pv 4) (bM ah) (aF _)))))
   (af (aw (i:=5) eh.nd rfl (Or.inl rfl) (bU hu (aD aB (pv 2) aj (λ_ _=>rfl)) (aD bE (pv 4) (ay aW (ay bB (pv 1) aj) (aK aU rfl T.z PyProof.Rows.Boot.«len» (aa (pv 4) ah))) (λ_ _=>rfl)) (λ_ _=>rfl)))
   (ag (aO (az (Eu (n:=1) hu) (pv 5) (bM ah) (aF _))
    (ag (lS (pv 3) (lR (pv 5) (ay aW (ay bB (pv 1) aj) (aK aU rfl T.z PyProof.Rows.Boot.«len» (aa (pv 5) ah))) set_list)))
    aC)))
   aC)
  (ag (aA (pv 2))))))))),?_⟩
 refine⟨_,rfl,v,r,d,o,ad,rs,ks,rfl,ht,hv,rt,λv' r' d' o' ad' H1 s1 hv' V1 fr' frs inj=>?_⟩;have b30:(0:Int)<10 ^ (30:Int).toNat:=by decide
 refine⟨1,rfl,_,rfl,cell,64,rfl,rfl,⟨by decide,by decide⟩,_,50,rfl,rfl,(by show(0:Int)<50;decide),10,30,rfl,rfl,⟨by decide,by decide,by decide⟩,1,rfl,_,rfl,cell,64,rfl,rfl,⟨by decide,by decide⟩,10,30,rfl,rfl,⟨by decide,by decide,by decide⟩,_,_,rfl,rfl,b30,_,_,rfl,rfl,by show 4≤sizeLine;decide,λq hq=>?_⟩;obtain⟨far,Ll,ff⟩:=ET (cell/4) (-1) (cell/64%50) (10 ^ (30:Int).toNat) (-1-cell/64%10 ^ (30:Int).toNat);have sf:Sm far:=by
  have e:(10:Int) ^ (30:Int).toNat=1000000000000000000000000000000:=by decide
  rw[e]at ff;exact rL (Nat.lt_trans (show far.natAbs<2000000000000000000000000000000 by omega) (by decide +kernel))
 refine⟨_,rfl,cell,4,rfl,rfl,⟨by decide,by decide⟩,_,4,rfl,rfl,(by show(0:Int)<4;decide),q,_,_,.int far,rfl,rfl,SqL.of ab,Ll,?_⟩;obtain⟨H2,e2⟩:∃ H2,upd H1 q (.lst [V.int (-1),V.int (cell/64%50),V.int (10 ^ (30:Int).toNat),V.int (-1-cell/64%10 ^ (30:Int).toNat)])=H2:=⟨_,rfl⟩;have s2:aq H1 H2:=by rw[←e2];exact aq.upd hq
 rw[e2];have sH2:=s1.trans s2;refine⟨_,rfl,v,_,1,.ref d,rfl,rfl,R.bu ht sH2,rfl,d,R.kvl ad ks,R.keys ks,rfl,.inr ⟨o,sH2 _ _ hv.hd⟩,by unfold R.kvl R.keys;rw[LO,LO];rfl,by have:=rt.kl;unfold R.keys;rw[Lp];omega,λnl ns hnl perm _=>?_⟩;obtain⟨H3,e3⟩:∃ H3,upd H2 nl (.lst (ns.map V.int))=H3:=⟨_,rfl⟩;have s3:aq H1 H3:=by rw[←e3];exact s2.trans (aq.upd hnl)
 have zn:H3 nl=some (.lst (ns.map V.int)):=by rw[←e3];exact ab
 rw[e3];have sH3:=s1.trans s3;have V3:=V1.same s3;have tv':=SqT.of (K:=K) (s3 _ _ hv');have lr:((rs.map R.oV).length:Nat)=rs.length:=Lp _;have keep:∀ {c:Addr} {xs:List V},H c=none→aq H (upd H3 c (.lst xs)):=λh=>λc' u g=>by rw[ak (ai g h)];exact sH3 c' u g
 refine⟨_,rfl,cell,4,rfl,rfl,(by show(0:Int)<4;decide),rfl,_,rfl,aH (λh=>?_) (λh=>?_)⟩
 ·have h1:cell%4=1:=by simpa using h
  obtain⟨at',hat,ha⟩:∃ at':Nat,cell/16%(((rs.map R.oV).length:Int)+1)=(at':Int)∧at'≤20:=by
   have b0:=L0 (cell/16) (show((rs.map R.oV).length:Int)+1≠0 by omega);have b1:=LV (cell/16) (show(0:Int)<((rs.map R.oV).length:Int)+1 by omega);exact⟨(cell/16%(((rs.map R.oV).length:Int)+1)).toNat,by omega,by omega⟩
  refine⟨_,rfl,v',_,0,.ref r',rfl,rfl,tv',rfl,.inl ⟨rfl,_,SqL.of V3.hr⟩,_,rfl,cell,16,rfl,rfl,⟨by decide,by decide⟩,_,rfl,v',_,0,.ref r',rfl,rfl,tv',rfl,r',_,rfl,.inl (SqL.of V3.hr),_,1,rfl,rfl,_,_,rfl,rfl,(by show(0:Int)<_+1;omega),_,rfl,r',_,at',.int far,rfl,by rw[←hat],V3.hr,by omega,L6 (show(rs.map R.oV).length≤20 by omega) (by decide),?_⟩;have ins:(rs.map R.oV).take at'++[V.int far]++(rs.map R.oV).drop at'=(rs.take at'++[some far]++rs.drop at').map R.oV:=by rw[LA,LA,List.map_take,List.map_drop];rfl
  rw[ins];have V4:R.Vw (upd H3 r' (.lst ((rs.take at'++[some far]++rs.drop at').map R.oV))) r' d' o' ad' (rs.take at'++[some far]++rs.drop at') ks :=
   ⟨ab,by rw[ak (bI V3.hd V3.hr (by intro z;cases z))];exact V3.hd,λp hp=>by rw[ak (frs p hp).2];exact V3.hl p hp⟩
  refine⟨_,rfl,cell,4,rfl,rfl,(by show(0:Int)<4;decide),rfl,_,rfl,aH (λh2=>?_) (λ_=>b4 ?_)⟩
  ·have h3:cell%4=2:=by simpa using h2
   omega
  ·refine⟨_,rfl,k v' r' d' o' ad' _ ks _ (keep fr') (by rw[ak (bI (s3 _ _ hv') V3.hr (by intro z;cases z))];exact s3 _ _ hv') V4 rfl (wc rt rl sf ?_ (λn hn=>?_) rfl rt.fl λp hp n hn=>.inr (rt.fi p hp n hn))⟩
   ·rw[Lw,Lw,LM,MI,Mf]
    omega
   ·rcases LB.mp hn with z|z
    ·rcases LB.mp z with z|z
     ·exact .inr (MR z)
     ·cases Lr.mp z
      exact .inl rfl
    ·exact .inr (List.mem_of_mem_drop z)
 ·have plain:Q (.ref v') H3:=k v' r' d' o' ad' rs ks H3 sH3 (s3 _ _ hv') V3 rfl (wc rt rl sf (by omega) (λn hn=>.inr hn) rfl rt.fl λp hp n hn=>.inr (rt.fi p hp n hn))
  refine⟨_,rfl,cell,4,rfl,rfl,(by show(0:Int)<4;decide),rfl,_,rfl,aH (λh2=>?_) (λ_=>b4 ⟨_,rfl,plain⟩)⟩;refine⟨_,rfl,by show 0≤sizeLine;decide,λe he=>?_⟩;have se:=aq.upd (o:=.lst []) he;have sHe:=sH3.trans se;have pe:Q (.ref v') (upd H3 e (.lst [])):=k v' r' d' o' ad' rs ks _ sHe (se _ _ (s3 _ _ hv')) (V3.same se) rfl (wc rt rl sf (by omega) (λn hn=>.inr hn) rfl rt.fl λp hp n hn=>.inr (rt.fi p hp n hn));refine⟨nl,e,ns,[],rfl,rfl,SqL.of (se _ _ zn),SqL.of ab,_,rfl,aH (λh3=>?_) (λ_=>⟨_,rfl,pe⟩)⟩;have nn:ns≠[]:=by simpa using h3
  obtain⟨nk,mk,ank⟩:=Ba nn (cell/16);have l0:(0:Int)<((ns.map V.int).length:Nat):=by
   have:=Nn.mpr nn
   rw[Lp];omega
  have hin:nk∈R.keys ks:=perm.mem_iff.mp mk;obtain⟨p,hp,rfl⟩:=LH.mp hin;obtain⟨H4,e4⟩:∃ H4,upd H3 e (.lst [])=H4:=⟨_,rfl⟩;have s4:aq H1 H4:=by rw[←e4];exact s3.trans se
  have s34:aq H3 H4:=by rw[←e4];exact se
  rw[e4]at pe ⊢;have sH4:=s1.trans s4;have V4:=V3.same s34;have tv4:=SqT.of (K:=K) (s4 _ _ hv');refine⟨_,rfl,v',_,1,.ref d',rfl,rfl,tv4,rfl,_,rfl,_,rfl,cell,16,rfl,rfl,⟨by decide,by decide⟩,_,rfl,nl,_,rfl,.inl (SqL.of (s34 _ _ zn)),_,_,rfl,rfl,l0,nl,_,_,.int p.1,rfl,rfl,SqL.of (s34 _ _ zn),ank,d',_,rfl,R.mZ V4.hd hin,?_⟩;have zr:=V4.hl p hp;refine⟨_,rfl,by show 0≤sizeLine;decide,λe5 he5=>?_⟩;have s5:=aq.upd (o:=.lst []) he5;refine⟨_,_,xJ (s5 _ _ zr) ?_,xJ (xs:=[]) ab (λx h=>nomatch h),_,rfl,aH (λh6=>?_) (λ_=>?_)⟩
  ·intro x hx
   obtain⟨y,_,rfl⟩:=LH.mp hx;cases y<;>rfl
  ·rw[ne_nil]at h6
   have lp:0<(p.2.map R.oV).length:=by
    cases hh:p.2.map R.oV with
    | nil=>rw[hh]at h6;cases h6
    | cons _ _=>exact Nat.succ_pos _
   obtain⟨H5,e55⟩:∃ H5,upd H4 e5 (.lst [])=H5:=⟨_,rfl⟩;rw[e55]at s5 ⊢;have zr5:=s5 _ _ zr;obtain⟨j,lj,hj⟩:=EU _ lp (cell/1024);have V5:=V4.same s5;have sH5:=sH4.trans s5;refine⟨_,rfl,_,rfl,_,rfl,cell,1024,rfl,rfl,⟨by decide,by decide⟩,_,rfl,ad' p.1,_,rfl,.inl (SqL.of zr5),_,_,rfl,rfl,(by omega),ad' p.1,_,_,j,rfl,rfl,zr5,hj,?_⟩;have st:(p.2.map R.oV).set j (V.int far)=(p.2.set j (some far)).map R.oV:=(by rw[List.map_set];rfl);rw[st];have frp:=(frs p hp).1;have kc:R.keys (R.j1 ks p.1 (p.2.set j (some far)))=R.keys ks:=R.mh _ _ _;have kv:R.kvl ad' (R.j1 ks p.1 (p.2.set j (some far)))=R.kvl ad' ks:=by
    unfold R.kvl R.j1;rw[LO];refine L3 λq hq=>?_;show(Sum.inl (if q.1=p.1 then(q.1,p.2.set j (some far)) else q).1,V.ref (ad' (if q.1=p.1 then(q.1,p.2.set j (some far)) else q).1))=_;rw[R.iO]
   have V6:R.Vw (upd H5 (ad' p.1) (.lst ((p.2.set j (some far)).map R.oV))) r' d' o' ad' rs (R.j1 ks p.1 (p.2.set j (some far))):=by
    refine⟨by rw[ak λz=>(frs p hp).2 z.symm];exact V5.hr,by rw[kv,ak (bI V5.hd zr5 (by intro z;cases z))];exact V5.hd,λq' hq'=>?_⟩;obtain⟨q,hq,rfl⟩:=LH.mp hq';rw[R.iO];by_cases c:q.1=p.1
    ·rw[if_pos c,c,ab]
    ·rw[if_neg c,ak λz=>c (inj q hq p hp z)]
     exact V5.hl q hq
   refine⟨_,rfl,k v' r' d' o' ad' rs _ _ (λc' u g=>by rw[ak (ai g frp)];exact sH5 c' u g) (by rw[ak (bI (s5 _ _ (s4 _ _ hv')) zr5 (by intro z;cases z))];exact s5 _ _ (s4 _ _ hv')) V6 kc (wc rt rl sf (by omega) (λn hn=>.inr hn) kc (λq' hq'=>?_) λq' hq' n hn=>?_)⟩
   ·obtain⟨q,hq,rfl⟩:=LH.mp hq'
    by_cases c:q.1=p.1
    ·rw[if_pos c]
     show(p.2.set j (some far)).length≤6;rw[Mt];exact rt.fl p hp
    ·rw[if_neg c]
     exact rt.fl q hq
   ·obtain⟨q,hq,rfl⟩:=LH.mp hq'
    by_cases c:q.1=p.1
    ·rw[if_pos c]at hn
     rcases List.mem_or_eq_of_mem_set hn with z|z
     ·exact .inr (rt.fi p hp n z)
     ·exact .inl (by injection z)
    ·rw[if_neg c]at hn
     exact .inr (rt.fi q hq n hn)
  ·exact⟨_,rfl,k v' r' d' o' ad' rs ks _ (sH4.trans s5) (s5 _ _ (s4 _ _ hv')) (V4.same s5) rfl (wc rt rl sf (by omega) (λn hn=>.inr hn) rfl rt.fl λp hp n hn=>.inr (rt.fi p hp n hn))⟩
end
section
variable{P:Program}{w:World}{K:W.Frag}{mg:Str→Option Value}{base:Heap}
def yM:Sp:=λvs H Q _=>∃(l i:Addr) (fs:List (Option Int)),vs=[.ref l,.ref i]∧H l=some (.lst (fs.map R.oV))∧fs.length≤1000∧H i=some (.dK [])∧∀ b H',aq H H'→Q (.bl b) H'
abbrev jj:List Str:=["told", "inside"]
theorem oQ:ar jj ["told", "inside"] (ao fz):=fsc
theorem iC(T:Txt w K mg):Ok P w K mg base 1 467 ["told", "inside"] (yM):=by
 refine T.o2 "tells_within" oQ λcdv A' outer s' H vs Q E hr h=>?_;obtain⟨l,i,fs,rfl,hl,hz,hi,k⟩:=h;have hu:=bX hr;refine⟨_,(PSs.nox (ag (aA (aK (uN rfl) rfl T.z PyProof.Rows.Boot.«all» (aa (cO (cl:=[("inside",s'.heap.objs.size+1)]) (x := "t") (idx:=[1]) (NC:=["t", "inside"]) (by exact bP (sc:=ao fz) (N:=jj) (ns:=["inside"]) rfl rfl rfl (by decide +kernel) rfl rfl (by intro q hq;rw[Lr.mp hq];rfl)) rfl (bh (pv 0)) (λC fp s₀ H₀=>Dj (pQ tN (pv 0) bH (aF _)) (wj (D3 (wq hu (pv 0) (pv 1)))))) ah))))),?_⟩;refine⟨_,rfl,l,rfl,⟨_,SqL.of hl⟩,λDq hD=>?_⟩;refine bW (K:=K) (a:=l) (xs:=fs.map R.oV) (λj zs H2=>(∃ bs:List Bool,zs=bs.map V.bl∧bs.length=j)∧aq H H2∧H2 Dq=some (.lst zs)) ⟨⟨[],rfl,rfl⟩,aq.upd hD,ab⟩
  (λj zs H2 hj ⟨⟨bs,e,n⟩,_,z⟩=>⟨z,by rw[e,Lp];exact n⟩) (λj zs H2 _ ⟨_,s2,_⟩=>SqL.of (s2 _ _ hl)) (LL (by rw[Lp];exact hz) (by decide))
  (λj x zs H2 hx ⟨⟨bs,e,n⟩,s2,z⟩=>?_) (λzs H2 ⟨⟨bs,e,n⟩,s2,z⟩=>?_)
 ·rw[Lz]at hx
  obtain⟨y,hy,rfl⟩:=LG.mp hx;have fin:∀ b:Bool,H2 Dq=some (.lst zs)∧((∃ bs:List Bool,zs++[V.bl b]=bs.map V.bl∧bs.length=j+1)∧aq H (upd H2 Dq (.lst (zs++[V.bl b])))∧upd H2 Dq (.lst (zs++[V.bl b])) Dq=some (.lst (zs++[V.bl b]))):=λb =>
   ⟨z,⟨bs++[b],by rw[e,LA];rfl,by rw[Lw,n];rfl⟩,λc u g=>by rw[ak (ai g hD)];exact s2 c u g,ab⟩
  cases y with
  | none=>exact⟨_,rfl,rfl,_,rfl,cZ (fin true)⟩
  | some n=>exact⟨_,rfl,rfl,_,rfl,b4 ⟨_,rfl,_,rfl,i,_,rfl,eG.k (k:=Sum.inl n) (s2 _ _ hi),fin _⟩⟩
 ·exact⟨Dq,bs,rfl,by rw[←e];exact SqL.of z,k _ H2 s2⟩
def IC(K:W.Frag):Sp:=λvs H Q _=>∃ v r d th o ad rs ks,vs=[.ref v,.ref th]∧SqT K H v [.ref r,.ref d]∧R.Vw H r d o ad rs ks∧Rv rs ks∧H th=some (.lst [])∧∀ b H',aq H H'→Q (.bl b) H'
abbrev oh:List Str:=["view", "things", "fields", "inside", "last", "t"]
theorem cI:ar oh ["view", "things"] (ao jm):=fsc
theorem lQ(T:Txt w K mg):Ok P w K mg base 2 462 ["view", "things"] (IC K):=by
 refine T.o2 "closed_in" cI λcdv A' outer s' H vs Q E hr h=>?_;obtain⟨v,r,d,th,o,ad,rs,ks,rfl,ht,hv,rv,hth,k⟩:=h;have hu:=bX hr;refine⟨_,(PSs.nox (af (aw (i:=2) cI.nd rfl (Or.inr rfl) (aD aB (pv 0) aj (λ_ _=>rfl)))
  (af (aw (i:=3) cI.nd rfl (Or.inr rfl) bQ)
  (af (aw (i:=4) cI.nd rfl (Or.inl rfl) bH)
  (af (bq LP rfl (bh (pv 1)) (aL (i:=5) cI.nd rfl (Or.inl rfl))
   (af (aO (PW.pt (pw_or (cA (bo hu (pv 5) (pv 2)) (by with_unfolding_all rfl)) (pw_or1 (PW.pt (pw_and (az gF (pv 4) bH (aF _)) (pw_and1 (az lV (pv 5) (pv 4) (aF _))))))))
    (ag (aA iP))
    aC)
   (af (bY hu (pv 3) (pv 5) iP rfl)
   (ag (aw (i:=4) cI.nd rfl (Or.inl rfl) (pv 5))))))
  (ag (aA (D4 ((iC T).c hr bR (aa (aD aB (pv 0) aj (λ_ _=>rfl)) (aa (pv 3) ah))) (wj (aK (uN rfl) rfl T.z PyProof.Rows.Boot.«all» (aa (cO (cl:=[("inside",s'.heap.objs.size+2),("fields",s'.heap.objs.size+1)]) (x := "t") (idx:=[3,2]) (NC:=["t", "inside", "fields"]) (by exact bP (sc:=ao jm) (N:=oh) (ns:=["inside", "fields"]) rfl rfl rfl (by decide +kernel) rfl rfl (by intro q hq;rcases LQ.mp hq with rfl|hq;(·rfl);rw[Lr.mp hq];rfl)) rfl (bh (pv 1)) (λC fp s₀ H₀=>((iC T).c hr kz (aa (bU hu (pv 2) (pv 0) (λ_ _=>rfl)) (aa (pv 1) ah))))) ah))))))))))),?_⟩
 refine⟨_,rfl,v,_,1,.ref d,rfl,rfl,ht,rfl,?_⟩;refine λiA hiA=>?_;have s1:=aq.upd (o:=.dK []) hiA;refine⟨_,rfl,th,rfl,⟨_,SqL.of (s1 _ _ hth)⟩,cJ (K:=K) (a:=th) (xs:=[]) (λi σ H2=>∃ v5,σ=[some (.ref v),some (.ref th),some (.ref d),some (.ref iA),some .non,v5]∧H2=upd H iA (.dK [])) ⟨none,rfl,rfl⟩ (λi σ H2 _ ⟨_,_,e⟩=>by rw[e];exact SqL.of (s1 _ _ hth)) (λi x σ H2 hx _=>by cases hx) ?_⟩;rintro σ H2 ⟨v5,rfl,rfl⟩;refine⟨_,rfl,v,_,0,.ref r,rfl,rfl,R.bu ht s1,rfl,_,rfl,r,iA,rs,rfl,s1 _ _ hv.hr,LL rv.rl (by decide),ab,λb H3 s3=>?_⟩;cases b with
 | false=>exact⟨_,rfl,b4 (k _ _ (s1.trans s3))⟩
 | true =>
  refine⟨_,rfl,cZ ⟨_,rfl,th,rfl,⟨_,SqL.of (s3 _ _ (s1 _ _ hth))⟩,λDq hD=>?_⟩⟩;refine bW (K:=K) (a:=th) (xs:=[]) (λj zs H4=>zs=[]∧aq H3 H4∧H4 Dq=some (.lst [])) ⟨rfl,aq.upd hD,ab⟩ (λj zs H4 hj ⟨e,_,z⟩=>⟨by rw[e];exact z,by rw[e];exact(Nat.le_zero.mp hj).symm⟩) (λj zs H4 _ ⟨_,s4,_⟩=>SqL.of (s4 _ _ (s3 _ _ (s1 _ _ hth)))) (L8 _) (λj x zs H4 hx _=>by cases hx) (λzs H4 ⟨e,s4,z⟩=>?_);exact⟨Dq,[],rfl,SqL.of (by rw[z];rfl),k _ H4 ((s1.trans s3).trans s4)⟩
theorem wg(T:Txt w K mg):Ok P w K mg base 1 474 ["view", "ahead", "triple"] Nv:=⟨⟨T.e,T.mm,T.zz⟩,⟨λ_ _ _ _ h=>h.elim,λ_ _ _ _ _ _ _ _ _ _ _ _ _ h=>h.elim⟩,(T.fn (st:=rG) "is_step").binds (ps:=["view", "ahead", "triple"]) λ_ _ _ _ _ _ us hl=>match us,hl with|[_,_,_],_=>rfl⟩
def DW(K:W.Frag):Sp:=λvs H Q E=>∃ v r d th o ad rs ks,vs=[.ref v,.ref th]∧SqT K H v [.ref r,.ref d]∧R.Vw H r d o ad rs ks∧Rv rs ks∧H th=some (.lst [])∧(Okv rs ks→∀ x H',aq H H'→Q x H')∧(¬Okv rs ks→Bad 243 H E)
abbrev uz:List Str:=["view", "things"]
theorem sY:ar uz ["view", "things"] (ao nJ):=fsc
theorem sZ(T:Txt w K mg):Ok P w K mg base 5 445 ["view", "things"] (DW K):=by
 refine T.o2 "is_closed" sY λcdv A' outer s' H vs Q E hr h=>?_;obtain⟨v,r,d,th,o,ad,rs,ks,rfl,ht,hv,rv,hth,k,kb⟩:=h;refine⟨_,(af (au ((bA T).c hr px (aa (pv 0) ah)))
  (ag (aA ((lQ T).c hr px (aa (pv 0) (aa (pv 1) ah)))))),?_⟩
 refine⟨_,rfl,v,r,d,o,ad,rs,ks,rfl,ht,hv,rv,λok=>?_,kb⟩;exact⟨_,rfl,_,rfl,v,r,d,th,o,ad,rs,ks,rfl,ht,hv,rv,hth,λb H1 s1=>k ok _ H1 s1⟩
abbrev pO:List Str:=["view", "triples", "ahead", "triple"]
theorem eC:ar pO ["view", "triples"] (ao i8):=fsc
theorem oW(T:Txt w K mg):Ok P w K mg base 5 452 ["view", "triples"] (DW K):=by
 refine T.o2 "paper_judged" eC λcdv A' outer s' H vs Q E hr h=>?_;obtain⟨v,r,d,th,o,ad,rs,ks,rfl,ht,hv,rv,hth,k,kb⟩:=h;have hu:=bX hr;refine⟨_,(PSs.xr (af (au ((bA T).c hr (fO λ_ _ _ q=>q) (aa (pv 0) ah)))
  (af (aw (i:=2) eC.nd rfl (Or.inl rfl) bQ)
  (af (bq CY rfl (bh (pv 1)) (aL (i:=3) eC.nd rfl (Or.inl rfl))
   (af (aO (gw (fF ((wg T).c hr (fO λ_ _ _ q=>q) (aa (pv 0) (aa (pv 2) (aa (pv 3) ah))))))
    (ag (aA iP))
    aC)
   (ag (bY hu (pv 2) (aD aB (pv 3) aj (λ_ _=>rfl)) iP rfl))))
  (ag (aA ((lQ T).c hr (fO λ_ _ _ q=>q) (aa (pv 0) (aa (aK (dD rfl) rfl T.z PyProof.Rows.Boot.«sorted» (aa (pv 2) ah)) ah))))))))),?_⟩
 refine⟨_,rfl,v,r,d,o,ad,rs,ks,rfl,ht,hv,rv,λok=>?_,kb⟩;refine λA hA=>?_;have s1:=aq.upd (o:=.dK []) hA;refine⟨_,rfl,th,rfl,⟨_,SqL.of (s1 _ _ hth)⟩,cJ (K:=K) (a:=th) (xs:=[]) (λi σ H2=>∃ v3,σ=[some (.ref v),some (.ref th),some (.ref A),v3]∧H2=upd H A (.dK [])) ⟨none,rfl,rfl⟩ (λi σ H2 _ ⟨_,_,e⟩=>by rw[e];exact SqL.of (s1 _ _ hth)) (λi x σ H2 hx _=>by cases hx) ?_⟩;rintro σ H2 ⟨v3,rfl,rfl⟩;refine⟨_,rfl,_,rfl,A,[],[],rfl,.inl ab,rfl,by decide,λq us hq pm pw=>?_⟩;have e0:us=[]:=List.length_eq_zero_iff.mp pm.length_eq;subst e0;have s2:=aq.upd (o:=.lst (([]:List Int).map V.int)) hq;exact⟨v,r,d,q,o,ad,rs,ks,rfl,R.bu ht (s1.trans s2),hv.same (s1.trans s2),rv,ab,λb H3 s3=>k ok _ H3 ((s1.trans s2).trans s3)⟩
end
section
variable{P:Program}{w:World}{K:W.Frag}{mg:Str→Option Value}{base:Heap}
abbrev j2:List Str:=["view", "steps"]
theorem jk:ar j2 ["view"] (ao gx):=fsc
theorem pP(T:Txt w K mg):Ok P w K mg base 5 438 ["view"] (DU K):=by
 refine T.o1 "reach_paper" jk λcdv A' outer s' H vs Q E hr h=>?_;obtain⟨v,r,d,o,ad,rs,ks,rfl,ht,hv,rv,k,kb⟩:=h;have hu:=bX hr;refine⟨_,(af (au ((bA T).c hr px (aa (pv 0) ah)))
  (af (aw (i:=1) jk.nd rfl (Or.inr rfl) ((bT T).c hr px (aa (pv 0) ah)))
  (ag (aA (cO (cl:=[("steps",s'.heap.objs.size+1)]) (x := "thing") (idx:=[1]) (NC:=["thing", "steps"]) (by exact bP (sc:=ao gx) (N:=j2) (ns:=["steps"]) rfl rfl rfl (by decide +kernel) rfl rfl (by intro q hq;rw[Lr.mp hq];rfl)) rfl (dj (eN (pv 1))) (λC fp s₀ H₀=>aX (aa (pv 0) (aa (aD (r:=Du K) aB (bU hu (pv 1) (pv 0) (λ_ _=>rfl)) aj (λ_ _=>rfl)) (aa (aD (r:=Du K) aB (bU hu (pv 1) (pv 0) (λ_ _=>rfl)) aj (λ_ _=>rfl)) ah))))))))),?_⟩
 refine⟨_,rfl,v,r,d,o,ad,rs,ks,rfl,ht,hv,rv,λok=>?_,kb⟩;refine⟨_,rfl,v,r,d,o,ad,rs,ks,rfl,ht,hv,rv.rt ok,λst ms ea wy fr H1 s1 hst M ml B C ins=>?_⟩;refine⟨_,rfl,st,_,M.hs,λoF=>⟨st,oF,_,rfl,ab,λDq hD=>?_⟩⟩;have kl:=rv.kl;have zst:upd H1 st (.frz oF (.dK (ms.map λt=>((Sum.inl t:Key),V.ref (ea t))))) st=some (.frz oF (.dK (ms.map λt=>((Sum.inl t:Key),V.ref (ea t))))):=ab;have s2:aq H (upd H1 st (.frz oF (.dK (ms.map λt=>((Sum.inl t:Key),V.ref (ea t)))))):=λc u q=>by rw[ak (ai q hst)];exact s1 c u q
 have he:∀ t∈ms,upd H1 st (.frz oF (.dK (ms.map λt=>((Sum.inl t:Key),V.ref (ea t))))) (ea t)=some (.tup [R.oV (fr t).1,.int (fr t).2]):=λt h=>by rw[ak (bI (M.he t h) M.hs (by intro z;cases z))];exact M.he t h
 generalize upd H1 st (.frz oF (.dK (ms.map λt=>((Sum.inl t:Key),V.ref (ea t)))))=H2 at *;refine rR (d:=st) (o:=oF) (kvs:=ms.map λt=>((Sum.inl t:Key),V.ref (ea t))) (λi ys H3=>ys.length=i∧aq H2 H3∧H3 Dq=some (.lst ys)) ⟨rfl,aq.upd hD,ab⟩ (λi ys H3 _ ⟨e,_,z⟩=>⟨z,e⟩) (λi ys H3 _ ⟨_,s3,_⟩=>s3 _ _ zst) (LL (show _≤12 by rw[Lp];omega) (by decide)) (λi p ys H3 hp ⟨e,s3,z⟩=>?_) (λys H3 ⟨e,s3,z⟩=>k ok _ _ (s2.trans s3));rw[Lz]at hp;obtain⟨t,htt,rfl⟩:=LG.mp hp;have mt:=LD htt;have gv:cC (ms.map λt=>((Sum.inl t:Key),V.ref (ea t))) (Sum.inl t)=some (V.ref (ea t)):=by rw[R.Sd.val,if_pos mt]
 have dg:eG H3 st (.int t) (some (V.ref (ea t))):=.inl ⟨_,Sum.inl t,.inr ⟨oF,s3 _ _ zst⟩,rfl,gv.symm⟩;have h3:=s3 _ _ (he t mt);refine⟨_,rfl,_,rfl,_,rfl,st,_,rfl,dg,ea t,_,0,R.oV (fr t).1,rfl,rfl,SqT.of h3,rfl,_,rfl,_,rfl,st,_,rfl,dg,ea t,_,1,.int (fr t).2,rfl,rfl,SqT.of h3,rfl,by show 3≤sizeLine;decide,λq hq=>?_⟩;exact⟨aq.upd hq _ _ z,by rw[Lw,e];rfl,λc u g=>by rw[ak (ai g hD)];exact aq.upd hq _ _ (s3 c u g),ab⟩
end
section
variable{P:Program}{w:World}{K:W.Frag}{mg:Str→Option Value}{base:Heap}
def Gdq(way:Nat)(t:Int)(rs:List (Option Int))(ks:R.Fs):Prop:=Okv rs ks∧(way=1∨way=2∨way=6→t∈R.keys ks)
def yN(K:W.Frag):Sp:=λvs H Q E=>∃(way:Nat) (v r d:Addr) (o:Obj) (ad:Int→Addr) (rs:List (Option Int)) (ks:R.Fs) (t:Int),vs=[.int way,.ref v,.int t]∧way<7∧SqT K H v [.ref r,.ref d]∧R.Vw H r d o ad rs ks∧Rv rs ks∧Sm t∧(Gdq way t rs ks→∀ x H',aq H H'→Q x H')∧(¬Gdq way t rs ks→Bad 243 H E)
abbrev tf:List Str:=["way", "view", "thing"]
theorem rg:ar tf ["way", "view", "thing"] (ao lH):=fsc
theorem j3(T:Txt w K mg):Ok P w K mg base 6 1027 ["way", "view", "thing"] (yN K):=by
 refine T.o3 "_law_asked" rg λcdv A' outer s' H vs Q E hr h=>?_;obtain⟨way,v,r,d,o,ad,rs,ks,t,rfl,hw,ht,hv,rv,sm,k,kb⟩:=h;refine⟨_,(af (aO (az cL (pv 0) aj (aF _))
   (ag (aA ((vZ T).c hr px (aa (pv 1) ah))))
   aC)
  (af (aO (az cL (pv 0) aj (aF _))
   (ag (aA ((yK T).c hr px (aa (pv 1) (aa (pv 2) ah)))))
   aC)
  (af (aO (az cL (pv 0) aj (aF _))
   (ag (aA ((yL T).c hr px (aa (pv 1) (aa (bM (aa (pv 2) (aa (pv 2) ah))) ah)))))
   aC)
  (af (aO (az cL (pv 0) aj (aF _))
   (ag (aA ((pP T).c hr px (aa (pv 1) ah))))
   aC)
  (af (aO (az cL (pv 0) aj (aF _))
   (ag (aA ((sZ T).c hr px (aa (pv 1) (aa (bM ah) ah)))))
   aC)
  (af (aO (az cL (pv 0) aj (aF _))
   (ag (aA ((oW T).c hr px (aa (pv 1) (aa (bM ah) ah)))))
   aC)
  (ag (aA ((wa T).c hr px (aa (pv 1) (aa (pv 2) ah))))))))))),?_⟩
 match way,hw,k,kb with
 | 0,_,k,kb =>
  refine⟨_,rfl,rfl,_,rfl,iw (by rfl) ?_⟩;exact⟨_,rfl,v,r,d,o,ad,rs,ks,rfl,ht,hv,rv,(λok=>k ⟨ok,λz=>absurd z (by decide)⟩),(λno=>kb λg=>no g.1)⟩
 | 1,_,k,kb =>
  refine⟨_,rfl,rfl,_,rfl,b7 (by rfl) ?_⟩;refine⟨_,rfl,rfl,_,rfl,iw (by rfl) ?_⟩;exact⟨_,rfl,_,rfl,v,r,d,o,ad,rs,ks,t,rfl,ht,hv,rv,sm,(λg=>k ⟨g.1,λ_=>g.2⟩),(λno=>kb λg=>no ⟨g.1,g.2 (by decide)⟩)⟩
 | 2,_,k,kb =>
  refine⟨_,rfl,rfl,_,rfl,b7 (by rfl) ?_⟩;refine⟨_,rfl,rfl,_,rfl,b7 (by rfl) ?_⟩;refine⟨_,rfl,rfl,_,rfl,iw (by rfl) ?_⟩;refine⟨_,rfl,_,rfl,_,rfl,by show 2≤sizeLine;decide,λp hp=>?_⟩;have sp:=aq.upd (o:=.lst [V.int t,V.int t]) hp;have all:(∀ n∈[t,t],n∈R.keys ks)↔t∈R.keys ks:=by simp
  exact⟨v,r,d,p,o,ad,rs,ks,[t,t],rfl,R.bu ht sp,hv.same sp,rv,ab,show 2≤20 by decide,(λn h=>by simp at h;rw[h];exact sm),λg x H' s'=>k ⟨g.1,λ_=>all.mp g.2⟩ x H' (sp.trans s'),λno=>(kb λg=>no ⟨g.1,all.mpr (g.2 (by decide))⟩).same sp⟩
 | 3,_,k,kb =>
  refine⟨_,rfl,rfl,_,rfl,b7 (by rfl) ?_⟩;refine⟨_,rfl,rfl,_,rfl,b7 (by rfl) ?_⟩;refine⟨_,rfl,rfl,_,rfl,b7 (by rfl) ?_⟩;refine⟨_,rfl,rfl,_,rfl,iw (by rfl) ?_⟩;exact⟨_,rfl,v,r,d,o,ad,rs,ks,rfl,ht,hv,rv,(λok=>k ⟨ok,λz=>absurd z (by decide)⟩),(λno=>kb λg=>no g.1)⟩
 | 4,_,k,kb =>
  refine⟨_,rfl,rfl,_,rfl,b7 (by rfl) ?_⟩;refine⟨_,rfl,rfl,_,rfl,b7 (by rfl) ?_⟩;refine⟨_,rfl,rfl,_,rfl,b7 (by rfl) ?_⟩;refine⟨_,rfl,rfl,_,rfl,b7 (by rfl) ?_⟩;refine⟨_,rfl,rfl,_,rfl,iw (by rfl) ?_⟩;refine⟨_,rfl,by show 0≤sizeLine;decide,λp hp=>?_⟩;have sp:=aq.upd (o:=.lst []) hp;exact⟨v,r,d,p,o,ad,rs,ks,rfl,R.bu ht sp,hv.same sp,rv,ab,λok x H' s'=>k ⟨ok,λz=>absurd z (by decide)⟩ x H' (sp.trans s'),λno=>(kb λg=>no g.1).same sp⟩
 | 5,_,k,kb =>
  refine⟨_,rfl,rfl,_,rfl,b7 (by rfl) ?_⟩;refine⟨_,rfl,rfl,_,rfl,b7 (by rfl) ?_⟩;refine⟨_,rfl,rfl,_,rfl,b7 (by rfl) ?_⟩;refine⟨_,rfl,rfl,_,rfl,b7 (by rfl) ?_⟩;refine⟨_,rfl,rfl,_,rfl,b7 (by rfl) ?_⟩;refine⟨_,rfl,rfl,_,rfl,iw (by rfl) ?_⟩;refine⟨_,rfl,by show 0≤sizeLine;decide,λp hp=>?_⟩;have sp:=aq.upd (o:=.lst []) hp;exact⟨v,r,d,p,o,ad,rs,ks,rfl,R.bu ht sp,hv.same sp,rv,ab,λok x H' s'=>k ⟨ok,λz=>absurd z (by decide)⟩ x H' (sp.trans s'),λno=>(kb λg=>no g.1).same sp⟩
 | 6,_,k,kb =>
  refine⟨_,rfl,rfl,_,rfl,b7 (by rfl) ?_⟩;refine⟨_,rfl,rfl,_,rfl,b7 (by rfl) ?_⟩;refine⟨_,rfl,rfl,_,rfl,b7 (by rfl) ?_⟩;refine⟨_,rfl,rfl,_,rfl,b7 (by rfl) ?_⟩;refine⟨_,rfl,rfl,_,rfl,b7 (by rfl) ?_⟩;refine⟨_,rfl,rfl,_,rfl,b7 (by rfl) ?_⟩;exact⟨_,rfl,_,rfl,v,r,d,o,ad,rs,ks,t,rfl,ht,hv,rv,sm,(λg=>k ⟨g.1,λ_=>g.2⟩),(λno=>kb λg=>no ⟨g.1,g.2 (by decide)⟩)⟩
end
section
variable{P:Program}{w:World}{K:W.Frag}{mg:Str→Option Value}{base:Heap}
theorem qC{K:W.Frag}{t:Value}:∀ {as:List Addr},(∀ a∈as,PySem.W.kitOne K t (.ref a)=some false)→PySem.W.kitAny K t ((as.map V.ref).map AK)=some false
 | [],_=>rfl
 | a::r,h=>by
  have e:=h a LR;show PySem.W.kitAny K t (Value.ref a::(r.map V.ref).map AK)=_;unfold PySem.W.kitAny;rw[e];exact qC λb m=>h b (LU _ m)
theorem xK(as:List Addr):∀ c∈as.map V.ref,∃ a,c=V.ref a:=λc m=>by obtain⟨a,_,e⟩:=LH.mp m;exact⟨a,e.symm⟩
theorem all_nil{p:Addr→Prop}:∀ a∈([]:List Addr),p a:=λ_ m=>nomatch m
theorem all_cons{p:Addr→Prop}{a:Addr}{r:List Addr}(h:p a)(t:∀ b∈r,p b):∀ b∈a::r,p b:=λb m=>(LQ.mp m).elim (λe=>by rw[e];exact h) (t b)
def Az(K:W.Frag):Sp:=λvs H Q _=>∃(way:Nat) (v r d:Addr) (o:Obj) (ad:Int→Addr) (rs:List (Option Int)) (ks:R.Fs) (t:Int),vs=[.int way,.ref v,.int t]∧way<7∧SqT K H v [.ref r,.ref d]∧R.Vw H r d o ad rs ks∧Rv rs ks∧Sm t∧(Gdq way t rs ks→∀ H',aq H H'→Q (.str "told") H')∧(¬Gdq way t rs ks→∀ H',aq H H'→Q (.str "bad") H')
abbrev uA:List Str:=["way", "view", "thing", "word", "e", "others"]
theorem b9:ar uA ["way", "view", "thing"] (ao nR):=fsc
theorem tj(T:Txt w K mg):Ok P w K mg base 7 1034 ["way", "view", "thing"] (Az K):=by
 refine T.o3 "_law_word" b9 λcdv A' outer s' H vs Q E hr h=>?_;obtain⟨way,v,r,d,o,ad,rs,ks,t,rfl,hw,ht,hv,rv,sm,kt,kb⟩:=h;obtain⟨cdH,xH⟩:=(T.h 45);refine⟨_,(af (aw (i:=3) b9.nd rfl (Or.inl rfl) aJ)
  (af (AL (i:=4) rfl rfl rfl rfl T.m xH b9.nd rfl rfl (λpins E' EK hp=>ag (au (jV (j3 T).g (hr.mono (by decide)) rfl T.m T.kp (j3 (P:=P) (base:=base) T).b .nil hp (aa (pv 0) (aa (pv 1) (aa (pv 2) ah)))))) (λea=>(af (aw (i:=5) b9.nd rfl (Or.inl rfl) (aK (r:=tH K) nZ rfl T.z PyProof.Rows.Boot.«isinstance» (aa (pv 4) (aa (aX (aa (bg (v:=.ref 262) rfl T.m rfl) (aa (bg (v:=.ref 122) rfl T.m rfl) (aa (bg (v:=.ref 103) rfl T.m rfl) (aa (bg (v:=.ref 65) rfl T.m rfl) (aa (bg (v:=.ref 307) rfl T.m rfl) (aa (bg (v:=.ref 84) rfl T.m rfl) (aa (bg (v:=.ref 281) rfl T.m rfl) (aa (bg (v:=.ref 224) rfl T.m rfl) ah))))))))) ah)))) (af (aw (i:=5) b9.nd rfl (Or.inl rfl) (Dj (pv 5) (wj (aK (r:=tH K) nZ rfl T.z PyProof.Rows.Boot.«isinstance» (aa (pv 4) (aa (aX (aa (bg (v:=.ref 141) rfl T.m rfl) (aa (bg (v:=.ref 198) rfl T.m rfl) (aa (bg (v:=.ref 179) rfl T.m rfl) (aa (bg (v:=.ref 160) rfl T.m rfl) ah))))) ah)))))) (af (aw (i:=3) b9.nd rfl (Or.inl rfl) aJ) (ag (by exact(aO (PW.pt (pw_and (fF (aK (r:=IV K) zG rfl T.z PyProof.Rows.Boot.«isinstance» (aa (pv 4) (aa (bg (v:=.ref 243) rfl T.m rfl) ah)))) (pw_and (fF (aK (r:=BF K) rK rfl T.z PyProof.Rows.Boot.«isinstance» (aa (pv 4) (aa (DE rfl T.z PyProof.Rows.Boot.«ValueError») ah)))) (pw_and (gw (fF (pv 5))) (pw_and1 (az cL (show PE _ _ (tJ P w K mg base (CXE P w) 1 "called" (λ_ _ _ _=>False) (BP 4)) from rS (k:=1) (CX:=CXE P w) (pv 4) ⟨(hr.r0 (show 1≤6 by decide)).dp,(hr.r0 (show 1≤6 by decide)).un⟩ kz) aJ (aF _))))))) (ag (aw (i:=3) b9.nd rfl (Or.inl rfl) aJ)) aC))))))))
  (ag (aA (pv 3))))),?_⟩
 obtain⟨cd,xc,hm⟩:=(T.sub 243);refine⟨_,rfl,_,rfl,_,rfl,way,v,r,d,o,ad,rs,ks,t,rfl,hw,ht,hv,rv,sm,λg x H1 s1=>⟨_,rfl,kt g H1 s1⟩,λno H1 s1=>?_⟩;have kx:=kb no;refine⟨243,cd,rfl,xc,hm,λea hea=>?_⟩;have se:=aq.upd (o:=exo false 243 ea none) hea;have he:upd H1 ea (exo false 243 ea none) ea=some (exo false 243 ea none):=ab;generalize upd H1 ea (exo false 243 ea none)=H2 at *;refine⟨_,rfl,by show 8≤sizeLine;decide,λt1 ht1=>?_⟩;have u1:=aq.upd (o:=.tup ([262,122,103,65,307,84,281,224].map V.ref)) ht1;obtain⟨cx,xx⟩:=(T.ec 243).cls;refine⟨false,ea,243,t1,none,cx,[262,122,103,65,307,84,281,224].map V.ref,false,rfl,u1 _ _ he,.inl rfl,xx,(T.ec 243).get,(T.ec 243).own,SqT.of ab,xK _,qC (all_cons T.ki (all_cons T.ki (all_cons T.ki (all_cons T.ki (all_cons T.ki (all_cons T.ki (all_cons T.ki (all_cons T.ki all_nil)))))))),?_⟩;refine⟨_,rfl,false,rfl,b4 ⟨_,rfl,by show 4≤sizeLine;decide,λt2 ht2=>?_⟩⟩;have u2:=aq.upd (o:=.tup ([141,198,179,160].map V.ref)) ht2;have e2:=u2 _ _ (u1 _ _ he);refine⟨false,ea,243,t2,none,cx,[141,198,179,160].map V.ref,false,rfl,e2,.inl rfl,xx,(T.ec 243).get,(T.ec 243).own,SqT.of ab,xK _,qC (all_cons T.ki (all_cons T.ki (all_cons T.ki (all_cons T.ki all_nil)))),?_⟩;have ty:TyX K _ (.ref ea) (.ref 243):=(T.ec 243).ty e2;refine⟨_,rfl,.ref ea,.ref 243,.ref 243,true,rfl,ty,⟨_,rfl⟩,T.ki,true,rfl,cZ ?_⟩;refine yi (x:=.ref ea) (t:=.ref 243) (b:=true) rfl ty T.ki ⟨true,rfl,cZ ?_⟩;refine⟨_,rfl,false,rfl,cZ ?_⟩;refine⟨.ref ea,rfl,false,ea,243,cy "BadView",rfl,e2,(T.ec 243).get,⟨_,_,_,(T.me (c:=243)),(gb T).g,(gb (P:=P) (base:=base) T).b⟩,_,rfl,rfl,_,rfl,iw (by kernel_rfl) ?_⟩;exact⟨_,rfl,kx _ ((s1.trans se).trans (u1.trans u2))⟩
end
section
variable{P:Program}{w:World}{K:W.Frag}{mg:Str→Option Value}{base:Heap}
def EV(K:W.Frag):Sp:=λvs H Q _=>∃ v r d o ad rs ks c,∃ cs:List Int,vs=[.ref v,.ref c]∧SqT K H v [.ref r,.ref d]∧R.Vw H r d o ad rs ks∧R.Rt rs ks∧rs.length≤19∧SqL K H c (cs.map V.int)∧cs.length≤1000∧∀ H',aq H H'→Q (.bl true) H'
theorem R.u9{K:W.Frag}{H H':Hp}{a:Addr}{xs:List V}(h:SqL K H a xs)(s:aq H H'):SqL K H' a xs:=Or.imp (λr=>Or.elim r (λe=>.inl (s _ _ e)) λ⟨o,e⟩=>.inr ⟨o,s _ _ e⟩) id h
abbrev lD:List Str:=["view", "cells", "names", "cell", "made", "thing", "way", "due"]
theorem aQ:ar lD ["view", "cells"] (ao fZ):=fsc
theorem kn(T:Txt w K mg):Ok P w K mg base 8 1053 ["view", "cells"] (EV K):=by
 refine T.o2 "_law_views_good" aQ λcdv A' outer s' H vs Q E hr h=>?_;obtain⟨v,r,d,o,ad,rs,ks,c,cs,rfl,ht,hv,rt,rl,hc,cz,k⟩:=h;have hu:=bX hr;have hu0:=Nat.lt_of_succ_lt hu;refine⟨_,(PSs.nox (af (aw (i:=2) aQ.nd rfl (Or.inl rfl) (aK (dD rfl) rfl T.z PyProof.Rows.Boot.«sorted» (aa (aD aB (pv 0) aj (λ_ _=>rfl)) ah)))
  (af (bq LP rfl (bh (pv 1)) (aL (i:=3) aQ.nd rfl (Or.inl rfl))
   (af (aw (i:=4) aQ.nd rfl (Or.inl rfl) ((uy T).c hr bR (aa (pv 0) (aa (pv 3) ah))))
   (af (aw (i:=5) aQ.nd rfl (Or.inl rfl) (ay qG (ay aW (ay bB (pv 3) aj) aj) aj))
   (af (aO (PW.pt (pw_and (az (wD hu0) (pv 2) (bM ah) (aF _)) (pw_and1 (az cL (ay aW (ay bB (pv 3) aj) aj) aj (aF _)))))
    (ag (aw (i:=5) aQ.nd rfl (Or.inl rfl) (aD bE (pv 2) (ay aW (ay bB (pv 3) aj) (aK aU rfl T.z PyProof.Rows.Boot.«len» (aa (pv 2) ah))) (λ_ _=>rfl))))
    aC)
   (ag (bq LP rfl (fH rfl T.z (aa aj ah)) (aL (i:=6) aQ.nd rfl (Or.inl rfl))
    (af (aw (i:=7) aQ.nd rfl (Or.inl rfl) aJ)
    (af (aO (PW.pt (pw_or (fF ((ux T).c hr bR (aa (pv 4) ah))) (pw_or1 (PW.pt (pw_and (az nz (pv 6) (aX (aa aj (aa aj (aa aj ah)))) (by with_unfolding_all rfl)) (pw_and1 (cA (bo hu (pv 5) (aD aB (pv 0) aj (λ_ _=>rfl))) (by with_unfolding_all rfl))))))))
     (ag (aw (i:=7) aQ.nd rfl (Or.inl rfl) aJ))
     aC)
    (ag (aO (az vj ((tj T).c hr bR (aa (pv 6) (aa (pv 4) (aa (pv 5) ah)))) (pv 7) (aF _))
     (ag (aA iP))
     aC))))))))))
  (ag (aA iP))))),?_⟩
 refine⟨_,rfl,v,_,1,.ref d,rfl,rfl,ht,rfl,d,R.kvl ad ks,R.keys ks,rfl,.inr ⟨o,hv.hd⟩,by unfold R.kvl R.keys;rw[LO,LO];rfl,by have:=rt.kl;unfold R.keys;rw[Lp];omega,λnl ns hnl perm _=>?_⟩;have s0:=aq.upd (o:=.lst (ns.map V.int)) hnl;have smk:∀ n∈ns,Sm n:=λn h=>by
  obtain⟨p,hp,rfl⟩:=LH.mp (perm.mem_iff.mp h);have a:=rt.pos p hp;have b:=rt.top p hp;exact Sm.of (by omega) (by omega)
 refine⟨_,rfl,c,rfl,⟨_,R.u9 hc s0⟩,cJ (K:=K) (a:=c) (xs:=cs.map V.int) (λi σ Hx=>∃ v3 v4 v5 v6 v7,σ=[some (.ref v),some (.ref c),some (.ref nl),v3,v4,v5,v6,v7]∧aq H Hx∧Hx nl=some (.lst (ns.map V.int))) ⟨none,none,none,none,none,rfl,s0,ab⟩ (λi σ Hx _ ⟨_,_,_,_,_,_,sx,_⟩=>R.u9 hc sx) ?_ ?_⟩
 ·rintro i x σ Hx hi ⟨v3,v4,v5,v6,v7,rfl,sx,zn⟩
  rw[Lz]at hi;obtain⟨cell,_,rfl⟩:=LG.mp hi;simp only[da];refine⟨_,rfl,_,rfl,v,r,d,o,ad,rs,ks,cell,rfl,R.bu ht sx,hv.same sx,rt,rl,λv' r' d' o' ad' rs' ks' H1 s1 tv V1 kk rv=>?_⟩;have sx1:=sx.trans s1;refine⟨_,rfl,cell,16,rfl,rfl,⟨by decide,by decide⟩,_,50,rfl,rfl,(by show(0:Int)<50;decide),_,1,rfl,rfl,?_⟩;refine cP λN0 hN0=>?_;refine hN0 _ _ ?_;refine cP λN hN=>?_;have go:∀(t:Int) (Hy:Hp),Sm t→aq H1 Hy→N [some (.ref v),some (.ref c),some (.ref nl),some (.int cell),some (.ref v'),some (.int t),v6,v7] Hy:=by
   intro t Hy st sy;refine hN _ _ ?_;refine⟨7,rfl,by decide,by decide,jF (lo:=0) (n:=7) (λi σ Hz=>∃ u6 u7,σ=[some (.ref v),some (.ref c),some (.ref nl),some (.int cell),some (.ref v'),some (.int t),u6,u7]∧aq H1 Hz) ⟨_,_,rfl,sy⟩ ?_ ?_⟩
   ·rintro i σ Hz hi ⟨u6,u7,rfl,sz⟩
    have zi:(0:Int)+(i:Int)=((i:Nat):Int):=(by omega);simp only[da];rw[zi];refine cP λM0 hM0=>?_;refine hM0 _ _ ?_;refine cP λM hM=>?_;have fin:∀(y:Str) (Hw:Hp),aq H1 Hw→((y = "told" ∧ Gdq i t rs' ks')∨(y = "bad" ∧ ¬Gdq i t rs' ks'))→M [some (.ref v),some (.ref c),some (.ref nl),some (.int cell),some (.ref v'),some (.int t),some (.int (i:Int)),some (.str y)] Hw:=by
     intro y Hw sw hy;refine hM _ _ ?_;refine⟨_,rfl,_,rfl,_,rfl,i,v',r',d',o',ad',rs',ks',t,rfl,hi,SqT.of (sw _ _ tv),V1.same sw,rv,st,λg Hq sq=>?_,λno Hq sq=>?_⟩
     ·rcases hy with⟨rfl,_⟩|⟨_,no⟩
      ·exact⟨_,rfl,rfl,_,rfl,b7 (by kernel_rfl) ⟨_,_,rfl,sw.trans sq⟩⟩
      ·exact absurd g no
     ·rcases hy with⟨_,g⟩|⟨rfl,_⟩
      ·exact absurd g no
      ·exact⟨_,rfl,rfl,_,rfl,b7 (by kernel_rfl) ⟨_,_,rfl,sw.trans sq⟩⟩
    refine⟨_,rfl,v',r',d',o',ad',rs',ks',rfl,SqT.of (sz _ _ tv),V1.same sz,rv,λb Ha hb sa=>?_⟩;have sza:=sz.trans sa;cases b with
    | true=>exact⟨true,rfl,cZ (cZ (fin "bad" Ha sza (.inr ⟨rfl,λg=>hb.mp rfl g.1⟩)))⟩
    | false =>
     have ok:Okv rs' ks':=Mr λno=>nomatch hb.mpr no;refine⟨false,rfl,b4 ?_⟩;refine⟨_,rfl,by show 3≤sizeLine;decide,λtp htp=>⟨tp,_,rfl,.inr (SqT.of ab),rfl,rfl,_,rfl,?_⟩⟩;have sw:=sza.trans (aq.upd (o:=.tup [V.int 1,V.int 2,V.int 6]) htp);by_cases cc:i=1∨i=2∨i=6
     ·refine iw (by rcases cc with rfl|rfl|rfl<;>rfl) ?_
      refine⟨_,rfl,_,rfl,v,_,1,.ref d,rfl,rfl,R.bu ht (sx1.trans sw),rfl,d,_,rfl,R.rb ((sx1.trans sw) _ _ hv.hd) t,_,rfl,?_⟩;by_cases m:t∈R.keys ks
      ·rw[if_pos m]
       exact b4 (fin "told" _ sw (.inl ⟨rfl,ok,λ_=>by rw[kk];exact m⟩))
      ·rw[if_neg m]
       exact cZ (fin "bad" _ sw (.inr ⟨rfl,λg=>m (by rw[←kk];exact g.2 cc)⟩))
     ·have c4:i=0∨i=3∨i=4∨i=5:=by omega
      exact b7 (by rcases c4 with rfl|rfl|rfl|rfl<;>rfl) (b4 (fin "told" _ sw (.inl ⟨rfl,ok,λz=>absurd z cc⟩)))
   ·rintro σ Hz ⟨u6,u7,rfl,sz⟩
    exact⟨_,_,_,_,_,rfl,sx1.trans sz,sz _ _ (s1 _ _ zn)⟩
  refine⟨_,rfl,by show 0≤sizeLine;decide,λe he=>⟨nl,e,ns,[],rfl,rfl,SqL.of (aq.upd he _ _ (s1 _ _ zn)),SqL.of ab,_,rfl,aH (λh=>⟨_,rfl,cell,8,rfl,rfl,⟨by decide,by decide⟩,_,2,rfl,rfl,(by show(0:Int)<2;decide),rfl,_,rfl,aH (λ_=>?_) (λ_=>go _ _ (Sm.of (by omega) (by omega)) (aq.upd he))⟩) (λ_=>b4 (go _ _ (Sm.of (by omega) (by omega)) (aq.upd he)))⟩⟩;have nn:ns≠[]:=by simpa using h
  obtain⟨nk,mk,ank⟩:=Ba nn (cell/16);have l0:(0:Int)<((ns.map V.int).length:Nat):=by
   have:=Nn.mpr nn
   rw[Lp];omega
  have zn2:=aq.upd (o:=.lst []) he _ _ (s1 _ _ zn);exact⟨_,rfl,_,rfl,cell,16,rfl,rfl,⟨by decide,by decide⟩,_,rfl,nl,_,rfl,.inl (SqL.of zn2),_,_,rfl,rfl,l0,nl,_,_,.int nk,rfl,rfl,SqL.of zn2,ank,go nk _ (smk nk mk) (aq.upd he)⟩
 ·rintro σ Hx ⟨v3,v4,v5,v6,v7,rfl,sx,zn⟩
  exact k Hx sx
end
section
variable{P:Program}{w:World}{K:W.Frag}{mg:Str→Option Value}{base:Heap}
abbrev oZ:List Str:=["value"]
theorem nj:ar oZ ["value"] (ao il):=fsc
theorem gW(T:Txt w K mg):Ok P w K mg base 1 1088 ["value"] (xC):=by
 refine T.o1 "_law_thing_in" nj λcdv A' outer s' H vs Q E hr h=>?_;obtain⟨v,w,rfl,wv,k⟩:=h;refine⟨_,(PSs.nox (af (aO (PW.pt (pw_or (az tN (pv 0) bH (aF _)) (pw_or1 (az vj (aD aB (pv 0) aj (λ_ _=>rfl)) aJ (aF _)))))
   (ag (aA bH))
   aC)
  (ag (aA (aD aB (pv 0) aj (λ_ _=>rfl)))))),?_⟩
 cases w with
 | no =>
  cases (show v=V.non from wv);exact⟨_,rfl,rfl,_,rfl,cZ (cZ k)⟩
 | num n =>
  obtain⟨a,rfl,ht⟩:=wv;exact⟨_,rfl,rfl,_,rfl,b4 ⟨_,rfl,a,_,0,.str "number",rfl,rfl,SqT.of ht,rfl,rfl,_,rfl,iw (by kernel_rfl) k⟩⟩
 | th t =>
  obtain⟨a,rfl,ht⟩:=wv;exact⟨_,rfl,rfl,_,rfl,b4 ⟨_,rfl,a,_,0,.str "thing",rfl,rfl,SqT.of ht,rfl,rfl,_,rfl,b7 (by kernel_rfl) ⟨_,rfl,a,_,1,.int t,rfl,rfl,SqT.of ht,rfl,k⟩⟩⟩
abbrev gE:List Str:=["heap", "fields", "thing"]
theorem fE:ar gE ["heap"] (ao d8):=fsc
theorem jl(T:Txt w K mg):Ok P w K mg base 5 1093 ["heap"] (A9):=by
 refine T.o1 "_law_viewed" fE λcdv A' outer s' H vs Q E hr h=>?_;obtain⟨x,A,s,rfl,J,G,k⟩:=h;have hu:=bX hr;refine⟨_,(PSs.nox (af (aw (i:=1) fE.nd rfl (Or.inl rfl) bQ)
  (af (bq LP rfl (bh ((eL T).m0 T.ae hr (pv 0) bR)) (aL (i:=2) fE.nd rfl (Or.inl rfl))
   (ag (bY hu (pv 1) (pv 2) (cO (cl:=[]) (x := "value") (idx:=[]) (NC:=["value"]) (by exact bP (sc:=ao d8) (N:=gE) (ns:=[]) rfl rfl rfl (by decide +kernel) rfl rfl (by intro q hq;cases hq)) rfl (bh ((du T).m T.ae hr (pv 0) bR (aa (pv 2) ah))) (λC fp s₀ H₀=>((gW T).c hr kz (aa (pv 0) ah)))) rfl)))
  (ag (aA (aX (aa (cO (cl:=[]) (x := "value") (idx:=[]) (NC:=["value"]) (by exact bP (sc:=ao d8) (N:=gE) (ns:=[]) rfl rfl rfl (by decide +kernel) rfl rfl (by intro q hq;cases hq)) rfl (bh ((fv T).m0 T.ae hr (pv 0) bR)) (λC fp s₀ H₀=>((gW T).c hr kz (aa (pv 0) ah)))) (aa (eN (pv 1)) ah)))))))),?_⟩
 have lz0:(keys s).length≤10000:=by unfold keys;rw[Lp];exact G.few
 intro d hd;have s0:=aq.upd (o:=.dK []) hd;have J0:=J.same s0;refine⟨_,rfl,x,_,_,rfl,J0.ax,(by kernel_rfl),x,A,s,rfl,J0,G,λp1 H1 s1 hp1 z1=>?_⟩;have J1:=J0.same s1;have zd1:=s1 _ _ (j0 s0);have nfd:¬aV x A s d:=J.fresh hd;have np1:p1≠d:=bI z1 zd1 (by intro z;cases z);have back:∀ {b:Addr},b≠d→H1 b=none→H b=none:=λ{b} n q=>aq.none (s0.trans s1) q;have Jc_:∀ Hc:Hp,(∀ c u,c≠d→H1 c=some u→Hc c=some u)→IH Hc x A s:=λHc sx=>J1.keep (λc u f q=>sx c u (λz=>nfd (by rw[←z];exact f)) q) (λc us q=>sx c _ (bI q zd1 (by intro z;cases z)) q);refine⟨p1,rfl,⟨_,SqL.of z1⟩,cJ (K:=K) (a:=p1) (xs:=(keys s).map V.int) (λj σ Hc=>∃(v2:Option V) (ad:Int→Addr),σ=[some (.ref x),some (.ref d),v2]∧(∀ c u,c≠d→H1 c=some u→Hc c=some u)∧Hc d=some (.dK (((keys s).take j).map λt=>(Sum.inl t,.ref (ad t))))∧∀ t∈(keys s).take j,H1 (ad t)=none∧Hc (ad t)=some (.lst (((fld s t).map thO).map nmV)))
  ⟨none,λ_=>0,rfl,(λ_ _ _ q=>q),zd1,(λt h=>nomatch h)⟩ (λj σ Hc _ ⟨_,_,_,sx,_⟩=>SqL.of (sx _ _ np1 z1)) ?_ ?_⟩
 ·rintro j v σ Hc hj ⟨v2,ad,rfl,sx,zd,jy⟩
  rw[Lz]at hj;obtain⟨t,ht,rfl⟩:=LG.mp hj;have mt:t∈keys s:=LD ht;obtain⟨ws,mw⟩:=mem_keys.mp mt;have lt:=G.lt _ _ mw;have nx:=G.nx;have Jc:=Jc_ Hc sx;have tk:=take_snoc ht;have ni:t∉(keys s).take j:=qY (show(keys s).Pairwise (·< ·) from G.asc) ht;have ky:Kys (((keys s).take j).map λt=>((Sum.inl t:Key),V.ref (ad t))) ((keys s).take j):=by unfold Kys;rw[LO];rfl
  refine⟨_,rfl,x,_,_,rfl,Jc.ax,(by kernel_rfl),_,rfl,x,A,s,t,rfl,Jc,G,Sm.of (by omega) (by omega),λ_ p2 H3 s3 hp2 z2=>⟨p2,rfl,⟨_,SqL.of z2⟩,λL hL=>?_⟩,λh=>absurd mt h⟩;have rl:=((Jc.same s3).afl _ _ mw).2;rw[←G.fld mw]at rl;have f6:=G.f6 _ _ mw;rw[←G.fld mw]at f6;have lz:(fld s t).length≤sizeLine:=gC (by omega);refine bW (K:=K) (a:=p2) (xs:=A.fx t) (λi ys H2=>ys=((fld s t).take i).map (λw=>nmV (thO w))∧aq H3 H2∧H2 L=some (.lst ys)) ⟨rfl,aq.upd hL,ab⟩ (λi ys H2 hi ⟨e,_,z⟩=>⟨z,by rw[e,Lp,LM,←rl.1];omega⟩) (λi ys H2 hi ⟨_,s2,_⟩=>SqL.of (s2 _ _ z2)) (by rw[rl.1];exact lz) (λi y ys H2 hi ⟨e,s2,z⟩=>?_) (λys H2 ⟨e,s2,z⟩=>?_)
  ·obtain⟨wd,hw,wv⟩:=jY rl hi
   refine⟨_,rfl,y,wd,rfl,wv.keep (cN.of s2),z,?_,λb u q=>by rw[ak (ai q hL)];exact s2 b u q,ab⟩;have hlt:i<(fld s t).length:=(Lq.mp hw).1;rw[LI hlt,LA,e,(Lq.mp hw).2];rfl
  ·rw[rl.1,LF (Lu _)]at e
   have sz:=s3.trans s2;have nL:L≠d:=L4 (ai (s3 _ _ zd) hL);have hL1:H1 L=none:=by
    cases q:H1 L with
    | none=>rfl
    | some u=>rw[s3 _ _ (sx _ _ nL q)]at hL;cases hL
   refine⟨_,rfl,_,rfl,d,_,rfl,jS.k (k:=Sum.inl t) (sz _ _ zd) (by rw[Lp,LM];exact eO (by omega)),?_⟩;rw[dM _ (ky.non ni)];refine⟨_,λu=>if u=t then L else ad u,rfl,(λc u n q=>by rw[ak n];exact sz _ _ (sx c u n q)),?_,λu hu'=>?_⟩
   ·rw[ab,tk,LA]
    congr 3
    ·refine L3 λu hu'=>?_
     dsimp only;rw[if_neg λz=>ni (by rw[←z];exact hu')]
    ·simp only[L1,ML,if_true]
   ·rw[tk]at hu'
    dsimp only;by_cases c:u=t
    ·subst c
     rw[if_pos rfl];exact⟨hL1,by rw[ak nL,z,e,LO];rfl⟩
    ·rw[if_neg c]
     have mu:u∈(keys s).take j:=(LB.mp hu').resolve_right λz=>c (Lr.mp z);obtain⟨q1,q2⟩:=jy u mu;exact⟨q1,by rw[ak (λz=>by rw[z,zd]at q2;cases q2)];exact sz _ _ q2⟩
 ·rintro σ Hc ⟨v2,ad,rfl,sx,zd,jy⟩
  rw[Lp,LF (Lu _)]at zd jy;have Jc:=Jc_ Hc sx;refine⟨_,rfl,x,_,_,rfl,Jc.ax,(by kernel_rfl),x,A,s,rfl,Jc,G,λp2 H3 s3 hp2 z2=>⟨p2,rfl,⟨_,SqL.of z2⟩,λL hL=>?_⟩⟩;have rl:=(Jc.same s3).rhl;have lz:s.aM.length≤sizeLine:=gC (by rw[G.h8];decide);refine bW (K:=K) (a:=p2) (xs:=A.hx) (λi ys H2=>ys=(s.aM.take i).map (λw=>nmV (thO w))∧aq H3 H2∧H2 L=some (.lst ys)) ⟨rfl,aq.upd hL,ab⟩ (λi ys H2 hi ⟨e,_,z⟩=>⟨z,by rw[e,Lp,LM,←rl.1];omega⟩) (λi ys H2 hi ⟨_,s2,_⟩=>SqL.of (s2 _ _ z2)) (by rw[rl.1];exact lz) (λi y ys H2 hi ⟨e,s2,z⟩=>?_) (λys H2 ⟨e,s2,z⟩=>?_)
  ·obtain⟨wd,hw,wv⟩:=jY rl hi
   refine⟨_,rfl,y,wd,rfl,wv.keep (cN.of s2),z,?_,λb u q=>by rw[ak (ai q hL)];exact s2 b u q,ab⟩;have hlt:i<s.aM.length:=(Lq.mp hw).1;rw[LI hlt,LA,e,(Lq.mp hw).2];rfl
  ·rw[rl.1,LF (Lu _)]at e
   have sz:=s3.trans s2;have zd2:=sz _ _ zd;refine⟨_,rfl,d,_,zd2,λo=>⟨by show 2≤sizeLine;decide,λv hv=>?_⟩⟩;have up:∀ c u,c≠d→H2 c=some u→upd (upd H2 d (.frz o (.dK ((keys s).map λt=>(Sum.inl t,.ref (ad t)))))) v (.tup [V.ref L,V.ref d]) c=some u:=λc u n q=>by
    have q':upd H2 d (.frz o (.dK ((keys s).map λt=>(Sum.inl t,.ref (ad t))))) c=some u:=(by rw[ak n];exact q);rw[ak (ai q' hv)];exact q'
   have nL:L≠d:=L4 (ai (s3 _ _ zd) hL);have nv:d≠v:=λq=>by rw[←q,ab]at hv;cases hv
   have sx3:∀ {b:Addr},b≠d→Hc b=none→H1 b=none:=λ{b} n q=>by
    cases q':H1 b with
    | none=>rfl
    | some u=>rw[sx _ _ n q']at q;cases q
   refine k v L d o ad _ (λc u q=>?_) hd (back nL (sx3 nL (aq.none s3 hL))) (λt m=>back (λq=>by have:=(jy t m).2;rw[q,zd]at this;cases this) (jy t m).1) ab ⟨?_,?_,?_⟩
   ·have n:c≠d:=ai q hd
    exact up c u n (sz _ _ (sx c u n (s1 _ _ (s0 _ _ q))))
   ·rw[tV]
    refine up _ _ nL ?_;rw[z,e];show _=some (HO.lst ((s.aM.map thO).map nmV));rw[LO];rfl
   ·rw[ak nv,ab]
    congr 3
    show _=R.kvl ad ((keys s).map λt=>(t,(fld s t).map thO));unfold R.kvl;rw[LO];rfl
   ·intro p hp
    obtain⟨t,mt,rfl⟩:=LH.mp hp
    have:=(jy t mt).2
    rw[tV];exact up _ _ (λq=>by rw[q,zd]at this;cases this) (sz _ _ this)
end
section
variable{P:Program}{w:World}{K:W.Frag}{mg:Str→Option Value}{base:Heap}
structure Kv(H0 H:Hp)(x:Addr)(A:HA)(s:HS)(ld:Addr)(dv:List V)(i:Nat):Prop where
 j:IH H x A s
 g:Gd s
 n:s.nxt≤i
 d:H ld=some (.lst dv)
 dx:¬aV x A s ld
 ds:∀ v∈dv,∃ q dd,v=.ref q∧H q=some (.tup (Dd.its dd))∧dd.ok
 al:∀ b,H b=none→H0 b=none
theorem Kv.same{H0 H H':Hp}{x:Addr}{A:HA}{s:HS}{ld:Addr}{dv:List V}{i:Nat}(t:Kv H0 H x A s ld dv i)(k:aq H H'):Kv H0 H' x A s ld dv i :=
 ⟨t.j.same k,t.g,t.n,k _ _ t.d,t.dx,λv m=>by obtain⟨q,dd,e,h,ok⟩:=t.ds v m;exact⟨q,dd,e,k _ _ h,ok⟩,λb h=>t.al b (aq.none k h)⟩
theorem nu{ad:Int→Addr}{ks:R.Fs}:(R.kvl ad ks).length=ks.length:=by unfold R.kvl;rw[Lp]
abbrev kH:List Str:=["script", "heap", "deeds", "deed", "found", "thing"]
theorem pb:ar kH ["script"] (ao b5):=fsc
theorem EW(T:Txt w K mg):Ok P w K mg base 11 1098 ["script"] (BN K):=by
 refine T.o1 "law" pb λcdv A' outer s' H vs Q E hr h=>?_;obtain⟨a,ns,rfl,hS,hlen,k⟩:=h;have hu:=bX hr;have huV:=L6 (Nat.add_le_add_left (by decide:3≤64) _) hr.units;have S0:PS (cxE P w K mg base kH "law" (ao b5) 1098 cdv A' outer s' H E).nox ((aN b5).getD 0 (.Pass ⟨0,0,0,0⟩)) _:=(aO (gw (fF ((kn T).c hr bR (aa ((sW T).c hr bR (aa (pv 0) ah)) (aa (ay pY (bM (aa aj (aa aj (aa aj (aa aj ah))))) (jt mB (pv 0) pT (jN aj))) ah)))))
   (ag (aA iP))
   aC)
 have S1:PS (cxE P w K mg base kH "law" (ao b5) 1098 cdv A' outer s' H E).nox ((aN b5).getD 1 (.Pass ⟨0,0,0,0⟩)) _:=(aw (i:=1) pb.nd rfl (Or.inl rfl) (BU (T.mkk 980) (dJ T).g (hr.mono (by decide)) rfl T.m (dJ (P:=P) (base:=base) T).b .nil Ez (aa aj (aa aj ah))));have hh2:∃ es p q1 q2,(aN b5).getD 2 (.Pass ⟨0,0,0,0⟩)=.Assign [.Name "deeds" q1] (.List es p) q2∧∃ e0 e1 e2 e3 e4,es=[e0,e1,e2,e3,e4]∧(PE (cxE P w K mg base kH "law" (ao b5) 1098 cdv A' outer s' H E).nox e0 (AF (cD (tC (.str "make")) (cD (tC (.int 0)) (cD (tC (.int 3)) tu))))∧nsE e0=true)∧(PE (cxE P w K mg base kH "law" (ao b5) 1098 cdv A' outer s' H E).nox e1 (AF (cD (tC (.str "make")) (cD (tC (.int 1)) (cD (tC (.int 2)) tu))))∧nsE e1=true)∧(PE (cxE P w K mg base kH "law" (ao b5) 1098 cdv A' outer s' H E).nox e2 (AF (cD (tC (.str "store")) (cD (tC (.int 0)) (cD (tC (.int 1)) (cD (tC (.int 1)) tu)))))∧nsE e2=true)∧(PE (cxE P w K mg base kH "law" (ao b5) 1098 cdv A' outer s' H E).nox e3 (AF (cD (tC (.str "number")) (cD (tC (.int 2)) (cD (tC (.int 5)) tu))))∧nsE e3=true)∧(PE (cxE P w K mg base kH "law" (ao b5) 1098 cdv A' outer s' H E).nox e4 (AF (cD (tC (.str "store")) (cD (tC (.int 0)) (cD (tC (.int 0)) (cD (tC (.int 2)) tu)))))∧nsE e4=true):=⟨_,_,_,_,rfl,_,_,_,_,_,rfl,⟨aX (bp aJ (bp aj (bp aj ah))),rfl⟩,⟨aX (bp aJ (bp aj (bp aj ah))),rfl⟩,⟨aX (bp aJ (bp aj (bp aj (bp aj ah)))),rfl⟩,⟨aX (bp aJ (bp aj (bp aj ah))),rfl⟩,⟨aX (bp aJ (bp aj (bp aj (bp aj ah)))),rfl⟩⟩;have S3:PS (cxE P w K mg base kH "law" (ao b5) 1098 cdv A' outer s' H E).nox ((aN b5).getD 3 (.Pass ⟨0,0,0,0⟩)) _:=(bq LP rfl (bh (ay pY (pv 2) (cO (cl:=[]) (x := "number") (idx:=[]) (NC:=["number"]) (by exact bP (sc:=ao b5) (N:=kH) (ns:=[]) rfl rfl rfl (by decide +kernel) rfl rfl (by intro q hq;cases hq)) rfl (bh ((oK T).c hr bR (aa (pv 0) (aa aj ah)))) (λC fp s₀ H₀=>((sT T).c hr kz (aa (pv 0) ah)))))) (aL (i:=3) pb.nd rfl (Or.inl rfl))
   (af (au ((sV T).c hr bR (aa (pv 1) (aa (pv 3) ah))))
   (af (aw (i:=4) pb.nd rfl (Or.inl rfl) ((qm T).c hr bR (aa (pv 1) ah)))
   (af (aO (PW.pt (pw_or (gw (fF (aK rK rfl T.z PyProof.Rows.Boot.«isinstance» (aa (pv 4) (aa (DE rfl T.z PyProof.Rows.Boot.«tuple») ah))))) (pw_or (az vj (aK aU rfl T.z PyProof.Rows.Boot.«len» (aa (pv 4) ah)) aj (aF _)) (pw_or1 (az (Cm (n:=1) huV) (pv 4) ((jl T).c hr bR (aa (pv 1) ah)) (aF _))))))
    (ag (aA iP))
    aC)
   (af (au (kr PySem.F.plainAttrs_list PySem.F.slot_list_append PySem.F.type_list_append cw (aD aB (pv 4) aj (λ_ _=>rfl)) (aa aj ah)))
   (af (bq LP rfl (dj (aD aB (pv 4) aj (λ_ _=>rfl))) (aL (i:=5) pb.nd rfl (Or.inl rfl))
    (ag (au (kr PySem.F.plainAttrs_list PySem.F.slot_list_append PySem.F.type_list_append cw (bU hu (aD aB (pv 4) aj (λ_ _=>rfl)) (pv 5) (λ_ _=>rfl)) (aa aj ah)))))
   (ag (wF (bY hu (aD aB (pv 4) aj (λ_ _=>rfl)) (ay tM aj aj) (bM ah) rfl)))))))))
 have S4:PS (cxE P w K mg base kH "law" (ao b5) 1098 cdv A' outer s' H E).nox ((aN b5).getD 4 (.Pass ⟨0,0,0,0⟩)) _:=(aA (pQ (Cj (n:=1) huV) ((qm T).c hr bR (aa (pv 1) ah)) ((jl T).c hr bR (aa (pv 1) ah)) (aF _)));have hb:aN b5=[(aN b5).getD 0 (.Pass ⟨0,0,0,0⟩),(aN b5).getD 1 (.Pass ⟨0,0,0,0⟩),(aN b5).getD 2 (.Pass ⟨0,0,0,0⟩),(aN b5).getD 3 (.Pass ⟨0,0,0,0⟩),(aN b5).getD 4 (.Pass ⟨0,0,0,0⟩)]:=rfl;generalize (aN b5).getD 0 (.Pass ⟨0,0,0,0⟩)=st0 at S0 hb;generalize (aN b5).getD 1 (.Pass ⟨0,0,0,0⟩)=st1 at S1 hb;generalize (aN b5).getD 2 (.Pass ⟨0,0,0,0⟩)=st2 at hh2 hb;have S2:=EL (i:=2) hh2 pb.nd rfl (Or.inl rfl) (.inl rfl);generalize (aN b5).getD 3 (.Pass ⟨0,0,0,0⟩)=st3 at S3 hb;generalize (aN b5).getD 4 (.Pass ⟨0,0,0,0⟩)=st4 at S4 hb;generalize aN b5=bd at hb ⊢;subst hb;refine⟨_,(PSs.nox (af S0 (af S1 (af S2 (af S3 (ag S4)))))),?_⟩;refine⟨_,rfl,a,ns,rfl,hS,by omega,λv r d o ad rs ks H1 s1 ht hv rt rl=>?_⟩;refine⟨by show 4≤sizeLine;decide,λl0 hl0=>?_⟩;have u1:=aq.upd (o:=.lst [V.int 0,.int 5,.int 6,.int 24]) hl0;have z0:=j0 u1;refine⟨_,rfl,_,rfl,a,_,rfl,(s1.trans u1).seq hS,λp0 hp0=>?_⟩;obtain⟨c1,ec1,lc1,_⟩:=h9 ns none (some 8);rw[ec1];have u2:=aq.upd (o:=.lst (c1.map V.int)) hp0;refine⟨l0,p0,_,_,rfl,rfl,SqL.of (u2 _ _ z0),SqL.of ab,gC (by rw[Lp];show 4+c1.length≤20000;omega),λc hc=>?_⟩;have u3:=aq.upd (o:=.lst ((([0,5,6,24]:List Int)++c1).map V.int)) hc;have u13:=u1.trans (u2.trans u3);refine⟨v,r,d,o,ad,rs,ks,c,[0,5,6,24]++c1,rfl,SqT.of (u13 _ _ ht),hv.same u13,rt,rl,SqL.of (j0 u3),(by rw[Lw];show 4+c1.length≤1000;omega),λH2 s2=>⟨true,rfl,b4 ?_⟩⟩;have sa:=(s1.trans u13).trans s2;clear u1 u2 u3 u13 s1 s2 hl0 hp0 hc z0 ht hv rt rl ec1 lc1;intro x dx hx hdx nd;refine⟨x,dx,14,400,rfl,ab,.inr ⟨by decide,by decide⟩,by decide,by decide,λA H3 J0 B0 F0=>⟨rfl,?_⟩⟩;have sb:aq H H3:=λb u q=>by
  have q1:=sa _ _ q;exact B0 b u (ai q1 hx) (by rw[ak (ai q1 hx),ak (ai q1 hdx)];exact q1)
 clear B0 F0 sa hx hdx nd;refine⟨by show 3≤sizeLine;decide,λt1 h1=>⟨by show 3≤sizeLine;decide,λt2 h2=>⟨by show 4≤sizeLine;decide,λt3 h3=>⟨by show 3≤sizeLine;decide,λt4 h4=>⟨by show 4≤sizeLine;decide,λt5 h5=>⟨by show 5≤sizeLine;decide,λl0 hl0=>?_⟩⟩⟩⟩⟩⟩;have a6:=aq.upd (o:=.tup (Dd.its (.make 0 3))) h1;have a7:=aq.upd (o:=.tup (Dd.its (.make 1 2))) h2;have a8:=aq.upd (o:=.tup (Dd.its (.store 0 1 1))) h3;have a9:=aq.upd (o:=.tup (Dd.its (.number 2 5))) h4;have a10:=aq.upd (o:=.tup (Dd.its (.store 0 0 2))) h5;have a11:=aq.upd (o:=.lst [V.ref t1,V.ref t2,V.ref t3,V.ref t4,V.ref t5]) hl0;have c10:=a10.trans a11;have c9:=a9.trans c10;have c8:=a8.trans c9;have c7:=a7.trans c8;have c6:=a6.trans c7;have zl0:=j0 a11;have zt1:=c7 _ _ (ab (o:=.tup (Dd.its (.make 0 3))));have zt2:=c8 _ _ (ab (o:=.tup (Dd.its (.make 1 2))));have zt3:=c9 _ _ (ab (o:=.tup (Dd.its (.store 0 1 1))));have zt4:=c10 _ _ (ab (o:=.tup (Dd.its (.number 2 5))));have zt5:=a11 _ _ (ab (o:=.tup (Dd.its (.store 0 0 2))));clear a6 a7 a8 a9 a10 a11 c10 c9 c8 c7 h1 h2 h3 h4 h5 hl0;refine⟨_,rfl,_,rfl,a,ns,60,rfl,(sb.trans c6).seq hS,hlen,λpz zs Hn sn hz0 hz lz bz=>⟨pz,rfl,⟨_,SqL.of hz⟩,λDl hDl=>?_⟩⟩;refine bW (K:=K) (a:=pz) (xs:=zs.map V.int) (λi ys Hc=>ys.length=i∧aq Hn Hc∧Hc Dl=some (.lst ys)∧∀ v∈ys,∃ q dd,v=.ref q∧Hc q=some (.tup (Dd.its dd))∧dd.ok) ⟨rfl,aq.upd hDl,ab,λv hv=>by cases hv⟩ (λi ys Hc _ ⟨e,_,z,_⟩=>⟨z,e⟩) (λi ys Hc _ ⟨_,sc,_⟩=>SqL.of (sc _ _ hz)) (gC (by rw[Lp];have:=lz.1;omega)) (λi v ys Hc hi ⟨e,sc,z,hv⟩=>?_) (λys Hc ⟨e,sc,z,hv⟩=>?_)
 ·obtain⟨y,my,rfl⟩:=LH.mp (LD hi)
  obtain⟨y0,y1⟩:=bz y my;refine⟨_,rfl,y,rfl,y0,y1,λq dd H4 s4 hq0 hq ok=>⟨s4 _ _ z,by rw[Lw,e];rfl,λb u g=>by rw[ak (ai g hDl)];exact s4 _ _ (sc b u g),ab,λv m=>?_⟩⟩;have tk:cN H4 (upd H4 Dl (.lst (ys++[V.ref q]))):=cN.set (s4 _ _ z) (λ_ w=>nomatch w);rcases LB.mp m with m|m
  ·obtain⟨q',dd',e',hq',ok'⟩:=hv v m
   exact⟨q',dd',e',tk _ _ (s4 _ _ hq'),ok'⟩
  ·rw[Lr.mp m]
   exact⟨q,dd,rfl,tk _ _ hq,ok⟩
 have snc:=sn.trans sc;have ly:ys.length≤60:=by rw[e,Lp];exact lz.2 (by decide)
 refine⟨l0,Dl,_,_,rfl,rfl,SqL.of (snc _ _ zl0),SqL.of z,gC (by show 5+ys.length≤20000;omega),λld hld=>?_⟩;obtain⟨dv,edv⟩:∃ dv,[V.ref t1,V.ref t2,V.ref t3,V.ref t4,V.ref t5]++ys=dv:=⟨_,rfl⟩;have b1:=aq.upd (o:=.lst ([V.ref t1,V.ref t2,V.ref t3,V.ref t4,V.ref t5]++ys)) hld;have zld:=j0 b1;have sf:=snc.trans b1;have ldv:dv.length≤65:=by rw[←edv,Lw];show 5+ys.length≤65;omega
 obtain⟨HF,eHF⟩:∃ HF,upd Hc ld (.lst ([V.ref t1,V.ref t2,V.ref t3,V.ref t4,V.ref t5]++ys))=HF:=⟨_,rfl⟩;rw[edv]at zld b1 sf eHF ⊢;rw[eHF]at zld b1 sf ⊢;have hds:∀ v∈dv,∃ q dd,v=.ref q∧HF q=some (.tup (Dd.its dd))∧dd.ok:=λv m=>by
  rw[←edv]at m;rcases LB.mp m with m|m
  ·simp only[LQ,Mg,or_false]at m
   rcases m with rfl|rfl|rfl|rfl|rfl
   ·exact⟨t1,_,rfl,sf _ _ zt1,⟨by decide,by decide⟩,by decide,by decide⟩
   ·exact⟨t2,_,rfl,sf _ _ zt2,⟨by decide,by decide⟩,by decide,by decide⟩
   ·exact⟨t3,_,rfl,sf _ _ zt3,⟨by decide,by decide⟩,by decide,by decide,by decide,by decide⟩
   ·exact⟨t4,_,rfl,sf _ _ zt4,⟨by decide,by decide⟩,by decide,by decide⟩
   ·exact⟨t5,_,rfl,sf _ _ zt5,⟨by decide,by decide⟩,by decide,by decide,by decide,by decide⟩
  ·obtain⟨q',dd',e',hq',ok'⟩:=hv v m
   exact⟨q',dd',e',b1 _ _ hq',ok'⟩
 have Z0:Kv H HF x A (s0 true 14 400) ld dv 0:=⟨(J0.same c6).same sf,gd0,(by show(0:Int)≤((0:Nat):Int);decide),zld,((J0.same c6).same snc).fresh hld,hds,λb q=>aq.none ((sb.trans c6).trans sf) q⟩;clear hds eHF edv b1 sf zld hld snc zt1 zt2 zt3 zt4 zt5 zl0 c6 J0 sb sn sc hv e z hz lz bz hDl hz0;refine⟨ld,rfl,⟨_,SqL.of Z0.d⟩,cJ (K:=K) (a:=ld) (xs:=dv) (λi σ Hx=>∃ A s v3 v4 v5,σ=[some (.ref a),some (.ref x),some (.ref l0),v3,v4,v5]∧Kv H Hx x A s ld dv i)
  ⟨A,_,none,none,none,rfl,Z0⟩ (λi σ Hx _ ⟨_,_,_,_,_,_,Z⟩=>SqL.of Z.d) ?_ ?_⟩
 ·rintro i w σ Hx hi ⟨A,s,v3,v4,v5,rfl,Z⟩
  have hil:i<dv.length:=(Lq.mp hi).1;obtain⟨q,dd,rfl,hq,ok⟩:=Z.ds w (LD hi);have Zn:=Z.n;have few:s.nxt<10000:=by omega
  obtain⟨g3,n3,n4⟩:=Iy Z.g few ok;clear hi;simp only[da];refine cP λN1 hN1=>⟨_,rfl,_,rfl,x,A,s,q,dd,rfl,Z.j,Z.g,few,hq,ok,λA' H1 J1 fr=>hN1 _ _ ?_⟩;obtain⟨s',es⟩:∃ s',(dDo s dd).2=s':=⟨_,rfl⟩;rw[es]at g3 n3 n4 J1 fr;have Z1:Kv H H1 x A' s' ld dv (i+1):=⟨J1,g3,by omega,(fr.out Z.dx Z.d).1,(fr.out Z.dx Z.d).2,λv m=>by obtain⟨q,dd,e,h,ok⟩:=Z.ds v m;exact⟨q,dd,e,fr.tup _ _ h,ok⟩,λb h=>Z.al b (fr.none h)⟩;clear Z J1 fr hq n3 n4 Zn few es;have lk:(vks s').length≤10000:=by unfold vks keys;rw[Lp,Lp];exact g3.g.few
  have l6:∀ p∈vks s',p.2.length≤6:=λp hp=>by
   obtain⟨t,mt,rfl⟩:=LH.mp hp;obtain⟨ws,mw⟩:=mem_keys.mp mt;show((fld s' t).map thO).length≤6;rw[Lp,g3.g.fld mw];exact g3.g.f6 _ _ mw
  refine cP λN2 hN2=>⟨_,rfl,x,A',s',rfl,Z1.j,g3.g,λv r d o ad H2 s2 hd hr had hv Vq=>hN2 _ _ ?_⟩;refine cP λN3 hN3=>⟨_,rfl,.ref v,.ty "tuple",.type "tuple",true,rfl,.of (.tup hv),⟨_,rfl⟩,rfl,_,rfl,b4 ?_⟩;refine⟨_,rfl,v,_,rfl,.inr (SqT.of hv),rfl,_,rfl,b4 ?_⟩;refine⟨_,rfl,_,rfl,x,A',s',rfl,Z1.j.same s2,g3.g,λv2 r2 d2 o2 ad2 H3 s3 _ _ _ hv2 V2=>?_⟩;have V3:=Vq.same s3;have tv:=s3 _ _ hv;refine⟨v,v2,r,d,r2,d2,R.kvl ad (vks s'),R.kvl ad2 (vks s'),rfl,rfl,SqT.of tv,SqT.of hv2,R.nC V3.hr V2.hr,R.vW V3,R.vW V2,by rw[nu,nu],R.ql,R.ql,R.A8 V2 V3,_,rfl,b4 (hN3 _ _ ?_)⟩;have s13:=s2.trans s3;obtain⟨kvs,ekv⟩:∃ kvs,R.kvl ad (vks s')=kvs:=⟨_,rfl⟩;have lkv:kvs.length≤10000:=by rw[←ekv,nu];exact lk
  have zd:=V3.hd;have zr:=V3.hr;have zl:∀ p∈kvs,∃ t b xs,p=(Sum.inl t,V.ref b)∧H1 b=none∧cC kvs (Sum.inl t)=some (V.ref b)∧H3 b=some (.lst xs)∧xs.length≤6:=λp hp=>by
   rw[←ekv]at hp ⊢;obtain⟨z,hz,rfl⟩:=LH.mp hp;obtain⟨t,mt,rfl⟩:=LH.mp hz;exact⟨t,ad t,_,rfl,had t mt,by rw[R.gU,if_pos (L5 hz)],V3.hl _ hz,by rw[Lp];exact l6 _ hz⟩
  rw[ekv]at zd;have lr:(vrs s').length=8:=by unfold vrs;rw[Lp];exact g3.g.h8
  clear Vq V2 V3 hv hv2 s2 s3 had ekv lk l6;refine cP λN4 hN4=>⟨_,rfl,v,_,0,.ref r,rfl,rfl,SqT.of tv,rfl,.inl ⟨rfl,_,SqL.of zr⟩,r,_,_,rfl,rfl,zr,eO (by rw[Lp,lr];decide),hN4 _ _ ?_⟩;have nr:∀ {b:Addr} {u:HO},H1 b=some u→b≠r:=λq=>ai q hr;have dr:d≠r:=bI zd zr (by intro z;cases z);have vr:v≠r:=bI tv zr (by intro z;cases z);refine cP λN5 hN5=>⟨_,rfl,v,_,1,.ref d,rfl,rfl,SqT.of (by rw[ak vr];exact tv),rfl,d,o,kvs,rfl,by rw[ak dr];exact zd,eI (λj σ Hz=>∃ v5,σ=[some (.ref a),some (.ref x),some (.ref l0),some (.ref q),some (.ref v),v5]∧aq H1 Hz∧Hz v=some (.tup [.ref r,.ref d])∧Hz d=some (.frz o (.dK kvs))∧∀ p∈kvs,∃ t b xs,p=(Sum.inl t,V.ref b)∧H1 b=none∧cC kvs (Sum.inl t)=some (V.ref b)∧Hz b=some (.lst xs)∧xs.length≤100+j)
   ⟨v5,rfl,λb u q=>by rw[ak (nr q)];exact s13 _ _ q,by rw[ak vr];exact tv,by rw[ak dr];exact zd,λp hp=>?_⟩ (λj σ Hz _ ⟨_,_,_,_,z,_⟩=>z) ?_ ?_⟩
  ·obtain⟨t,b,xs,e1,e2,e3,e4,e5⟩:=zl p hp
   by_cases c:b=r
   ·subst c
    rw[zr]at e4;cases e4;exact⟨t,b,_,e1,e2,e3,ab,by rw[Lw,Lp,lr];decide⟩
   ·exact⟨t,b,xs,e1,e2,e3,by rw[ak c];exact e4,by omega⟩
  ·rintro j p σ Hz hj ⟨v5,rfl,sz,yv,yd,yl⟩
   have hjl:j<kvs.length:=(Lq.mp hj).1;obtain⟨t,b,xs,rfl,hb,e3,e4,e5⟩:=yl p (LD hj);refine⟨_,rfl,v,_,1,.ref d,rfl,rfl,SqT.of yv,rfl,_,rfl,d,_,rfl,.inl ⟨_,Sum.inl t,.inr ⟨o,yd⟩,rfl,e3.symm⟩,.inl ⟨rfl,_,SqL.of e4⟩,b,_,_,rfl,rfl,e4,eO (by omega),?_⟩;have nb:∀ {c:Addr} {u:HO},Hz c=some u→(∀ ys,u≠.lst ys)→c≠b:=λq n=>bI q e4 (n _);refine⟨_,rfl,λc u q=>by rw[ak (ai q hb)];exact sz _ _ q,by rw[ak (nb yv (λ_ z=>nomatch z))];exact yv,by rw[ak (nb yd (λ_ z=>nomatch z))];exact yd,λp' hp'=>?_⟩;obtain⟨t',b',xs',f1,f2,f3,f4,f5⟩:=yl p' hp';by_cases c:b'=b
   ·subst c
    rw[e4]at f4;cases f4;exact⟨t',b',_,f1,f2,f3,ab,by rw[Lw];show _+1≤_;omega⟩
   ·exact⟨t',b',xs',f1,f2,f3,by rw[ak c];exact f4,by omega⟩
  ·rintro σ Hz ⟨v5,rfl,sz,yv,yd,_⟩
   refine hN5 _ _ ?_;refine⟨d,o,kvs,yd,λo' u' z=>?_,?_⟩
   ·have z:H d=some (.frz o' u'):=z
    rw[Z1.al d hd]at z;cases z
   refine⟨by show 0≤sizeLine;decide,λL hL=>?_⟩;have dL:d≠L:=λz=>by rw[←z,ab]at hL;cases hL
   have vd:v≠d:=bI yv yd (by intro z;cases z);have vL:v≠L:=ai (by rw[ak vd];exact yv) hL;refine⟨_,rfl,v,_,1,.ref d,rfl,rfl,SqT.of (by rw[ak vL,ak vd];exact yv),rfl,10,6,rfl,rfl,⟨by decide,by decide,by decide⟩,d,_,rfl,jS.k (k:=Sum.inl (10 ^ 6)) (by rw[ak dL];exact ab) (eO (by omega)),?_⟩;refine⟨A',s',_,_,_,rfl,Z1.same λb u q=>?_⟩;have bd:=ai q hd;have q1:upd Hz d (.dK kvs) b=some u:=(by rw[ak bd];exact sz _ _ q);rw[ak bd,ak (ai q1 hL)];exact q1
 ·rintro σ Hx ⟨A,s,v3,v4,v5,rfl,Z⟩
  refine⟨_,rfl,x,A,s,rfl,Z.j,Z.g.g,λv r d o ad H2 s2 _ _ _ hv Vq=>?_⟩;refine⟨_,rfl,x,A,s,rfl,Z.j.same s2,Z.g.g,λv2 r2 d2 o2 ad2 H3 s3 _ _ _ hv2 V2=>?_⟩;have V3:=Vq.same s3;exact⟨v,v2,r,d,r2,d2,R.kvl ad (vks s),R.kvl ad2 (vks s),rfl,rfl,SqT.of (s3 _ _ hv),SqT.of hv2,R.nC V3.hr V2.hr,R.vW V3,R.vW V2,by rw[nu,nu],R.ql,R.ql,R.A8 V2 V3,k _⟩
end
end K21
end
section
namespace K21
open PySem L2 LX
open PySem.W
theorem all_mk{l:OpenLaw}{w:World}{h:Heap}{mg:Str→Option Value}{fa:Addr}(X:(hK w.params).In h)(G:h.Ns mainGlobals mg)(hfa:mg "law" = some (.ref fa)):∃ fd:FuncData,(∀(s:Shared) (v:Value),BindsTo s fd ⟨[v],[]⟩ [("script",v)])∧∀ base:Heap,(hK w.params).In base→base.Ns mainGlobals mg→gZ l.prog w (hK w.params) mg base (CXE l.prog w) 11 fa fd ["script"] (BN (hK w.params)):=by
 have T:Txt w (hK w.params) mg:=⟨rfl,λh=>mg_of X G h,λh=>mg_none_of X G h⟩;have e:=(T.m (na := "law") (v:=.ref 1098)).symm.trans hfa;cases e;refine⟨fdA w.params 1098,λs v=>?_,λbase _ _=>(EW (P:=l.prog) (base:=base) T).g⟩;obtain⟨_,_,_,_,_,_,_,_,_,e,_⟩:=(T.fn (st:=b5) (f:=1098) "law").ex;rw[e];exact .of_eq rfl
theorem walk{l:OpenLaw}{q:Program}{loose:List Str}{XP:(Str→Option Value)→Heap→Prop}{YP:World→Heap→Prop}{d:DefRec}(hn:l.most=some 63)(hdf:d.params.defaults=[])(hd:d.name = "law")(hY:∀(w:World) (h:Heap),YP w h→(hK w.params).In h):WalkO q loose XP YP l.row.toRowW d [] (λf vs=>PySem.call f vs) :=
 L2.B7 (n:=63) (k:=11) (x := "script") (CX:=λw=>CXE l.prog w) (sp:=λw=>BN (hK w.params)) hn (by decide) hdf ⟨rfl,by decide,by decide⟩ hY (λw mg fa h KX G hmg=>all_mk KX G (hd ▸ hmg)) (λ_ _ a ns hl _ hS=>⟨a,ns,rfl,hS,hl,λ_=>rfl⟩) λ_ _ _ _ _ z=>HU z
end K21
open PySem PySem.W PyProof.Rows
set_option maxRecDepth 100000 in
set_option maxHeartbeats 0 in
theorem PySem.Challenge.cw_stillheap_k21_no_views_and_heaps_viewed_holds : PySem.Challenge.rw_stillheap_k21_no_views_and_heaps_viewed.Holds := by
 w_on;refine holds_law K21.wsd λiN=>?_
 refine holds_open (q:=K21.hQ) (loose:=K21.hLo) (Xt:=λs=>xlAt K21.hQ [] s&&recOk (RowW.records (OpenRow.toRowW (OpenLaw.row PySem.Challenge.rw_stillheap_k21_no_views_and_heaps_viewed))) s)
  (XP:=XL K21.hQ []) (Yf:=Hook.obs (kHook K21.hK K21.hAs K21.gA)) (Ya:=Hook.val (kHook K21.hK K21.hAs K21.gA)) (YP:=Hook.says (kHook K21.hK K21.hAs K21.gA)) (N:=16064)
  K21.HG (Hook.of (kHook K21.hK K21.hAs K21.gA)) (Hook.keeps (kHook K21.hK K21.hAs K21.gA))
  (λs e=>xl_of s (Bool.and_eq_true_iff.mp e).1) XL.keeps (by rfl) (by rfl) (by rfl)
  (λs e=>recFacts_of (Bool.and_eq_true_iff.mp e).2) (by rfl) (by first|assumption|decide +kernel)
  (by decide +kernel) ⟨rfl,rfl,rfl,rfl,rfl,by decide +kernel⟩ ?hw ?hc
 (case hw=>w_witness2)
 refine K21.walk (l:=PySem.Challenge.rw_stillheap_k21_no_views_and_heaps_viewed) rfl rfl rfl (λw h Y=>PySem.W.kIn_of Y)
end
