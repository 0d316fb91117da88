import PyProof.Rows.All
import Wide.All
import OpenK.AllK
import Wide.FinOn
import PyProof.EqAt
import PyProof.EqKinds
import PyProof.TupleCall
import OpenK.KCls
import PyProof.ExcClass2
import PyProof.ExcBaseAll.ValueError
import PyProof.ExcArgs
import PyProof.Rows.Exc
import KE.KIsAll
import PyProof.StationsW
import PyProof.EnumFor
import PyProof.EnumStmt
import PyProof.EnumMake
import PyProof.NeKinds
import PyProof.Rows.SumAny
import KE.KDictSum
import PyProof.Rows.SortWalk
import PyProof.Rows.Range3
import PyProof.Rows.SetFrom
import KE.KEqDict
import PyProof.Rows.DictUnroll
import KE.KRevSl
import PyProof.AutoListH
import PyProof.AttrMiss
import KE.KRevIter
import KE.KSortTup
import KE.KLam
import PyProof.ListRange
import PyProof.SeqI3
import Wide.Seal
import PyProof.ZipIter
import PyProof.TupleIter
import PyProof.SliceStr2
import PyProof.StrWalks
import PyProof.Conv_int_bool
import PyProof.CallStr
import PyProof.TupleOfSeq
import OpenK.KTop
import KE.IntBitsLaws
import PySem.Challenge.RW_stillheap_k40_copies_laid
set_option Elab.async false
set_option linter.all false
set_option maxRecDepth 100000
set_option maxHeartbeats 4000000
set_option exponentiation.threshold 4000
section
open PySem PySem.W PySem.Spec PyProof.Rows
def EO:=@List.getElem?_eq_getElem
def ER:=@List.getElem?_eq_some_iff
def ES:=@Heap.get?_push_of_some
def ET:=@List.mem_singleton
def EU:=@List.length_map
def EV:=@Nat.le_refl
def EW:=@List.mem_append_right
def EX:=@List.mem_cons_of_mem
def EY:=@Bool.false_ne_true
def EZ:=@List.size_toArray
def E0:=@List.mem_cons_self
def E1:=@List.take_of_length_le
def E3:=@List.getElem?_map
def E4:=@Heap.lt_size
def E5:=@List.length_append
def E6:=@List.mem_of_getElem?
def E7:=@Nat.lt_of_lt_of_le
def E8:=@List.mem_cons
def E9:=@Nat.ne_of_lt
def Fb:=@List.length_take
def Fc:=@List.mem_append
def Fd:=@List.map_append
def Fe:=@List.getD_eq_getElem?_getD
def Ff:=@Heap.get?_push_size
def Fg:=@Option.some.inj
def Fh:=@Option.map_eq_some_iff
def Fi:=@List.getElem?_append_left
def Fj:=@Nat.zero_le
def Fl:=@List.map_cons
def Fm:=@List.getElem?_append_right
def Fn:=@PassesOwn.never
def Fo:=@Nat.le_trans
def Fp:=@Int.emod_lt_of_pos
def Fq:=@PySem.mem_of_lookup
def Fs:=@List.length_cons
def Ft:=@List.length_replicate
def Fu:=@Int.emod_nonneg
def Fv:=@List.getElem?_of_mem
def Fw:=@List.length_set
def Fx:=@List.mem_map
def Fy:=@Heap.get?_update_other
def Fz:=@Array.getElem?_eq_some_iff
def FA:=@Bool.false_eq_true
def FC:=@Ne.symm
def FD:=@List.replicate_succ
def FE:=@List.length_singleton
def FF:=@Nat.lt_irrefl
def FG:=@List.getElem?_eq_none
def FH:=@List.mem_filterMap
def FJ:=@List.take_append_of_le_length
def FK:=@List.mem_append_left
def FL:=@Nat.ne_of_gt
def FN:=@List.nodup_append
def FO:=@List.nodup_cons
def FP:=@Option.map_some
def FQ:=@List.take_append_drop
def FR:=@List.take_succ_eq_append_getElem
def FT:=@List.getElem?_set_ne
def FU:=@Heap.SameBut.update
def FV:=@List.length_drop
def FW:=@Option.bind_some
def FX:=@Option.getD_some
def FY:=@Bool.and_false
def FZ:=@List.getElem?_set_self
def F0:=@List.find?_cons
def F2:=@Nat.sub_self
def F3:=@List.flatten_cons
def F4:=@Around.under_plainId
def F5:=@List.mem_range
def F6:=@Heap.size_push
def F7:=@Nat.le_succ
def F8:=@Bool.eq_iff_iff
def F9:=@List.any_cons
def Ga:=@Nat.lt_of_le_of_lt
def Gb:=@List.getElem?_drop
def Gd:=@List.getElem?_take
def Ge:=@List.append_assoc
def Gf:=@List.length_range
def Gg:=@List.ext_getElem?
def Gh:=@Bool.and_eq_true
def Gi:=@List.not_mem_nil
def Gj:=@List.all_eq_true
def Gk:=@List.getElem_mem
def Gn:=@List.mem_filter
def Gp:=@Array.length_toList
def Gq:=@List.append_nil
def Gr:=@Nat.add_le_add_left
def Gs:=@Calls.Name_function_global
def Gu:=@Nat.le_of_lt
def Gv:=@List.nodup_nil
def Gw:=@Option.isSome_map
def Gx:=@Nat.lt_succ_of_lt
def Gy:=@List.prefix_refl
def Gz:=@List.mem_flatMap
def GA:=@List.of_mem_zip
end
section
namespace L2
open PySem PySem.Spec PyProof.Rows
abbrev Key:=Sum Int Str
def mZ:Key→Value→Bool
  | .inl k,v=>Value.isInt k v
  | .inr x,v=>Value.isStrOf x v
def DH(w:World):Key→Int
  | .inl k=>hashInt k
  | .inr x=>hashStr w x
theorem bN:∀ {k:Key} {v:Value},mZ k v=true→(∃ i t,k=Sum.inl i∧v=Value.int i t)∨(∃ x t,k=Sum.inr x∧v=Value.str x t)
  | .inl i,v,h=>by
    obtain⟨t,e⟩:=Value.isInt_shape (k:=i) (v:=v) h;exact .inl ⟨i,t,rfl,e⟩
  | .inr x,v,h=>by
    obtain⟨t,e⟩:=Value.isStrOf_shape (x:=x) (v:=v) h;exact .inr ⟨x,t,rfl,e⟩
theorem uc(i:Int)(t:Tok):mZ (.inl i) (.int i t)=true:=by simp[mZ,Value.isInt]
theorem ud(x:Str)(t:Tok):mZ (.inr x) (.str x t)=true:=by simp[mZ,Value.isStrOf]
theorem ze(a b:Int):decide ((Sum.inl a:Key)=Sum.inl b)=(a == b):=by
  by_cases e:a=b
  · subst e;simp
  · have h:¬(Sum.inl a:Key)=Sum.inl b:=λq=>e (Sum.inl.inj q)
    rw[decide_eq_false h];exact(beq_eq_false_iff_ne.mpr e).symm
theorem zg(a b:Str):decide ((Sum.inr a:Key)=Sum.inr b)=decide (a=b):=by
  by_cases e:a=b
  · subst e;simp
  · have h:¬(Sum.inr a:Key)=Sum.inr b:=λq=>e (Sum.inr.inj q)
    rw[decide_eq_false h,decide_eq_false e]
theorem zh(a:Int)(b:Str):decide ((Sum.inl a:Key)=Sum.inr b)=false:=decide_eq_false (λq=>nomatch q)
theorem zk(a:Str)(b:Int):decide ((Sum.inr a:Key)=Sum.inl b)=false:=decide_eq_false (λq=>nomatch q)
def cq(prog:Program)(w:World):PySem.KeyKind prog w Key where
  is:=mZ
  hash:=DH w
  inj:=λv a b ha hb=>by
    rcases bN ha with⟨i,t,rfl,rfl⟩|⟨x,t,rfl,rfl⟩
    · rcases bN hb with⟨j,u,rfl,e⟩|⟨y,u,rfl,e⟩
      · injection e with e1 _;rw[e1]
      · exact nomatch e
    · rcases bN hb with⟨j,u,rfl,e⟩|⟨y,u,rfl,e⟩
      · exact nomatch e
      · injection e with e1 _;rw[e1]
  byValue:=λk v h=>by
    rcases bN h with⟨i,t,rfl,rfl⟩|⟨x,t,rfl,rfl⟩<;>rfl
  pyHash:=λhv h=>by
    rcases bN hv with⟨i,t,rfl,rfl⟩|⟨x,t,rfl,rfl⟩
    · exact wpAny_pyHash_int h
    · exact wpAny_pyHash_str h
  eqBool:=λhu hv h=>by
    rcases bN hu with⟨i,t,rfl,rfl⟩|⟨x,t,rfl,rfl⟩
    · rcases bN hv with⟨j,u,rfl,rfl⟩|⟨y,u,rfl,rfl⟩
      · rw[ze]at h;exact wpAny_eqBool_int h
      · rw[zh]at h;exact SeqAt.EqAt.int_str i t y u _ _ _ _ h
    · rcases bN hv with⟨j,u,rfl,rfl⟩|⟨y,u,rfl,rfl⟩
      · rw[zk]at h;exact SeqAt.EqAt.str_int x t j u _ _ _ _ h
      · rw[zg]at h;exact wpAny_eqBool_str h
  «strs» := λk x t v h=>by
    rcases bN h with⟨i,u,rfl,e⟩|⟨y,u,rfl,e⟩
    · exact nomatch e
    · injection e with e1 _
      subst e1;cases v<;>rfl
theorem pP(prog:Program)(w:World)(i:Int)(t:Tok):(cq prog w).is (.inl i) (.int i t)=true:=uc i t
theorem pQ(prog:Program)(w:World)(x:Str)(t:Tok):(cq prog w).is (.inr x) (.str x t)=true:=ud x t
end L2
namespace L2
open PySem PySem.Spec PyProof.Rows
inductive V where
  | non|bl (b:Bool)|int (i:Int)|str (x:Str)|byt (b:Array UInt8)|flt (b:UInt64)|ref (a:Addr)|ty (n:String)
  deriving DecidableEq
def RelV:V→Value→Prop
  | .non,u=>u=Value.none
  | .bl b,u=>u=Value.bool b
  | .int i,u=>∃ t,u=Value.int i t
  | .str x,u=>∃ t,u=Value.str x t
  | .byt b,u=>∃ t,u=Value.bytes b t
  | .flt b,u=>∃ t,u=Value.float b t
  | .ref a,u=>u=Value.ref a
  | .ty n,u=>u=Value.type n
abbrev Vals:List V→List Value→Prop:=Paired RelV
theorem Vals.length{xs:List V}{us:List Value}(r:Vals xs us):xs.length=us.length:=Paired.length r
theorem Vals.get:∀ {xs:List V} {us:List Value} {i:Nat} {x:V},Vals xs us→xs[i]?=some x→∃ u,us[i]?=some u∧RelV x u
  | _,_,_,_,.nil,e=>by simp at e
  | _,_,0,_,.cons r _,e=>by simp at e;subst e;exact⟨_,rfl,r⟩
  | _,_,i+1,x,.cons _ t,e=>by
    obtain⟨u,h1,h2⟩:=Vals.get (i:=i) (x:=x) t (by simpa using e);exact⟨u,by simpa using h1,h2⟩
theorem Vals.set{x:V}{u:Value}(r:RelV x u):∀ {xs:List V} {us:List Value} (i:Nat),Vals xs us→Vals (xs.set i x) (us.set i u)
  | _,_,_,.nil=>.nil
  | _,_,0,.cons _ t=>.cons r t
  | _,_,i+1,.cons q t=>.cons q (Vals.set r i t)
theorem Vals.append:∀ {xs ys:List V} {us ws:List Value},Vals xs us→Vals ys ws→Vals (xs++ys) (us++ws)
  | _,_,_,_,.nil,s=>s
  | _,_,_,_,.cons r t,s=>.cons r (Vals.append t s)
theorem Vals.take:∀ {xs:List V} {us:List Value} (n:Nat),Vals xs us→Vals (xs.take n) (us.take n)
  | _,_,0,_=>.nil
  | _,_,_+1,.nil=>.nil
  | _,_,n+1,.cons r t=>.cons r (Vals.take n t)
theorem Vals.drop:∀ {xs:List V} {us:List Value} (n:Nat),Vals xs us→Vals (xs.drop n) (us.drop n)
  | _,_,0,r=>r
  | _,_,_+1,.nil=>.nil
  | _,_,n+1,.cons _ t=>Vals.drop n t
def jw:Option V→Option Value→Prop
  | some v,some u=>RelV v u
  | none,none=>True
  | _,_=>False
def KV{κ:Type}:List (κ×V)→List (κ×Value)→Prop:=Paired λ(p:κ×V) (q:κ×Value)=>p.1=q.1∧RelV p.2 q.2
def kV:Key→V
  | .inl i=>.int i
  | .inr x=>.str x
inductive HO where
  | lst (xs:List V)
  | tup (xs:List V)
  | dK (kvs:List (Key×V))|dT (kvs:List (List Key×V))
  | set (S:Int→Bool) (n:Nat)
  | ins (C dx:Addr) (fs:List (Str×V))
  | own (x:Addr)
  | xd (fs:List (Str×V))
  | met (f x:Addr)
  | rng (lo hi:Int)
  | frz (o:Obj) (u:HO)
  | tbl (ps:Array Value)
  | ext (φ:Heap→Prop)
abbrev Hp:=Addr→Option HO
def upd(H:Hp)(a:Addr)(o:HO):Hp:=λb=>if b=a then some o else H b
theorem ab{H:Hp}{a:Addr}{o:HO}:upd H a o a=some o:=by unfold upd;rw[if_pos rfl]
theorem ah{H:Hp}{a b:Addr}{o:HO}(h:b≠a):upd H a o b=H b:=by unfold upd;rw[if_neg h]
theorem bB{H:Hp}{a b:Addr}{o u:HO}(h:H a=some o)(h':H b=some u)(d:o≠u):a≠b:=by
  intro e;subst e;rw[h]at h';exact d (Fg h')
theorem ae{H:Hp}{a b:Addr}{o:HO}(h:H a=some o)(h':H b=none):a≠b:=by
  intro e;subst e;rw[h]at h';cases h'
section
variable(P:Program)(w:World)
def bV(H:Hp)(h:Heap)(a:Addr):HO→Prop
  | .lst xs=>xs.length≤sizeLine∧∃(its:List Value) (n:Nat),Vals xs its∧h.get? a=some {cls:=.type "list",data:=.seq its.toArray n}
  | .tup xs=>xs.length≤sizeLine∧∃ its:List Value,Vals xs its∧IsTup h a its.toArray
  | .dK kvs=>kvs.length≤sizeLine∧(a == sysModules)=false∧∃ vs,KV kvs vs∧h.DictOf (cq P w) a vs
  | .dT kvs=>kvs.length≤sizeLine∧(a == sysModules)=false∧∃ xs:List (List Key×Addr×Value),
      Paired (λ(p:List Key×V) (q:List Key×Addr×Value)=>p.1=q.1∧H q.2.1=some (.tup (p.1.map kV))∧RelV p.2 q.2.2) kvs xs ∧
      ∃ o es ep,h.get? a=some o∧o.ExactDict∧o.data=.dict es ep∧es.toList=xs.map (entryOfKey (tupleKind (cq P w)))∧(xs.map (·.1)).Nodup
  | .set S n=>h.SetOf (intKind P w) a S n
  | .ins C dx fs=>H dx=some (.own a)∧fs.length≤1000∧dx≠a∧h.get? a=some (PySem.W.instObj C dx) ∧
      ∃ mA,h.Ns1 dx mA∧(∀ f,jw (fs.lookup f) (mA f))∧PySem.Within mA (fs.map (·.1))
  | .own _=>∃ o,h.get? a=some o
  | .xd fs=>∃ mA,h.Ns1 a mA∧∀ f,jw (fs.lookup f) (mA f)
  | .rng lo hi=>∃ t u v,h.get? a=some {cls:=.type "range",data:=.fields #[.int lo t,.int hi u,.int 1 v]}
  | .frz o u=>h.get? a=some o∧bV H h a u
  | .tbl ps=>h.get? a=some {cls:=.none,data:=.fields ps}
  | .met f x=>h.get? a=some (PySem.W.methodObj (.ref f) (.ref x))
  | .ext φ=>φ h∧(∃ o,h.get? a=some o)∧∀ h1 h2:Heap,φ h1→(∀ o,h1.get? a=some o→h2.get? a=some o)→φ h2
def HOk(H:Hp)(h:Heap):Prop:=∀ a o,H a=some o→bV P w H h a o
end
section
variable{P:Program}{w:World}{H H':Hp}{h h':Heap}{a:Addr}{o:HO}
theorem bV.lt(x:bV P w H h a o):a<h.objs.size:=by
  cases o with
  | lst xs=>obtain⟨_,_,_,_,e⟩:=x;exact E4 e
  | tup xs=>obtain⟨_,_,_,p⟩:=x;exact p.lt
  | dK kvs=>obtain⟨_,_,_,_,o,_,_,e,_⟩:=x;exact E4 e
  | dT kvs=>obtain⟨_,_,_,_,o,_,_,e,_⟩:=x;exact E4 e
  | set S n=>obtain⟨o,_,_,_,e,_⟩:=x;exact E4 e
  | ins C dx fs=>obtain⟨_,_,_,e,_⟩:=x;exact E4 e
  | own y=>obtain⟨_,e⟩:=x;exact E4 e
  | xd fs=>obtain⟨_,⟨_,_,_,e,_⟩,_⟩:=x;exact E4 e
  | rng lo hi=>obtain⟨_,_,_,e⟩:=x;exact E4 e
  | frz ob u=>obtain⟨e,_⟩:=x;exact E4 e
  | tbl ps=>exact E4 (show h.get? a=some _ from x)
  | met f y=>exact E4 (show h.get? a=some _ from x)
  | ext φ=>obtain⟨_,⟨_,e⟩,_⟩:=x;exact E4 e
theorem Paired.yo{α β:Type}{F G:α→β→Prop}:∀ {l₁:List α} {l₂:List β},Paired F l₁ l₂→(∀ a b,F a b→G a b)→Paired G l₁ l₂
  | _,_,.nil,_=>.nil
  | _,_,.cons r t,f=>.cons (f _ _ r) (Paired.yo t f)
theorem bV.oW(x:bV P w H h a o)(k:∀ b u,(b=a∨H b=some (.own a))→h.get? b=some u→h'.get? b=some u)
    (ho:∀ b,H b=some (.own a)→H' b=some (.own a)) (ht:∀ b xs,H b=some (.tup xs)→H' b=some (.tup xs)):bV P w H' h' a o:=by
  induction o with
  | lst xs=>obtain⟨z,its,n,r,e⟩:=x;exact⟨z,its,n,r,k _ _ (.inl rfl) e⟩
  | tup xs=>obtain⟨z,its,r,ob,e,c⟩:=x;exact⟨z,its,r,ob,k _ _ (.inl rfl) e,c⟩
  | dK kvs=>obtain⟨z,y,vs,r,ob,es,ep,e,c⟩:=x;exact⟨z,y,vs,r,ob,es,ep,k _ _ (.inl rfl) e,c⟩
  | dT kvs =>
    obtain⟨z,y,xs,r,ob,es,ep,e,c⟩:=x;exact⟨z,y,xs,Paired.yo r λp q z=>⟨z.1,ht _ _ z.2.1,z.2.2⟩,ob,es,ep,k _ _ (.inl rfl) e,c⟩
  | set S n=>obtain⟨ob,es,ep,t,e,c⟩:=x;exact⟨ob,es,ep,t,k _ _ (.inl rfl) e,c⟩
  | ins C dx fs =>
    obtain⟨d,z,ne,e,mA,⟨od,es,ep,e2,c⟩,r⟩:=x;exact⟨ho _ d,z,ne,k _ _ (.inl rfl) e,mA,⟨od,es,ep,k _ _ (.inr d) e2,c⟩,r⟩
  | own y=>obtain⟨ob,e⟩:=x;exact⟨ob,k _ _ (.inl rfl) e⟩
  | xd fs=>obtain⟨mA,⟨od,es,ep,e,c⟩,r⟩:=x;exact⟨mA,⟨od,es,ep,k _ _ (.inl rfl) e,c⟩,r⟩
  | rng lo hi=>obtain⟨t,u,v,e⟩:=x;exact⟨t,u,v,k _ _ (.inl rfl) e⟩
  | frz ob u ih=>obtain⟨e,q⟩:=x;exact⟨k _ _ (.inl rfl) e,ih q⟩
  | tbl ps =>
    have e:h.get? a=some {cls:=.none,data:=.fields ps}:=x;show h'.get? a=some {cls:=.none,data:=.fields ps};exact k a _ (.inl rfl) e
  | met f y =>
    have e:h.get? a=some (PySem.W.methodObj (.ref f) (.ref y)):=x;show h'.get? a=some (PySem.W.methodObj (.ref f) (.ref y));exact k a _ (.inl rfl) e
  | ext φ=>obtain⟨p,⟨o,e⟩,st⟩:=x;exact⟨st _ _ p λo q=>k _ _ (.inl rfl) q,⟨o,k _ _ (.inl rfl) e⟩,st⟩
theorem HOk.lt(x:HOk P w H h)(e:H a=some o):a<h.objs.size:=(x a o e).lt
theorem HOk.fresh(x:HOk P w H h)(e:h.objs.size≤a):H a=none:=by
  cases q:H a with
  | none=>rfl
  | some u=>exact absurd (E7 (x.lt q) e) (FF _)
theorem HOk.kept(x:HOk P w H h)(k:∀ b u,h.get? b=some u→h'.get? b=some u):HOk P w H h':=λa o e =>
  (x a o e).oW (λb u _ q=>k b u q) (λ_ q=>q) λ_ _ q=>q
theorem HOk.laid(x:HOk P w H h)(k:∀ b u,h.get? b=some u→h'.get? b=some u)(hp:h.objs.size≤a)(new:bV P w (upd H a o) h' a o):HOk P w (upd H a o) h':=λb u e=>by
  have hn:=x.fresh hp;by_cases hb:b=a
  · subst hb;rw[ab]at e;cases e;exact new
  · rw[ah hb]at e
    exact(x b u e).oW (λc v _ q=>k c v q) (λc q=>by rw[ah (ae q hn)];exact q) λc xs q=>by rw[ah (ae q hn)];exact q
end
def Rd(H:Hp)(a:Addr)(u:HO):Prop:=H a=some u∨∃ o,H a=some (.frz o u)
theorem Rd.ok{P:Program}{w:World}{H:Hp}{h:Heap}{a:Addr}{u:HO}(r:Rd H a u)(x:HOk P w H h):bV P w H h a u:=by
  rcases r with r|⟨o,r⟩
  · exact x a u r
  · obtain⟨_,q⟩:=x a _ r
    exact q
def Mut:Option HO→Prop
  | some (.lst _)=>True
  | some (.dK _)=>True
  | some (.dT _)=>True
  | some (.set _ _)=>True
  | some (.ins _ _ _)=>True
  | some (.ext _)=>True
  | _=>False
section
variable{P:Program}{w:World}{H:Hp}{h h':Heap}{x e:Addr}{o':HO}
theorem HOk.write(ok:HOk P w H h)(mu:Mut (H x))(he:e=x∨H e=some (.own x))(k:∀ b u,b≠e→h.get? b=some u→h'.get? b=some u)(heo:∃ u,h'.get? e=some u)
    (new:bV P w (upd H x o') h' x o'):HOk P w (upd H x o') h':=λb u q=>by
  have Cz:∀ c y,H c=some (.own y)→c≠x:=λc y r z=>by subst z;rw[r]at mu;exact mu
  have DI:∀ c xs,H c=some (.tup xs)→c≠x:=λc xs r z=>by subst z;rw[r]at mu;exact mu
  by_cases hb:b=x
  · subst hb;rw[ab]at q;cases q;exact new
  · rw[ah hb]at q
    by_cases hbe:b=e
    · have q':H b=some (.own x):=by
        rcases he with z|z
        · exact absurd (hbe.trans z) hb
        · rw[hbe];exact z
      rw[q]at q';cases q';obtain⟨v,hv⟩:=heo;exact⟨v,by rw[hbe];exact hv⟩
    · refine(ok b u q).oW (λc v hc r=>k c v ?_ r) (λc r=>by rw[ah (Cz c b r)];exact r) λc xs r=>by rw[ah (DI c xs r)];exact r
      rcases hc with rfl|hc
      · exact hbe
      · rintro rfl
        rcases he with z|z
        · exact Cz c b hc z
        · rw[hc]at z;cases z;exact hb rfl
end
structure Un(fs ex:List Addr)(H H':Hp)(h h':Heap):Prop where
  keep:∀ b o,h.get? b=some o→H b=none→b∉fs→b∉ex→h'.get? b=some o
  slot:∀ b o,h.get? b=some o→H b=none→b∈fs→b∉ex→∃ sl,h'.get? b=some {o with slots:=sl}
  free:∀ b o,h.get? b=some o→H b=none→b∉ex→H' b=none
  there:∀ b o,h.get? b=some o→b∉ex→∃ o',h'.get? b=some o'
  kC:∀ b xs,H b=some (.tup xs)→H' b=some (.tup xs)
  m7:∀ b o u,H b=some (.frz o u)→H' b=some (.frz o u)
  m8:∀ b ps,H b=some (.tbl ps)→∃ more,H' b=some (.tbl (ps++more))
section
variable{fs fs' ex ex':List Addr}{H H1 H2:Hp}{h h1 h2 h':Heap}{a x e:Addr}{o:HO}
theorem Un.any(u:Un fs ex H H1 h h1){b:Addr}{ob:Obj}(q:h.get? b=some ob)(n:H b=none)(hx:b∉ex):∃ sl,h1.get? b=some {ob with slots:=sl}:=by
  by_cases hb:b∈fs
  · exact u.slot b ob q n hb hx
  · exact⟨ob.slots,u.keep b ob q n hb hx⟩
theorem Un.kept(k:∀ b u,h.get? b=some u→h'.get? b=some u):Un fs ex H H h h' :=
  ⟨λb ob q _ _ _=>k b ob q,λb ob q _ _ _=>⟨ob.slots,k b ob q⟩,λ_ _ _ n _=>n,λb ob q _=>⟨ob,k b ob q⟩,λ_ _ q=>q,λ_ _ _ q=>q,λ_ ps q=>⟨#[],by rw[q];simp⟩⟩
theorem Un.refl:Un fs ex H H h h:=Un.kept λ_ _ q=>q
theorem Un.laid(k:∀ b u,h.get? b=some u→h'.get? b=some u)(hp:h.objs.size≤a)(hn:H a=none):Un fs ex H (upd H a o) h h' where
  keep:=λb u q _ _ _=>k b u q
  slot:=λb u q _ _ _=>⟨u.slots,k b u q⟩
  free:=λb u q n _=>by rw[ah (E9 (E7 (E4 q) hp))];exact n
  there:=λb u q _=>⟨u,k b u q⟩
  kC:=λb xs q=>by rw[ah (ae q hn)];exact q
  m7:=λb u xs q=>by rw[ah (ae q hn)];exact q
  m8:=λb ps q=>⟨#[],by rw[ah (ae q hn),q];simp⟩
theorem Un.write(mu:Mut (H x))(he:e=x∨H e=some (.own x))(k:∀ b u,b≠e→h.get? b=some u→h'.get? b=some u)(heo:∃ u,h'.get? e=some u):Un fs ex H (upd H x o) h h':=by
  have hx:∀ b,H b=none→b≠x:=λb n z=>by subst z;rw[n]at mu;exact mu
  have hb:∀ b,H b=none→b≠e:=λb n z=>by
    subst z;rcases he with r|r
    · exact hx b n r
    · rw[n]at r;cases r
  have hm:∀ b u,H b=some u→¬Mut (some u)→b≠x:=λb u q nm z=>by subst z;rw[q]at mu;exact nm mu
  refine⟨λb u q n _ _=>k b u (hb b n) q,λb u q n _ _=>⟨u.slots,k b u (hb b n) q⟩,λb u q n _=>by rw[ah (hx b n)];exact n,λb u q _=>?_,
    λb xs q=>by rw[ah (hm b _ q λz=>z)];exact q,λb u xs q=>by rw[ah (hm b _ q λz=>z)];exact q,λb ps q=>⟨#[],by rw[ah (hm b _ q λz=>z),q];simp⟩⟩
  by_cases hbe:b=e
  · subst hbe;exact heo
  · exact⟨u,k b u hbe q⟩
end
def trk(h:Heap)(H:Hp):List Addr:=(List.range h.objs.size).filter λa=>(H a).isSome
def qw(h:Heap)(H:Hp):Heap:=PySem.W.hideAll h (trk h H)
theorem ue(h:Heap)(H:Hp):(qw h H).objs.size=h.objs.size:=PySem.W.hideAll_size _ _
theorem vq{h:Heap}{H:Hp}{b:Addr}{o:Obj}(e:h.get? b=some o)(n:H b=none):(qw h H).get? b=some o :=
  PySem.W.hideAll_get _ e λhm=>by
    have q:(H b).isSome=true:=(Gn.mp hm).2;rw[n]at q;simp at q
theorem xA{h:Heap}{H:Hp}{b:Addr}{o:Obj}(e:(qw h H).get? b=some o):h.get? b=some o∧H b=none:=by
  have e':h.get? b=some o:=PySem.W.of_hideAll (trk h H) e;refine⟨e',?_⟩;cases q:H b with
  | none=>rfl
  | some x =>
    have hm:b∈trk h H:=Gn.mpr ⟨F5.mpr (E4 e'),by simp[q]⟩;have z:(qw h H).get? b=none:=PySem.W.hideAll_none (trk h H) hm;rw[z]at e;cases e
end L2
namespace L2
open PySem PySem.Spec PyProof.Rows
structure Mod(K:W.Frag)(mg:Str→Option Value)(base:Heap):Prop where
  kin:K.In base
  glob:base.Ns mainGlobals mg
  blt:∃ mb,base.Ns builtinsNs mb∧∀ x:Str,x ≠ "__name__" → mb x=bootBuiltins x
  nolimit:base.NoLimit
structure Cx where
  prog:Program
  w:World
  K:W.Frag
  mg:Str→Option Value
  base:Heap
  A:Around
  N:List Str
  s₀:Shared
  H₀:Hp
  env:Env
  outer:List Env
  stack:List Env
  ex:List Addr
  fn:Str→Bool
  calm:Bool
  pn:List (Addr×Obj)
  xe:Value→Shared→Prop
def frs(l:List Env):List Addr:=l.filterMap (·.frame)
abbrev Cx.fs(X:Cx):List Addr:=frs X.outer
def Vis(sc:Scope)(x:Str):Prop:=sc.names.lookup x=some .local∨sc.names.lookup x=some .cell∨sc.names.lookup x=some .free
def Loc(sc:Scope)(x:Str):Prop:=sc.names.lookup x=some .local∨sc.names.lookup x=some .cell
def Look(env:Env)(h:Heap)(m:Str→Option Value)(x:Str)(u:Value):Prop :=
  (env.kindOf x=some .local∧m x=some u)∨((env.kindOf x=some .cell∨env.kindOf x=some .free)∧∃ c,env.cells.lookup x=some c∧h.IsCell c (some u))
structure Cx.Ok(X:Cx):Prop where
  mod:Mod X.K X.mg X.base
  kind:X.env.scope.kind=.function
  glob:X.env.globals=mainGlobals
  blt:X.env.builtins=builtinsNs
  above:X.s₀.heap.objs.size≤X.env.locals
  inj:∀ x y c,X.env.cells.lookup x=some c→X.env.cells.lookup y=some c→x=y
  has:∀ x,(X.env.kindOf x=some .cell∨X.env.kindOf x=some .free)→∃ c,X.env.cells.lookup x=some c
  cab:∀ x c,X.fn x=true→X.env.cells.lookup x=some c→X.s₀.heap.objs.size≤c
  hd:X.calm=true→X.A.handled=none
  frames:X.A.frames=some X.stack
  stk:X.stack=X.outer∨(X.stack=X.env::X.outer∧X.env.frame=some X.env.locals)
  exf:∀ b∈X.ex,b≠X.env.locals∧∀ x c,X.env.cells.lookup x=some c→c≠b
  bs:∀ b o,X.base.get? b=some o→X.s₀.heap.get? b=some o∧X.H₀ b=none
  bsz:X.base.objs.size≤X.s₀.heap.objs.size
  vZ:∀ b o,X.base.get? b=some o→b∉X.ex
  yp:∀ b∈X.ex,b∉X.fs
  m9:X.s₀.heap.FunFrames X.base X.outer
  frf:∀ b∈X.fs,X.H₀ b=none
structure Inv(X:Cx)(pins:List (Addr×Obj))(σ:List (Option V))(H:Hp)(s:Shared):Prop where
  ok:X.Ok
  os:s.os=X.s₀.os
  bare:AllBare s.gens
  base:Un X.fs X.ex X.H₀ H X.s₀.heap s.heap
  loc:∃ m,s.heap.Ns X.env.locals m∧∀(i:Nat) (x:Str) (v:V),X.N[i]?=some x→σ[i]?=some (some v)→Vis X.env.scope x→∃ u,RelV v u∧Look X.env s.heap m x u
  cell:∀ x c,X.env.cells.lookup x=some c→∃ v,s.heap.IsCell c v
  free:H X.env.locals=none
  gQ:∀ x c,X.env.cells.lookup x=some c→H c=none
  pin:∀ p∈X.pn++pins,s.heap.get? p.1=some p.2∧H p.1=none∧p.1≠X.env.locals∧p.1∉X.fs∧∀ v,p.2.data≠.cell v
  hok:HOk X.prog X.w H s.heap
  len:σ.length=X.N.length
section
variable{X:Cx}{pins:List (Addr×Obj)}{σ:List (Option V)}{H H':Hp}{s:Shared}{h':Heap}
theorem Cx.Ok.DJ(ok:X.Ok){b:Addr}{o:Obj}(e:X.base.get? b=some o):b∉X.fs:=λhb=>by
  have:=(ok.m9.mem hb).1
  rw[e]at this;cases this
theorem Inv.bs(I:Inv X pins σ H s):∀ b o,X.base.get? b=some o→s.heap.get? b=some o∧H b=none:=λb o e =>
  ⟨I.base.keep b o (I.ok.bs b o e).1 (I.ok.bs b o e).2 (I.ok.DJ e) (I.ok.vZ b o e),I.base.free b o (I.ok.bs b o e).1 (I.ok.bs b o e).2 (I.ok.vZ b o e)⟩
theorem Inv.bk(I:Inv X pins σ H s):∀ b o,X.base.get? b=some o→s.heap.get? b=some o:=λb o e=>(I.bs b o e).1
theorem Inv.mod(I:Inv X pins σ H s):Mod X.K X.mg X.base:=I.ok.mod
theorem Inv.kIn(I:Inv X pins σ H s):X.K.In s.heap:=I.ok.mod.kin.keeps I.bk
theorem Inv.nolimit(I:Inv X pins σ H s):s.heap.NoLimit:=I.ok.mod.nolimit.keeps I.bk
theorem Inv.lt(I:Inv X pins σ H s):X.env.locals<s.heap.objs.size:=let ⟨_,hn,_⟩:=I.loc;hn.lt
theorem Inv.sz(I:Inv X pins σ H s):X.s₀.heap.objs.size≤s.heap.objs.size:=Fo I.ok.above (Gu I.lt)
theorem Inv.xB(I:Inv X pins σ H s){a:Addr}(h:s.heap.objs.size≤a):a∉X.fs:=λhb=>by
  obtain⟨_,o,ho,_⟩:=I.ok.m9.mem hb;exact absurd (E7 (E4 ho) (Fo I.sz h)) (FF _)
theorem Inv.cne(I:Inv X pins σ H s):∀ x c,X.env.cells.lookup x=some c→c≠X.env.locals:=λx c e z=>by
  obtain⟨v,o,ho,hd⟩:=I.cell x c e;obtain⟨m,⟨o',es,ep,ho',hd',_⟩,_⟩:=I.loc;rw[z,ho']at ho;cases ho;rw[hd']at hd;cases hd
theorem Inv.m9(I:Inv X pins σ H s):s.heap.FunFrames X.base X.outer:=by
  have all:∀(l:List Env),(∀ b∈frs l,b∈X.fs)→X.s₀.heap.FunFrames X.base l→s.heap.FunFrames X.base l:=by
    intro l;induction l with
    | nil=>intro _ _;trivial
    | cons env r ih =>
      intro hs hl;obtain⟨hk,⟨L,o,hf,hn,ho,hd⟩,hr⟩:=hl;have hL:L∈X.fs:=hs L (by unfold frs;rw[List.filterMap_cons,hf];exact E0);obtain⟨sl,e⟩:=I.base.slot L o ho (I.ok.frf L hL) hL λz=>I.ok.yp L z hL;exact⟨hk,⟨L,_,hf,hn,e,hd⟩,ih (λb hb=>hs b (by unfold frs;rw[List.filterMap_cons,hf];exact EX _ hb)) hr⟩
  exact all X.outer (λ_ hb=>hb) I.ok.m9
theorem Inv.stack(I:Inv X pins σ H s):s.heap.FunFrames X.base X.stack:=by
  rcases I.ok.stk with e|⟨e,hf⟩
  · rw[e];exact I.m9
  · rw[e]
    obtain⟨m,hn,_⟩:=I.loc;refine .cons (by rw[I.ok.kind];decide) hf hn ?_ I.m9;exact Heap.get?_none_of_le (Fo I.ok.bsz I.ok.above)
theorem Inv.ir(I:Inv X pins σ H s):∀ b∈frs X.stack,b∈X.env.locals::X.fs:=λb hb=>by
  rcases I.ok.stk with e|⟨e,hf⟩
  · rw[e]at hb;exact EX _ hb
  · rw[e]at hb
    unfold frs at hb;rw[List.filterMap_cons,hf]at hb;exact hb
theorem Inv.gO(I:Inv X pins σ H s):∀ b∈frs X.stack,H b=none:=λb hb=>by
  rcases E8.mp (I.ir b hb) with e|hb
  · rw[e];exact I.free
  · obtain⟨_,o,ho,_⟩:=I.ok.m9.mem hb
    exact I.base.free b o ho (I.ok.frf b hb) λz=>I.ok.yp b z hb
theorem Inv.step{g':Array GenState}{t':Nat}{d':Drawn}{ch:List Addr}(I:Inv X pins σ H s)
    (hch:∀ b∈ch,(b∈X.ex∨X.s₀.heap.objs.size≤b)∧b≠X.env.locals∧(∀ x c,X.env.cells.lookup x=some c→c≠b)∧∀ p∈X.pn++pins,p.1≠b)
    (keep:∀ b o,b≠X.env.locals→b∉X.fs→b∉ch→s.heap.get? b=some o→H b=none→h'.get? b=some o)
    (slot:∀ b o,b≠X.env.locals→b∈X.fs→b∉ch→s.heap.get? b=some o→H b=none→∃ sl,h'.get? b=some {o with slots:=sl}) (free:∀ b o,b∉ch→s.heap.get? b=some o→H b=none→H' b=none)
    (there:∀ b o,b∉ch→s.heap.get? b=some o→∃ o',h'.get? b=some o')
    (kC:∀ b xs,H b=some (.tup xs)→H' b=some (.tup xs)) (m7:∀ b o u,H b=some (.frz o u)→H' b=some (.frz o u)) (m8:∀ b ps,H b=some (.tbl ps)→∃ more,H' b=some (.tbl (ps++more)))
    (ns:∀ m,s.heap.Ns X.env.locals m→h'.Ns X.env.locals m) (hok:HOk X.prog X.w H' h') (hg:AllBare g') :
    Inv X pins σ H' {s with heap:=h',gens:=g',drawn:=d',toks:=t'}:=by
  have neL:∀ b o,X.s₀.heap.get? b=some o→b≠X.env.locals:=λb o e=>E9 (E7 (E4 e) I.ok.above);have neC:∀ b o,X.s₀.heap.get? b=some o→b∉X.ex→b∉ch:=λb o e hx hb=>by
    rcases(hch b hb).1 with z|z
    · exact hx z
    · exact absurd (E7 (E4 e) z) (FF _)
  have cellK:∀ x c,X.env.cells.lookup x=some c→∀ v,s.heap.IsCell c v→h'.IsCell c v:=λx c e v ⟨o,ho,hd⟩=>by
    have nch:c∉ch:=λz=>(hch c z).2.2.1 x c e rfl;by_cases hc:c∈X.fs
    · obtain⟨sl,q⟩:=slot c o (I.cne x c e) hc nch ho (I.gQ x c e)
      exact⟨_,q,hd⟩
    · exact⟨o,keep c o (I.cne x c e) hc nch ho (I.gQ x c e),hd⟩
  refine⟨I.ok,I.os,hg,⟨λb o e n hb hx=>?_,λb o e n hb hx=>?_,λb o e n hx=>?_,λb o e hx=>?_,λb xs e=>kC b xs (I.base.kC b xs e),λb o xs e=>m7 b o xs (I.base.m7 b o xs e),λb ps e=>?_⟩,?_,λx c e=>?_,?_,λx c e=>?_,λp hp=>?_,hok,I.len⟩
  · exact keep b o (neL b o e) hb (neC b o e hx) (I.base.keep b o e n hb hx) (I.base.free b o e n hx)
  · obtain⟨sl,e1⟩:=I.base.slot b o e n hb hx
    obtain⟨sl',e2⟩:=slot b _ (neL b o e) hb (neC b o e hx) e1 (I.base.free b o e n hx);exact⟨sl',e2⟩
  · obtain⟨o',e1⟩:=I.base.there b o e hx
    exact free b o' (neC b o e hx) e1 (I.base.free b o e n hx)
  · obtain⟨o',e1⟩:=I.base.there b o e hx
    exact there b o' (neC b o e hx) e1
  · obtain⟨m1,e1⟩:=I.base.m8 b ps e
    obtain⟨m2,e2⟩:=m8 b _ e1;exact⟨m1++m2,by rw[e2,Array.append_assoc]⟩
  · obtain⟨m,hn,hl⟩:=I.loc
    refine⟨m,ns m hn,λi x v e1 e2 e3=>?_⟩;obtain⟨u,r,l⟩:=hl i x v e1 e2 e3;refine⟨u,r,?_⟩;rcases l with l|⟨k,c,e,z⟩
    · exact .inl l
    · exact .inr ⟨k,c,e,cellK x c e _ z⟩
  · obtain⟨v,z⟩:=I.cell x c e
    exact⟨v,cellK x c e v z⟩
  · obtain⟨m,⟨o,_,_,ho,_⟩,_⟩:=I.loc
    exact free _ o (λz=>(hch _ z).2.1 rfl) ho I.free
  · obtain⟨v,o,ho,hd⟩:=I.cell x c e
    exact free c o (λz=>(hch c z).2.2.1 x c e rfl) ho (I.gQ x c e)
  · obtain⟨e,n,ne,nf,d⟩:=I.pin p hp
    have nch:p.1∉ch:=λz=>(hch p.1 z).2.2.2 p hp rfl;exact⟨keep p.1 p.2 ne nf nch e n,free p.1 p.2 nch e n,ne,nf,d⟩
theorem Inv.un{t':Nat}(I:Inv X pins σ H s)(u:Un X.fs [] H H' s.heap h')(hok:HOk X.prog X.w H' h'):Inv X pins σ H' {s with heap:=h',toks:=t'}:=by
  obtain⟨m,⟨o,es,ep,ho,r⟩,_⟩:=id I.loc;obtain⟨sl,hL⟩:=u.any ho I.free (by simp);exact I.step (g':=s.gens) (d':=s.drawn) (ch:=[]) (λ_ z=>nomatch z) (λb o _ hb _ e n=>u.keep b o e n hb (by simp)) (λb o _ hb _ e n=>u.slot b o e n hb (by simp)) (λb o _ e n=>u.free b o e n (by simp)) (λb o _ e=>u.there b o e (by simp)) u.kC u.m7 u.m8 (λm' hm=>by
    obtain⟨o',es',ep',ho',r'⟩:=hm;rw[ho]at ho';cases ho';exact⟨_,es',ep',hL,r'⟩) hok I.bare
theorem Inv.call{g':Array GenState}{t':Nat}{d':Drawn}{ch:List Addr}(I:Inv X pins σ H s)(u:Un (frs X.stack) ch H H' s.heap h')(hok:HOk X.prog X.w H' h')(hg:AllBare g')
    (hch:∀ b∈ch,(b∈X.ex∨X.s₀.heap.objs.size≤b)∧b≠X.env.locals∧(∀ x c,X.env.cells.lookup x=some c→c≠b)∧∀ p∈X.pn++pins,p.1≠b) :
    Inv X pins σ H' {s with heap:=h',gens:=g',drawn:=d',toks:=t'}:=by
  obtain⟨m,⟨o,es,ep,ho,r⟩,_⟩:=id I.loc;obtain⟨sl,hL⟩:=u.any ho I.free λz=>(hch _ z).2.1 rfl;exact I.step (ch:=ch) hch (λb o hL hb hc e n=>u.keep b o e n (λz=>(E8.mp (I.ir b z)).elim hL hb) hc) (λb o _ _ hc e n=>u.any e n hc) (λb o hc e n=>u.free b o e n hc) (λb o hc e=>u.there b o e hc) u.kC u.m7 u.m8 (λm' hm=>by
    obtain⟨o',es',ep',ho',r'⟩:=hm;rw[ho]at ho';cases ho';exact⟨_,es',ep',hL,r'⟩) hok hg
theorem Inv.turned{t':Nat}{it:Addr}(I:Inv X pins σ H s)(k:∀ b o,b≠it→s.heap.get? b=some o→h'.get? b=some o)(hn:H it=none)(hL:it≠X.env.locals)
    (h1:it∈X.ex∨X.s₀.heap.objs.size≤it) (h2:∀ x c,X.env.cells.lookup x=some c→c≠it) (h3:∀ p∈X.pn++pins,p.1≠it):Inv X pins σ H {s with heap:=h',toks:=t'}:=by
  have nit:∀ b u,H b=some u→b≠it:=λb u e z=>by rw[z,hn]at e;cases e
  refine I.step (g':=s.gens) (d':=s.drawn) (ch:=[it]) (λb hb=>?_) (λb o _ _ hc e _=>k b o (λz=>hc (by simp[z])) e) (λb o _ _ hc e _=>⟨o.slots,k b o (λz=>hc (by simp[z])) e⟩) (λ_ _ _ _ n=>n)
    (λb o hc e=>⟨o,k b o (λz=>hc (by simp[z])) e⟩) (λ_ _ e=>e) (λ_ _ _ e=>e) (λb ps e=>⟨#[],by rw[e];simp⟩) (λm hm=>?_) (λb u e=>?_) I.bare
  · have e:b=it:=by simpa using hb
    subst e;exact⟨h1,hL,h2,h3⟩
  · obtain⟨o,es,ep,ho,r⟩:=hm
    exact⟨o,es,ep,k _ o (FC hL) ho,r⟩
  · refine(I.hok b u e).oW (λc v hc q=>k c v ?_ q) (λ_ q=>q) λ_ _ q=>q
    rcases hc with z|z
    · rw[z];exact nit b u e
    · exact nit c _ z
theorem Inv.tok(I:Inv X pins σ H s)(t:Nat):Inv X pins σ H {s with toks:=t}:=I.un (h':=s.heap) (t':=t) Un.refl I.hok
theorem Inv.kept{t':Nat}(I:Inv X pins σ H s)(k:∀ b u,s.heap.get? b=some u→h'.get? b=some u):Inv X pins σ H {s with heap:=h',toks:=t'}:=I.un (Un.kept k) (I.hok.kept k)
theorem Inv.laid{a:Addr}{o:HO}{t':Nat}(I:Inv X pins σ H s)(k:∀ b u,s.heap.get? b=some u→h'.get? b=some u)(hp:s.heap.objs.size≤a)(new:bV X.prog X.w (upd H a o) h' a o) :
    Inv X pins σ (upd H a o) {s with heap:=h',toks:=t'}:=I.un (Un.laid k hp (I.hok.fresh hp)) (I.hok.laid k hp new)
theorem Inv.write{x e:Addr}{o:HO}{t':Nat}(I:Inv X pins σ H s)(mu:Mut (H x))(he:e=x∨H e=some (.own x))(k:∀ b u,b≠e→s.heap.get? b=some u→h'.get? b=some u)(heo:∃ u,h'.get? e=some u)
    (new:bV X.prog X.w (upd H x o) h' x o):Inv X pins σ (upd H x o) {s with heap:=h',toks:=t'}:=I.un (Un.write mu he k heo) (I.hok.write mu he k heo new)
theorem Inv.iu{xa:List (Addr×Obj)}(I:Inv X pins σ H s)(h:∀ p∈xa,s.heap.get? p.1=some p.2∧H p.1=none∧p.1≠X.env.locals∧p.1∉X.fs∧∀ v,p.2.data≠.cell v):Inv X xa σ H s :=
  ⟨I.ok,I.os,I.bare,I.base,I.loc,I.cell,I.free,I.gQ,λp hp=>(Fc.mp hp).elim (λz=>I.pin p (FK _ z)) (h p),I.hok,I.len⟩
theorem qx{N:List Str}(hN:N.Nodup){i j:Nat}{x:Str}(a:N[i]?=some x)(b:N[j]?=some x):i=j:=by
  obtain⟨h1,e1⟩:=ER.mp a;obtain⟨h2,e2⟩:=ER.mp b;exact(List.getElem_inj hN).mp (e1.trans e2.symm)
theorem uf{M:Model}{A:Around}{E:Value→Shared→Prop}{i:Nat}{x:Str}{v:V}{u:Value}{Q:Unit→Shared→Prop}(I:Inv X pins σ H s)(hN:X.N.Nodup)(hi:X.N[i]?=some x)(hx:Loc X.env.scope x)(r:RelV v u)
    (h:∀ s',Inv X pins (σ.set i (some v)) H s'→(∃ a,Heap.SameBut a s.heap s'.heap∧(a=X.env.locals∨X.env.cells.lookup x=some a))→Q () s') (hf:X.fn x=true∨X.env.scope.names.lookup x=some .local:=by first|exact .inl rfl|exact .inr rfl|assumption):wpAny M A (storeName X.env x u) Q E s:=by
  obtain⟨m,hn,hl⟩:=id I.loc;have DK:(X.env.scope.kind == .class||(X.env.scope.kind == .module&&X.env.locals != X.env.globals))=false:=by rw[I.ok.kind];rfl
  have hiσ:i<σ.length:=by rw[I.len];exact(ER.mp hi).1
  have cne:=I.cne;have tracked:∀ {a:Addr} {h':Heap},(∃ o,s.heap.get? a=some o∧H a=none)→Heap.SameBut a s.heap h'→HOk X.prog X.w H h':=λ{a h'} ha hs b ob e=>by
    obtain⟨_,_,yq⟩:=ha;refine(I.hok b ob e).oW (λc w' hc q=>(hs.2 c ?_).trans q) (λ_ q=>q) λ_ _ q=>q;rintro rfl;rcases hc with rfl|hc
    · rw[yq]at e;cases e
    · rw[yq]at hc;cases hc
  rcases hx with hk|hk
  · refine wpAny_storeName_local hk hn (λh' hn' hs=>?_) DK
    obtain⟨oL,_,_,hoL,_⟩:=id hn;refine h _ ⟨I.ok,I.os,I.bare,⟨λb o e n hb hx=>?_,λb o e n hb hx=>?_,I.base.free,λb o e hx=>?_,I.base.kC,I.base.m7,I.base.m8⟩,⟨_,hn',λj y v' e1 e2 e3=>?_⟩,λy c e=>?_,I.free,I.gQ,λp hp=>?_,tracked ⟨oL,hoL,I.free⟩ hs,by simpa using I.len⟩ ⟨_,hs,.inl rfl⟩
    · exact(hs.2 b (E9 (E7 (E4 e) I.ok.above))).trans (I.base.keep b o e n hb hx)
    · obtain⟨sl,e1⟩:=I.base.slot b o e n hb hx
      exact⟨sl,(hs.2 b (E9 (E7 (E4 e) I.ok.above))).trans e1⟩
    · obtain⟨o',e1⟩:=I.base.there b o e hx
      exact⟨o',(hs.2 b (E9 (E7 (E4 e) I.ok.above))).trans e1⟩
    · by_cases hj:j=i
      · subst hj
        rw[hi]at e1;cases e1;rw[FZ hiσ]at e2;cases e2;exact⟨u,r,.inl ⟨hk,by simp⟩⟩
      · rw[FT (FC hj)]at e2
        obtain⟨u',r',q⟩:=hl j y v' e1 e2 e3;refine⟨u',r',?_⟩;rcases q with⟨k,e⟩|⟨k,c,e,z⟩
        · refine .inl ⟨k,?_⟩
          have:y≠x:=λe=>hj (qx hN e1 (e ▸ hi))
          simp[this,e]
        · exact .inr ⟨k,c,e,z.sameBut hs (cne y c e)⟩
    · obtain⟨w',z⟩:=I.cell y c e
      exact⟨w',z.sameBut hs (cne y c e)⟩
    · obtain⟨e,n,ne,nf,d⟩:=I.pin p hp
      exact⟨(hs.2 p.1 ne).trans e,n,ne,nf,d⟩
  · have hfn:X.fn x=true:=by
      rcases hf with z|z
      · exact z
      · rw[z]at hk;cases hk
    obtain⟨c,hc⟩:=I.ok.has x (.inl hk);obtain⟨w',z⟩:=I.cell x c hc;refine wpAny_storeName_cell I.ok.kind hk hc z (λh' hc' hs=>?_);obtain⟨oc,hoc,DL⟩:=id z;refine h {s with heap:=h'} ⟨I.ok,I.os,I.bare,⟨λb o e n hb hx=>?_,λb o e n hb hx=>?_,I.base.free,λb o e hx=>?_,I.base.kC,I.base.m7,I.base.m8⟩,⟨m,hn.sameBut hs (FC (cne x c hc)),λj y v' e1 e2 e3=>?_⟩,λy c' e=>?_,I.free,I.gQ,λp hp=>?_,tracked ⟨oc,hoc,I.gQ x c hc⟩ hs,by simpa using I.len⟩ ⟨c,hs,.inr hc⟩
    · exact(hs.2 b (E9 (E7 (E4 e) (I.ok.cab x c hfn hc)))).trans (I.base.keep b o e n hb hx)
    · obtain⟨sl,e1⟩:=I.base.slot b o e n hb hx
      exact⟨sl,(hs.2 b (E9 (E7 (E4 e) (I.ok.cab x c hfn hc)))).trans e1⟩
    · obtain⟨o',e1⟩:=I.base.there b o e hx
      exact⟨o',(hs.2 b (E9 (E7 (E4 e) (I.ok.cab x c hfn hc)))).trans e1⟩
    · by_cases hj:j=i
      · subst hj
        rw[hi]at e1;cases e1;rw[FZ hiσ]at e2;cases e2;exact⟨u,r,.inr ⟨.inl hk,c,hc,hc'⟩⟩
      · rw[FT (FC hj)]at e2
        obtain⟨u',r',q⟩:=hl j y v' e1 e2 e3;refine⟨u',r',?_⟩;rcases q with q|⟨k,c',e,z'⟩
        · exact .inl q
        · refine .inr ⟨k,c',e,z'.sameBut hs ?_⟩
          rintro rfl;exact hj (qx hN e1 (I.ok.inj _ _ _ e hc ▸ hi))
    · by_cases hcc:c'=c
      · subst hcc;exact⟨_,hc'⟩
      · obtain⟨w2,z2⟩:=I.cell y c' e
        exact⟨w2,z2.sameBut hs hcc⟩
    · obtain⟨e,n,ne,nf,d⟩:=I.pin p hp
      refine⟨(hs.2 p.1 ?_).trans e,n,ne,nf,d⟩;intro q;rw[q,hoc]at e;have q':oc=p.2:=Fg e;exact d w' (by rw[←q'];exact DL)
theorem kZ{M:Model}{A:Around}{E:Value→Shared→Prop}{i:Nat}{x:Str}{v:V}{u:Value}{Q:Unit→Shared→Prop}(I:Inv X pins σ H s)(hN:X.N.Nodup)(hi:X.N[i]?=some x)(hx:Loc X.env.scope x)(r:RelV v u)
    (h:∀ s',Inv X pins (σ.set i (some v)) H s'→Q () s') (hf:X.fn x=true∨X.env.scope.names.lookup x=some .local:=by first|exact .inl rfl|exact .inr rfl|assumption):wpAny M A (storeName X.env x u) Q E s :=
  uf I hN hi hx r (λs' I' _=>h s' I') hf
theorem Inv.ra{s':Shared}{ch:List Addr}(I:Inv X pins σ H s)(ho:s'.os=s.os)(u:Un (frs X.stack) ch H H' s.heap s'.heap)(hok:HOk X.prog X.w H' s'.heap)(hg:AllBare s'.gens)
    (hch:∀ b∈ch,(b∈X.ex∨X.s₀.heap.objs.size≤b)∧b≠X.env.locals∧(∀ x c,X.env.cells.lookup x=some c→c≠b)∧∀ p∈X.pn++pins,p.1≠b):Inv X pins σ H' s':=by
  obtain⟨h',g',d',t',o'⟩:=s';have e:o'=s.os:=ho;subst e;exact I.call (g':=g') (t':=t') (d':=d') u hok hg hch
end
abbrev XK:=Value→Option Addr→Hp→Prop
abbrev St:=List (Option V)
abbrev VK:=V→Hp→Prop
abbrev TE:=St→Hp→VK→Prop
abbrev TT:=St→Hp→(Bool→Hp→Prop)→Prop
abbrev TA:=St→Hp→(List V→Hp→Prop)→Prop
structure Ends where
  nx:St→Hp→Prop
  rt:VK
  bk:St→Hp→Prop:=λ_ _=>False
  ct:St→Hp→Prop:=λ_ _=>False
abbrev TS:=Ends→St→Hp→Prop
def EP(X:Cx)(pins:List (Addr×Obj))(σ:St)(Q:VK)(u:Value)(s':Shared):Prop:=∃ v H',Inv X pins σ H' s'∧RelV v u∧Q v H'
def TP(X:Cx)(pins:List (Addr×Obj))(σ:St)(Q:Bool→Hp→Prop)(b:Bool)(s':Shared):Prop:=∃ H',Inv X pins σ H' s'∧Q b H'
def AP(X:Cx)(pins:List (Addr×Obj))(σ:St)(Q:List V→Hp→Prop)(us:List Value)(s':Shared):Prop:=∃ vs H',Inv X pins σ H' s'∧Vals vs us∧Q vs H'
def SP(X:Cx)(pins:List (Addr×Obj))(D:Ends)(f:Flow)(s':Shared):Prop :=
  match f with
  | .next=>∃ σ' H',Inv X pins σ' H' s'∧D.nx σ' H'
  | .brk=>∃ σ' H',Inv X pins σ' H' s'∧D.bk σ' H'
  | .cont=>∃ σ' H',Inv X pins σ' H' s'∧D.ct σ' H'
  | .ret u=>∃ v σ' H',Inv X pins σ' H' s'∧RelV v u∧D.rt v H'
def PE(X:Cx)(e:Expr)(t:TE):Prop :=
  ∀(pins:List (Addr×Obj)) (s:Shared) (σ:St) (H:Hp) (Q:VK),Inv X pins σ H s→t σ H Q→wpAny (model X.prog X.w) X.A (eval e X.env) (EP X pins σ Q) X.xe s
def PT(X:Cx)(e:Expr)(t:TT):Prop :=
  ∀(pins:List (Addr×Obj)) (s:Shared) (σ:St) (H:Hp) (Q:Bool→Hp→Prop),Inv X pins σ H s→t σ H Q→wpAny (model X.prog X.w) X.A (isTrue e X.env (eval e X.env)) (TP X pins σ Q) X.xe s
def PW(X:Cx)(e:Expr)(t:TT):Prop :=
  ∀(whole:Sem Value) (pins:List (Addr×Obj)) (s:Shared) (σ:St) (H:Hp) (Q:Bool→Hp→Prop),Inv X pins σ H s→t σ H Q→wpAny (model X.prog X.w) X.A (isTrue e X.env whole) (TP X pins σ Q) X.xe s
theorem PW.pt{X:Cx}{e:Expr}{t:TT}(h:PW X e t):PT X e t:=h _
def PA(X:Cx)(es:List Expr)(t:TA):Prop :=
  ∀(pos:Pos) (pins:List (Addr×Obj)) (s:Shared) (σ:St) (H:Hp) (Q:List V→Hp→Prop),Inv X pins σ H s→t σ H Q→wpAny (model X.prog X.w) X.A (spliced (backTo pos (starEach es X.env))) (AP X pins σ Q) X.xe s
def PS(X:Cx)(st:Stmt)(t:TS):Prop :=
  ∀(pins:List (Addr×Obj)) (s:Shared) (σ:St) (H:Hp) (D:Ends),Inv X pins σ H s→t D σ H→wpAny (model X.prog X.w) X.A (exec st X.env) (SP X pins D) X.xe s
def PSs(X:Cx)(st:List Stmt)(t:TS):Prop :=
  ∀(pins:List (Addr×Obj)) (s:Shared) (σ:St) (H:Hp) (D:Ends),Inv X pins σ H s→t D σ H→wpAny (model X.prog X.w) X.A (execs st X.env) (SP X pins D) X.xe s
theorem thn{α:Type}{t:Sem α}{Q Q':α→Shared→Prop}{M:Model}{A:Around}{E:Value→Shared→Prop}{s:Shared}(h:wpAny M A t Q E s)(hQ:∀ a s,Q a s→Q' a s):wpAny M A t Q' E s:=wpAny_mono h hQ λ_ _ x=>x
end L2
namespace L2
open PySem PySem.Spec PyProof.Rows
section
variable{X:Cx}
def CA(i:Nat):TE:=λσ H Q=>∃ v,σ[i]?=some (some v)∧Q v H
def tC(v:V):TE:=λ_ H Q=>Q v H
theorem zm{i:Nat}{x:Str}{pos:Pos}(hN:X.N[i]?=some x)(hv:Vis X.env.scope x)(hd:(x == ("__debug__" : Str))=false:=by decide)(hcd:(x == ("__classdict__" : Str))=false:=by decide):PE X (.Name x pos) (CA i):=by
  intro pins s σ H Q I h;obtain⟨v,e,h⟩:=h;obtain⟨m,hn,hl⟩:=I.loc;obtain⟨u,r,l⟩:=hl i x v hN e hv;have fin:EP X pins σ Q u s:=⟨v,H,I,r,h⟩;rcases l with⟨hk,hm⟩|⟨hk,c,hc,uX⟩
  · exact wpAny_Name (wpAny_loadName_local I.ok.kind hk hn hm fin) hd
  · rcases hk with hk|hk
    · exact wpAny_Name (wpAny_loadName_cell I.ok.kind hk hc uX fin) hd
    · exact wpAny_Name (wpAny_loadName_free I.ok.kind hk hc uX fin hcd) hd
theorem ai{i j pos}:PE X (.Constant (.int i) j pos) (tC (.int i)):=λ_ _ _ H _ I h=>wpAny_Constant_int ⟨.int i,H,I.tok _,⟨_,rfl⟩,h⟩
theorem xb{b j pos}:PE X (.Constant (.bool b) j pos) (tC (.bl b)):=λ_ _ _ H _ I h=>Constant_bool ⟨.bl b,H,I,rfl,h⟩
theorem gR{j pos}:PE X (.Constant .none j pos) (tC .non):=λ_ _ _ H _ I h=>Constant_none ⟨.non,H,I,rfl,h⟩
theorem di{x j pos}:PE X (.Constant (.str x) j pos) (tC (.str x)):=λ_ _ _ H _ I h=>Calls.Constant_str ⟨.str x,H,I.tok _,⟨_,rfl⟩,h⟩
def Gl(X:Cx)(x:Str):Prop:=X.env.kindOf x=some .globalImplicit
theorem oX{E:Value→Shared→Prop}{pins:List (Addr×Obj)}{s:Shared}{σ:St}{H:Hp}{x:Str}{u:Value}{pos:Pos}{Q:Value→Shared→Prop}(I:Inv X pins σ H s)(hg:Gl X x)(hm:X.mg x=some u)(h:Q u s)
    (hd:(x == ("__debug__" : Str))=false:=by decide):wpAny (model X.prog X.w) X.A (eval (.Name x pos) X.env) Q E s :=
  Gs I.ok.kind hg (Calls.loadGlobal_global (by rw[I.ok.glob];exact I.mod.glob.keeps I.bk) hm h) hd
theorem i0{E:Value→Shared→Prop}{pins:List (Addr×Obj)}{s:Shared}{σ:St}{H:Hp}{x:Str}{u:Value}{pos:Pos}{Q:Value→Shared→Prop}(I:Inv X pins σ H s)(hg:Gl X x)(hm:X.mg x=none)(hv:bootBuiltins x=some u)(h:Q u s)
    (hn:x ≠ "__name__" := by decide) (hd:(x == ("__debug__" : Str))=false:=by decide):wpAny (model X.prog X.w) X.A (eval (.Name x pos) X.env) Q E s:=by
  obtain⟨mb,h1,h2⟩:=I.mod.blt;exact Gs I.ok.kind hg (Calls.loadGlobal_builtin (by rw[I.ok.glob];exact I.mod.glob.keeps I.bk) hm (by rw[I.ok.blt];exact h1.keeps I.bk) ((h2 x hn).trans hv) h) hd
variable{a b:Expr}{ta tb:TE}{pos:Pos}
def PC(X:Cx)(op:CmpOp)(a b:Expr)(t:TE):Prop :=
  ∀(pins:List (Addr×Obj)) (s:Shared) (σ:St) (H:Hp) (Q:VK),Inv X pins σ H s→t σ H Q →
    wpAny (model X.prog X.w) X.A (eval a X.env) (λv s₁=>wpAny (model X.prog X.w) X.A (eval b X.env) (λu s₂=>wpAny (model X.prog X.w) X.A (compareOp op v u) (EP X pins σ Q) X.xe s₂) X.xe s₁) X.xe s
def tB(t:TE):TT:=λσ H Q=>t σ H λx H1=>∃ c,x=.bl c∧Q c H1
theorem sG{op:CmpOp}{t:TE}(h:PC X op a b t)(h1:behindInMarks op b=false:=by first|exact nobehind _ (by decide) (by decide)|rfl):PT X (.Compare a [op] [b] pos) (tB t):=by
  intro pins s σ H Q I hw;refine wpAny_isTrue_Compare1 (thn (h pins s σ H _ I hw) λv s1 h1=>thn h1 λu s2 h2=>thn h2 λc s3 ⟨x,H1,I1,r1,q1⟩=>?_) h1;obtain⟨d,rfl,q⟩:=q1;cases r1;exact wpAny_truthy_bool ⟨H1,I1,q⟩
theorem sH{e:Expr}{t:TE}(h:PE X e t)(he:∀ whole,isTrue e X.env whole=(do let v ←whole;standAt e.pos;holding [v] (truthy v)):=by intro _;rfl):PT X e (tB t):=by
  intro pins s σ H Q I hw;refine isTrue_plain (thn (h pins s σ H _ I hw) λv s1 ⟨x,H1,I1,r1,q1⟩=>?_) (he _);obtain⟨d,rfl,q⟩:=q1;cases r1;exact wpAny_truthy_bool ⟨H1,I1,q⟩
variable{tA tB':TT}{rest:List Expr}
def DM(t u:TT):TT:=λσ H Q=>t σ H λc H1=>if c=true then u σ H1 Q else Q false H1
def tOr(t u:TT):TT:=λσ H Q=>t σ H λc H1=>if c=true then Q true H1 else u σ H1 Q
def DN(t:TT):TT:=λσ H Q=>t σ H λc H1=>Q (!c) H1
theorem pw_and1(ha:PT X a tA):PW X (.BoolOp .And [a] pos) tA:=by
  intro wh pins s σ H Q I h;refine isTrue_and (thn (ha pins s σ H Q I h) λc s1 e=>?_);cases c with
  | true=>exact isTrue_and_nil e
  | false=>exact e
theorem pw_or1(ha:PT X a tA):PW X (.BoolOp .Or [a] pos) tA:=by
  intro wh pins s σ H Q I h;refine isTrue_or (thn (ha pins s σ H Q I h) λc s1 e=>?_);cases c with
  | false=>exact isTrue_or_nil e
  | true=>exact e
theorem pw_and(ha:PT X a tA)(hb:PW X (.BoolOp .And (b::rest) pos) tB'):PW X (.BoolOp .And (a::b::rest) pos) (DM tA tB'):=by
  intro wh pins s σ H Q I h;refine isTrue_and (thn (ha pins s σ H _ I h) λc s1 ⟨H1,I1,q1⟩=>?_);cases c with
  | true=>exact hb wh pins s1 σ H1 Q I1 q1
  | false=>exact⟨H1,I1,q1⟩
theorem pw_or(ha:PT X a tA)(hb:PW X (.BoolOp .Or (b::rest) pos) tB'):PW X (.BoolOp .Or (a::b::rest) pos) (tOr tA tB'):=by
  intro wh pins s σ H Q I h;refine isTrue_or (thn (ha pins s σ H _ I h) λc s1 ⟨H1,I1,q1⟩=>?_);cases c with
  | true=>exact⟨H1,I1,q1⟩
  | false=>exact hb wh pins s1 σ H1 Q I1 q1
theorem sI(ha:PT X a tA):PT X (.UnaryOp .Not a pos) (DN tA):=by
  intro pins s σ H Q I h;exact isTrue_not (ha pins s σ H (λc H1=>Q (!c) H1) I h)
def BI(ta tb:TE):TE:=λσ H Q=>ta σ H λx H1=>∃ c,x=.bl c∧if c=true then tb σ H1 Q else Q (.bl false) H1
theorem zo{op}{t:TE}(h:PE X a t):PE X (.BoolOp op [a] pos) t:=λpins s σ H Q I hw=>BoolOp_one (h pins s σ H Q I hw)
theorem zq(ha:PE X a ta)(hb:PE X (.BoolOp .And (b::rest) pos) tb):PE X (.BoolOp .And (a::b::rest) pos) (BI ta tb):=by
  intro pins s σ H Q I h;refine BoolOp_and (thn (ha pins s σ H _ I h) λv s1 ⟨x,H1,I1,r1,q1⟩=>?_);obtain⟨c,rfl,q1⟩:=q1;cases r1;refine wpAny_truthy_bool ?_;cases c with
  | true=>exact hb pins s1 σ H1 Q I1 q1
  | false=>exact⟨.bl false,H1,I1,rfl,q1⟩
def tIf(t:TT)(ta tb:TE):TE:=λσ H Q=>t σ H λc H1=>if c=true then ta σ H1 Q else tb σ H1 Q
theorem qy{c:Expr}(hc:PT X c tA)(ha:PE X a ta)(hb:PE X b tb):PE X (.IfExp c a b pos) (tIf tA ta tb):=by
  intro pins s σ H Q I h;refine wpAny_IfExp (thn (hc pins s σ H _ I h) λd s1 ⟨H1,I1,q1⟩=>?_);cases d with
  | true=>exact ha pins s1 σ H1 Q I1 q1
  | false=>exact hb pins s1 σ H1 Q I1 q1
end
end L2
namespace L2
open PySem PySem.Spec PyProof.Rows
def SqL(K:W.Frag)(H:Hp)(a:Addr)(xs:List V):Prop :=
  Rd H a (.lst xs) ∨
    ∃(o:Obj) (its:Array Value) (n:Nat),K.lookup a=some o∧o.cls=.type "list" ∧ o.dict=none∧o.data=.seq its n∧its.size≤sizeLine∧Vals xs its.toList
def SqT(K:W.Frag)(H:Hp)(a:Addr)(xs:List V):Prop :=
  Rd H a (.tup xs) ∨
    ∃(o:Obj) (its:Array Value) (n:Nat),K.lookup a=some o∧o.cls=.type "tuple" ∧ o.data=.seq its n∧its.size≤sizeLine∧Vals xs its.toList
def DO:Value→Option V
  | .none=>some .non
  | .bool b=>some (.bl b)
  | .int i _=>some (.int i)
  | .str x _=>some (.str x)
  | .bytes b _=>some (.byt b)
  | .float b _=>some (.flt b)
  | .ref a=>some (.ref a)
  | .type n=>some (.ty n)
  | _=>none
theorem RelV.abs{x:V}{u:Value}(r:RelV x u):DO u=some x:=by
  cases x with
  | non=>cases r;rfl
  | bl _=>cases r;rfl
  | int _=>obtain⟨t,rfl⟩:=r;rfl
  | str _=>obtain⟨t,rfl⟩:=r;rfl
  | byt _=>obtain⟨t,rfl⟩:=r;rfl
  | flt _=>obtain⟨t,rfl⟩:=r;rfl
  | ref _=>cases r;rfl
  | ty _=>cases r;rfl
theorem RelV.inj{x y:V}{u:Value}(r:RelV x u)(q:RelV y u):x=y:=Fg (r.abs.symm.trans q.abs)
theorem Vals.inj:∀ {xs ys:List V} {us:List Value},Vals xs us→Vals ys us→xs=ys
  | _,_,_,.nil,.nil=>rfl
  | _,_,_,.cons r t,.cons r' t'=>by rw[r.inj r',Vals.inj t t']
section
variable{X:Cx}{pins:List (Addr×Obj)}{σ:St}{H:Hp}{s:Shared}{a:Addr}{xs ys:List V}
theorem SqL.of{K:W.Frag}(h:H a=some (.lst xs)):SqL K H a xs:=.inl (.inl h)
theorem SqT.of{K:W.Frag}(h:H a=some (.tup xs)):SqT K H a xs:=.inl (.inl h)
theorem Inv.list(I:Inv X pins σ H s)(h:SqL X.K H a xs):∃ its:List Value,Vals xs its∧PlainL s.heap a its.toArray∧xs.length≤sizeLine:=by
  rcases h with h|⟨o,its,n,hk,hc,hd,hs,hz,r⟩
  · obtain⟨z,its,n,r,e⟩:=h.ok I.hok
    exact⟨its,r,⟨_,n,e,rfl,rfl,rfl⟩,z⟩
  · refine⟨its.toList,r,⟨o,n,I.kIn a o hk,hc,hd,by simpa using hs⟩,?_⟩
    have e:=r.length;simp only[Gp]at e;omega
theorem Inv.tuple(I:Inv X pins σ H s)(h:SqT X.K H a xs):∃ its:List Value,Vals xs its∧IsTup s.heap a its.toArray∧xs.length≤sizeLine:=by
  rcases h with h|⟨o,its,n,hk,hc,hs,hz,r⟩
  · obtain⟨z,its,r,p⟩:=h.ok I.hok
    exact⟨its,r,p,z⟩
  · refine⟨its.toList,r,⟨o,I.kIn a o hk,hc,n,by simpa using hs⟩,?_⟩
    have e:=r.length;simp only[Gp]at e;omega
theorem Inv.qz(I:Inv X pins σ H s)(h:SqL X.K H a xs)(h':SqL X.K H a ys):xs=ys:=by
  obtain⟨its,r,⟨o,n,e,_,_,d⟩,_⟩:=I.list h;obtain⟨ng,r',⟨o',n',e',_,_,d'⟩,_⟩:=I.list h';rw[e]at e';cases e';rw[d]at d';injection d' with d1 _
  have:its=ng:=by simpa using congrArg Array.toList d1
  subst this;exact r.inj r'
end
abbrev Cx.qA(X:Cx)(E:Value→Shared→Prop):Cx:={X with xe:=E}
abbrev Cx.nox(X:Cx):Cx:=X.qA λ_ _=>False
theorem Cx.Ok.qA{X:Cx}(ok:X.Ok)(E:Value→Shared→Prop):(X.qA E).Ok :=
  ⟨ok.mod,ok.kind,ok.glob,ok.blt,ok.above,ok.inj,ok.has,ok.cab,ok.hd,ok.frames,ok.stk,ok.exf,ok.bs,ok.bsz,ok.vZ,ok.yp,ok.m9,ok.frf⟩
theorem Cx.Ok.iw{X:Cx}{E:Value→Shared→Prop}(ok:(X.qA E).Ok):X.Ok :=
  ⟨ok.mod,ok.kind,ok.glob,ok.blt,ok.above,ok.inj,ok.has,ok.cab,ok.hd,ok.frames,ok.stk,ok.exf,ok.bs,ok.bsz,ok.vZ,ok.yp,ok.m9,ok.frf⟩
section
variable{X:Cx}{pins:List (Addr×Obj)}{σ:St}{H:Hp}{s:Shared}{E:Value→Shared→Prop}
theorem Inv.qA(I:Inv X pins σ H s)(E:Value→Shared→Prop):Inv (X.qA E) pins σ H s:=⟨I.ok.qA E,I.os,I.bare,I.base,I.loc,I.cell,I.free,I.gQ,I.pin,I.hok,I.len⟩
theorem Inv.iw(I:Inv (X.qA E) pins σ H s):Inv X pins σ H s:=⟨I.ok.iw,I.os,I.bare,I.base,I.loc,I.cell,I.free,I.gQ,I.pin,I.hok,I.len⟩
theorem SP.iw{D:Ends}{f:Flow}{s':Shared}(h:SP (X.qA E) pins D f s'):SP X pins D f s':=by
  cases f with
  | next=>obtain⟨σ',H',I,q⟩:=h;exact⟨σ',H',I.iw,q⟩
  | brk=>obtain⟨σ',H',I,q⟩:=h;exact⟨σ',H',I.iw,q⟩
  | cont=>obtain⟨σ',H',I,q⟩:=h;exact⟨σ',H',I.iw,q⟩
  | ret u=>obtain⟨v,σ',H',I,r,q⟩:=h;exact⟨v,σ',H',I.iw,r,q⟩
theorem PSs.nox{st:List Stmt}{t:TS}(h:PSs X.nox st t):PSs X st t:=λpins s σ H D I hw =>
  wpAny_mono (h pins s σ H D (I.qA _) hw) (λ_ _ q=>q.iw) λ_ _ z=>False.elim z
end
section
variable{X:Cx}{st:Stmt}{rest:List Stmt}{t u:TS}{e:Expr}{te:TE}{pos:Pos}
def BJ:TS:=λD σ H=>D.nx σ H
def CB(t u:TS):TS:=λD σ H=>t {D with nx:=u D} σ H
theorem cu:PSs X [] BJ:=λ_ _ σ H _ I h=>wpAny_execs_nil ⟨σ,H,I,h⟩
theorem af(h1:PS X st t)(h2:PSs X rest u):PSs X (st::rest) (CB t u):=by
  intro pins s σ H D I h;refine wpAny_execs_cons (thn (h1 pins s σ H {D with nx:=u D} I h) λf s1 q=>?_);cases f with
  | next =>
    obtain⟨σ',H',I',q⟩:=q;exact h2 pins s1 σ' H' D I' q
  | ret v=>exact q
  | brk=>exact q
  | cont=>exact q
theorem ak(h1:PS X st t):PSs X [st] t:=by
  intro pins s σ H D I h;refine wpAny_execs_cons (thn (h1 pins s σ H D I h) λf s1 q=>?_);cases f with
  | next=>exact wpAny_execs_nil q
  | ret v=>exact q
  | brk=>exact q
  | cont=>exact q
theorem Inv.quiet{pins:List (Addr×Obj)}{σ:St}{H:Hp}{s:Shared}(I:Inv X pins σ H s):interactive X.env=false:=by simp[interactive,I.ok.kind]
def BK(te:TE):TS:=λD σ H=>te σ H λ_ H1=>D.nx σ H1
theorem bH(he:PE X e te)(hs:swapsWith e none pos.line X.env=pure false:=by rfl):PS X (.Expr e pos) (BK te):=by
  intro pins s σ H D I h;exact wpAny_Expr_any (thn (he pins s σ H _ I h) λv s1 ⟨x,H1,I1,r1,q1⟩=>⟨σ,H1,I1,q1⟩) I.quiet hs
def DP(te:TE):TS:=λD σ H=>te σ H D.rt
theorem aW(he:PE X e te):PS X (.Return (some e) pos) (DP te):=by
  intro pins s σ H D I h;exact wpAny_Return_some (thn (he pins s σ H _ I h) λv s1 ⟨x,H1,I1,r1,q1⟩=>⟨x,σ,H1,I1,r1,q1⟩)
def DQ(c:TT)(t u:TS):TS:=λD σ H=>c σ H λb H1=>if b=true then t D σ H1 else u D σ H1
theorem eR{c:Expr}{a b:List Stmt}{tc:TT}(hc:PT X c tc)(ha:PSs X a t)(hb:PSs X b u):PS X (.If c a b pos) (DQ tc t u):=by
  intro pins s σ H D I h;refine wpAny_If (thn (hc pins s σ H _ I h) λd s1 ⟨H1,I1,q1⟩=>?_);cases d with
  | true=>exact ha pins s1 σ H1 D I1 q1
  | false=>exact hb pins s1 σ H1 D I1 q1
end
abbrev TG:=V→St→Hp→(St→Hp→Prop)→Prop
abbrev TGs:=List V→St→Hp→(St→Hp→Prop)→Prop
def PG(X:Cx)(target:Expr)(t:TG):Prop :=
  ∀(pins:List (Addr×Obj)) (s:Shared) (σ:St) (H:Hp) (v:V) (u:Value) (Q:St→Hp→Prop),Inv X pins σ H s→RelV v u→t v σ H Q →
    wpAny (model X.prog X.w) X.A (assign target X.env u) (λ_ s'=>∃ σ' H',Inv X pins σ' H' s'∧Q σ' H') X.xe s
def PGs(X:Cx)(ts:List Expr)(t:TGs):Prop :=
  ∀(pins:List (Addr×Obj)) (s:Shared) (σ:St) (H:Hp) (vs:List V) (us:List Value) (Q:St→Hp→Prop),Inv X pins σ H s→Vals vs us→t vs σ H Q →
    wpAny (model X.prog X.w) X.A (assignInOrder ((assignEach ts X.env).map (·.2)) us) (λ_ s'=>∃ σ' H',Inv X pins σ' H' s'∧Q σ' H') X.xe s
abbrev Af:=V→V→V→Hp→(Hp→Prop)→Prop
def CC(X:Cx)(t:Af):Prop :=
  ∀(pins:List (Addr×Obj)) (s:Shared) (σ:St) (H:Hp) (o i v:V) (ov iv u:Value) (Q:Hp→Prop),Inv X pins σ H s→RelV o ov→RelV i iv→RelV v u→t o i v H Q →
    wpAny (model X.prog X.w) X.A (setItem ov iv u) (λ_ s'=>∃ H',Inv X pins σ H' s'∧Q H') X.xe s
abbrev TIp:=V→V→Hp→VK→Prop
def PIp(X:Cx)(op:Operator)(t:TIp):Prop :=
  ∀(pins:List (Addr×Obj)) (s:Shared) (σ:St) (H:Hp) (x y:V) (v u:Value) (Q:VK),Inv X pins σ H s→RelV x v→RelV y u→t x y H Q →
    wpAny (model X.prog X.w) X.A (inplaceOp op v u) (EP X pins σ Q) X.xe s
section
variable{X:Cx}{pos:Pos}
def i8(i:Nat):TG:=λv σ H Q=>Q (σ.set i (some v)) H
theorem aC{i:Nat}{x:Str}(hN:X.N.Nodup)(hi:X.N[i]?=some x)(hx:Loc X.env.scope x)(hf:X.fn x=true∨X.env.scope.names.lookup x=some .local:=by first|exact .inl rfl|exact .inr rfl|assumption):PG X (.Name x pos) (i8 i):=by
  intro pins s σ H v u Q I r h;exact wpAny_assign_Name (kZ I hN hi hx r (λs' I'=>⟨_,H,I',h⟩) hf)
def CD:TGs:=λvs σ H Q=>vs=[]∧Q σ H
def uY(t:TG)(u:TGs):TGs:=λvs σ H Q=>∃ v r,vs=v::r∧t v σ H λσ' H'=>u r σ' H' Q
theorem d4:PGs X [] CD:=by
  intro pins s σ H vs us Q I r h;obtain⟨e,h⟩:=h;subst e;cases r;exact assignInOrder_nil ⟨σ,H,I,h⟩
theorem aH{e:Expr}{es:List Expr}{t:TG}{u:TGs}(h1:PG X e t)(h2:PGs X es u)
    (hs:(assignEach (e::es) X.env).map (·.2)=assign e X.env::(assignEach es X.env).map (·.2):=by rfl):PGs X (e::es) (uY t u):=by
  intro pins s σ H vs us Q I r h;obtain⟨v,vr,e1,h⟩:=h;subst e1;cases r with
  | cons r rr =>
    rw[hs];refine assignInOrder_cons (thn (h1 pins s σ H _ _ _ I r h) λ_ s1 ⟨σ1,H1,I1,q1⟩=>?_);exact h2 pins s1 σ1 H1 _ _ Q I1 rr q1
def CF(K:W.Frag)(n:Nat)(t:TGs):TG:=λv σ H Q=>∃ a xs,v=.ref a∧SqT K H a xs∧xs.length=n∧t xs σ H Q
theorem fM{es:List Expr}{k:Nat}{t:TGs}{n:Nat}(hc:X.calm=true)(h:PGs X es t)
    (hn:(assignEach es X.env).length=n:=by rfl) (hst:(assignEach es X.env).findIdx? (·.1)=none:=by rfl):PG X (.Tuple es k pos) (CF X.K n t):=by
  intro pins s σ H v u Q I r hw;obtain⟨a,xs,e1,hq,hl,hw⟩:=hw;subst e1;cases r;obtain⟨its,rv,ht,hz⟩:=I.tuple hq;refine assign_Tuple_tuple (I.ok.hd hc) ht (by simp[hn,←hl,rv.length]) hst λh' hx=>?_;have I1:Inv X pins σ H {s with heap:=h'}:=I.kept (t':=s.toks) λb o e=>hx b o (E9 (E4 e)) e;exact h pins _ σ H xs _ Q I1 (by simpa using rv) hw
def DR(to ti:TE)(t:Af):TG:=λv σ H Q=>to σ H λo H1=>ti σ H1 λi H2=>t o i v H2 λH3=>Q σ H3
theorem lJ{o i:Expr}{to ti:TE}{t:Af}(ho:PE X o to)(hi:PE X i ti)(hs:CC X t)
    (ha:∀ v,assign (.Subscript o i pos) X.env v=(do
      let ov ←holding [v] (eval o X.env)
      let iv ←holding [v,ov] (eval i X.env)
      standAt pos
      holding [v,ov,iv] (setItem ov iv v)
      release [v,ov,iv] []):=by intro _;rfl):PG X (.Subscript o i pos) (DR to ti t):=by
  intro pins s σ H v u Q I r h;rw[ha];refine wpAny_bind (wpAny_holding (thn (ho pins s σ H _ I h) λov s1 ⟨x,H1,I1,r1,q1⟩=>?_));refine wpAny_bind (wpAny_holding (thn (hi pins s1 σ H1 _ I1 q1) λiv s2 ⟨y,H2,I2,r2,q2⟩=>?_));refine wpAny_bind (wpAny_standAt (wpAny_bind (wpAny_holding (thn (hs pins s2 σ H2 x y v ov iv u _ I2 r1 r2 r q2) λ_ s3 ⟨H3,I3,q3⟩=>?_))));exact wpAny_release ⟨σ,H3,I3,q3⟩
def Ag(te:TE)(g:TG):TS:=λD σ H=>te σ H λx H1=>g x σ H1 D.nx
theorem jU{tg e:Expr}{te:TE}{g:TG}(he:PE X e te)(hg:PG X tg g)(hs:swapsWithSole [tg] e pos.line X.env=pure false:=by rfl)(hw:swappedStores [tg] e X.env=pure none:=by rfl)
    (h1:(assignEach [tg] X.env).map (·.2)=[assign tg X.env]:=by rfl):PS X (.Assign [tg] e pos) (Ag te g):=by
  intro pins s σ H D I h;refine wpAny_Assign_stores (thn (he pins s σ H _ I h) λv s1 ⟨x,H1,I1,r1,q1⟩=>?_) hs hw;rw[h1];exact thn (hg pins s1 σ H1 x v _ I1 r1 q1) λ_ s2 q=>q
theorem aA{i:Nat}{x:Str}{e:Expr}{te:TE}{pos':Pos}(hN:X.N.Nodup)(hi:X.N[i]?=some x)(hx:Loc X.env.scope x)(he:PE X e te)(hs:swapsWith e (some (.Name x pos')) pos.line X.env=pure false:=by rfl)(hf:X.fn x=true∨X.env.scope.names.lookup x=some .local:=by first|exact .inl rfl|exact .inr rfl|assumption) :
    PS X (.Assign [.Name x pos'] e pos) (Ag te (i8 i)):=by
  intro pins s σ H D I h;refine wpAny_Assign_Name (thn (he pins s σ H _ I h) λv s1 ⟨y,H1,I1,r1,q1⟩=>?_) hs;exact kZ I1 hN hi hx r1 (λs2 I2=>⟨_,H1,I2,q1⟩) hf
def DS(i:Nat)(te:TE)(ti:TIp):TS:=λD σ H=>∃ x,σ[i]?=some (some x)∧te σ H λy H1=>ti x y H1 λz H2=>D.nx (σ.set i (some z)) H2
theorem wa{i:Nat}{x:Str}{e:Expr}{te:TE}{op:Operator}{ti:TIp}{pos':Pos}(hN:X.N.Nodup)(hi:X.N[i]?=some x)(hx:Loc X.env.scope x)(he:PE X e te)(ho:PIp X op ti)(hf:X.fn x=true∨X.env.scope.names.lookup x=some .local:=by first|exact .inl rfl|exact .inr rfl|assumption) :
    PS X (.AugAssign (.Name x pos') op e pos) (DS i te ti):=by
  intro pins s σ H D I h;obtain⟨v,e1,h⟩:=h;obtain⟨m,hn,hl⟩:=I.loc;have vis:Vis X.env.scope x:=by rcases hx with k|k;exact .inl k;exact .inr (.inl k)
  obtain⟨u,r,l⟩:=hl i x v hi e1 vis;refine wpAny_AugAssign_Name ?_;have go:wpAny (model X.prog X.w) X.A (eval e X.env) (λw s₂=>wpAny (model X.prog X.w) X.A (inplaceOp op u w) (λr s₃=>wpAny (model X.prog X.w) X.A (storeName X.env x r) (λ_=>SP X pins D .next) X.xe s₃) X.xe s₂) X.xe s:=by
    refine thn (he pins s σ H _ I h) λw s1 ⟨y,H1,I1,r1,q1⟩=>?_;refine thn (ho pins s1 σ H1 v y u w _ I1 r r1 q1) λz s2 ⟨zv,H2,I2,r2,q2⟩=>?_;exact kZ I2 hN hi hx r2 (λs3 I3=>⟨_,H2,I3,q2⟩) hf
  rcases l with⟨hk,hm⟩|⟨hk,c,hc,uX⟩
  · exact wpAny_loadName_local I.ok.kind hk hn hm go
  · rcases hk with hk|hk
    · exact wpAny_loadName_cell I.ok.kind hk hc uX go
    · rcases hx with k|k
      · have:X.env.scope.names.lookup x=some .free:=hk
        rw[k]at this;cases this
      · have:X.env.scope.names.lookup x=some .free:=hk
        rw[k]at this;cases this
def ipI(f:Int→Int→Int):TIp:=λx y H Q=>∃ i j,x=.int i∧y=.int j∧Q (.int (f i j)) H
theorem wc:PIp X .Add (ipI λi j=>i+j):=by
  intro pins s σ H x y v u Q I r1 r2 h;obtain⟨i,j,e1,e2,q⟩:=h;subst e1;subst e2;obtain⟨t,rfl⟩:=r1;obtain⟨t',rfl⟩:=r2;exact iadd_int ⟨.int _,H,I.tok _,⟨_,rfl⟩,q⟩
end
section
variable{X:Cx}{pos:Pos}
def zt(c:TT)(tb:TS):TS:=λD σ H=>∃ W:Nat→St→Hp→Prop,(∃ m,W m σ H)∧∀ m σ H,W m σ H →
  c σ H λb H1=>if b=true then ∃ N:St→Hp→Prop,(∀ σ' H',N σ' H'→∃ m',m'<m∧W m' σ' H')∧tb {D with nx:=N,ct:=N,bk:=D.nx} σ H1 else D.nx σ H1
theorem qB{c:Expr}{body:List Stmt}{tc:TT}{tb:TS}(hp:PassesOwn (model X.prog X.w) X.A X.env X.xe)(hc:PT X c tc)(hb:PSs X body tb):PS X (.While c body [] pos) (zt tc tb):=by
  intro pins s σ H D I h;obtain⟨W,⟨m0,w0⟩,turn⟩:=h;refine wpAny_While (codeAny_whileLoop (λn s'=>∃ σ' H',Inv X pins σ' H' s'∧W n σ' H') ?_ m0 ⟨σ,H,I,w0⟩);rintro n s1 ⟨σ1,H1,I1,w1⟩;refine wpAny_passesOwn hp (thn (hc pins s1 σ1 H1 _ I1 (turn n σ1 H1 w1)) λb s2 ⟨H2,I2,q2⟩=>?_);cases b with
  | true =>
    obtain⟨N,hN,q2⟩:=q2;rw[if_pos rfl];refine wpAny_passesOwn hp (thn (hb pins s2 σ1 H2 _ I2 q2) λf s3 q3=>?_);cases f with
    | next =>
      obtain⟨σ3,H3,I3,n3⟩:=q3;obtain⟨m',hm,w3⟩:=hN σ3 H3 n3;exact⟨m',hm,σ3,H3,I3,w3⟩
    | cont =>
      obtain⟨σ3,H3,I3,n3⟩:=q3;obtain⟨m',hm,w3⟩:=hN σ3 H3 n3;exact⟨m',hm,σ3,H3,I3,w3⟩
    | brk=>exact q3
    | ret v=>exact q3
  | false =>
    rw[if_neg EY];exact wpAny_execs_nil ⟨σ1,H2,I2,q2⟩
end
structure It where
  go:Nat→Hp→Prop
  yld:Nat→Hp→V→Hp→Prop
  stop:Nat→Hp→Prop
def jY(X:Cx)(pins:List (Addr×Obj))(H:Hp)(b:Addr):Prop :=
  H b=none∧b≠X.env.locals∧b∉X.fs∧(b∈X.ex∨X.s₀.heap.objs.size≤b)∧(∀ x c,X.env.cells.lookup x=some c→c≠b)∧∀ p∈X.pn++pins,p.1≠b
theorem Inv.xC{X:Cx}{pins:List (Addr×Obj)}{σ:St}{H H':Hp}{s:Shared}{b:Addr}(I:Inv X pins σ H s)(hb:s.heap.objs.size≤b)(hn:H' b=none):jY X pins H' b:=by
  refine⟨hn,FL (E7 I.lt hb),I.xB hb,.inr (Fo I.sz hb),λx c e z=>?_,λp hp z=>?_⟩
  · obtain⟨v,q⟩:=I.cell x c e
    exact absurd (E7 q.lt (by rw[z];exact hb)) (FF _)
  · exact absurd (E7 (E4 (I.pin p hp).1) (by rw[z];exact hb)) (FF _)
structure Turn(P:Program)(w:World)(K:W.Frag)(tg:Expr)(J:It)(fp:List Addr)(it:Addr)(tn:Nat→Heap→Prop):Prop where
  mem:it∈fp
  obj:∀ i h,tn i h→∀ b∈fp,∃ o,h.get? b=some o∧∀ v,o.data≠.cell v
  keep:∀ i h h',tn i h→(∀ b∈fp,∀ o,h.get? b=some o→h'.get? b=some o)→tn i h'
  item:∀(X:Cx),X.prog=P→X.w=w→X.K=K→X.calm=true→∀(i:Nat) (pins:List (Addr×Obj)) (s:Shared) (σ:St) (H:Hp) (E:Value→Shared→Prop),Inv X pins σ H s→(∀ b∈fp,jY X pins H b)→tn i s.heap→J.go i H →
    wpAny (model P w) X.A (pyNext (.ref it)) (λr s1=>∃ u,r=some u ∧
      wpAny (model P w) X.A (letOwnedTupleGo tg (.ref it) u) (λ_ s2=>∃ x H',Inv X pins σ H' s2∧RelV x u∧J.yld i H x H'∧tn (i+1) s2.heap∧∀ b∈fp,H' b=none) E s1) E s
  done:∀(X:Cx),X.prog=P→X.w=w→X.K=K→X.calm=true→∀(i:Nat) (pins:List (Addr×Obj)) (s:Shared) (σ:St) (H:Hp) (E:Value→Shared→Prop),Inv X pins σ H s→(∀ b∈fp,jY X pins H b)→tn i s.heap→J.stop i H →
    wpAny (model P w) X.A (pyNext (.ref it)) (λr s1=>r=none∧Inv X pins σ H s1) E s
  self:∀(A:Around) (i:Nat) (s:Shared) (Q:Value→Shared→Prop) (E:Value→Shared→Prop),tn i s.heap→Q (.ref it) s→wpAny (model P w) A (pyIter (.ref it)) Q E s
abbrev TI:=St→Hp→(It→Hp→Prop)→Prop
def PIE(X:Cx)(pins:List (Addr×Obj))(σ:St)(tg:Expr)(R:It→Hp→Prop)(itv:Value)(s2:Shared):Prop :=
  ∃(it:Addr) (fp:List Addr) (tn:Nat→Heap→Prop) (J:It) (H':Hp),itv=.ref it∧Inv X pins σ H' s2∧Turn X.prog X.w X.K tg J fp it tn∧tn 0 s2.heap∧(∀ b∈fp,jY X pins H' b)∧R J H'
def PI(X:Cx)(tg iter:Expr)(wi:TI):Prop :=
  ∀(pins:List (Addr×Obj)) (s:Shared) (σ:St) (H:Hp) (R:It→Hp→Prop),Inv X pins σ H s→wi σ H R →
    wpAny (model X.prog X.w) X.A (eval iter X.env) (λv s1=>wpAny (model X.prog X.w) X.A (pyIter v) (PIE X pins σ tg R) X.xe s1) X.xe s
theorem yr{M:Model}{A:Around}{E:Value→Shared→Prop}{s:Shared}{tg:Expr}{it:Addr}{u:Value}{o:Obj}{n:String}{vs:Array Value}{Q:Unit→Shared→Prop}(ho:s.heap.get? it=some o)(hc:o.cls=.type n)(hd:o.data=.fields vs)
    (hn:["enumerate", "zip", "dict_itemiterator", "dict_reverseitemiterator", "odict_iterator", "itertools.zip_longest", "itertools.pairwise"].contains n=false) (hQ:Q () s):wpAny M A (letOwnedTupleGo tg (.ref it) u) Q E s:=by
  unfold letOwnedTupleGo;cases tg<;>first
    | exact wpAny_pure hQ
    | (cases u<;>first
        | exact wpAny_pure hQ
        | (refine wpAny_bind (wpAny_load ho ?_)
           rw[hc,hd];show wpAny M A (if(["enumerate", "zip", "dict_itemiterator", "dict_reverseitemiterator", "odict_iterator", "itertools.zip_longest", "itertools.pairwise"].contains n&&vs[0]? == some (rawInt _))=true then _ else _) Q E s;rw[if_neg (by intro h;rw[hn,Bool.false_and]at h;cases h)];exact wpAny_pure hQ))
def Itl(K:W.Frag)(a:Addr):It :=
  ⟨λi H=>∃ xs x,SqL K H a xs∧xs[i]?=some x,λi H x H'=>H'=H∧∀ xs,SqL K H a xs→xs[i]?=some x,λi H=>∃ xs,SqL K H a xs∧xs.length≤i⟩
def Itr(lo:Int)(n:Nat):It:=⟨λi _=>i<n,λi H x H'=>H'=H∧x=.int (lo+i),λi _=>n≤i⟩
theorem ug{P:Program}{w:World}{K:W.Frag}{tg:Expr}(a it:Addr):Turn P w K tg (Itl K a) [it] it (λi h=>h.IsListIter it a i) where
  mem:=by simp
  obj:=λi h st b hb=>by
    have e:b=it:=(by simpa using hb);subst e;obtain⟨o,e,c,d⟩:=st;exact⟨o,e,λv z=>by rw[d]at z;cases z⟩
  keep:=λi h h' st k=>st.at λo e=>k it (by simp) o e
  item:=by
    intro X hP hw hK hc i pins s σ H E I hf st hg;subst hP hw hK;obtain⟨xs,x,hq,hx⟩:=hg;obtain⟨its,rv,p,hz⟩:=I.list hq;obtain⟨u,hu,ru⟩:=rv.get hx;obtain⟨f0,f1,f2,f3,f4,f5⟩:=hf it (by simp);refine wpAny_pyNext_list_item st p.isList (x:=u) (by simpa using hu) λh' st' sb=>?_;have I1:Inv X pins σ H {s with heap:=h'}:=I.turned (t':=s.toks) (λb o hb e=>(sb.2 b hb).trans e) f0 f1 f3 f4 f5;obtain⟨o,e,c,d⟩:=id st';exact⟨u,rfl,yr (s:={s with heap:=h'}) e c d (by decide) ⟨x,H,I1,ru,⟨rfl,λys hy=>by rw[I.qz hy hq];exact hx⟩,st',λb hb=>(hf b hb).1⟩⟩
  done:=by
    intro X hP hw hK hc i pins s σ H E I hf st hg;subst hP hw hK;obtain⟨xs,hq,hx⟩:=hg;obtain⟨its,rv,p,hz⟩:=I.list hq;obtain⟨f0,f1,f2,f3,f4,f5⟩:=hf it (by simp);have hl:=rv.length;exact wpAny_pyNext_list_end (I.ok.hd hc) st p.isList (by simp;omega) λh' eb=>⟨rfl,I.turned (t':=s.toks) (λb o hb e=>eb b o hb e) f0 f1 f3 f4 f5⟩
  self:=λ_ _ _ _ _ st h=>wpAny_pyIter_listiter st h
theorem rf{P:Program}{w:World}{K:W.Frag}{tg:Expr}(it:Addr)(lo:Int)(n:Nat):Turn P w K tg (Itr lo n) [it] it (λi h=>IsRangeIter h it (lo+(i:Nat)*1) ((n:Int)-(i:Nat)) 1) where
  mem:=by simp
  obj:=λi h st b hb=>by
    have e:b=it:=(by simpa using hb);subst e;exact⟨_,st,λv z=>by
      have z':Data.fields _=Data.cell v:=z;cases z'⟩
  keep:=λi h h' st k=>k it (by simp) _ st
  item:=by
    intro X hP hw hK hc i pins s σ H E I hf st hg;subst hP hw hK;obtain⟨f0,f1,f2,f3,f4,f5⟩:=hf it (by simp);have W:=Walks.range (prog:=X.prog) (w:=X.w) (I.ok.hd hc) it lo 1 n;refine W.item i s _ _ hg st λv h' tk hv st' kk=>?_;obtain⟨t,rfl⟩:=hv;have I1:Inv X pins σ H {s with heap:=h',toks:=tk}:=I.turned (λb o hb e=>kk b o (by simpa using hb) e) f0 f1 f3 f4 f5;refine⟨_,rfl,yr (s:={s with heap:=h',toks:=tk}) (n := "range_iterator") st' rfl rfl (by decide) ⟨.int (lo+i),H,I1,⟨t,?_⟩,⟨rfl,rfl⟩,st',λb hb=>(hf b hb).1⟩⟩;rw[Int.mul_one]
  done:=by
    intro X hP hw hK hc i pins s σ H E I hf st hg;subst hP hw hK;obtain⟨f0,f1,f2,f3,f4,f5⟩:=hf it (by simp);exact wpAny_pyNext_range_end (I.ok.hd hc) st (by have:n≤i:=hg;omega) λh' eb=>⟨rfl,I.turned (t':=s.toks) (λb o hb e=>eb b o hb e) f0 f1 f3 f4 f5⟩
  self:=λ_ _ _ _ _ st h=>wpAny_pyIter_rangeiter st h
end L2
namespace L2
open PySem PySem.Spec PyProof.Rows
section
variable{X:Cx}{tg:Expr}
def BL(K:W.Frag)(tl:TE):TI:=λσ H R=>tl σ H λx H1=>∃ a,x=.ref a∧(∃ xs,SqL K H1 a xs)∧R (Itl K a) H1
theorem dj{l:Expr}{tl:TE}(hl:PE X l tl):PI X tg l (BL X.K tl):=by
  intro pins s σ H R I h;refine thn (hl pins s σ H _ I h) λv s1 ⟨x,H1,I1,r1,q1⟩=>?_;obtain⟨a,e,⟨xs,hq⟩,q⟩:=q1;subst e;cases r1;obtain⟨its,rv,p,hz⟩:=I1.list hq;refine wpAny_pyIter_list p.isList ?_;refine⟨s1.heap.objs.size,[s1.heap.objs.size],_,_,H1,rfl,I1.kept (t':=s1.toks) λb o e=>ES _ e,ug a _,⟨_,Ff _ rfl,rfl,rfl⟩,λb hb=>?_,q⟩;have e:b=s1.heap.objs.size:=by simpa using hb
  subst e;exact I1.xC (EV _) (I1.hok.fresh (EV _))
theorem vt{pins:List (Addr×Obj)}{σ:St}{H:Hp}{s:Shared}{R:It→Hp→Prop}{E:Value→Shared→Prop}{lo hi:Int}{t u v:Tok}{tk:Nat}(I:Inv X pins σ H s)(h1:-(2 ^ 62)≤lo)(h2:lo<2 ^ 62)(h3:-(2 ^ 62)≤hi)(h4:hi<2 ^ 62)
    (q:R (Itr lo (hi-lo).toNat) H):wpAny (model X.prog X.w) X.A (pyIter (.ref s.heap.objs.size)) (PIE X pins σ tg R) E {s with heap:=s.heap.push {cls:=.type "range",data:=.fields #[.int lo t,.int hi u,.int 1 v]},toks:=tk}:=by
  refine wpAny_pyIter_range (IsRange.new ..) (small_one h1 h2 h3 h4) ?_;have I1:Inv X pins σ H {s with heap:=s.heap.push {cls:=.type "range",data:=.fields #[.int lo t,.int hi u,.int 1 v]},toks:=tk}:=I.kept λb o e=>ES _ e;refine⟨(s.heap.push {cls:=.type "range",data:=.fields #[.int lo t,.int hi u,.int 1 v]}).objs.size,[(s.heap.push {cls:=.type "range",data:=.fields #[.int lo t,.int hi u,.int 1 v]}).objs.size],_,_,H,rfl,
    I1.kept (t':=tk) λb o e=>ES _ e,rf _ lo (hi-lo).toNat,?_,λb hb=>?_,q⟩
  · have e1:lo+((0:Nat):Int)*1=lo:=by simp
    have e2:(((hi-lo).toNat:Nat):Int)-((0:Nat):Int)=Builtin.Range.rangeSize lo hi 1:=(by rw[rangeSize_one];split<;>omega);show IsRangeIter _ _ (lo+((0:Nat):Int)*1) ((((hi-lo).toNat:Nat):Int)-((0:Nat):Int)) 1;rw[e1,e2];exact Ff _ rfl
  · have e:b=(s.heap.push {cls:=.type "range",data:=.fields #[.int lo t,.int hi u,.int 1 v]}).objs.size:=by simpa using hb
    subst e;exact I1.xC (EV _) (I1.hok.fresh (EV _))
def BM(ta:TA):TI:=λσ H R=>ta σ H λvs H1=>∃ j:Int,vs=[.int j]∧-(2 ^ 62)≤j∧j<2 ^ 62∧R (Itr 0 j.toNat) H1
theorem dh{a:Expr}{ta:TA}{p pos:Pos}(hg:Gl X "range")(hm:X.mg "range" = none)(ha:PA X [a] ta)(hs:starEach [a] X.env=[(false,eval a X.env)]:=by rfl):PI X tg (.Call (.Name "range" p) [a] [] pos) (BM ta):=by
  intro pins s σ H R I h;refine Call_ (i0 I hg hm boot_range (PyProof.Rows.callWith_type1 (thn (ha pos pins s σ H _ I h) λus s1 ⟨vs,H1,I1,r1,q1⟩=>?_) hs rfl));obtain⟨j,e,q1,q2,q⟩:=q1;subst e;cases r1 with
  | cons r rr =>
    cases rr;obtain⟨t,rfl⟩:=r;exact call_range_1 (vt I1 (by omega) (by omega) q1 q2 (by simpa using q))
def DT(wi:TI)(g:TG)(tb:TS):TS:=λD σ H=>wi σ H λJ H1=>∃ W:Nat→Nat→St→Hp→Prop,(∃ m,W 0 m σ H1)∧∀ i m σ H,W i m σ H →
  (J.stop i H∧D.nx σ H)∨(J.go i H∧∃ N:St→Hp→Prop,(∀ σ' H',N σ' H'→∃ m',m'<m∧W (i+1) m' σ' H')∧∀ x H',J.yld i H x H'→g x σ H' λσ2 H2=>tb {D with nx:=N,ct:=N,bk:=D.nx} σ2 H2)
def lK(fp:List Addr)(h:Heap):List (Addr×Obj):=fp.filterMap λb=>(h.get? b).map λo=>(b,o)
theorem cF{fp:List Addr}{h:Heap}{b:Addr}{o:Obj}(hb:b∈fp)(e:h.get? b=some o):(b,o)∈lK fp h:=FH.mpr ⟨b,hb,by rw[e];rfl⟩
theorem uh{fp:List Addr}{h:Heap}{p:Addr×Obj}(hp:p∈lK fp h):p.1∈fp∧h.get? p.1=some p.2:=by
  obtain⟨b,hb,e⟩:=FH.mp hp;cases q:h.get? b with
  | none=>rw[q]at e;cases e
  | some o =>
    rw[q]at e;have e':(b,o)=p:=Fg e;subst e';exact⟨hb,q⟩
theorem Inv.pinned{pins:List (Addr×Obj)}{σ:St}{H:Hp}{s:Shared}{fp:List Addr}(I:Inv X pins σ H s)(hf:∀ b∈fp,jY X pins H b)(ho:∀ b∈fp,∃ o,s.heap.get? b=some o∧∀ v,o.data≠.cell v):Inv X (pins++lK fp s.heap) σ H s :=
  I.iu λp hp=>(Fc.mp hp).elim (λz=>I.pin p (EW _ z)) λz=>by
    obtain⟨hb,e⟩:=uh z;obtain⟨f0,f1,f2,_⟩:=hf p.1 hb;obtain⟨o,e',d⟩:=ho p.1 hb;rw[e]at e';cases e';exact⟨e,f0,f1,f2,d⟩
theorem Inv.fz{pins pl:List (Addr×Obj)}{σ:St}{H:Hp}{s:Shared}(I:Inv X (pins++pl) σ H s):Inv X pins σ H s:=I.iu λp hp=>I.pin p (EW _ (FK _ hp))
theorem dk{iter:Expr}{body:List Stmt}{wi:TI}{g:TG}{tb:TS}{pos:Pos}(hp:PassesOwn (model X.prog X.w) X.A X.env X.xe)(hc:X.calm=true)(hi:PI X tg iter wi)(hg:PG X tg g)(hb:PSs X body tb)
    (hs:∀ x,foldedSetIterable iter X.env x=pure x:=by intro _;rfl):PS X (.For tg iter body [] pos) (DT wi g tb):=by
  intro pins s σ H D I h;refine wpAny_For (thn (hi pins s σ H _ I h) λv s1 h1=>thn h1 λitv s2 h2=>?_) hs;obtain⟨it,fp,tn,J,H2,e,I2,T,st2,f2,W,⟨m0,w0⟩,turn⟩:=h2;subst e;have jZ:∀ {H':Hp},(∀ b∈fp,H' b=none)→∀ b∈fp,jY X pins H' b:=λhn b hb=>⟨hn b hb,(f2 b hb).2⟩;refine codeAny_forLoop_any (λn s'=>∃ i σ' H',Inv X pins σ' H' s'∧tn i s'.heap∧(∀ b∈fp,H' b=none)∧W i n σ' H') ?_ m0 ⟨0,σ,H2,I2,st2,λb hb=>(f2 b hb).1,w0⟩;rintro n s3 ⟨i,σ3,H3,I3,st3,fr3,w3⟩;rcases turn i n σ3 H3 w3 with⟨stop,qn⟩|⟨go,N,hN,step⟩
  · refine wpAny_passesOwn hp (thn (T.done X rfl rfl rfl hc i pins s3 σ3 H3 X.xe I3 (jZ fr3) st3 stop) λr s4 ⟨hr,I4⟩=>?_)
    subst hr;exact wpAny_execs_nil ⟨σ3,H3,I4,qn⟩
  · refine wpAny_passesOwn hp (thn (T.item X rfl rfl rfl hc i pins s3 σ3 H3 X.xe I3 (jZ fr3) st3 go) λr s4 ⟨u,hr,h4⟩=>?_)
    subst hr;refine wpAny_passesOwn hp (thn h4 λ_ s5 ⟨x,H5,I5,r5,y5,st5,fr5⟩=>?_);have I5':=I5.pinned (jZ fr5) (T.obj _ _ st5);refine wpAny_passesOwn hp (thn (hg _ s5 σ3 H5 x u _ I5' r5 (step x H5 y5)) λ_ s6 ⟨σ6,H6,I6,q6⟩=>?_);refine wpAny_passesOwn hp (thn (hb _ s6 σ6 H6 _ I6 q6) λf s7 q7=>?_);have again:∀ {σ7:St} {H7:Hp},Inv X (pins++lK fp s5.heap) σ7 H7 s7→N σ7 H7→∃ m,m<n∧∃ i σ' H',Inv X pins σ' H' s7∧tn i s7.heap∧(∀ b∈fp,H' b=none)∧W i m σ' H':=λ{σ7 H7} I7 n7=>by
      obtain⟨m',hm,w7⟩:=hN σ7 H7 n7;refine⟨m',hm,i+1,σ7,H7,I7.fz,T.keep _ _ _ st5 λb hb o e=>(I7.pin (b,o) (EW _ (EW _ (cF hb e)))).1,λb hb=>?_,w7⟩;obtain⟨o,e,d⟩:=T.obj _ _ st5 b hb;exact(I7.pin (b,o) (EW _ (EW _ (cF hb e)))).2.1
    cases f with
    | next=>obtain⟨σ7,H7,I7,n7⟩:=q7;exact again I7 n7
    | cont=>obtain⟨σ7,H7,I7,n7⟩:=q7;exact again I7 n7
    | brk=>obtain⟨σ7,H7,I7,q7⟩:=q7;exact⟨σ7,H7,I7.fz,q7⟩
    | ret v=>obtain⟨x7,σ7,H7,I7,r7,q7⟩:=q7;exact⟨x7,σ7,H7,I7.fz,r7,q7⟩
end
theorem fA{K:W.Frag}{a:Addr}{xs:List V}{g:TG}{tb:TS}{D:Ends}{σ:St}{H:Hp}(Pv:Nat→St→Hp→Prop)(h0:Pv 0 σ H)(hl:∀ i σ H,i≤xs.length→Pv i σ H→SqL K H a xs)
    (hs:∀ i x σ H,xs[i]?=some x→Pv i σ H→g x σ H λσ2 H2=>tb {D with nx:=Pv (i+1),ct:=Pv (i+1),bk:=D.nx} σ2 H2) (hd:∀ σ H,Pv xs.length σ H→D.nx σ H) :
    ∃ W:Nat→Nat→St→Hp→Prop,(∃ m,W 0 m σ H)∧∀ i m σ H,W i m σ H →
      ((Itl K a).stop i H∧D.nx σ H)∨((Itl K a).go i H∧∃ N:St→Hp→Prop,(∀ σ' H',N σ' H'→∃ m',m'<m∧W (i+1) m' σ' H')∧∀ x H',(Itl K a).yld i H x H'→g x σ H' λσ2 H2=>tb {D with nx:=N,ct:=N,bk:=D.nx} σ2 H2):=by
  refine⟨λi m σ H=>m=xs.length-i∧i≤xs.length∧Pv i σ H,⟨xs.length,by simp,Fj _,h0⟩,?_⟩;rintro i m σ H ⟨rfl,hi,p⟩;have q:=hl i σ H hi p;by_cases hlt:i<xs.length
  · refine .inr ⟨⟨xs,xs[i],q,by simp[hlt]⟩,Pv (i+1),λσ' H' p'=>⟨xs.length-(i+1),by omega,rfl,hlt,p'⟩,λx H' y=>?_⟩
    obtain⟨e,y⟩:=y;subst e;exact hs i x σ _ (y xs q) p
  · have e:i=xs.length:=by omega
    subst e;exact .inl ⟨⟨xs,q,EV _⟩,hd σ H p⟩
theorem jq{lo:Int}{n:Nat}{g:TG}{tb:TS}{D:Ends}{σ:St}{H:Hp}(Pv:Nat→St→Hp→Prop)(h0:Pv 0 σ H)
    (hs:∀ i σ H,i<n→Pv i σ H→g (.int (lo+i)) σ H λσ2 H2=>tb {D with nx:=Pv (i+1),ct:=Pv (i+1),bk:=D.nx} σ2 H2) (hd:∀ σ H,Pv n σ H→D.nx σ H) :
    ∃ W:Nat→Nat→St→Hp→Prop,(∃ m,W 0 m σ H)∧∀ i m σ H,W i m σ H →
      ((Itr lo n).stop i H∧D.nx σ H)∨((Itr lo n).go i H∧∃ N:St→Hp→Prop,(∀ σ' H',N σ' H'→∃ m',m'<m∧W (i+1) m' σ' H')∧∀ x H',(Itr lo n).yld i H x H'→g x σ H' λσ2 H2=>tb {D with nx:=N,ct:=N,bk:=D.nx} σ2 H2):=by
  refine⟨λi m σ H=>m=n-i∧i≤n∧Pv i σ H,⟨n,by simp,Fj _,h0⟩,?_⟩;rintro i m σ H ⟨rfl,hi,p⟩;by_cases hlt:i<n
  · refine .inr ⟨hlt,Pv (i+1),λσ' H' p'=>⟨n-(i+1),by omega,rfl,hlt,p'⟩,λx H' y=>?_⟩
    obtain⟨e,y⟩:=y;subst e y;exact hs i σ _ hlt p
  · have e:i=n:=by omega
    subst e;exact .inl ⟨EV _,hd σ H p⟩
end L2
namespace L2
open PySem PySem.Spec PyProof.Rows
abbrev R2:=V→V→Hp→VK→Prop
def OpR(X:Cx)(f:Value→Value→Sem Value)(r:R2):Prop :=
  ∀(pins:List (Addr×Obj)) (s:Shared) (σ:St) (H:Hp) (x y:V) (v u:Value) (Q:VK),Inv X pins σ H s→RelV x v→RelV y u→r x y H Q →
    wpAny (model X.prog X.w) X.A (f v u) (EP X pins σ Q) X.xe s
def jH(X:Cx)(f:Value)(r:List V→Hp→VK→Prop):Prop :=
  ∀(pins:List (Addr×Obj)) (s:Shared) (σ:St) (H:Hp) (xs:List V) (us:List Value) (Q:VK),Inv X pins σ H s→Vals xs us→r xs H Q →
    wpAny (model X.prog X.w) X.A (call f us) (EP X pins σ Q) X.xe s
def tOp(r:R2)(ta tb:TE):TE:=λσ H Q=>ta σ H λx H1=>tb σ H1 λy H2=>r x y H2 Q
def rI(C:Int→Int→Prop)(g:Int→Int→V):R2:=λx y H Q=>∃ i j,x=.int i∧y=.int j∧C i j∧Q (g i j) H
def rI0(g:Int→Int→V):R2:=λx y H Q=>∃ i j,x=.int i∧y=.int j∧Q (g i j) H
section
variable{X:Cx}{a b c:Expr}{ta tb tc:TE}{pos:Pos}
theorem Ah(ha:PE X a ta)(hb:PE X b tb){pins:List (Addr×Obj)}{s:Shared}{σ:St}{H:Hp}{R:V→V→Hp→Prop}(I:Inv X pins σ H s)
    (h:ta σ H λx H1=>tb σ H1 λy H2=>R x y H2) {Q:Value→Shared→Prop} {f:Value→Value→Sem Value}
    (hf:∀ v u s2 x y H2,Inv X pins σ H2 s2→RelV x v→RelV y u→R x y H2→wpAny (model X.prog X.w) X.A (f v u) Q X.xe s2) :
    wpAny (model X.prog X.w) X.A (eval a X.env) (λv s₁=>wpAny (model X.prog X.w) X.A (eval b X.env) (λu s₂=>wpAny (model X.prog X.w) X.A (f v u) Q X.xe s₂) X.xe s₁) X.xe s:=by
  refine thn (ha pins s σ H _ I h) λv s1 ⟨x,H1,I1,r1,q1⟩=>?_;refine thn (hb pins s1 σ H1 _ I1 q1) λu s2 ⟨y,H2,I2,r2,q2⟩=>?_;exact hf v u s2 x y H2 I2 r1 r2 q2
theorem av{op:Operator}{r:R2}(ho:OpR X (binaryOp op) r)(ha:PE X a ta)(hb:PE X b tb):PE X (.BinOp a op b pos) (tOp r ta tb):=by
  intro pins s σ H Q I h;exact wpAny_BinOp (Ah ha hb I h λv u s2 x y H2 I2 rx ry q=>ho pins s2 σ H2 x y v u Q I2 rx ry q)
theorem opI{f:Value→Value→Sem Value}{C:Int→Int→Prop}{g:Int→Int→Int}
    (rule:∀(i j:Int) (t u:Tok) (s:Shared) (Q:Value→Shared→Prop) (E:Value→Shared→Prop),C i j→Q (.int (g i j) s.toks) {s with toks:=s.toks+1}→wpAny (model X.prog X.w) X.A (f (.int i t) (.int j u)) Q E s) :
    OpR X f (rI C λi j=>.int (g i j)):=by
  intro pins s σ H x y v u Q I rx ry h;obtain⟨i,j,rfl,rfl,hc,q⟩:=h;obtain⟨t,rfl⟩:=rx;obtain⟨t',rfl⟩:=ry;exact rule i j t t' s _ _ hc ⟨.int (g i j),H,I.tok _,⟨_,rfl⟩,q⟩
theorem CG{f:Value→Value→Sem Value}{g:Int→Int→Int}
    (rule:∀(i j:Int) (t u:Tok) (s:Shared) (Q:Value→Shared→Prop) (E:Value→Shared→Prop),Q (.int (g i j) s.toks) {s with toks:=s.toks+1}→wpAny (model X.prog X.w) X.A (f (.int i t) (.int j u)) Q E s) :
    OpR X f (rI0 λi j=>.int (g i j)):=by
  intro pins s σ H x y v u Q I rx ry h;obtain⟨i,j,rfl,rfl,q⟩:=h;obtain⟨t,rfl⟩:=rx;obtain⟨t',rfl⟩:=ry;exact rule i j t t' s _ _ ⟨.int (g i j),H,I.tok _,⟨_,rfl⟩,q⟩
theorem yt{f:Value→Value→Sem Value}{g:Int→Int→Bool}
    (rule:∀(i j:Int) (t u:Tok) (s:Shared) (Q:Value→Shared→Prop) (E:Value→Shared→Prop),Q (.bool (g i j)) s→wpAny (model X.prog X.w) X.A (f (.int i t) (.int j u)) Q E s) :
    OpR X f (rI0 λi j=>.bl (g i j)):=by
  intro pins s σ H x y v u Q I rx ry h;obtain⟨i,j,rfl,rfl,q⟩:=h;obtain⟨t,rfl⟩:=rx;obtain⟨t',rfl⟩:=ry;exact rule i j t t' s _ _ ⟨.bl (g i j),H,I,rfl,q⟩
def DU(i j:Int):Prop:=0<j∧j<1073741824
def Ai(i j:Int):Prop:=(-(2 ^ 64)<i∧i<2 ^ 64)∨(-(2 ^ 64)<j∧j<2 ^ 64)
theorem Ai.ok{i j:Int}(h:Ai i j):IntMulOk i j:=by
  rcases h with⟨h1,h2⟩|⟨h1,h2⟩
  · exact .of_left (intBits_le_64 h1 h2)
  · exact .of_right (intBits_le_64 h1 h2)
theorem aP:OpR X (binaryOp .Add) (rI0 λi j=>.int (i+j)):=CG λ_ _ _ _ _ _ _ q=>add_int q
theorem zu:OpR X (binaryOp .Sub) (rI0 λi j=>.int (i-j)):=CG λ_ _ _ _ _ _ _ q=>sub_int q
theorem gu:OpR X (binaryOp .Mult) (rI Ai λi j=>.int (i*j)):=opI λ_ _ _ _ _ _ _ hc q=>mul_int q hc.ok
theorem d5:OpR X (binaryOp .FloorDiv) (rI DU λi j=>.int (i/j)):=opI λi j _ _ _ _ _ hc q=>by
  have h1:(0:Int)<j:=hc.1;have h2:j<1073741824:=hc.2;exact floordiv_int (by omega) (by rw[Int.fdiv_eq_ediv_of_nonneg i (by omega)];exact q) (.inl (PyProof.noPylong_small (by omega)))
theorem cm:OpR X (binaryOp .Mod) (rI (λ_ j=>0<j) λi j=>.int (i%j)):=opI λi j _ _ _ _ _ hc q=>by
  have h1:(0:Int)<j:=hc;exact mod_int' (by omega) (by rw[Int.fmod_eq_emod_of_nonneg i (by omega)];exact q)
end
def CI:V→V→Bool
  | .non,.non=>true|.non,.int _=>true|.int _,.non=>true|.non,.bl _=>true|.bl _,.non=>true|.non,.str _=>true|.str _,.non=>true
  | .int _,.int _=>true|.bl _,.bl _=>true|.str _,.str _=>true|.byt _,.byt _=>true
  | .int _,.str _=>true|.str _,.int _=>true|.bl _,.str _=>true|.str _,.bl _=>true
  | _,_=>false
def rEq:R2:=λx y H Q=>CI x y=true∧Q (.bl (decide (x=y))) H
def rNe:R2:=λx y H Q=>CI x y=true∧Q (.bl (!decide (x=y))) H
theorem tw{i j:Int}:decide (V.int i=V.int j)=(i == j):=by
  rw[F8];simp
theorem we{i j:Bool}:decide (V.bl i=V.bl j)=(i == j):=by
  rw[F8];simp
theorem tD{i j:Str}:decide (V.str i=V.str j)=(i == j):=by
  rw[F8];simp
theorem tE{i j:Array UInt8}:decide (V.byt i=V.byt j)=(i.toList == j.toList):=by
  rw[F8];cases i;cases j;simp
section
variable{X:Cx}{a b c:Expr}{ta tb tc:TE}{pos:Pos}
theorem aY{pins:List (Addr×Obj)}{σ:St}{H:Hp}{s:Shared}{Q:VK}{k k':Bool}(I:Inv X pins σ H s)(q:Q (.bl k) H)(e:k=k'):EP X pins σ Q (.bool k') s:=by
  subst e;exact⟨.bl k,H,I,rfl,q⟩
theorem uZ:OpR X (compareOp .Eq) rEq:=by
  intro pins s σ H x y v u Q I rx ry h;obtain⟨hs,q⟩:=h;cases x with
  | non =>
    cases rx;cases y with
    | non=>cases ry;exact PySem.EqNone.eq_none_none (aY I q (by simp))
    | bl j=>cases ry;exact PySem.EqNone.eq_none_bool (aY I q (by simp))
    | int j=>obtain⟨t',rfl⟩:=ry;exact PySem.EqNone.eq_none_int (aY I q (by simp))
    | str j=>obtain⟨t',rfl⟩:=ry;exact PySem.EqNone.eq_none_str (aY I q (by simp))
    | _=>exact absurd (show false=true from hs) EY
  | bl i =>
    cases rx;cases y with
    | non=>cases ry;exact PySem.EqNone.eq_bool_none (aY I q (by simp))
    | bl j=>cases ry;exact eq_bool (aY I q we)
    | str j=>obtain⟨t',rfl⟩:=ry;exact PySem.EqMixed.eq_bool_str (aY I q (by simp))
    | _=>exact absurd (show false=true from hs) EY
  | int i =>
    obtain⟨t,rfl⟩:=rx;cases y with
    | non=>cases ry;exact PySem.EqNone.eq_int_none (aY I q (by simp))
    | int j=>obtain⟨t',rfl⟩:=ry;exact eq_int (aY I q tw)
    | str j=>obtain⟨t',rfl⟩:=ry;exact PySem.EqMixed.eq_int_str (aY I q (by simp))
    | _=>exact absurd (show false=true from hs) EY
  | str i =>
    obtain⟨t,rfl⟩:=rx;cases y with
    | non=>cases ry;exact PySem.EqNone.eq_str_none (aY I q (by simp))
    | bl j=>cases ry;exact PySem.EqMixed.eq_str_bool (aY I q (by simp))
    | int j=>obtain⟨t',rfl⟩:=ry;exact PySem.EqMixed.eq_str_int (aY I q (by simp))
    | str j=>obtain⟨t',rfl⟩:=ry;exact eq_str (aY I q tD)
    | _=>exact absurd (show false=true from hs) EY
  | byt i =>
    obtain⟨t,rfl⟩:=rx;cases y with
    | byt j=>obtain⟨t',rfl⟩:=ry;exact PySem.W.eq_bytes (aY I q tE)
    | _=>exact absurd (show false=true from hs) EY
  | _=>cases y<;>exact absurd (show false=true from hs) EY
theorem u0:OpR X (compareOp .NotEq) rNe:=by
  intro pins s σ H x y v u Q I rx ry h;obtain⟨hs,q⟩:=h;cases x with
  | non =>
    cases rx;cases y with
    | non=>cases ry;exact PySem.EqNone.ne_none_none (aY I q (by simp))
    | bl j=>cases ry;exact PySem.EqNone.ne_none_bool (aY I q (by simp))
    | int j=>obtain⟨t',rfl⟩:=ry;exact PySem.EqNone.ne_none_int (aY I q (by simp))
    | str j=>obtain⟨t',rfl⟩:=ry;exact PySem.EqNone.ne_none_str (aY I q (by simp))
    | _=>exact absurd (show false=true from hs) EY
  | bl i =>
    cases rx;cases y with
    | non=>cases ry;exact PySem.EqNone.ne_bool_none (aY I q (by simp))
    | bl j=>cases ry;exact ne_bool (aY I q (congrArg not we))
    | str j=>obtain⟨t',rfl⟩:=ry;exact PySem.EqMixed.ne_bool_str (aY I q (by simp))
    | _=>exact absurd (show false=true from hs) EY
  | int i =>
    obtain⟨t,rfl⟩:=rx;cases y with
    | non=>cases ry;exact PySem.EqNone.ne_int_none (aY I q (by simp))
    | int j=>obtain⟨t',rfl⟩:=ry;exact ne_int (aY I q (congrArg not tw))
    | str j=>obtain⟨t',rfl⟩:=ry;exact PySem.EqMixed.ne_int_str (aY I q (by simp))
    | _=>exact absurd (show false=true from hs) EY
  | str i =>
    obtain⟨t,rfl⟩:=rx;cases y with
    | non=>cases ry;exact PySem.EqNone.ne_str_none (aY I q (by simp))
    | bl j=>cases ry;exact PySem.EqMixed.ne_str_bool (aY I q (by simp))
    | int j=>obtain⟨t',rfl⟩:=ry;exact PySem.EqMixed.ne_str_int (aY I q (by simp))
    | str j=>obtain⟨t',rfl⟩:=ry;exact ne_str (aY I q (congrArg not tD))
    | _=>exact absurd (show false=true from hs) EY
  | byt i =>
    obtain⟨t,rfl⟩:=rx;cases y with
    | byt j=>obtain⟨t',rfl⟩:=ry;exact PySem.W.ne_bytes (aY I q (congrArg not tE))
    | _=>exact absurd (show false=true from hs) EY
  | _=>cases y<;>exact absurd (show false=true from hs) EY
theorem pB:OpR X (compareOp .Lt) (rI0 λi j=>.bl (decide (i<j))):=yt λ_ _ _ _ _ _ _ q=>lt_int q
theorem BN:OpR X (compareOp .LtE) (rI0 λi j=>.bl (decide (i≤j))):=yt λ_ _ _ _ _ _ _ q=>le_int q
theorem xf:OpR X (compareOp .Gt) (rI0 λi j=>.bl (decide (j<i))):=yt λ_ _ _ _ _ _ _ q=>gt_int q
theorem BO:OpR X (compareOp .GtE) (rI0 λi j=>.bl (decide (j≤i))):=yt λ_ _ _ _ _ _ _ q=>ge_int q
theorem sJ:OpR X (compareOp .Is) (λx y H Q=>y=.non∧Q (.bl (decide (x=.non))) H):=by
  intro pins s σ H x y v u Q I rx ry h;obtain⟨rfl,q⟩:=h;cases ry;refine is_none_gen (aY I q ?_);cases x<;>first
    | (cases rx;rfl)
    | (obtain⟨t,rfl⟩:=rx;rfl)
theorem tF:OpR X (compareOp .IsNot) (λx y H Q=>y=.non∧Q (.bl (!decide (x=.non))) H):=by
  intro pins s σ H x y v u Q I rx ry h;obtain⟨rfl,q⟩:=h;cases ry;refine isnot_none_gen (aY I q ?_);cases x<;>first
    | (cases rx;rfl)
    | (obtain⟨t,rfl⟩:=rx;rfl)
theorem bg(b:Expr){op:CmpOp}(h:op≠.In:=by decide)(h2:op≠.NotIn:=by decide):behindInMarks op b=false:=by
  have e1:(op == CmpOp.In)=false:=by cases op<;>first|rfl|exact absurd rfl h
  have e2:(op == CmpOp.NotIn)=false:=by cases op<;>first|rfl|exact absurd rfl h2
  cases b<;>simp[behindInMarks,e1,e2]
theorem tG{op:CmpOp}{r:R2}(ho:OpR X (compareOp op) r)(ha:PE X a ta)(hb:PE X b tb)(hm:behindInMarks op b=false):PE X (.Compare a [op] [b] pos) (tOp r ta tb):=by
  intro pins s σ H Q I h;exact wpAny_Compare1 (Ah ha hb I h λv u s2 x y H2 I2 rx ry q=>ho pins s2 σ H2 x y v u Q I2 rx ry q) hm
def yu(t:TE):TT:=λσ H Q=>t σ H λx H'=>∃ k,x=.bl k∧Q k H'
theorem aM{op:CmpOp}{r:R2}(ho:OpR X (compareOp op) r)(ha:PE X a ta)(hb:PE X b tb)(hm:behindInMarks op b=false):PT X (.Compare a [op] [b] pos) (yu (tOp r ta tb)):=by
  intro pins s σ H Q I h;refine wpAny_isTrue_Compare1 (thn (ha pins s σ H _ I h) λv s1 ⟨x,H1,I1,r1,q1⟩=>thn (hb pins s1 σ H1 _ I1 q1) λu s2 ⟨y,H2,I2,r2,q2⟩ =>
    thn (ho pins s2 σ H2 x y v u _ I2 r1 r2 q2) λc s3 ⟨z,H3,I3,r3,k,e,q3⟩=>?_) hm
  subst e;cases r3;exact wpAny_truthy_bool ⟨H3,I3,q3⟩
def zw(r r':R2)(ta tb tc:TE):TE:=λσ H Q=>ta σ H λx H1=>tb σ H1 λy H2=>r x y H2 λz H3=>∃ k,z=.bl k ∧
  (if k=true then tc σ H3 λw' H4=>r' y w' H4 Q else Q (.bl false) H3)
theorem vv{op op':CmpOp}{r r':R2}(ho:OpR X (compareOp op) r)(ho':OpR X (compareOp op') r')(ha:PE X a ta)(hb:PE X b tb)(hc:PE X c tc)
    (hm:lastMarks [op,op'] [b,c]=false:=by with_unfolding_all rfl):PT X (.Compare a [op,op'] [b,c] pos) (yu (zw r r' ta tb tc)):=by
  intro pins s σ H Q I h;refine isTrue_chain (thn (ha pins s σ H _ I h) λv s1 ⟨x,H1,I1,r1,q1⟩=>test_link (thn (hb pins s1 σ H1 _ I1 q1) λu s2 ⟨y,H2,I2,r2,q2⟩ =>
    thn (ho pins s2 σ H2 x y v u _ I2 r1 r2 q2) λd s3 ⟨z,H3,I3,r3,k,e,q3⟩=>?_)) hm
  subst e;cases r3;refine wpAny_truthy_bool ?_;cases k with
  | false =>
    obtain⟨k',e',q'⟩:=q3;cases e';exact ite_ff ⟨H3,I3,q'⟩
  | true =>
    refine ite_tt (test_last (thn (hc pins s3 σ H3 _ I3 q3) λw' s4 ⟨z',H4,I4,r4,q4⟩=>thn (ho' pins s4 σ H4 y z' u w' _ I4 r2 r4 q4) λd' s5 ⟨z2,H5,I5,r5,k2,e2,q5⟩=>?_));subst e2;cases r5;exact wpAny_truthy_bool ⟨H5,I5,q5⟩
theorem pD:(sizeLine:Nat)<2 ^ 63:=by rw[sizeLine_eq];decide
theorem vals1{x:V}{us:List Value}(r:Vals [x] us):∃ u,us=[u]∧RelV x u:=by
  cases r with
  | cons r1 r2=>cases r2;exact⟨_,rfl,r1⟩
theorem vals2{x y:V}{us:List Value}(r:Vals [x,y] us):∃ u w',us=[u,w']∧RelV x u∧RelV y w':=by
  cases r with
  | cons r1 r2 =>
    cases r2 with
    | cons r3 r4=>cases r4;exact⟨_,_,rfl,r1,r3⟩
end
end L2
namespace L2
open PySem PySem.Spec PyProof.Rows
structure vc(h:Heap)(x dx C:Addr)(mA:Str→Option Value):Prop where
  obj:h.get? x=some (PySem.W.instObj C dx)
  ns:h.Ns1 dx mA
  ne:dx≠x
theorem ui{h:Heap}{dx:Addr}{mA:Str→Option Value}(n:h.Ns1 dx mA):∃ od,h.get? dx=some od∧∀ name,PySem.W.lookIn name od=some (mA name):=by
  obtain⟨o,es,ep,ho,hd,hk,_,hm⟩:=n;refine⟨o,ho,λname=>?_⟩;have e:=hm name;unfold nsFind findBy at e;rw[←Array.find?_toList]at e;unfold PySem.W.lookIn;rw[hd];dsimp only;split
  · rename_i y q
    rw[q]at e;exact congrArg some e
  · rename_i q
    rw[q]at e;have a:es.toList.any (·.refKey)=false:=by
      rw[List.any_eq_false];intro y hy;obtain⟨z,t,DV⟩:=hk y (Array.mem_toList_iff.mp hy);simp[DictEntry.refKey,DV]
    have a':¬es.toList.any (·.refKey)=true:=(by rw[a];exact EY);rw[if_neg a'];exact congrArg some e
theorem vc.look{h:Heap}{x dx C:Addr}{mA:Str→Option Value}(I:vc h x dx C mA):∃ od,PySem.W.InstAt h x (PySem.W.instObj C dx) C (some od)∧∀ name,PySem.W.lookIn name od=some (mA name) :=
  let ⟨od,ho,hl⟩:=ui I.ns
  ⟨od,⟨I.obj,rfl,rfl,ho⟩,hl⟩
section
variable{prog:Program}{w:World}{A:Around}{E:Value→Shared→Prop}{s:Shared}{K:W.Frag}{x dx C f:Addr}{mA:Str→Option Value}{name:Str}{v:Value}
theorem get_map{expr:Bool}{Q:Value→Shared→Prop}(X:K.In s.heap)(I:vc s.heap x dx C mA)(hg:PySem.W.plainGet K C name=true)(hh:PySem.W.hasDictIn K C=true)
    (ha:PySem.W.findIn K (.ref C) name=some none) (hv:mA name=some v) (hv':PySem.W.handedIn v=true) (h:Q v {s with toks:=s.toks+1}) :
    wpAny (model prog w) A (getAttr (.ref x) name expr) Q E s:=by
  obtain⟨od,J,hl⟩:=I.look;exact PySem.W.get_value X J (PySem.W.plainGet_of hg).1 (PySem.W.findObj_own hh ha rfl (by rw[hl,hv])) hv' h
theorem vw{pl:Sem Bool}{Q:Value×List Value→Shared→Prop}(X:K.In s.heap)(I:vc s.heap x dx C mA)(hg:PySem.W.plainGet K C name=true)
    (hf:PySem.W.findIn K (.ref C) name=some (some (.ref f))) (ht:PySem.W.isFn K (.ref f)=true) (hv:mA name=none) (h:Q (.ref f,[.ref x]) s) :
    wpAny (model prog w) A (getMethod (.ref x) name pl) Q E s:=by
  obtain⟨od,J,hl⟩:=I.look;exact PySem.W.method_fn X J (PySem.W.plainGet_of hg).1 (PySem.W.plainGet_of hg).2 hf (beq_iff_eq.mp ht) (by show(PySem.W.lookIn name od).map (·.isSome)=some false;rw[hl,hv];rfl) h
theorem xD{ns:List Str}{Q:Unit→Shared→Prop}(X:K.In s.heap)(I:vc s.heap x dx C mA)
    (hs:PySem.W.findIn K (.ref C) "__setattr__" = some (some (.builtin "object.__setattr__"))) (hp:PySem.W.plainOver K C=true) (ht:PySem.W.takerIn K C name=some none) (hh:PySem.W.hasDictIn K C=true)
    (hw:PySem.Within mA ns) (hsz:ns.length≤sizeLine)
    (h:∀ h',vc h' x dx C (λy=>if y=name then some v else mA y)→Heap.SameBut dx s.heap h'→Q () {s with heap:=h',toks:=s.toks+2}) :
    wpAny (model prog w) A (setAttr (.ref x) name v) Q E s:=by
  obtain⟨od,J,hl⟩:=I.look;refine PySem.W.set_plain X J hs (PySem.W.osa_open (s:={s with toks:=s.toks+1}) (r:=none) X J hp ht λb=>?_);obtain⟨cd,hc,hd'⟩:=PySem.W.any_some hh;have hx:s.heap.get? x=some ⟨.ref C,some dx,.plain,#[]⟩:=I.obj;refine wpAny_bind (wpAny_pure (wpAny_bind (wpAny_bind (wpAny_loadPart hx (wpAny_bind (PySem.W.Looks.here (s:={s with toks:=s.toks+1}) (PySem.W.looks_clsIn X hc) ?_))))));rw[hd'];refine wpAny_pure (a:=some dx) (wpAny_bind (wpAny_pure (wpAny_bind ?_)));refine wpAny_nsSet1 (s:={s with toks:=s.toks+1}) I.ns λh' hn2 hs2=>?_;obtain⟨oD,esD,epD,hoD,hdD,hcD⟩:=hn2.count (PySem.Within.cons name v hw);refine wpAny_bind (wpAny_lookBehind hoD (by rw[hdD];exact pastItsLine_dict (Fo hcD (by rw[Fs];omega))) ?_);exact wpAny_pure (h _ ⟨(hs2.2 _ (FC I.ne)).trans I.obj,hn2,I.ne⟩ hs2)
theorem vx{R:Result→Shared→Prop}{vs:List Value}{kw:List (Str×Value)}(X:K.In s.heap)(hm:PySem.W.makesIn K C=true)
    (hi:PySem.W.findIn K (.ref C) "__init__" = some (some (.ref f))) (hf:PySem.W.typeIn K (.ref f)=some (.type "function"))
    (h:codeAny (model prog w) (A.under (.builtin "type.__call__" ⟨.ref C::vs,kw⟩)) (.call (.ref f) ⟨.ref (s.heap.objs.size+1)::vs,kw⟩) (PySem.W.InitBack (s.heap.objs.size+1) R)
      {s with heap:=(s.heap.push PySem.W.emptyDict).push (PySem.W.instObj C s.heap.objs.size)}) :
    codeAny (model prog w) A (.call (.ref C) ⟨vs,kw⟩) R s:=by
  obtain⟨hh,g,d,t,os⟩:=s;exact PySem.W.make_core (PySem.W.makes_of X hm) (PySem.W.looks_findIn X hi) (λself=>PySem.W.bind_fn X self hf) (.inl rfl) h
end
def jx(f:Str)(v:V):List (Str×V)→List (Str×V)
  | []=>[(f,v)]
  | (g,x)::r=>if g=f then(g,v)::r else(g,x)::jx f v r
theorem jy(f g:Str)(v:V):∀ fs:List (Str×V),(jx f v fs).lookup g=if g=f then some v else fs.lookup g
  | []=>by
    show List.lookup g [(f,v)]=_;by_cases h:g=f
    · have hb:(g == f)=true:=beq_iff_eq.mpr h
      simp only[List.lookup,hb,if_pos h]
    · have hb:(g == f)=false:=beq_eq_false_iff_ne.mpr h
      simp only[List.lookup,hb,if_neg h]
  | (k,x)::r=>by
    have ih:=jy f g v r;rw[show jx f v ((k,x)::r)=(if k=f then(k,v)::r else(k,x)::jx f v r) from rfl];by_cases hk:k=f
    · rw[if_pos hk]
      by_cases h:g=k
      · have hb:(g == k)=true:=beq_iff_eq.mpr h
        simp only[List.lookup,hb,if_pos (h.trans hk)]
      · have hb:(g == k)=false:=beq_eq_false_iff_ne.mpr h
        simp only[List.lookup,hb,if_neg (λe:g=f=>h (e.trans hk.symm))]
    · rw[if_neg hk]
      by_cases h:g=k
      · have hb:(g == k)=true:=beq_iff_eq.mpr h
        simp only[List.lookup,hb,if_neg (λe:g=f=>hk (h.symm.trans e))]
      · have hb:(g == k)=false:=beq_eq_false_iff_ne.mpr h
        simp only[List.lookup,hb];exact ih
theorem jr(f:Str)(v:V):∀ fs:List (Str×V),f∈(jx f v fs).map (·.1)∧∀ g,g∈fs.map (·.1)→g∈(jx f v fs).map (·.1)
  | []=>⟨by simp[jx],λg h=>by simp at h⟩
  | (k,x)::r=>by
    obtain⟨i1,i2⟩:=jr f v r;rw[show jx f v ((k,x)::r)=(if k=f then(k,v)::r else(k,x)::jx f v r) from rfl];by_cases hk:k=f
    · rw[if_pos hk]
      subst hk;exact⟨by simp,λg h=>by simpa using h⟩
    · rw[if_neg hk]
      refine⟨?_,λg h=>?_⟩
      · rw[Fl]
        exact EX _ i1
      · rw[Fl]at h ⊢
        rcases E8.mp h with e|e
        · exact E8.mpr (.inl e)
        · exact EX _ (i2 g e)
theorem jz(f:Str)(v:V):∀ fs:List (Str×V),(jx f v fs).length≤fs.length+1
  | []=>by simp[jx]
  | (k,x)::r=>by
    have ih:=jz f v r;rw[show jx f v ((k,x)::r)=(if k=f then(k,v)::r else(k,x)::jx f v r) from rfl];by_cases hk:k=f
    · rw[if_pos hk,Fs,Fs];omega
    · rw[if_neg hk,Fs,Fs];omega
theorem jw.some_of{v:V}{o:Option Value}(r:jw (some v) o):∃ u,o=some u∧RelV v u:=by
  cases o with
  | none=>exact(show False from r).elim
  | some u=>exact⟨u,rfl,r⟩
theorem jw.none_of{o:Option Value}(r:jw none o):o=none:=by
  cases o with
  | none=>rfl
  | some u=>exact(show False from r).elim
theorem uj{v:V}{u:Value}(r:RelV v u):PySem.W.handedIn u=true:=by
  cases v with
  | non=>cases (show u=Value.none from r);rfl
  | bl b=>cases (show u=Value.bool b from r);rfl
  | int i=>obtain⟨t,e⟩:=(show ∃ t,u=Value.int i t from r);cases e;rfl
  | str x=>obtain⟨t,e⟩:=(show ∃ t,u=Value.str x t from r);cases e;rfl
  | byt b=>obtain⟨t,e⟩:=(show ∃ t,u=Value.bytes b t from r);cases e;rfl
  | flt b=>obtain⟨t,e⟩:=(show ∃ t,u=Value.float b t from r);cases e;rfl
  | ref a=>cases (show u=Value.ref a from r);rfl
  | ty n=>cases (show u=Value.type n from r);rfl
section
variable{P:Program}{w:World}{H H':Hp}{h h':Heap}{a C dx:Addr}{fs fs':List (Str×V)}
theorem kD(hok:HOk P w H h)(e:H a=some (.ins C dx fs)):∃ mA,vc h a dx C mA∧(∀ f,jw (fs.lookup f) (mA f))∧PySem.Within mA (fs.map (·.1))∧fs.length≤1000∧H dx=some (.own a):=by
  obtain⟨d,z,ne,ob,mA,n,r,q⟩:=(show bV P w H h a (.ins C dx fs) from hok a _ e);exact⟨mA,⟨ob,n,ne⟩,r,q,z,d⟩
end
structure Cls(K:W.Frag)(C:Addr):Prop where
  pg:PySem.W.plainGet K C Str.empty=true
  hd:PySem.W.hasDictIn K C=true
  po:PySem.W.plainOver K C=true
  sa:PySem.W.findIn K (.ref C) "__setattr__" = some (some (.builtin "object.__setattr__"))
theorem Cls.get{K:W.Frag}{C:Addr}(c:Cls K C)(f:Str):PySem.W.plainGet K C f=true:=c.pg
def i3(K:W.Frag)(C:Addr)(f:Str):Prop:=PySem.W.findIn K (.ref C) f=some none
theorem i3.BQ{K:W.Frag}{C:Addr}{f:Str}(n:i3 K C f):PySem.W.takerIn K C f=some none:=by
  unfold PySem.W.takerIn;rw[show PySem.W.findIn K (.ref C) f=some none from n];rfl
structure Meth(K:W.Frag)(C:Addr)(m:Str)(f:Addr):Prop where
  at_:PySem.W.findIn K (.ref C) m=some (some (.ref f))
  fn:PySem.W.isFn K (.ref f)=true
  kp:PySem.W.keepIn K (.ref f)=true
section
variable{X:Cx}{pins:List (Addr×Obj)}{σ:St}{H:Hp}{s:Shared}{a C dx:Addr}{fs:List (Str×V)}{f:Str}{v:V}{A:Around}{E:Value→Shared→Prop}
theorem rg{b:Bool}{Q:Value→Shared→Prop}(I:Inv X pins σ H s)(e:H a=some (.ins C dx fs))(c:Cls X.K C)(n:i3 X.K C f)(l:fs.lookup f=some v)
    (h:∀ u s',Inv X pins σ H s'→RelV v u→Q u s'):wpAny (model X.prog X.w) A (getAttr (.ref a) f b) Q E s:=by
  obtain⟨mA,O,r,_,_,_⟩:=kD I.hok e;obtain⟨u,hu,ru⟩:=jw.some_of (v:=v) (o:=mA f) (by rw[←l];exact r f);exact get_map I.kIn O (c.get f) c.hd n hu (uj ru) (h u _ (I.tok _) ru)
theorem kF{m:Str}{g:Addr}{pl:Sem Bool}{Q:Value×List Value→Shared→Prop}(I:Inv X pins σ H s)(e:H a=some (.ins C dx fs))(c:Cls X.K C)(k:Meth X.K C m g)(l:fs.lookup m=none)
    (h:Q (.ref g,[.ref a]) s):wpAny (model X.prog X.w) A (getMethod (.ref a) m pl) Q E s:=by
  obtain⟨mA,O,r,_,_,_⟩:=kD I.hok e;have hn:mA m=none:=jw.none_of (by rw[←l];exact r m);exact vw I.kIn O (c.get m) k.at_ k.fn hn h
theorem rh{y:V}{u:Value}{Q:Unit→Shared→Prop}(I:Inv X pins σ H s)(e:H a=some (.ins C dx fs))(c:Cls X.K C)(n:i3 X.K C f)(hl:fs.length<1000)(ry:RelV y u)
    (h:∀ s',Inv X pins σ (upd H a (.ins C dx (jx f y fs))) s'→Q () s'):wpAny (model X.prog X.w) A (setAttr (.ref a) f u) Q E s:=by
  obtain⟨mA,O,r,wi,_,ho⟩:=kD I.hok e;have hz:(fs.map (·.1)).length≤sizeLine:=by rw[EU,sizeLine_eq];omega
  refine xD I.kIn O c.sa c.po n.BQ c.hd wi hz λh' O' sb=>h _ ?_;have hd:∃ o,h'.get? dx=some o:=let ⟨o,_,_,e',_⟩:=O'.ns;⟨o,e'⟩;refine I.write (x:=a) (e:=dx) (by rw[e];exact True.intro) (.inr ho) (λb q hb z=>(sb.2 b hb).trans z) hd ?_;refine⟨by rw[ah O.ne];exact ho,?_,O.ne,O'.obj,_,O'.ns,λg=>?_,λg hg=>?_⟩
  · have:=jz f y fs;omega
  · show jw ((jx f y fs).lookup g) (if g=f then some u else mA g)
    rw[jy];by_cases q:g=f
    · rw[if_pos q,if_pos q];exact ry
    · rw[if_neg q,if_neg q];exact r g
  · by_cases q:g=f
    · rw[q];exact(jr f y fs).1
    · refine(jr f y fs).2 g (wi g λz=>hg ?_)
      show(if g=f then some u else mA g)=none;rw[if_neg q];exact z
theorem Inv.made(I:Inv X pins σ H s):Inv X pins σ (upd (upd H s.heap.objs.size (.own (s.heap.objs.size+1))) (s.heap.objs.size+1) (.ins C s.heap.objs.size []))
    {s with heap:=(s.heap.push PySem.W.emptyDict).push (PySem.W.instObj C s.heap.objs.size)}:=by
  have e1:(s.heap.push PySem.W.emptyDict).get? s.heap.objs.size=some PySem.W.emptyDict:=Ff s.heap rfl;have e2:((s.heap.push PySem.W.emptyDict).push (PySem.W.instObj C s.heap.objs.size)).get? (s.heap.objs.size+1)=some (PySem.W.instObj C s.heap.objs.size):=by
    have:=Ff (s.heap.push PySem.W.emptyDict) (o:=PySem.W.instObj C s.heap.objs.size) rfl
    rwa[F6]at this
  have e3:(s.heap.push PySem.W.emptyDict).Ns s.heap.objs.size (λ_=>none):=⟨PySem.W.emptyDict,#[],_,e1,rfl,(λe he=>absurd he (by simp)),λ_=>rfl⟩;have I1:=I.laid (a:=s.heap.objs.size) (o:=.own (s.heap.objs.size+1)) (h':=s.heap.push PySem.W.emptyDict) (t':=s.toks) (λb u q=>ES _ q) (EV _) ⟨_,e1⟩;refine I1.laid (a:=s.heap.objs.size+1) (o:=.ins C s.heap.objs.size []) (t':=s.toks) (λb u q=>ES _ q) (Nat.le_of_eq (F6 _ _)) ?_;have ne:s.heap.objs.size≠s.heap.objs.size+1:=E9 (Nat.lt_succ_self _);refine⟨by rw[ah ne,ab],Fj _,ne,e2,λ_=>none,(Heap.Ns1.of_empty e3).at λo q=>ES _ q,λ_=>True.intro,λy hy=>absurd rfl hy⟩
theorem xE{prog:Program}{w:World}{env:Env}{e:Expr}{f:Str}{pos:Pos}{s:Shared}{Q:Value→Shared→Prop}(hb:attributeBase e f env (eval e env)=eval e env)
    (h:wpAny (model prog w) A (eval e env) (λo s₁=>wpAny (model prog w) A (getAttr o f true) Q E s₁) E s):wpAny (model prog w) A (eval (.Attribute e f pos) env) Q E s :=
  Attribute_any_ h (by rw[arm_eval_Attribute,hb])
end
def DW(K:W.Frag)(ta:TE)(f:Str):TE:=λσ H Q=>ta σ H λx H1=>∃ a C dx fs v,x=.ref a∧H1 a=some (.ins C dx fs)∧Cls K C∧i3 K C f∧fs.lookup f=some v∧Q v H1
def DX(K:W.Frag)(ta tv:TE)(f:Str):TS:=λD σ H=>tv σ H λy H1=>ta σ H1 λx H2=>∃ a C dx fs,x=.ref a∧H2 a=some (.ins C dx fs)∧Cls K C∧i3 K C f∧fs.length<1000 ∧
  D.nx σ (upd H2 a (.ins C dx (jx f y fs)))
section
variable{X:Cx}{o e value:Expr}{f:Str}{pos pos' DY:Pos}{ta tv:TE}
theorem pE(he:PE X e ta)(hb:attributeBase e f X.env (eval e X.env)=eval e X.env):PE X (.Attribute e f pos) (DW X.K ta f):=by
  intro pins s σ H Q I h;refine xE hb (thn (he pins s σ H _ I h) λu s1 ⟨x,H1,I1,rx,a,C,dx,fs,v,ex,ea,c,n,l,q⟩=>?_);subst ex;obtain rfl:u=Value.ref a:=rx;exact rg I1 ea c n l λu' s2 I2 ru=>⟨v,H1,I2,ru,q⟩
theorem zA(ha:PE X o ta)(hv:PE X value tv)(hs:swapsWith value (some (.Attribute o f pos')) pos.line X.env=pure false):PS X (.Assign [.Attribute o f pos'] value pos) (DX X.K ta tv f):=by
  intro pins s σ H D I h;refine plainObj_wpAny_Assign_Attribute (thn (hv pins s σ H _ I h) λu s1 ⟨y,H1,I1,ry,q⟩=>thn (ha pins s1 σ H1 _ I1 q) λov s2 ⟨x,H2,I2,rx,a,C,dx,fs,ex,ea,c,n,l,q2⟩=>?_) hs;subst ex;obtain rfl:ov=Value.ref a:=rx;exact rh I2 ea c n l ry λs3 I3=>⟨σ,_,I3,q2⟩
end
section
variable{X:Cx}{pins:List (Addr×Obj)}{σ:St}{H:Hp}{s:Shared}{A:Around}{E:Value→Shared→Prop}{Q:Value→Shared→Prop}{c:Value}{b:Bool}
inductive lL(K:W.Frag)(H:Hp):V→Value→Prop where
  | non:lL K H .non (.type "NoneType")
  | bl (x:Bool):lL K H (.bl x) (.type "bool")
  | int (i:Int):lL K H (.int i) (.type "int")
  | str (x:Str):lL K H (.str x) (.type "str")
  | flt (x:UInt64):lL K H (.flt x) (.type "float")
  | lst {a:Addr} {xs:List V} (e:H a=some (.lst xs)):lL K H (.ref a) (.type "list")
  | frz {a:Addr} {o:Obj} {xs:List V} (e:H a=some (.frz o (.lst xs))):lL K H (.ref a) (.type "list")
  | tup {a:Addr} {xs:List V} (e:H a=some (.tup xs)):lL K H (.ref a) (.type "tuple")
  | dK {a:Addr} {kvs:List (Key×V)} (e:H a=some (.dK kvs)):lL K H (.ref a) (.type "dict")
  | dT {a:Addr} {kvs:List (List Key×V)} (e:H a=some (.dT kvs)):lL K H (.ref a) (.type "dict")
  | ins {a C dx:Addr} {fs:List (Str×V)} (e:H a=some (.ins C dx fs)) (cl:Cls K C) (ha:PySem.W.findIn K (.ref C) "__class__" = some (some (.builtin "object.__class__")))
      (hn:PySem.W.specialIn K (.builtin "object.__class__") "__get__" = some (some (.builtin "getset_descriptor.__get__"))) (htk:PySem.W.takesIn K (.builtin "object.__class__")=some true)
      (hm:PySem.W.mroIn K C (.type "object")=some true):lL K H (.ref a) (.ref C)
theorem uk{x:V}{u t:Value}(I:Inv X pins σ H s)(rx:RelV x u)(ty:lL X.K H x t)(e:PySem.W.kitOne X.K t c=some b)(h:∀ tk,Q (.bool b) {s with toks:=tk}) :
    wpAny (model X.prog X.w) A (call (.builtin "isinstance") [u,c]) Q E s:=by
  cases ty with
  | non=>cases (show u=Value.none from rx);exact PySem.W.kia_one PySem.W.kitx_none I.kIn True.intro e (λz=>nomatch z) h
  | bl y=>cases (show u=Value.bool y from rx);exact PySem.W.kia_one PySem.W.kitx_bool I.kIn True.intro e (λz=>nomatch z) h
  | int i=>obtain⟨t,q⟩:=(show ∃ t,u=Value.int i t from rx);cases q;exact PySem.W.kia_one PySem.W.kitx_int I.kIn True.intro e (λz=>nomatch z) h
  | str y=>obtain⟨t,q⟩:=(show ∃ t,u=Value.str y t from rx);cases q;exact PySem.W.kia_one PySem.W.kitx_str I.kIn True.intro e (λz=>nomatch z) h
  | flt y=>obtain⟨t,q⟩:=(show ∃ t,u=Value.float y t from rx);cases q;exact PySem.W.kia_one PySem.W.kitx_float I.kIn True.intro e (λz=>nomatch z) h
  | @lst a xs ea =>
    cases (show u=Value.ref a from rx);obtain⟨_,_,n,_,h1⟩:=(show bV X.prog X.w H s.heap a (.lst xs) from I.hok a _ ea);exact PySem.W.kia_one PySem.W.kitx_list I.kIn ⟨_,h1,rfl⟩ e (λz=>nomatch z) h
  | @frz a ob xs ea =>
    cases (show u=Value.ref a from rx);obtain⟨_,_,_,n,_,h1⟩:=(show bV X.prog X.w H s.heap a (.frz ob (.lst xs)) from I.hok a _ ea);exact PySem.W.kia_one PySem.W.kitx_list I.kIn ⟨_,h1,rfl⟩ e (λz=>nomatch z) h
  | @tup a xs ea =>
    cases (show u=Value.ref a from rx);obtain⟨_,_,_,p⟩:=(show bV X.prog X.w H s.heap a (.tup xs) from I.hok a _ ea);obtain⟨o,h1,h2,_⟩:=p;exact PySem.W.kia_one PySem.W.kitx_tuple I.kIn ⟨o,h1,h2⟩ e (λz=>nomatch z) h
  | @dK a kvs ea =>
    cases (show u=Value.ref a from rx);obtain⟨_,_,vs,_,p⟩:=(show bV X.prog X.w H s.heap a (.dK kvs) from I.hok a _ ea);obtain⟨o,es,ep,h1,h2,_⟩:=p;exact PySem.W.kia_one PySem.W.kitx_dict I.kIn ⟨o,h1,h2.1⟩ e (λz=>nomatch z) h
  | @dT a kvs ea =>
    cases (show u=Value.ref a from rx);obtain⟨_,_,xs,_,o,es,ep,h1,h2,_⟩:=(show bV X.prog X.w H s.heap a (.dT kvs) from I.hok a _ ea);exact PySem.W.kia_one PySem.W.kitx_dict I.kIn ⟨o,h1,h2.1⟩ e (λz=>nomatch z) h
  | @ins a C dx fs ea cl ha hn htk hm =>
    cases (show u=Value.ref a from rx);obtain⟨mA,O,_⟩:=kD I.hok ea;obtain⟨od,J,_⟩:=O.look;exact PySem.W.kia_one (PySem.W.kitx_own (cl.get _) cl.hd ha hn htk hm) I.kIn J e (λz=>nomatch z) h
end
end L2
namespace L2
open PySem PySem.Spec PyProof.Rows
structure eQ(k:Nat)(A:Around):Prop where
  hd:A.handled=none
  dp:A.depth+3*k+5<recursionLimit
  un:A.units+16*k+200<cLine
theorem eQ.mono{j k:Nat}{A:Around}(r:eQ k A)(h:j≤k):eQ j A:=⟨r.hd,by have:=r.dp;omega,by have:=r.un;omega⟩
theorem eQ.deeper{k:Nat}{A:Around}(r:eQ (k+1) A)(env:Env):eQ k (A.deeper env) :=
  ⟨r.hd,by have:=r.dp;show A.depth+1+3*k+5<_;omega,by have:=r.un;show A.units+3+16*k+200<_;omega⟩
theorem rj{A:Around}{C:Addr}{us:List Value}{kw:List (Str×Value)}:(A.under (.builtin "type.__call__" ⟨.ref C::us,kw⟩)).depth=A.depth+1:=by
  first|rfl|simp[Around.under,Code.weight,Code.isCreation,Code.isGuard,Code.isCaller,Code.frames,Code.isFrame,guardIds]
theorem rk{A:Around}{C:Addr}{us:List Value}{kw:List (Str×Value)}:(A.under (.builtin "type.__call__" ⟨.ref C::us,kw⟩)).units=A.units+1:=by
  first|rfl|simp[Around.under,Code.cUnits,Code.frames,Code.isFrame]
theorem eQ.make{k:Nat}{A:Around}(r:eQ (k+1) A)(C:Addr)(us:List Value)(kw:List (Str×Value)):eQ k (A.under (.builtin "type.__call__" ⟨.ref C::us,kw⟩)) :=
  ⟨r.hd,by have:=r.dp;rw[rj];omega,by have:=r.un;rw[rk];omega⟩
theorem eQ.depth{k:Nat}{A:Around}(r:eQ k A):A.depth<recursionLimit:=by have:=r.dp;omega
theorem eQ.units{k:Nat}{A:Around}(r:eQ k A):A.units+64<cLine:=by have:=r.un;omega
def CJ:TA:=λ_ H Q=>Q [] H
def BR(ta:TE)(tr:TA):TA:=λσ H Q=>ta σ H λx H1=>tr σ H1 λxs H2=>Q (x::xs) H2
section
variable{X:Cx}{e:Expr}{es:List Expr}{te:TE}{t:TA}{pos:Pos}
theorem ag:PA X [] CJ:=λ_ _ _ _ H Q I h=>Calls.spliced_nil ⟨[],H,I,.nil,h⟩
theorem aa(ha:PE X e te)(hr:PA X es t)(hs:starEach (e::es) X.env=(false,eval e X.env)::starEach es X.env:=by rfl):PA X (e::es) (BR te t):=by
  intro pos pins s σ H Q I h;rw[hs];show wpAny _ _ (spliced ((false,eval e X.env)::backTo pos (starEach es X.env))) _ _ s;refine Calls.spliced_cons (thn (ha pins s σ H _ I h) λu s1 ⟨x,H1,I1,r1,q1⟩=>?_);exact thn (hr pos pins s1 σ H1 _ I1 q1) λus s2 ⟨xs,H2,I2,r2,q2⟩=>⟨x::xs,H2,I2,.cons r1 r2,q2⟩
def DZ(t:TA):TE:=λσ H Q=>t σ H λxs H1=>xs.length≤sizeLine∧∀ p,H1 p=none→Q (.ref p) (upd H1 p (.tup xs))
def D1(t:TA):TE:=λσ H Q=>t σ H λxs H1=>xs.length≤sizeLine∧∀ p,H1 p=none→Q (.ref p) (upd H1 p (.lst xs))
theorem cB{x1}(h:PA X es t):PE X (.Tuple es x1 pos) (DZ t):=by
  intro pins s σ H Q I hq;refine wpAny_Tuple_spliced (thn (h pos pins s σ H _ I hq) λus s1 ⟨xs,H1,I1,r,z,q⟩=>⟨by rw[←r.length];exact z,?_⟩);have hf:H1 s1.heap.objs.size=none:=I1.hok.fresh (EV _);refine⟨.ref s1.heap.objs.size,upd H1 s1.heap.objs.size (.tup xs),I1.laid (t':=s1.toks) (λb u e=>ES _ e) (EV _) ?_,rfl,q _ hf⟩;exact⟨z,us,r,⟨_,Ff _ rfl,rfl,_,rfl⟩⟩
theorem gv(h:PA X es t):PE X (.List es pos) (D1 t):=by
  intro pins s σ H Q I hq;refine wpAny_List_spliced (thn (h pos pins s σ H _ I hq) λus s1 ⟨xs,H1,I1,r,z,q⟩=>⟨by rw[←r.length];exact z,?_⟩);have hf:H1 s1.heap.objs.size=none:=I1.hok.fresh (EV _);refine⟨.ref s1.heap.objs.size,upd H1 s1.heap.objs.size (.lst xs),I1.laid (t':=s1.toks) (λb u e=>ES _ e) (EV _) ?_,rfl,q _ hf⟩;exact⟨z,us,0,r,Ff _ rfl⟩
end
abbrev Sp:=List V→Hp→VK→XK→Prop
abbrev CXT:=List Env→Hp→Shared→XK→Value→Shared→Prop
structure vd(P:Program)(w:World)(K:W.Frag)(mg:Str→Option Value)(base:Heap)(A:Around)(outer:List Env)(s:Shared)(H:Hp):Prop where
  frames:A.frames=some outer
  mod:Mod K mg base
  bs:∀ b o,base.get? b=some o→s.heap.get? b=some o∧H b=none
  bsz:base.objs.size≤s.heap.objs.size
  m9:s.heap.FunFrames base outer
  frf:∀ b∈frs outer,H b=none
  hok:HOk P w H s.heap
  bare:AllBare s.gens
def CE(outer:List Env)(P:Program)(w:World)(H:Hp)(s:Shared)(Q:VK)(u:Value)(s':Shared):Prop :=
  ∃ v H',s'.os=s.os∧AllBare s'.gens∧Un (frs outer) [] H H' s.heap s'.heap∧HOk P w H' s'.heap∧RelV v u∧Q v H'
def CR(CX:CXT)(outer:List Env)(P:Program)(w:World)(H:Hp)(s:Shared)(Q:VK)(E:XK)(r:Result)(s':Shared):Prop :=
  match r with
  | .ok (.ret u)=>CE outer P w H s Q u s'
  | .ok _=>False
  | .error e=>CX outer H s E e s'
structure jA(P:Program)(w:World)(K:W.Frag)(mg:Str→Option Value)(base:Heap)(CX:CXT)(k:Nat)(f:Addr)(fd:FuncData)(ps:List Str)(sp:Sp):Prop where
  len:∀ vs H Q E,sp vs H Q E→vs.length=ps.length
  run:∀(A:Around) (outer:List Env) (s:Shared) (H:Hp) (args:Args) (us:List Value) (vs:List V) (Q:VK) (E:XK),eQ k A→vd P w K mg base A outer s H→BindsTo s fd args (ps.zip us)→Vals vs us→sp vs H Q E →
    codeAny (model P w) A (.call (.ref f) args) (CR CX outer P w H s Q E) s
theorem vd.make{P:Program}{w:World}{K:W.Frag}{mg:Str→Option Value}{base:Heap}{A:Around}{outer:List Env}{s:Shared}{H:Hp}(e:vd P w K mg base A outer s H)(C:Addr)(us:List Value)(kw:List (Str×Value)) :
    vd P w K mg base (A.under (.builtin "type.__call__" ⟨.ref C::us,kw⟩)) outer s H:=⟨by first|exact e.frames|(simpa[Around.under,Code.envs,Code.isFrame,pushEnvs] using e.frames),e.mod,e.bs,e.bsz,e.m9,e.frf,e.hok,e.bare⟩
section
variable{X:Cx}{pins:List (Addr×Obj)}{σ:St}{H:Hp}{s s':Shared}
theorem Inv.Aj(I:Inv X pins σ H s):vd X.prog X.w X.K X.mg X.base X.A X.stack s H :=
  ⟨I.ok.frames,I.ok.mod,I.bs,Fo I.ok.bsz I.sz,I.stack,I.gO,I.hok,I.bare⟩
theorem Inv.after{Q:VK}{u:Value}(I:Inv X pins σ H s)(h:CE X.stack X.prog X.w H s Q u s'):EP X pins σ Q u s':=by
  obtain⟨v,H',os,bare,un,hok,r,q⟩:=h;obtain⟨hh,g,d,t,os'⟩:=s';obtain rfl:os'=s.os:=os;exact⟨v,H',I.call (h':=hh) (g':=g) (d':=d) (t':=t) (ch:=[]) un hok bare (λb z=>absurd z (by simp)),r,q⟩
end
def BS(C:Addr)(sp:Sp)(dvs:List V)(E:XK)(t:TA):TE:=λσ H Q=>t σ H λvs H1=>∀ x dx,H1 x=none→H1 dx=none→dx≠x →
  sp (.ref x::(vs++dvs)) (upd (upd H1 dx (.own x)) x (.ins C dx [])) (λv H2=>v=.non∧Q (.ref x) H2) E
def Binds(K:W.Frag)(fd:FuncData)(ps:List Str)(ds:List Value):Prop :=
  ∀(s:Shared) (us:List Value),K.In s.heap→(us++ds).length=ps.length→BindsTo s fd ⟨us,[]⟩ (ps.zip (us++ds))
theorem Binds.all{K:W.Frag}{fd:FuncData}{ps:List Str}(h:∀ us:List Value,us.length=ps.length→bindArgs fd ⟨us,[]⟩=pure (ps.zip us)):Binds K fd ps []:=λs us _ hl=>by
  rw[Gq]at hl ⊢;exact .of_eq (h us hl)
def Passes(CX:CXT)(X:Cx)(E:XK):Prop:=∀(pins:List (Addr×Obj)) (σ:St) (H:Hp) (s:Shared) (e:Value) (s':Shared),Inv X pins σ H s→CX X.stack H s E e s'→X.xe e s'
section
variable{X:Cx}{CX:CXT}{k:Nat}{f C:Addr}{fd:FuncData}{ps:List Str}{sp:Sp}{dvs:List V}{ds:List Value}{E:XK}{x m:Str}{p pos apos:Pos}{e o:Expr}{es:List Expr}{ta:TE}{t:TA}
structure Mk(K:W.Frag)(C f:Addr):Prop where
  makes:PySem.W.makesIn K C=true
  init:PySem.W.findIn K (.ref C) "__init__" = some (some (.ref f))
  fn:PySem.W.isFn K (.ref f)=true
  kp:PySem.W.keepIn K (.ref C)=true
theorem vy{pins:List (Addr×Obj)}{σ:St}{H:Hp}{s:Shared}{Q:VK}{us:List Value}{vs:List V}(M:Mk X.K C f)(F:jA X.prog X.w X.K X.mg X.base CX k f fd ps sp)(hr:eQ (k+1) X.A)(hb:Binds X.K fd ps ds)(hd:Vals dvs ds)
    (hx:Passes CX X E) (I:Inv X pins σ H s) (r:Vals vs us)
    (h:∀ x dx,H x=none→H dx=none→dx≠x→sp (.ref x::(vs++dvs)) (upd (upd H dx (.own x)) x (.ins C dx [])) (λv H2=>v=.non∧Q (.ref x) H2) E) :
    wpAny (model X.prog X.w) X.A (call (.ref C) us) (EP X pins σ Q) X.xe s:=by
  have hq:=h (s.heap.objs.size+1) s.heap.objs.size (I.hok.fresh (F7 _)) (I.hok.fresh (EV _)) (E9 (Nat.lt_succ_self _));have I2:=Inv.made (C:=C) I;have r2:Vals (V.ref (s.heap.objs.size+1)::(vs++dvs)) (Value.ref (s.heap.objs.size+1)::(us++ds)):=.cons rfl (r.append hd);have hl:(Value.ref (s.heap.objs.size+1)::us++ds).length=ps.length:=by
    have e:=r2.length;rw[F.len _ _ _ _ hq]at e;exact e.symm
  refine wpAny_call (vx (f:=f) I.kIn M.makes M.init (beq_iff_eq.mp M.fn) (codeAny_mono (F.run _ X.stack _ _ ⟨Value.ref (s.heap.objs.size+1)::us,[]⟩ (Value.ref (s.heap.objs.size+1)::(us++ds)) _ _ E (hr.make C us [])
    (I2.Aj.make C us []) (hb _ (Value.ref (s.heap.objs.size+1)::us) I2.kIn hl) r2 hq) λr s' hq'=>?_))
  cases r with
  | error e=>exact hx pins σ _ _ e s' I2 hq'
  | ok fl =>
    cases fl with
    | ret u =>
      obtain⟨v,H',I3,rv,ev,q3⟩:=I2.after hq';subst ev;exact⟨rv,⟨V.ref (s.heap.objs.size+1),H',I3,rfl,q3⟩⟩
    | next=>exact False.elim hq'
    | brk=>exact False.elim hq'
    | cont=>exact False.elim hq'
theorem tH(M:Mk X.K C f)(F:jA X.prog X.w X.K X.mg X.base CX k f fd ps sp)(hr:eQ (k+1) X.A)(hg:Gl X x)(hm:X.mg x=some (.ref C))(hb:Binds X.K fd ps ds)(hd:Vals dvs ds)(hx:Passes CX X E)
    (ha:PA X (e::es) t) (hdb:(x == ("__debug__" : Str))=false:=by decide) (he:starEach (e::es) X.env=(false,eval e X.env)::starEach es X.env:=by rfl) (hpl:(backTo pos (starEach es X.env)).any (·.1)=false:=by rfl) :
    PE X (.Call (.Name x p) (e::es) [] pos) (BS C sp dvs E t):=by
  intro pins s σ H Q I h;refine wpAny_Call_Name_kw (oX I hg hm ?_ hdb);refine PySem.W.callWith_K (h₀:=X.base) I.ok.mod.kin M.kp (thn (ha pos pins s σ H _ I h) λus s1 ⟨vs,H1,I1,r,q⟩=>⟨I1.kIn,?_⟩) he hpl;exact vy M F hr hb hd hx I1 r q
end
section
variable{X:Cx}{CX:CXT}{k:Nat}{f C:Addr}{fd:FuncData}{ps ks:List Str}{sp:Sp}{E:XK}{x m:Str}{p pos apos Ak:Pos}{e o:Expr}{es:List Expr}{kws:List Keyword}{te ta:TE}{t tk:TA}{nm:Option Str}
variable{g:List Value→List Value→List Value}{gV:List V→List V→List V}
end
structure aG(N P:List Str)(sc:Scope):Prop where
  kind:sc.kind=.function
  co:sc.isCoroutine=false
  gen:sc.isGenerator=false
  nd:N.Nodup
  pre:N.take P.length=P
  par:∀ x∈P,sc.names.lookup x=some .local∨sc.names.lookup x=some .cell
  zB:∀ y∈sc.names,y.2≠.free
theorem ni{kindOf:Str→Option NameKind}{x:Str}:∀ {binds:List (Str×Value)} {m:Str→Option Value},(∀ v,(x,v)∉binds)→bindL kindOf binds m x=m x
  | [],_,_=>rfl
  | (n,v)::r,m,h=>by
    unfold bindL;rw[ni λw hw=>h w (EX _ hw)];split
    · have:x≠n:=by rintro rfl;exact h v E0
      simp[this]
    · rfl
theorem nr{kindOf:Str→Option NameKind}{x:Str}:∀ {binds:List (Str×Value)} {m:Str→Option Value},(∀ v,(x,v)∉binds)→bindC kindOf binds m x=m x
  | [],_,_=>rfl
  | (n,v)::r,m,h=>by
    unfold bindC;rw[nr λw hw=>h w (EX _ hw)];split
    · rfl
    · have:x≠n:=by rintro rfl;exact h v E0
      simp[this]
theorem nu{kindOf:Str→Option NameKind}{x:Str}{v:Value}:∀ {P:List Str} {vs:List Value} {i:Nat} {m:Str→Option Value},P.Nodup→P[i]?=some x→vs[i]?=some v→kindOf x=some .local →
    bindL kindOf (P.zip vs) m x=some v
  | [],_,_,_,_,h,_,_=>by simp at h
  | _::_,[],_,_,_,_,h,_=>by simp at h
  | p::P,w::vs,0,m,nd,h1,h2,hk=>by
    simp at h1 h2;subst h1;subst h2;show bindL kindOf ((p,w)::P.zip vs) m p=_;unfold bindL;rw[ni λv hv=>(FO.mp nd).1 (GA hv).1,if_pos hk];simp
  | p::P,w::vs,i+1,m,nd,h1,h2,hk=>by
    show bindL kindOf ((p,w)::P.zip vs) m x=_;unfold bindL;exact nu (i:=i) (FO.mp nd).2 (by simpa using h1) (by simpa using h2) hk
theorem nv{kindOf:Str→Option NameKind}{x:Str}{v:Value}:∀ {P:List Str} {vs:List Value} {i:Nat} {m:Str→Option Value},P.Nodup→P[i]?=some x→vs[i]?=some v→kindOf x≠some .local →
    bindC kindOf (P.zip vs) m x=some v
  | [],_,_,_,_,h,_,_=>by simp at h
  | _::_,[],_,_,_,_,h,_=>by simp at h
  | p::P,w::vs,0,m,nd,h1,h2,hk=>by
    simp at h1 h2;subst h1;subst h2;show bindC kindOf ((p,w)::P.zip vs) m p=_;unfold bindC;rw[nr λv hv=>(FO.mp nd).1 (GA hv).1,if_neg hk];simp
  | p::P,w::vs,i+1,m,nd,h1,h2,hk=>by
    show bindC kindOf ((p,w)::P.zip vs) m x=_;unfold bindC;exact nv (i:=i) (FO.mp nd).2 (by simpa using h1) (by simpa using h2) hk
def start(N:List Str)(vs:List V):St:=vs.map some++List.replicate (N.length-vs.length) none
def wg(CX:CXT)(P:Program)(w:World)(K:W.Frag)(mg:Str→Option Value)(base:Heap)(N:List Str)(qual:Str)(scope:Scope)(f:Addr)(cd:Value)(A:Around)(outer:List Env)(s:Shared)(H:Hp)(E:XK):Cx where
  prog:=P
  w:=w
  K:=K
  mg:=mg
  base:=base
  A:=A.deeper (envOfC qual scope s.heap.objs.size f cd)
  N:=N
  s₀:=s
  H₀:=H
  env:=envOfC qual scope s.heap.objs.size f cd
  outer:=outer
  stack:=envOfC qual scope s.heap.objs.size f cd::outer
  ex:=[]
  calm:=true
  fn:=λ_=>true
  pn:=[]
  xe:=λe s'=>wpAny (model P w) (A.deeper (envOfC qual scope s.heap.objs.size f cd)) (leaving (envOfC qual scope s.heap.objs.size f cd) e) (λ_ s''=>CX outer H s E e s'') (λe' s''=>CX outer H s E e' s'') s'
theorem qC{sc:Scope}{n:Nat}{x:Str}(h:sc.names.lookup x=some .cell):∃ c,(cellsFrom n sc.names []).lookup x=some c:=by
  have q:=PySem.W.cellsFrom_some sc.names n [] (.inl h);exact Option.isSome_iff_exists.mp q
theorem um{CX:CXT}{P:Program}{w:World}{K:W.Frag}{mg:Str→Option Value}{base:Heap}{N ps:List Str}{qual:Str}{scope:Scope}{f:Addr}{cd:Value}{A:Around}{outer:List Env}{s s1:Shared}{H:Hp}{E:XK}{us:List Value}{vs:List V}
    (S:aG N ps scope) (hd:A.handled=none) (e0:vd P w K mg base A outer s H) (hl:vs.length=ps.length) (r:Vals vs us)
    (x:InCallC s s.heap.objs.size (bindL (envOfC qual scope s.heap.objs.size f cd).kindOf (ps.zip us) λ_=>none) (cellsFrom (s.heap.objs.size+1) scope.names []) (bindC (envOfC qual scope s.heap.objs.size f cd).kindOf (ps.zip us) λ_=>none) s1) :
    Inv (wg CX P w K mg base N qual scope f cd A outer s H E) [] (start N vs) H s1:=by
  have hpl:ps.length≤N.length:=by have:=congrArg List.length S.pre;rw[Fb]at this;omega
  obtain⟨h1,tk,rfl,hk⟩:=x.done;have noA:∀ b:Addr,b∉(wg CX P w K mg base N qual scope f cd A outer s H E).ex:=λb z=>absurd (show b∈([]:List Addr) from z) (by simp);refine⟨⟨e0.mod,S.kind,rfl,rfl,EV _,λy z c h1 h2=>?_,λy hy=>?_,λy c _ h=>?_,λ_=>hd,Around.frames_deeper e0.frames,.inr ⟨rfl,rfl⟩,λb z=>absurd z (noA b),e0.bs,e0.bsz,λb _ _=>noA b,λb z=>absurd z (noA b),e0.m9,e0.frf⟩,
    rfl,e0.bare,Un.kept hk,⟨_,x.toInCall.ns,λi y v h1 h2 h3=>?_⟩,λy c h=>⟨_,x.cell y c h⟩,e0.hok.fresh (EV _),λy c h=>?_,λp hp=>absurd (show p∈([]:List (Addr×Obj)) from hp) (by simp),e0.hok.kept hk,?_⟩
  · exact name_of_addr x.apart (Fq h1) (Fq h2)
  · have hy:scope.names.lookup y=some .cell∨scope.names.lookup y=some .free:=hy
    rcases hy with hy|hy
    · exact qC hy
    · exact absurd rfl (S.zB _ (Fq hy))
  · exact Gu (x.above y c (Fq h))
  · have hi:i<vs.length:=by
      unfold start at h2;by_cases hi:i<vs.length
      · exact hi
      · rw[Fm (by simpa using hi)]at h2
        rw[List.getElem?_replicate]at h2;split at h2<;>cases h2
    have ha:vs[i]?=some v:=by
      unfold start at h2;rw[Fi (by simpa using hi),E3]at h2;cases e:vs[i]? with
      | none=>rw[e]at h2;cases h2
      | some a=>rw[e]at h2;cases h2;rfl
    obtain⟨u,hu,rv⟩:=r.get ha;have hp:ps[i]?=some y:=by
      rw[←S.pre,List.getElem?_take_of_lt (by omega)];exact h1
    have ndP:ps.Nodup:=(by rw[←S.pre];exact S.nd.sublist (List.take_sublist _ _));refine⟨u,rv,?_⟩;rcases S.par y (E6 hp) with k|k
    · exact .inl ⟨k,nu ndP hp hu k⟩
    · obtain⟨c,e⟩:=qC (n:=s.heap.objs.size+1) k
      refine .inr ⟨.inl k,c,e,?_⟩;have q:=x.cell y c e;rw[nv ndP hp hu (by show scope.names.lookup y≠_;rw[k];decide)]at q;exact q
  · exact e0.hok.fresh (Gu (x.above y c (Fq h)))
  · unfold start
    show _=N.length;rw[E5,EU,Ft];omega
theorem yv{CX:CXT}{P:Program}{w:World}{K:W.Frag}{mg:Str→Option Value}{base:Heap}{k:Nat}{f:Addr}{name qual:Str}{params:Arguments}{body:List Stmt}{scope:Scope}{dV kV doc pm cdv ct oc:Value}{an od:Option Addr}
    {osl:Array (Option Value)} {N ps:List Str} {sp:Sp} (lk:K.lookup f=some ⟨oc,od,.func (PySem.W.fnOf name qual params body scope dV kV doc pm an cdv ct),osl⟩) (hcd:PySem.W.codeIn K cdv qual=true) (S:aG N ps scope)
    (len:∀ vs H Q E,sp vs H Q E→vs.length=ps.length)
    (rn:∀(A:Around) (outer:List Env) (s:Shared) (H:Hp) (vs:List V) (Q:VK) (E:XK),eQ k (A.deeper (envOfC qual scope s.heap.objs.size f cdv))→sp vs H Q E →
      ∃ t,PSs (wg CX P w K mg base N qual scope f cdv A outer s H E) body t∧t {nx:=λ_ H'=>Q .non H',rt:=Q} (start N vs) H) :
    jA P w K mg base CX (k+1) f (PySem.W.fnOf name qual params body scope dV kV doc pm an cdv ct) ps sp:=by
  refine⟨len,λA outer s H args us vs Q E hr e0 hb r hsp=>?_⟩;have hl:=len _ _ _ _ hsp;have KX:K.In s.heap:=e0.mod.kin.keeps λb o e=>(e0.bs b o e).1;have lim:s.heap.NoLimit:=e0.mod.nolimit.keeps λb o e=>(e0.bs b o e).1;have BU:∀ y∈ps.zip us,scope.names.lookup y.1=some .local∨(scope.names.lookup y.1=some .cell∧((cellsFrom (s.heap.objs.size+1) scope.names []).lookup y.1).isSome=true):=λ⟨n,v⟩ hy=>by
    rcases S.par n (GA hy).1 with q|q
    · exact .inl q
    · exact .inr ⟨q,PySem.W.cellsFrom_some _ _ _ (.inl q)⟩
  refine codeAny_call_function hr.depth (KX _ _ lk) rfl S.co S.gen rfl (PySem.W.codeRec_of KX hcd) (hb _ _ _ _ ?_);refine wpAny_newFunctionEnv_cells S.kind BU λenv he s1 x=>?_;subst he;refine⟨lim.keeps x.toInCall.keep,codeAny_func ?_⟩;obtain⟨t,ht,hq⟩:=rn A outer s H vs Q E (hr.deeper _) hsp;have I:Inv (wg CX P w K mg base N qual scope f cdv A outer s H E) [] (start N vs) H s1:=um S hr.hd e0 hl r x;refine wpAny_mono (ht [] s1 (start N vs) H _ I hq) (λfl s' hs=>?_) λe s' hs=>hs;have fin:∀ {σ':St} {H':Hp} {v:V} {u:Value},Inv (wg CX P w K mg base N qual scope f cdv A outer s H E) [] σ' H' s'→RelV v u→Q v H'→CE outer P w H s Q u s' :=
    λ{σ' H' v u} J rv q=>⟨v,H',J.os,J.bare,J.base,J.hok,rv,q⟩
  cases fl with
  | ret u =>
    obtain⟨v,σ',H',J,rv,q⟩:=hs;exact fin J rv q
  | next =>
    obtain⟨σ',H',J,q⟩:=hs;exact fin (v:=V.non) (u:=Value.none) J rfl q
  | brk =>
    obtain⟨_,_,_,q⟩:=hs;exact False.elim q
  | cont =>
    obtain⟨_,_,_,q⟩:=hs;exact False.elim q
end L2
namespace L2
open PySem PySem.Spec PyProof.Rows
section
variable{X:Cx}{x:Str}{p pos:Pos}{e:Expr}{es:List Expr}{t:TA}{id T:String}{r:List V→Hp→VK→Prop}
def tCB(r:List V→Hp→VK→Prop)(t:TA):TE:=λσ H Q=>t σ H λvs H1=>r vs H1 Q
theorem aV(hc:jH X (.builtin id) r)(hg:Gl X x)(hm:X.mg x=none)(hv:bootBuiltins x=some (.builtin id))(ha:PA X (e::es) t)(hn:x ≠ "__name__" := by decide)(hdb:(x == ("__debug__" : Str))=false:=by decide)
    (he:starEach (e::es) X.env=(false,eval e X.env)::starEach es X.env:=by rfl) (hpl:(backTo pos (starEach es X.env)).any (·.1)=false:=by rfl):PE X (.Call (.Name x p) (e::es) [] pos) (tCB r t):=by
  intro pins s σ H Q I h;refine wpAny_Call_Name_kw (i0 I hg hm hv ?_ hn hdb);exact PyProof.Rows.callWith_builtin1 (thn (ha pos pins s σ H _ I h) λus s1 ⟨vs,H1,I1,r1,q1⟩=>hc pins s1 σ H1 vs us Q I1 r1 q1) he hpl
theorem dE(hc:jH X (.type T) r)(hg:Gl X x)(hm:X.mg x=none)(hv:bootBuiltins x=some (.type T))(ha:PA X (e::es) t)(hn:x ≠ "__name__" := by decide)(hdb:(x == ("__debug__" : Str))=false:=by decide)
    (he:starEach (e::es) X.env=(false,eval e X.env)::starEach es X.env:=by rfl) (hpl:(backTo pos (starEach es X.env)).any (·.1)=false:=by rfl):PE X (.Call (.Name x p) (e::es) [] pos) (tCB r t):=by
  intro pins s σ H Q I h;refine wpAny_Call_Name_kw (i0 I hg hm hv ?_ hn hdb);exact PyProof.Rows.callWith_type1 (thn (ha pos pins s σ H _ I h) λus s1 ⟨vs,H1,I1,r1,q1⟩=>hc pins s1 σ H1 vs us Q I1 r1 q1) he hpl
end
end L2
namespace HT
open PySem PyProof.Rows
section
open PySem.SeqAt
open PySem.AutoSeq1 (wpAny_loadPart')
open PySem.MeetsSeq PySem.MeetsSeq2 PySem.MeetsSeq3
end
section
variable{prog:Program}{w:World}{A:Around}{E:Value→Shared→Prop}{s:Shared}
def sIx(n d:Nat):Option Int→Nat
  | none=>d
  | some v=>if v<0 then(v+(n:Int)).toNat else min v.toNat n
theorem tI(n d k:Nat):sIx n d (some (k:Int))=min k n:=by
  show(if(k:Int)<0 then((k:Int)+(n:Int)).toNat else min (k:Int).toNat n)=min k n;rw[if_neg (by omega),Int.toNat_natCast]
end
end HT
namespace L2
open PySem PySem.Spec PyProof.Rows
abbrev TO:=St→Hp→(Option Int→Hp→Prop)→Prop
def PO(X:Cx)(e:Option Expr)(t:TO):Prop :=
  ∀(pins:List (Addr×Obj)) (s:Shared) (σ:St) (H:Hp) (Q:Option Int→Hp→Prop),Inv X pins σ H s→t σ H Q →
    wpAny (model X.prog X.w) X.A (evalPart e X.env) (λu s'=>∃ o H',Inv X pins σ H' s'∧IsPart u o∧Q o H') X.xe s
def xF:TO:=λ_ H Q=>Q none H
def BV(t:TE):TO:=λσ H Q=>t σ H λx H1=>∃ i,x=.int i∧Q (some i) H1
section
variable{X:Cx}{e:Expr}{te:TE}{lo hi:Option Expr}{tl th:TO}{pos p2:Pos}
theorem xG:PO X none xF:=by
  intro pins s σ H Q I h;rw[evalPart_none];exact wpAny_pure ⟨none,H,I,.none,h⟩
theorem jg(h:PE X e te):PO X (some e) (BV te):=by
  intro pins s σ H Q I hw;rw[evalPart_some];refine thn (h pins s σ H _ I hw) λu s1 ⟨x,H1,I1,r1,q1⟩=>?_;obtain⟨i,rfl,q⟩:=q1;obtain⟨t,rfl⟩:=r1;exact⟨some i,H1,I1,.int i t,q⟩
def SlR(X:Cx)(r:V→Option Int→Option Int→Hp→VK→Prop):Prop :=
  ∀(pins:List (Addr×Obj)) (s:Shared) (σ:St) (H:Hp) (x:V) (v vl vu:Value) (lo hi:Option Int) (sl:Addr) (Q:VK),Inv X pins σ H s→RelV x v→s.heap.IsSliceOf sl vl vu .none→IsPart vl lo→IsPart vu hi→r x lo hi H Q →
    ∃ T id,typeLookup (.type T) "__getitem__" = pure (some (.builtin id))∧s.TypeIs v T∧wpAny (model X.prog X.w) X.A (getItem v (.ref sl)) (EP X pins σ Q) X.xe s
def tSl(r:V→Option Int→Option Int→Hp→VK→Prop)(te:TE)(tl th:TO):TE:=λσ H Q=>te σ H λx H1=>tl σ H1 λl H2=>th σ H2 λu H3=>r x l u H3 Q
theorem k4{r:V→Option Int→Option Int→Hp→VK→Prop}(hr:SlR X r)(he:PE X e te)(hl:PO X lo tl)(hu:PO X hi th):PE X (.Subscript e (.Slice lo hi none p2) pos) (tSl r te tl th):=by
  intro pins s σ H Q I h;refine Subscript_ (thn (he pins s σ H _ I h) λv s1 ⟨x,H1,I1,r1,q1⟩=>?_);refine wpAny_Slice (thn (hl pins s1 σ H1 _ I1 q1) λvl s2 ⟨l,H2,I2,pl,q2⟩=>thn (hu pins s2 σ H2 _ I2 q2) λvu s3 ⟨u,H3,I3,pu,q3⟩=>?_);rw[evalPart_none];refine wpAny_pure ?_;have I4:Inv X pins σ H3 {s3 with heap:=s3.heap.push {cls:=.type "slice",data:=.fields #[vl,vu,.none]}}:=I3.kept (t':=s3.toks) λb ob q=>ES _ q;obtain⟨T,id,hT,ht,hg⟩:=hr pins {s3 with heap:=s3.heap.push {cls:=.type "slice",data:=.fields #[vl,vu,.none]}} σ H3 x v vl vu l u s3.heap.objs.size Q I4 r1 (Heap.IsSliceOf.new ..) pl pu q3;show wpAny (model X.prog X.w) X.A (subscriptTail e (.Slice lo hi none p2) v (.ref s3.heap.objs.size)) (EP X pins σ Q) X.xe {s3 with heap:=s3.heap.push {cls:=.type "slice",data:=.fields #[vl,vu,.none]}};exact tail_any (ops:=[.ref s3.heap.objs.size,v]) ht hT hg (by with_unfolding_all rfl)
def ve(xs:List V)(lo hi:Option Int):List V:=(xs.drop (HT.sIx xs.length 0 lo)).take (HT.sIx xs.length xs.length hi-HT.sIx xs.length 0 lo)
theorem pR(xs:List V)(lo hi:Option Int):(ve xs lo hi).length≤xs.length:=by
  unfold ve;rw[Fb,FV];omega
end
end L2
namespace L2
open PySem PySem.Spec PyProof.Rows
def ixN(n:Nat)(i:Int):Option Nat:=if 0≤i then(if i<n then some i.toNat else none) else if -(n:Int)≤i then some (i+n).toNat else none
def atI{α:Type}(xs:List α)(i:Int):Option α:=(ixN xs.length i).bind λj=>xs[j]?
theorem tJ{n:Nat}{i:Int}{j:Nat}(h:ixN n i=some j):seqIndex? i n=some j∧j<n∧-(n:Int)≤i∧i<n:=by
  unfold ixN at h;by_cases h0:0≤i
  · rw[if_pos h0]at h
    by_cases h1:i<n
    · rw[if_pos h1]at h
      have e:i.toNat=j:=Fg h;exact⟨by rw[seqIndex_of h0 h1,e],by omega,by omega,h1⟩
    · rw[if_neg h1]at h;cases h
  · rw[if_neg h0]at h
    by_cases h1:-(n:Int)≤i
    · rw[if_pos h1]at h
      have e:(i+n).toNat=j:=Fg h;exact⟨by rw[seqIndex_neg (by omega) h1,e],by omega,h1,by omega⟩
    · rw[if_neg h1]at h;cases h
theorem tK{α:Type}{xs:List α}{i:Int}{v:α}(h:atI xs i=some v):∃ j,seqIndex? i xs.length=some j∧xs[j]?=some v∧j<xs.length∧-(xs.length:Int)≤i∧i<xs.length:=by
  unfold atI at h;cases e:ixN xs.length i with
  | none=>rw[e]at h;cases h
  | some j =>
    rw[e]at h;obtain⟨h1,h2,h3,h4⟩:=tJ e;exact⟨j,h1,h,h2,h3,h4⟩
theorem tL{α:Type}{xs:List α}{j:Nat}{v:α}(h:xs[j]?=some v):atI xs (j:Int)=some v:=by
  have hj:j<xs.length:=(ER.mp h).1;have e:ixN xs.length (j:Int)=some j:=by
    unfold ixN;rw[if_pos (by omega),if_pos (by omega)];simp
  unfold atI;rw[e];exact h
def xI(b:Expr):Prop:=∀ o i,subscripted b false o i=operate [o,i] (getItem o i)
def IxR(X:Cx)(r:R2):Prop :=
  ∀(value slice:Expr) (pins:List (Addr×Obj)) (s:Shared) (σ:St) (H:Hp) (x y:V) (v u:Value) (Q:VK),Inv X pins σ H s→RelV x v→RelV y u→r x y H Q →
    subscripted slice false v u=operate [v,u] (getItem v u)→wpAny (model X.prog X.w) X.A (subscriptTail value slice v u) (EP X pins σ Q) X.xe s
def MtR(X:Cx)(id:String)(r:V→List V→Hp→VK→Prop):Prop :=
  ∀(pins:List (Addr×Obj)) (s:Shared) (σ:St) (H:Hp) (x:V) (xs:List V) (v:Value) (us:List Value) (Q:VK),Inv X pins σ H s→RelV x v→Vals xs us→r x xs H Q →
    wpAny (model X.prog X.w) X.A (call (.builtin id) (v::us)) (EP X pins σ Q) X.xe s
section
variable{X:Cx}{a b:Expr}{ta tb:TE}{pos:Pos}
theorem cn{r:R2}(hr:IxR X r)(ha:PE X a ta)(hb:PE X b tb)(hs:xI b):PE X (.Subscript a b pos) (tOp r ta tb):=by
  intro pins s σ H Q I h;exact Subscript_ (Ah ha hb I h λv u s2 x y H2 I2 rx ry q=>hr a b pins s2 σ H2 x y v u Q I2 rx ry q (hs _ _))
def Al(K:W.Frag):R2:=λx y H Q=>∃ p xs i v,x=.ref p∧y=.int i∧SqL K H p xs∧atI xs i=some v∧Q v H
def CK(K:W.Frag):R2:=λx y H Q=>∃ p xs i v,x=.ref p∧y=.int i∧SqT K H p xs∧atI xs i=some v∧Q v H
theorem cX:IxR X (Al X.K):=by
  intro value slice pins s σ H x y v u Q I rx ry h hs;obtain⟨p,xs,i,z,rfl,rfl,hq,he,q⟩:=h;cases rx;obtain⟨t,rfl⟩:=ry;obtain⟨its,r,pl,hz⟩:=I.list hq;obtain⟨j,h1,h2,h3,h4,h5⟩:=tK he;obtain⟨w,ew,rw'⟩:=r.get h2;have hl:=r.length;have hn:=pD;have fin:EP X pins σ Q w s:=⟨z,H,I,rw',q⟩;by_cases h0:0≤i
  · have hj:i.toNat=j:=by
      rw[seqIndex_of h0 h5]at h1;exact Fg h1
    exact item_listR pl.isList h0 (by omega) (by rw[hj];simpa using ew) fin hs
  · have hj:(i+(its.toArray.size:Int)).toNat=j:=by
      rw[seqIndex_neg (by omega) h4]at h1;rw[EZ,←hl];exact Fg h1
    exact subscriptTail_builtinR (x:=w) pl.isList.typeIs slot_list_getitem.lookup
      (wpAny_getItem_list_neg (Q:=λr s'=>r=w∧EP X pins σ Q r s') pl.isList (by omega) (by rw[EZ]<;>omega) (by omega) (by rw[hj];simpa using ew) ⟨rfl,fin⟩) hs
theorem c6:IxR X (CK X.K):=by
  intro value slice pins s σ H x y v u Q I rx ry h hs;obtain⟨p,xs,i,z,rfl,rfl,hq,he,q⟩:=h;cases rx;obtain⟨t,rfl⟩:=ry;obtain⟨its,r,pl,hz⟩:=I.tuple hq;obtain⟨j,h1,h2,h3,h4,h5⟩:=tK he;obtain⟨w,ew,rw'⟩:=r.get h2;have hl:=r.length;have hn:=pD;have fin:EP X pins σ Q w s:=⟨z,H,I,rw',q⟩;exact subscriptTail_builtinR (x:=w) pl.typeIs slot_tuple_getitem.lookup
    (getItem_tuple (j:=j) (Q:=λr s'=>r=w∧EP X pins σ Q r s') pl (by omega) (by omega) (by rw[EZ,←hl];exact h1) (by simpa using ew) ⟨rfl,fin⟩) hs
theorem rp(its:List Value)(n j:Nat)(u:Value):Obj.mapSeq (·.setIfInBounds j u) {cls:=.type "list",data:=.seq its.toArray n}={cls:=.type "list",data:=.seq (its.set j u).toArray n}:=by
  simp[Obj.mapSeq]
theorem Inv.lst{pins:List (Addr×Obj)}{σ:St}{H:Hp}{s:Shared}{p:Addr}{xs:List V}(I:Inv X pins σ H s)(h:H p=some (.lst xs)) :
    ∃(its:List Value) (n:Nat),Vals xs its∧s.heap.get? p=some {cls:=.type "list",data:=.seq its.toArray n}∧xs.length≤sizeLine:=by
  obtain⟨z,its,n,r,e⟩:=I.hok p _ h;exact⟨its,n,r,e,z⟩
theorem Inv.zC{pins:List (Addr×Obj)}{σ:St}{H:Hp}{s:Shared}{p:Addr}{xs ys:List V}{its ng:List Value}{n n':Nat}{f:Obj→Obj}(I:Inv X pins σ H s)(h:H p=some (.lst xs))
    (ho:s.heap.get? p=some {cls:=.type "list",data:=.seq its.toArray n}) (hf:f {cls:=.type "list",data:=.seq its.toArray n}={cls:=.type "list",data:=.seq ng.toArray n'}) (r:Vals ys ng) (hz:ys.length≤sizeLine) (t:Nat) :
    Inv X pins σ (upd H p (.lst ys)) {s with heap:=s.heap.update p f,toks:=t}:=by
  have e:(s.heap.update p f).get? p=some {cls:=.type "list",data:=.seq ng.toArray n'}:=by
    rw[Heap.get?_update_self f ho (by rw[hf]<;>rfl),hf]
  refine I.write (x:=p) (e:=p) (by rw[h];trivial) (.inl rfl) (λb u hb q=>(Fy _ _ (FC hb)).trans q) ⟨_,e⟩ ?_;exact⟨hz,ng,n',r,e⟩
def BW:V→V→V→Hp→(Hp→Prop)→Prop:=λo i v H Q=>∃ p xs k j,o=.ref p∧i=.int k∧H p=some (.lst xs)∧ixN xs.length k=some j∧Q (upd H p (.lst (xs.set j v)))
theorem set_list:CC X BW:=by
  intro pins s σ H o i v ov iv u Q I ro ri rv h;obtain⟨p,xs,k,j,rfl,rfl,hp,hj,q⟩:=h;cases ro;obtain⟨t,rfl⟩:=ri;obtain⟨its,n,r,ho,hz⟩:=I.lst hp;obtain⟨h1,h2,h3,h4⟩:=tJ hj;have hl:=r.length;have hn:=pD;have I':Inv X pins σ (upd H p (.lst (xs.set j v))) {s with heap:=s.heap.update p (Obj.mapSeq (·.setIfInBounds j u))} :=
    I.zC hp ho (rp its n j u) (r.set rv j) (by rw[Fw];exact hz) s.toks
  by_cases h0:0≤k
  · have hk:k.toNat=j:=by
      rw[seqIndex_of h0 h4]at h1;exact Fg h1
    exact PySem.W.ki_setAt ho h0 (by omega) (by rw[EZ,←hl];exact h4) (by rw[hk];exact⟨_,I',q⟩)
  · have hk:(k+(its.toArray.size:Int)).toNat=j:=by
      rw[seqIndex_neg (by omega) h3]at h1;rw[EZ,←hl];exact Fg h1
    exact PySem.W.ki_setBack ho (by omega) (by rw[EZ,←hl];exact h3) (by omega) (by rw[hk];exact⟨_,I',q⟩)
theorem nX(lo hi:Option Int)(n:Nat):(sliceBounds lo hi none n).1=((HT.sIx n 0 lo:Nat):Int)∧(sliceBounds lo hi none n).2.1=((HT.sIx n n hi:Nat):Int)∧(sliceBounds lo hi none n).2.2=1:=by
  refine⟨?_,?_,rfl⟩
  · cases lo with
    | none=>simp[sliceBounds,HT.sIx]
    | some i =>
      simp only[sliceBounds,HT.sIx,Option.getD_none,show(1:Int)>0 by decide,if_true];by_cases h:i<0
      · simp only[h,if_true]<;>omega
      · simp only[h,if_false]<;>omega
  · cases hi with
    | none=>simp[sliceBounds,HT.sIx]
    | some i =>
      simp only[sliceBounds,HT.sIx,Option.getD_none,show(1:Int)>0 by decide,if_true];by_cases h:i<0
      · simp only[h,if_true]<;>omega
      · simp only[h,if_false]<;>omega
theorem lM(its:List Value)(lo hi:Option Int):slicePick its.toArray lo hi none=((its.drop (HT.sIx its.length 0 lo)).take (HT.sIx its.length its.length hi-HT.sIx its.length 0 lo)).toArray:=by
  obtain⟨h1,h2,h3⟩:=nX lo hi its.toArray.size;unfold slicePick;rw[h1,h2,h3];simp only[sliceRange_one,pick_run,EZ]<;>rfl
def D2(K:W.Frag):V→Option Int→Option Int→Hp→VK→Prop:=λx lo hi H Q=>∃ a xs,x=.ref a∧SqL K H a xs∧∀ p,H p=none→Q (.ref p) (upd H p (.lst (ve xs lo hi)))
theorem oY:SlR X (D2 X.K):=by
  intro pins s σ H x v vl vu lo hi sl Q I rx hs pl pu h;obtain⟨a,xs,rfl,hx,q⟩:=h;cases rx;obtain⟨its,r,ht,hz⟩:=I.list hx;have hlen:=r.length;refine⟨"list",_,slot_list_getitem.lookup,ht.isList.typeIs,?_⟩;refine wpAny_getItem_list_slice ht.isList hs pl pu .none (by simp) ?_ (by rw[EZ]<;>omega);rw[lM,←hlen];refine⟨.ref s.heap.objs.size,_,I.laid (t':=s.toks) (o:=.lst (ve xs lo hi)) (λb ob q=>ES _ q) (EV _) ?_,rfl,q _ (I.hok.fresh (EV _))⟩;exact⟨Fo (pR xs lo hi) hz,_,0,(r.drop (HT.sIx xs.length 0 lo)).take (HT.sIx xs.length xs.length hi-HT.sIx xs.length 0 lo),Ff _ rfl⟩
def dX:V→Bool
  | .non=>true
  | .bl _=>true
  | .int _=>true
  | .str _=>true
  | _=>false
def eqV:V→V→Bool
  | .non,.non=>true
  | .bl a,.bl b=>a == b
  | .bl a,.int b=>(if a then 1 else 0) == b
  | .int a,.bl b=>a == (if b then 1 else 0)
  | .int a,.int b=>a == b
  | .str a,.str b=>a == b
  | _,_=>false
theorem pF{A:Around}{s:Shared}{y x:V}{u v:Value}(ry:RelV y u)(rx:RelV x v)(fy:dX y=true)(fx:dX x=true):SeqAt.EqAt A s u v (eqV y x):=by
  cases y with
  | non =>
    cases ry;cases x with
    | non=>cases rx;exact SeqAt.EqAt.same _
    | bl b=>cases rx;exact SeqAt.EqAt.none_bool b
    | int b=>obtain⟨t,rfl⟩:=rx;exact SeqAt.EqAt.none_int b t
    | str b=>obtain⟨t,rfl⟩:=rx;exact SeqAt.EqAt.none_str b t
    | _=>exact absurd (show false=true from fx) EY
  | bl a =>
    cases ry;cases x with
    | non=>cases rx;exact SeqAt.EqAt.bool_none a
    | bl b=>cases rx;exact SeqAt.EqAt.bool_bool a b
    | int b=>obtain⟨t,rfl⟩:=rx;exact SeqAt.EqAt.bool_int a b t
    | str b=>obtain⟨t,rfl⟩:=rx;exact SeqAt.EqAt.bool_str a b t
    | _=>exact absurd (show false=true from fx) EY
  | int a =>
    obtain⟨t',rfl⟩:=ry;cases x with
    | non=>cases rx;exact SeqAt.EqAt.int_none a t'
    | bl b=>cases rx;exact SeqAt.EqAt.int_bool a t' b
    | int b=>obtain⟨t,rfl⟩:=rx;exact SeqAt.EqAt.int_int a t' b t
    | str b=>obtain⟨t,rfl⟩:=rx;exact SeqAt.EqAt.int_str a t' b t
    | _=>exact absurd (show false=true from fx) EY
  | str a =>
    obtain⟨t',rfl⟩:=ry;cases x with
    | non=>cases rx;exact SeqAt.EqAt.str_none a t'
    | bl b=>cases rx;exact SeqAt.EqAt.str_bool a t' b
    | int b=>obtain⟨t,rfl⟩:=rx;exact SeqAt.EqAt.str_int a t' b t
    | str b=>obtain⟨t,rfl⟩:=rx;exact SeqAt.EqAt.str_str a t' b t
    | _=>exact absurd (show false=true from fx) EY
  | _=>exact absurd (show false=true from fy) EY
def eqU(x:V)(u:Value):Bool:=match u with
  | .none=>eqV .non x
  | .bool b=>eqV (.bl b) x
  | .int i _=>eqV (.int i) x
  | .str z _=>eqV (.str z) x
  | _=>false
theorem wj{x y:V}{u:Value}(r:RelV y u)(f:dX y=true):eqU x u=eqV y x:=by
  cases y with
  | non=>cases r;rfl
  | bl b=>cases r;rfl
  | int i=>obtain⟨t,rfl⟩:=r;rfl
  | str z=>obtain⟨t,rfl⟩:=r;rfl
  | _=>exact absurd (show false=true from f) EY
theorem jh{x:V}:∀ {xs:List V} {us:List Value},Vals xs us→xs.all dX=true→us.any (eqU x)=xs.any λy=>eqV y x
  | _,_,.nil,_=>rfl
  | y::xs,u::us,.cons r t,f=>by
    rw[List.all_cons,Gh]at f;rw[F9,F9,wj r f.1,jh t f.2]
theorem hV{A:Around}{s:Shared}{x:V}{v:Value}(rx:RelV x v)(fx:dX x=true):∀ {xs:List V} {us:List Value},Vals xs us→xs.all dX=true→∀ u∈us,SeqAt.EqAt A s u v (eqU x u)
  | _,_,.nil,_=>λu hu=>by cases hu
  | y::xs,u::us,.cons r t,f=>λu' hu=>by
    rw[List.all_cons,Gh]at f;rcases E8.mp hu with rfl|hu
    · rw[wj r f.1];exact pF r rx f.1 fx
    · exact hV rx fx t f.2 u' hu
def inV(x:V)(xs:List V):Bool:=xs.any λy=>eqV y x
def rIn(K:W.Frag)(neg:Bool):R2:=λx y H Q=>∃ p xs,y=.ref p∧(SqL K H p xs∨SqT K H p xs)∧dX x=true∧xs.all dX=true∧Q (.bl (if neg then !inV x xs else inV x xs)) H
theorem uo:OpR X (compareOp .In) (rIn X.K false):=by
  intro pins s σ H x y v u Q I rx ry h;obtain⟨p,xs,rfl,hq,fx,fs,q⟩:=h;cases ry;rcases hq with hq|hq
  · obtain⟨its,r,pl,hz⟩:=I.list hq
    refine SeqAt.in_listAt (eqU x) pl.isList (λw hw=>hV rx fx r fs w (by simpa using hw)) ⟨.bl _,H,I,rfl,?_⟩;rw[show its.toArray.any (eqU x)=its.any (eqU x) by simp,jh r fs];exact q
  · obtain⟨its,r,pl,hz⟩:=I.tuple hq
    refine SeqAt.in_tupleAt (eqU x) pl (λw hw=>hV rx fx r fs w (by simpa using hw)) ⟨.bl _,H,I,rfl,?_⟩;rw[show its.toArray.any (eqU x)=its.any (eqU x) by simp,jh r fs];exact q
theorem iU:OpR X (compareOp .NotIn) (rIn X.K true):=by
  intro pins s σ H x y v u Q I rx ry h;obtain⟨p,xs,rfl,hq,fx,fs,q⟩:=h;cases ry;rcases hq with hq|hq
  · obtain⟨its,r,pl,hz⟩:=I.list hq
    refine SeqAt.notIn_listAt (eqU x) pl.isList (λw hw=>hV rx fx r fs w (by simpa using hw)) ⟨.bl _,H,I,rfl,?_⟩;rw[show its.toArray.any (eqU x)=its.any (eqU x) by simp,jh r fs];exact q
  · obtain⟨its,r,pl,hz⟩:=I.tuple hq
    refine SeqAt.notIn_tupleAt (eqU x) pl (λw hw=>hV rx fx r fs w (by simpa using hw)) ⟨.bl _,H,I,rfl,?_⟩;rw[show its.toArray.any (eqU x)=its.any (eqU x) by simp,jh r fs];exact q
theorem aJ:jH X (.builtin "len") (λxs H Q=>∃ p ys,xs=[.ref p]∧(SqL X.K H p ys∨SqT X.K H p ys)∧Q (.int ys.length) H):=by
  intro pins s σ H xs us Q I r h;obtain⟨p,ys,rfl,hq,q⟩:=h;obtain⟨u,rfl,rx⟩:=vals1 r;cases rx;have hn:=pD;rcases hq with hq|hq
  · obtain⟨its,r',pl,hz⟩:=I.list hq
    have hlen:=r'.length;exact Calls.call_len_list pl.isList (by simp only[EZ]<;>omega) ⟨.int ys.length,H,I.tok _,⟨s.toks+1,by rw[EZ,hlen]⟩,q⟩
  · obtain⟨its,r',pl,hz⟩:=I.tuple hq
    have hlen:=r'.length;exact len_tuple pl (by simp only[EZ]<;>omega) ⟨.int ys.length,H,I.tok _,⟨s.toks+1,by rw[EZ,hlen]⟩,q⟩
theorem eS:jH X (.type "list") (λxs H Q=>∃ p ys,xs=[.ref p]∧(SqL X.K H p ys∨SqT X.K H p ys)∧∀ l,H l=none→Q (.ref l) (upd H l (.lst ys))):=by
  intro pins s σ H xs us Q I r h;obtain⟨p,ys,rfl,hq,q⟩:=h;obtain⟨u,rfl,rx⟩:=vals1 r;cases rx;have fin:∀(its:List Value),Vals ys its→ys.length≤sizeLine→∀(h':Heap) (c':Nat),(∀ b o',s.heap.get? b=some o'→h'.get? b=some o') →
      h'.get? s.heap.objs.size=some {cls:=.type "list",dict:=none,data:=.seq its.toArray c',slots:=#[]}→EP X pins σ Q (.ref s.heap.objs.size) {s with heap:=h'}:=λits r' hz h' c' kp e =>
    ⟨.ref s.heap.objs.size,_,I.laid (t':=s.toks) kp (EV _) (show bV X.prog X.w _ h' _ (.lst ys) from⟨hz,its,c',r',e⟩),rfl,q _ (I.hok.fresh (EV _))⟩
  rcases hq with hq|hq
  · obtain⟨its,r',pl,hz⟩:=I.list hq
    have hlen:=r'.length;obtain⟨o,ho,hc,n,hd⟩:=pl.isList;exact call_list_seq p (.inl rfl) ho hc hd (λh' c' kp e=>fin its r' hz h' c' kp e) (by simp only[EZ]<;>omega)
  · obtain⟨its,r',pl,hz⟩:=I.tuple hq
    have hlen:=r'.length;obtain⟨o,ho,hc,n,hd⟩:=pl;exact call_list_seq p (.inr rfl) ho hc hd (λh' c' kp e=>fin its r' hz h' c' kp e) (by simp only[EZ]<;>omega)
def tyV(K:W.Frag)(T:String)(x:V)(H:Hp):Prop:=match x with
  | .str _=>T = "str"
  | .int _=>T = "int"
  | .ref p=>(T = "list" ∧ ∃ xs,SqL K H p xs)∨(T = "tuple" ∧ ∃ o,K.lookup p=some o∧o.cls=.type "tuple" ∧ o.dict=none) ∨
      (T = "dict" ∧ ((∃ kvs,H p=some (.dK kvs))∨∃ kvs,H p=some (.dT kvs)))∨(T = "set" ∧ ∃ S n,H p=some (.set S n))
  | _=>False
theorem zE{pins:List (Addr×Obj)}{σ:St}{H:Hp}{s:Shared}{T:String}{x:V}{v:Value}(I:Inv X pins σ H s)(r:RelV x v)(ty:tyV X.K T x H) :
    s.TypeIs v T∧∀ a,v=.ref a→∃ ob,s.heap.get? a=some ob∧ob.dict=none:=by
  cases x with
  | str z =>
    obtain⟨t,rfl⟩:=r;cases (show T = "str" from ty);exact⟨typeIs_str s z t,λ_ e=>nomatch e⟩
  | int i =>
    obtain⟨t,rfl⟩:=r;cases (show T = "int" from ty);exact⟨typeIs_int s i t,λ_ e=>nomatch e⟩
  | ref p =>
    cases r;rcases ty with⟨rfl,xs,hq⟩|⟨rfl,o,hk,hc,hd⟩|⟨rfl,hk⟩|⟨rfl,S,n,hk⟩
    · obtain⟨its,_,pl,_⟩:=I.list hq
      refine⟨pl.isList.typeIs,λa e=>?_⟩;cases e;obtain⟨o,n,e,c,hd,_⟩:=pl;exact⟨o,e,hd⟩
    · refine⟨⟨o,I.kIn p o hk,hc⟩,λa e=>?_⟩
      cases e;exact⟨o,I.kIn _ o hk,hd⟩
    · have z:∃ o,s.heap.get? p=some o∧o.ExactDict:=by
        rcases hk with⟨kvs,hk⟩|⟨kvs,hk⟩
        · obtain⟨_,_,_,_,o,_,_,e,ex,_⟩:=I.hok p _ hk
          exact⟨o,e,ex⟩
        · obtain⟨_,_,_,_,o,_,_,e,ex,_⟩:=I.hok p _ hk
          exact⟨o,e,ex⟩
      obtain⟨o,e,ex⟩:=z;refine⟨⟨o,e,ex.1⟩,λa e2=>?_⟩;cases e2;exact⟨o,e,ex.2.1⟩
    · obtain⟨o,_,_,_,e,ex,_⟩:=I.hok p _ hk
      refine⟨⟨o,e,ex.1⟩,λa e2=>?_⟩;cases e2;exact⟨o,e,ex.2.1⟩
  | _=>exact False.elim ty
def tBM(K:W.Frag)(T:String)(r:V→List V→Hp→VK→Prop)(to:TE)(t:TA):TE:=λσ H Q=>to σ H λx H1=>tyV K T x H1∧t σ H1 λxs H2=>r x xs H2 Q
variable{o e:Expr}{es:List Expr}{to:TE}{t:TA}{name:Str}{apos tM:Pos}{T id:String}{r:V→List V→Hp→VK→Prop}
theorem kG(pa:PlainAttrs T)(slot:Slot T name id)(hty:typeOf (.builtin id)=pure (.type "method_descriptor"))(hm:MtR X id r)(ho:PE X o to)(ha:PA X (e::es) t)
    (BX:attributeBase o name X.env (eval o X.env)=eval o X.env:=by rfl)
    (D3:((backTo tM (starEach (e::es) X.env)).all (λx=>!x.1)&&(backToKw tM (keywordEach [] X.env)).all (λx=>x.1.isSome)
      && decide ((e::es).length+([]:List Keyword).length+(if([]:List Keyword).isEmpty then 0 else 1)<30))=true:=by rfl)
    (BY:(apos.endLine == tM.line)=true:=by rfl) (hs:starEach (e::es) X.env=(false,eval e X.env)::starEach es X.env:=by rfl) (zF:(backTo tM (starEach es X.env)).any (·.1)=false:=by rfl) :
    PE X (.Call (.Attribute o name apos) (e::es) [] tM) (tBM X.K T r to t):=by
  intro pins s σ H Q I h;refine wpAny_Call_method_late BX D3 BY rfl (thn (ho pins s σ H _ I h) λv s1 ⟨x,H1,I1,r1,ty,q1⟩=>?_);obtain⟨h1,h2⟩:=zE I1 r1 ty;refine⟨T,id,pa,slot,hty,h1,h2,?_⟩;have hA:=ha tM pins s1 σ H1 _ I1 q1;rw[hs]at hA ⊢;refine Calls.callWith_builtin (by show(false||(backTo tM (starEach es X.env)).any (·.1))=false;rw[zF]<;>rfl) (Calls.evalArgs_plain ?_);exact thn hA λus s2 ⟨vs,H2,I2,r2,q2⟩=>hm pins s2 σ H2 x vs v us Q I2 r1 r2 q2
end
end L2
namespace L2
open PySem PySem.Spec PyProof.Rows
def MtM(X:Cx)(id:String)(r:V→List V→Hp→VK→Prop):Prop :=
  ∀(pins:List (Addr×Obj)) (s:Shared) (σ:St) (H:Hp) (x:V) (xs:List V) (v:Value) (us:List Value) (Q:VK),Inv X pins σ H s→RelV x v→Vals xs us→r x xs H Q →
    wpAny (model X.prog X.w) X.A (call (.builtin id) (v::us)) (EP X pins σ Q) X.xe s
theorem Vals.one:∀ {x:V} {us:List Value},Vals [x] us→∃ u,us=[u]∧RelV x u
  | _,_,.cons r .nil=>⟨_,rfl,r⟩
theorem Vals.rep{xs:List V}{us:List Value}(h:Vals xs us):∀ k:Nat,Vals (List.replicate k xs).flatten (List.replicate k us).flatten
  | 0=>.nil
  | k+1=>by
    rw[FD,FD,F3,F3];exact Vals.append h (Vals.rep h k)
theorem foldl_rep(its:List Value):∀(k:Nat) (acc:List Value),
    List.foldl (λx1 x2=>x1++x2) acc.toArray (List.replicate k its.toArray)=(acc++(List.replicate k its).flatten).toArray
  | 0,acc=>by simp
  | k+1,acc=>by
    have e:acc.toArray++its.toArray=(acc++its).toArray:=(by simp);have e2:(acc++its)++(List.replicate k its).flatten=acc++(List.replicate (k+1) its).flatten:=by
      rw[FD,F3,Ge]
    rw[←e2,←foldl_rep its k (acc++its),←e,FD,List.foldl_cons]
section
variable{X:Cx}{pins:List (Addr×Obj)}{σ:St}{H:Hp}{s:Shared}{l b:Addr}{xs ys zs:List V}
theorem Inv.CL{its ng:List Value}{n:Nat}{f:Array Value→Array Value}{t':Nat}(I:Inv X pins σ H s)(hH:H l=some (.lst xs))
    (e:s.heap.get? l=some {cls:=.type "list",data:=.seq its.toArray n}) (hf:f its.toArray=ng.toArray) (hv:Vals ys ng) (hz:ys.length≤sizeLine) :
    Inv X pins σ (upd H l (.lst ys)) {s with heap:=s.heap.update l (Obj.mapSeq f),toks:=t'}:=by
  have q:=PySem.IsL.update e f;rw[hf]at q;refine I.write (x:=l) (e:=l) (by rw[hH];exact trivial) (.inl rfl) (λb' u hb hu=>(Fy s.heap (Obj.mapSeq f) (FC hb)).trans hu) ⟨_,q⟩ ?_;exact⟨hz,ng,_,hv,q⟩
theorem Inv.yw{its:List Value}{t':Nat}(I:Inv X pins σ H s)(hv:Vals ys its)(hz:ys.length≤sizeLine) :
    Inv X pins σ (upd H s.heap.objs.size (.lst ys)) {s with heap:=s.heap.push {cls:=.type "list",data:=.seq its.toArray},toks:=t'} :=
  I.laid (λ_ _ q=>ES _ q) (EV _) ⟨hz,its,0,hv,Ff _ rfl⟩
theorem Inv.fresh(I:Inv X pins σ H s):H s.heap.objs.size=none:=I.hok.fresh (EV _)
theorem Inv.yx(I:Inv X pins σ H s)(hH:H l=some (.lst xs)):xs.length≤sizeLine∧∃(its:List Value) (n:Nat),Vals xs its∧xs.length=its.length∧s.heap.get? l=some {cls:=.type "list",data:=.seq its.toArray n}:=by
  obtain⟨z,its,n,r,e⟩:=I.hok l _ hH;exact⟨z,its,n,r,r.length,e⟩
theorem qD{n:Nat}(h:n≤sizeLine):Builtin.List.listTooLong n=false:=by
  unfold Builtin.List.listTooLong;exact decide_eq_false (by omega)
end
section
variable{X:Cx}
def xJ:V→List V→Hp→VK→Prop:=λx vs H Q=>∃ l xs y,x=.ref l∧vs=[y]∧H l=some (.lst xs)∧xs.length<sizeLine∧Q .non (upd H l (.lst (xs++[y])))
theorem dF:MtM X "list.append" xJ:=by
  intro pins s σ H x vs v us Q I rx rv h;obtain⟨l,xs,y,rfl,rfl,hH,hz,q⟩:=h;cases rx;obtain⟨u,rfl,ru⟩:=rv.one;obtain⟨z,its,n,r,hl,e⟩:=I.yx hH;refine call_meets F.slot_list_append ⟨_,e,rfl⟩ F.entry_list_append (F.args_list_append_2 _ _) (PySem.list_append l its.toArray n u (by rw[EZ];omega)) ⟨e,?_⟩;refine⟨.non,_,I.CL (ng:=its++[u]) hH e (by simp) (r.append (.cons ru .nil)) ?_,rfl,q⟩;rw[E5,FE];omega
def xK:V→List V→Hp→VK→Prop:=λx vs H Q=>∃ l b xs zs,x=.ref l∧vs=[.ref b]∧H l=some (.lst xs)∧H b=some (.lst zs)∧xs.length+zs.length≤sizeLine∧Q .non (upd H l (.lst (xs++zs)))
theorem uq:MtM X "list.extend" xK:=by
  intro pins s σ H x vs v us Q I rx rv h;obtain⟨l,b,xs,zs,rfl,rfl,hH,hB,hz,q⟩:=h;cases rx;obtain⟨u,rfl,ru⟩:=rv.one;cases ru;obtain⟨z,its,n,r,hl,e⟩:=I.yx hH;obtain⟨z2,yy,n2,r2,hl2,e2⟩:=I.yx hB;have hsz:its.toArray.size+yy.toArray.size≤sizeLine:=by rw[EZ,EZ];omega
  have xg:¬(!its.toArray.isEmpty&&Builtin.List.listTooLong (its.toArray.size+yy.toArray.size))=true:=by
    rw[qD hsz,FY];exact EY
  refine call_meets F.slot_list_extend ⟨_,e,rfl⟩ F.entry_list_extend (F.args_list_extend_2 _ _)
    (AutoSeq1.list_extend_list_list_0 l its.toArray n b yy.toArray n2 xg (by rw[EZ];omega) (by omega)) ⟨e,e2,?_⟩
  refine⟨.non,_,I.CL (ng:=its++yy) hH e (by simp) (r.append r2) ?_,rfl,q⟩;rw[E5];omega
def D4:R2:=λx y H Q=>∃ l k xs,x=.ref l∧y=.int k∧H l=some (.lst xs)∧-(2 ^ 63)≤k∧k<2 ^ 63∧xs.length*k.toNat≤sizeLine ∧
  ∀ p,H p=none→Q (.ref p) (upd H p (.lst (List.replicate k.toNat xs).flatten))
theorem len_rep{α:Type}(xs:List α)(k:Nat):(List.replicate k xs).flatten.length=k*xs.length:=by
  induction k with
  | zero=>simp
  | succ k ih=>rw[FD,F3,E5,ih,Nat.succ_mul,Nat.add_comm]
theorem zG:OpR X (binaryOp .Mult) D4:=by
  intro pins s σ H x y v u Q I rx ry h;obtain⟨l,k,xs,rfl,rfl,hH,h1,h2,hz,q⟩:=h;cases rx;obtain⟨t,rfl⟩:=ry;obtain⟨z,its,n,r,hl,e⟩:=I.yx hH;have hlen:its.toArray.size*k.toNat≤sizeLine:=by rw[EZ,←hl];exact hz
  have D5:¬its.toArray.size*k.toNat>(2 ^ 63-1)/8:=by
    have:(sizeLine:Nat)≤(2 ^ 63-1)/8:=by decide
    omega
  have D6:¬(!Builtin.List.listFitsIndex k)=true:=by
    rw[fitsIndex_both h1 h2];exact EY
  have xg:¬Builtin.List.listTooLong (its.toArray.size*k.toNat)=true:=by
    rw[qD hlen];exact EY
  have yz:List.foldl (λx1 x2=>x1++x2) #[] (List.replicate (if its.toArray.isEmpty=true then 0 else k.toNat) its.toArray)=(List.replicate k.toNat its).flatten.toArray:=by
    have f0:∀ m:Nat,List.foldl (λx1 x2=>x1++x2) #[] (List.replicate m its.toArray)=(List.replicate m its).flatten.toArray:=λm=>by
      have:=foldl_rep its m []
      rw[List.nil_append]at this;exact this
    rw[f0];cases its with
    | nil=>simp
    | cons a r'=>rw[if_neg (by simp)]
  refine wpAny_binaryOp_repeat_ref (T := "list") (U := "int") (by decide) ⟨_,e,rfl⟩ (λs'=>typeIs_int s' k t) noFill_list_mul F.fills_int_mul F.slot_int_rmul repeat_list F.slot_int_index.lookup
    (call_meets F.slot_int_rmul (typeIs_int s k t) F.entry_int_rmul (F.args_int_rmul_2 _ _) (int___rmul___int_list k t l its.toArray n)
      ⟨e,rfl,⟨_,e,rfl⟩,call_meets F.slot_list_mul ⟨_,e,rfl⟩ F.entry_list_mul (F.args_list_mul_2 _ _) (AutoListH.list___mul___list_int_3 l its.toArray n k t D6 D5 xg) ⟨e,?_⟩⟩)
  rw[yz];exact⟨.ref _,_,I.yw (t':=s.toks) (r.rep k.toNat) (by rw[len_rep,Nat.mul_comm];exact hz),rfl,q _ I.fresh⟩
end
section
variable{prog:Program}{w:World}{A:Around}{E:Value→Shared→Prop}{s:Shared}
end
section
variable{X:Cx}
end
end L2
namespace Att
open PySem PySem.W PySem.Calls PyProof.Rows
theorem jI{P:Params}{h:Heap}:∀(ns:List Int) (vs:List Value),WellAll P h vs (ns.map WData.int)→IntsAre vs ns:=by
  intro ns;induction ns with
  | nil =>
    intro vs w;rw[List.map_nil]at w;cases w;exact .nil
  | cons n ns ih =>
    intro vs w;rw[Fl]at w;cases w with
    | cons a b =>
      cases a;exact .cons _ _ (ih _ b)
theorem ur{l:OpenLaw}{n:Nat}(hn:l.most=some n){P:Params}{h:Heap}{args:List WData}{vals:List Value}
    (yA:l.row.toRowW.claim.pre args=true) (hwl:WellAll P h vals args) :
    ∃ a vs ns,vals=[Value.ref a]∧args=[WData.list (ns.map WData.int)]∧h.get? a=some {cls:=.type "list",data:=.seq vs.toArray}∧IntsAre vs ns∧ns.length≤n:=by
  have hsh:WShape.hasAll [] args [.list .int]=true:=(pre_splitW yA).1;have hc:l.pre.holds [] {args:=args}=true:=(pre_splitW yA).2;obtain⟨d,r,rfl,h1,h2⟩:=hasAllW_cons hsh;obtain rfl:=hasAllW_nil h2;obtain⟨xs,rfl,h3⟩:=hasW_list h1;obtain⟨ns,rfl⟩:=items_int h3;have hlen:ns.length≤n:=by
    unfold OpenLaw.pre at hc;have h4:(WTm.not (.lt (.lit (.int (n:Int))) (.len (.arg 0)))).holds [] {args:=[.list (ns.map .int)]}=true:=by
      have h4:=(holds_andW hc).1;rw[hn]at h4;exact h4
    have h5:=condW_of h4 (w_not (w_lt w_lit (w_len_list (w_arg rfl))));rw[EU]at h5;refine Nat.le_of_not_lt λq=>?_;have q':(n:Int)<((ns.length:Nat):Int):=by omega
    first
      | (rw[decide_eq_true q']at h5;exact absurd h5 (by decide))
      | (simp at h5;omega)
  cases hwl with
  | cons w1 w2 =>
    cases w2;cases w1 with
    | list ho hall=>exact⟨_,_,ns,rfl,rfl,ho,jI ns _ hall,hlen⟩
theorem uu(l:OpenLaw)(args:List WData):l.row.toRowW.claim.post args (.bool true) args=true :=
  postW_of (r:=l.row.toRowW) (X:=(true == true))
    (show WShape.has [] (.bool true) .bool=true by first|rfl|decide|simp[WShape.has,WShape.arms,WShape.armsAll])
    (show(WTm.eq .res (.lit (.bool true))).value [] {args:=args,res:=some (.bool true),after:=args}=some (.bool (true == true)) from w_eq_bool (w_res rfl) w_lit) rfl
theorem pS{l:OpenLaw}{n:Nat}{q:Program}{loose:List Str}{XP:(Str→Option Value)→Heap→Prop}{YP:World→Heap→Prop}{d:DefRec}
    (hn:l.most=some n) (hdf:d.params.defaults=[])
    (call:∀(w:World) (s₀ s₁:Shared) (mg mb:Str→Option Value) (fa:Addr) (o:Obj) (pm cd doc:Value) (a:Addr) (vs:List Value) (ns:List Int),
      Ground q loose [] XP w s₀ mg mb s₁.heap→YP w s₁.heap →
      s₁.heap.get? fa=some o→o.data=.func (docDef d.name d.params d.body d.scope pm cd doc)→s₁.heap.CodeRec cd d.name→mg d.name=some (.ref fa) →
      s₁.heap.get? a=some {cls:=.type "list",data:=.seq vs.toArray}→IntsAre vs ns→ns.length≤n→s₁.gens=#[] →
      codeAny (model l.prog w) callerA (.call (.ref fa) ⟨[.ref a],[]⟩) (λr s'=>r=.ok (.ret (.bool true))∧OldK s₁.heap s'.heap∧s'.os=s₁.os∧AllBare s'.gens) s₁) :
    WalkO q loose XP YP l.row.toRowW d [] (λf vs=>PySem.call f vs):=by
  intro w s₀ s₁ mg mb G Y fa o pm cd doc dV kV ho hd hcd hD hmg hg args vals as yA hlay hrd hwl hlo;obtain rfl:dV=.none:=Dflts.none hD hdf;obtain rfl:kV=.none:=Dflts.noKw hD;obtain⟨a,vs,ns,rfl,rfl,Am,hints,hlen⟩:=ur hn yA hwl;refine enter_call (codeAny_mono (call w s₀ s₁ mg mb fa o pm cd doc a vs ns G Y ho (fd_plain hd) hcd hmg Am hints hlen hg) λr s' hq=>?_);obtain⟨rfl,h2,h3,h4⟩:=hq;exact⟨.inl ⟨.bool true,.bool true,[],rfl,λ_=>rfl,.bool true,uu l _,λ_=>⟨List.Pairwise.nil,λ_ hm=>(nomatch hm)⟩⟩,h2,h3,h4⟩
section
variable{prog:Program}{w:World}{A:Around}{E:Value→Shared→Prop}{s:Shared}{K:Frag}
end
end Att
namespace L2
open PySem PySem.Spec PyProof.Rows
theorem nz:∀ {vs:List Value} {ns:List Int},IntsAre vs ns→Vals (ns.map V.int) vs
  | _,_,.nil=>.nil
  | _,_,.cons n t h=>.cons ⟨t,rfl⟩ (nz h)
end L2
namespace L2
open PySem PySem.Spec PyProof.Rows
end L2
namespace L2
open PySem PySem.Spec PyProof.Rows
def inClass(s:Stmt)(j:Nat):Stmt:=match s with
  | .ClassDef _ _ _ body _ _ _ _ _ _ _=>body.getD j (.Pass ⟨0,0,0,0⟩)
  | _=>.Pass ⟨0,0,0,0⟩
def f7(s:Stmt):Arguments:=match s with
  | .FunctionDef _ a _ _ _ _ _ _ _ _=>a
  | _=>{posonlyargs:=[],args:=[],vararg:=none,kwonlyargs:=[],kw_defaults:=[],kwarg:=none,defaults:=[]}
def eL(s:Stmt):List Stmt:=match s with
  | .FunctionDef _ _ b _ _ _ _ _ _ _=>b
  | _=>[]
def aj(s:Stmt):Scope:=match s with
  | .FunctionDef _ _ _ _ _ _ sc _ _ _=>sc
  | _=>{kind:=.function,names:=[],isGenerator:=false,isCoroutine:=false}
structure Fun(K:W.Frag)(x qual:Str)(st:Stmt)(f:Addr)(fd:FuncData):Prop where
  ex:∃(oc:Value) (od:Option Addr) (kV doc pm:Value) (an:Option Addr) (cdv ct:Value) (osl:Array (Option Value)),
    fd=PySem.W.fnOf x qual (f7 st) (eL st) (aj st) .none kV doc pm an cdv ct∧K.lookup f=some ⟨oc,od,.func fd,osl⟩∧PySem.W.codeIn K cdv qual=true
  kp:PySem.W.keepIn K (.ref f)=true
section
variable{P:Program}{w:World}{K:W.Frag}{mg:Str→Option Value}{base:Heap}
theorem Fun.binds{x qual:Str}{st:Stmt}{f:Addr}{fd:FuncData}{ps:List Str}(F:Fun K x qual st f fd)
    (h:∀(kV doc pm:Value) (an:Option Addr) (cdv ct:Value) (us:List Value),us.length=ps.length→bindArgs (PySem.W.fnOf x qual (f7 st) (eL st) (aj st) .none kV doc pm an cdv ct) ⟨us,[]⟩=pure (ps.zip us)):Binds K fd ps []:=by
  obtain⟨oc,od,kV,doc,pm,an,cdv,ct,osl,rfl,lk,hcd⟩:=F.ex;exact .all (h kV doc pm an cdv ct)
theorem wm{x qual:Str}{st:Stmt}{f:Addr}{oc:Value}{od an:Option Addr}{osl:Array (Option Value)}{kV doc pm cdv ct:Value}(l:K.lookup f=some ⟨oc,od,.func (PySem.W.fnOf x qual (f7 st) (eL st) (aj st) .none kV doc pm an cdv ct),osl⟩)
    (c:PySem.W.codeIn K cdv qual=true) (k:PySem.W.keepIn K (.ref f)=true):Fun K x qual st f (PySem.W.fnOf x qual (f7 st) (eL st) (aj st) .none kV doc pm an cdv ct):=⟨⟨oc,od,kV,doc,pm,an,cdv,ct,osl,rfl,l,c⟩,k⟩
end
theorem iH{A:Around}{k:Nat}(hr:eQ k A):A.units+1<cLine:=Ga (Gr (by decide:1≤64) _) hr.units
section
variable{X:Cx}
theorem pv(i:Nat){x:Str}{pos:Pos}(hN:X.N[i]?=some x:=by rfl)(hv:Vis X.env.scope x:=by first|exact Or.inl rfl|exact Or.inr (Or.inl rfl)|exact Or.inr (Or.inr rfl))(hd:(x == ("__debug__" : Str))=false:=by decide)
    (hcd:(x == ("__classdict__" : Str))=false:=by decide):PE X (.Name x pos) (CA i):=zm hN hv hd hcd
end
theorem yB{A B:Prop}(h:B):if false=true then A else B:=by
  rw[if_neg EY];exact h
theorem vf{A B:Prop}(h:A):if true=true then A else B:=by
  rw[if_pos rfl];exact h
theorem kH{c A B:Prop}[Decidable c](h1:c→A)(h2:¬c→B):if c then A else B:=by
  by_cases h:c
  · rw[if_pos h]
    exact h1 h
  · rw[if_neg h]
    exact h2 h
def ao(H H':Hp):Prop:=∀ b o,H b=some o→H' b=some o
theorem ao.refl(H:Hp):ao H H:=λ_ _ h=>h
theorem ao.trans{H H1 H2:Hp}(a:ao H H1)(b:ao H1 H2):ao H H2:=λc o h=>b c o (a c o h)
end L2
end
section
namespace K40
open PySem PySem.W L2 PySem.PyData
def top(i:Nat):Stmt:=PySem.Challenge.pw_stillheap_k40_copies_laid.main.body.getD i (.Pass ⟨0,0,0,0⟩)
section
abbrev OO:=Params→Obj
def oF(n q:Str)(s:Stmt)(m:Value)(r:Addr):Obj:=⟨.type "function",none,.func (fnOf n q (f7 s) (eL s) (aj s) .none .none .none m none (.ref r) .none),#[]⟩
def oG(n q:Str)(s:Stmt):Obj:=⟨.none,none,.func ⟨n,q,f7 s,.stmts (eL s),aj s,0,[],.none,.none,.none,.none,none,.none,.none,0⟩,#[]⟩
def oT(l:List Value):Obj:=⟨.type "tuple",none,.seq (List.toArray l) 0,#[]⟩
def kE(P:Params)(x:Str)(n:Tok)(v:Value):DictEntry:=⟨keyHash P x,.str x n,v⟩
def oC(n:Str)(t:Tok)(q:Str)(l a b c d:Int)(r:Addr)(e:Int)(f g h i:Addr)(z:Int)(u:Tok):Obj:=⟨.type "code",none,.fields (List.toArray [.str n t,.str q (t+1),.str "/claim/cut.py" (t+2),.int l 0,.int a 0,.int b 0,.int c 0,.int d 0,.ref r,.bool true,.int e 0,.ref f,.none,.ref g,.ref h,.ref i,.int z 0,.int l 0,.str "/claim/cut.py" u]),#[]⟩
def spl:List (Params→Obj)→List (Params→Obj)×List (Params→Obj)
 | []=>([],[])
 | [a]=>([a],[])
 | a::b::r=>(a::(spl r).1,b::(spl r).2)
def mkT(P:Params):Nat→List (Params→Obj)→BT
 | 0,_=>.nil
 | _+1,[]=>.nil
 | n+1,x::r=>.node (x P) (mkT P n (spl r).1) (mkT P n (spl r).2)
noncomputable def o0:OO:=λP=>⟨(.type "dict"),none,(.dict (List.toArray [kE P "__name__" 1 (.str "builtins" 160),kE P "__doc__" 2 (.builtin "builtins.__doc__:str#opaque"),kE P "__package__" 3 (.builtin "builtins.__package__:str#opaque"),kE P "__loader__" 4 (.builtin "builtins.__loader__:shared#opaque"),kE P "__spec__" 5 (.builtin "builtins.__spec__#opaque"),kE P "__build_class__" 6 (.builtin "__build_class__"),kE P "__import__" 7 (.builtin "__import__"),kE P "abs" 8 (.builtin "abs"),kE P "all" 9 (.builtin "all"),kE P "any" 10 (.builtin "any"),kE P "ascii" 11 (.builtin "ascii"),kE P "bin" 12 (.builtin "bin"),kE P "breakpoint" 13 (.builtin "breakpoint"),kE P "callable" 14 (.builtin "callable"),kE P "chr" 15 (.builtin "chr"),kE P "compile" 16 (.builtin "compile"),kE P "delattr" 17 (.builtin "delattr"),kE P "dir" 18 (.builtin "dir"),kE P "divmod" 19 (.builtin "divmod"),kE P "eval" 20 (.builtin "eval"),kE P "exec" 21 (.builtin "exec"),kE P "format" 22 (.builtin "format"),kE P "getattr" 23 (.builtin "getattr"),kE P "globals" 24 (.builtin "globals"),kE P "hasattr" 25 (.builtin "hasattr"),kE P "hash" 26 (.builtin "hash"),kE P "hex" 27 (.builtin "hex"),kE P "id" 28 (.builtin "id"),kE P "input" 29 (.builtin "input"),kE P "isinstance" 30 (.builtin "isinstance"),kE P "issubclass" 31 (.builtin "issubclass"),kE P "iter" 32 (.builtin "iter"),kE P "aiter" 33 (.builtin "aiter"),kE P "len" 34 (.builtin "len"),kE P "locals" 35 (.builtin "locals"),kE P "max" 36 (.builtin "max"),kE P "min" 37 (.builtin "min"),kE P "next" 38 (.builtin "next"),kE P "anext" 39 (.builtin "anext"),kE P "oct" 40 (.builtin "oct"),kE P "ord" 41 (.builtin "ord"),kE P "pow" 42 (.builtin "pow"),kE P "print" 43 (.builtin "print"),kE P "repr" 44 (.builtin "repr"),kE P "round" 45 (.builtin "round"),kE P "setattr" 46 (.builtin "setattr"),kE P "sorted" 47 (.builtin "sorted"),kE P "sum" 48 (.builtin "sum"),kE P "vars" 49 (.builtin "vars"),kE P "None" 50 .none,kE P "Ellipsis" 51 .ellipsis,kE P "NotImplemented" 52 .notImplemented,kE P "False" 53 (.bool false),kE P "True" 54 (.bool true),kE P "bool" 55 (.type "bool"),kE P "memoryview" 56 (.type "memoryview"),kE P "bytearray" 57 (.type "bytearray"),kE P "bytes" 58 (.type "bytes"),kE P "classmethod" 59 (.type "classmethod"),kE P "complex" 60 (.type "complex"),kE P "dict" 61 (.type "dict"),kE P "enumerate" 62 (.type "enumerate"),kE P "filter" 63 (.type "filter"),kE P "float" 64 (.type "float"),kE P "frozenset" 65 (.type "frozenset"),kE P "property" 66 (.type "property"),kE P "int" 67 (.type "int"),kE P "list" 68 (.type "list"),kE P "map" 69 (.type "map"),kE P "object" 70 (.type "object"),kE P "range" 71 (.type "range"),kE P "reversed" 72 (.type "reversed"),kE P "set" 73 (.type "set"),kE P "slice" 74 (.type "slice"),kE P "staticmethod" 75 (.type "staticmethod"),kE P "str" 76 (.type "str"),kE P "super" 77 (.type "super"),kE P "tuple" 78 (.type "tuple"),kE P "type" 79 (.type "type"),kE P "zip" 80 (.type "zip"),kE P "__debug__" 81 (.bool true),kE P "BaseException" 82 (.type "BaseException"),kE P "BaseExceptionGroup" 83 (.type "BaseExceptionGroup"),kE P "Exception" 84 (.type "Exception"),kE P "GeneratorExit" 85 (.type "GeneratorExit"),kE P "KeyboardInterrupt" 86 (.type "KeyboardInterrupt"),kE P "SystemExit" 87 (.type "SystemExit"),kE P "ArithmeticError" 88 (.type "ArithmeticError"),kE P "AssertionError" 89 (.type "AssertionError"),kE P "AttributeError" 90 (.type "AttributeError"),kE P "BufferError" 91 (.type "BufferError"),kE P "EOFError" 92 (.type "EOFError"),kE P "ImportError" 93 (.type "ImportError"),kE P "LookupError" 94 (.type "LookupError"),kE P "MemoryError" 95 (.type "MemoryError"),kE P "NameError" 96 (.type "NameError"),kE P "OSError" 97 (.type "OSError"),kE P "ReferenceError" 98 (.type "ReferenceError"),kE P "RuntimeError" 99 (.type "RuntimeError"),kE P "StopAsyncIteration" 100 (.type "StopAsyncIteration"),kE P "StopIteration" 101 (.type "StopIteration"),kE P "SyntaxError" 102 (.type "SyntaxError"),kE P "SystemError" 103 (.type "SystemError"),kE P "TypeError" 104 (.type "TypeError"),kE P "ValueError" 105 (.type "ValueError"),kE P "Warning" 106 (.type "Warning"),kE P "FloatingPointError" 107 (.type "FloatingPointError"),kE P "OverflowError" 108 (.type "OverflowError"),kE P "ZeroDivisionError" 109 (.type "ZeroDivisionError"),kE P "BytesWarning" 110 (.type "BytesWarning"),kE P "DeprecationWarning" 111 (.type "DeprecationWarning"),kE P "EncodingWarning" 112 (.type "EncodingWarning"),kE P "FutureWarning" 113 (.type "FutureWarning"),kE P "ImportWarning" 114 (.type "ImportWarning"),kE P "PendingDeprecationWarning" 115 (.type "PendingDeprecationWarning"),kE P "ResourceWarning" 116 (.type "ResourceWarning"),kE P "RuntimeWarning" 117 (.type "RuntimeWarning"),kE P "SyntaxWarning" 118 (.type "SyntaxWarning"),kE P "UnicodeWarning" 119 (.type "UnicodeWarning"),kE P "UserWarning" 120 (.type "UserWarning"),kE P "BlockingIOError" 121 (.type "BlockingIOError"),kE P "ChildProcessError" 122 (.type "ChildProcessError"),kE P "ConnectionError" 123 (.type "ConnectionError"),kE P "FileExistsError" 124 (.type "FileExistsError"),kE P "FileNotFoundError" 125 (.type "FileNotFoundError"),kE P "InterruptedError" 126 (.type "InterruptedError"),kE P "IsADirectoryError" 127 (.type "IsADirectoryError"),kE P "NotADirectoryError" 128 (.type "NotADirectoryError"),kE P "PermissionError" 129 (.type "PermissionError"),kE P "ProcessLookupError" 130 (.type "ProcessLookupError"),kE P "TimeoutError" 131 (.type "TimeoutError"),kE P "IndentationError" 132 (.type "IndentationError"),kE P "_IncompleteInputError" 133 (.type "_IncompleteInputError"),kE P "IndexError" 134 (.type "IndexError"),kE P "KeyError" 135 (.type "KeyError"),kE P "ModuleNotFoundError" 136 (.type "ModuleNotFoundError"),kE P "NotImplementedError" 137 (.type "NotImplementedError"),kE P "PythonFinalizationError" 138 (.type "PythonFinalizationError"),kE P "RecursionError" 139 (.type "RecursionError"),kE P "UnboundLocalError" 140 (.type "UnboundLocalError"),kE P "UnicodeError" 141 (.type "UnicodeError"),kE P "BrokenPipeError" 142 (.type "BrokenPipeError"),kE P "ConnectionAbortedError" 143 (.type "ConnectionAbortedError"),kE P "ConnectionRefusedError" 144 (.type "ConnectionRefusedError"),kE P "ConnectionResetError" 145 (.type "ConnectionResetError"),kE P "TabError" 146 (.type "TabError"),kE P "UnicodeDecodeError" 147 (.type "UnicodeDecodeError"),kE P "UnicodeEncodeError" 148 (.type "UnicodeEncodeError"),kE P "UnicodeTranslateError" 149 (.type "UnicodeTranslateError"),kE P "ExceptionGroup" 150 (.type "ExceptionGroup"),kE P "EnvironmentError" 151 (.type "OSError"),kE P "IOError" 152 (.type "OSError"),kE P "open" 153 (.builtin "open"),kE P "quit" 154 (.builtin "builtins.quit#opaque"),kE P "exit" 155 (.builtin "builtins.exit#opaque"),kE P "copyright" 156 (.builtin "builtins.copyright#opaque"),kE P "credits" 157 (.builtin "builtins.credits#opaque"),kE P "license" 158 (.builtin "builtins.license#opaque"),kE P "help" 159 (.builtin "builtins.help#opaque")]) 159),#[]⟩
noncomputable def o1:OO:=λP=>⟨(.type "dict"),none,(.dict (List.toArray [kE P "builtins" 162 (.ref 4),kE P "__main__" 163 (.ref 5)]) 2),#[]⟩
noncomputable def o2:OO:=λ_=>⟨.none,none,(.dict #[] 0),#[]⟩
noncomputable def o3:OO:=λP=>⟨(.type "dict"),none,(.dict (List.toArray [kE P "__name__" 165 (.str "__main__" 164),kE P "__doc__" 166 .none,kE P "__package__" 167 .none,kE P "__loader__" 168 (.builtin "__main__.__loader__#opaque"),kE P "__spec__" 169 .none,kE P "__annotations__" 170 (.ref 6),kE P "__builtins__" 171 (.ref 4),kE P "__file__" 173 (.str "/claim/cut.py" 172),kE P "__cached__" 174 .none]) 9),#[]⟩
noncomputable def o4:OO:=λ_=>⟨(.type "module"),(.some 0),.plain,#[]⟩
noncomputable def o5:OO:=λ_=>⟨(.type "module"),(.some 3),.plain,#[]⟩
noncomputable def o6:OO:=λ_=>⟨(.type "dict"),none,(.dict #[] 0),#[]⟩
noncomputable def o7:OO:=λ_=>⟨(.type "tuple"),none,(.seq #[] 0),#[]⟩
noncomputable def o8:OO:=λ_=>⟨.none,none,(.fields #[]),#[]⟩
noncomputable def o9:OO:=λ_=>⟨(.type "code"),none,(.fields (List.toArray [(.str "<module>" 176),(.str "<module>" 177),(.str "/claim/cut.py" 178),(.int 1 0),(.int 0 0),(.int 0 0),(.int 0 0),(.int 0 0),(.ref 7),(.bool false),(.int 175 0),(.ref 8),.none,.none,.none,.none,(.int 179 0),(.int 1 0),(.str "/claim/cut.py" 180)])),#[]⟩
noncomputable def o10:OO:=λ_=>⟨(.type "frame"),none,.plain,(List.toArray [(.some (.ref 9)),(.some (.ref 3)),(.some (.ref 3)),none,(.some (.str "__main__" 164)),none,(.some (.ref 0))])⟩
noncomputable def o11:OO:=λ_=>⟨(.type "code"),none,(.fields (List.toArray [(.str "<module>" 182),(.str "<module>" 183),(.str "/claim/cut.py" 184),(.int 1 0),(.int 0 0),(.int 0 0),(.int 0 0),(.int 0 0),(.ref 11),(.bool false),(.int 181 0),(.ref 12),.none,.none,.none,.none,(.int 185 0),(.int 1 0),(.str "/claim/cut.py" 186)])),#[]⟩
noncomputable def o12:OO:=λ_=>⟨(.type "frame"),none,.plain,(List.toArray [(.some (.ref 13)),(.some (.ref 3)),(.some (.ref 3)),none,(.some (.str "__main__" 164)),none,(.some (.ref 0))])⟩
noncomputable def o13:OO:=λP=>⟨(.type "dict"),none,(.dict (List.toArray [kE P "__name__" 165 (.str "law_stillheap_k40_copies_laid" 462),kE P "__doc__" 166 .none,kE P "__package__" 167 .none,kE P "__loader__" 168 (.builtin "__main__.__loader__#opaque"),kE P "__spec__" 169 .none,kE P "__annotations__" 170 (.ref 6),kE P "__builtins__" 171 (.ref 4),kE P "__file__" 173 (.str "/claim/cut.py" 172),kE P "__cached__" 174 .none,kE P "_wall" 193 (.ref 21),kE P "HeapError" 228 (.ref 45),kE P "NoRoom" 251 (.ref 65),kE P "BadAddress" 274 (.ref 84),kE P "kind_of" 283 (.ref 93),kE P "lay" 297 (.ref 100),kE P "thing_at" 303 (.ref 105),kE P "fields_at" 311 (.ref 112),kE P "fields_told" 321 (.ref 119),kE P "look_at_room" 330 (.ref 126),kE P "copied" 338 (.ref 131),kE P "copied_words" 346 (.ref 138),kE P "things_met" 358 (.ref 145),kE P "address_told" 365 (.ref 152),kE P "words_among" 371 (.ref 157),kE P "places_from" 382 (.ref 164),kE P "told_anew" 391 (.ref 171),kE P "Memory" 461 (.ref 223),kE P "_law_cell" 471 (.ref 234),kE P "_law_digits" 482 (.ref 241),kE P "_law_stream" 488 (.ref 246),kE P "_law_word_by" 496 (.ref 253),kE P "_law_built" 502 (.ref 258),kE P "_law_memory" 516 (.ref 265),kE P "_law_words" 522 (.ref 270),kE P "_law_met" 538 (.ref 277),kE P "_law_pairs" 552 (.ref 284),kE P "_law_anew" 560 (.ref 291),kE P "_law_due" 566 (.ref 296),kE P "law" 572 (.ref 301)]) 39),#[]⟩
noncomputable def o14:OO:=λ_=>⟨.none,none,(.fields (List.toArray [(.int 1 0),(.int 0 0),(.ref 20),(.int 5 0),(.int 0 0),(.ref 27),(.int 12 0),(.int 0 0),(.ref 54),(.int 16 0),(.int 0 0),(.ref 73),(.int 21 0),(.int 0 0),(.ref 92),(.int 24 0),(.int 0 0),(.ref 99),(.int 29 0),(.int 0 0),(.ref 104),(.int 32 0),(.int 0 0),(.ref 111),(.int 34 0),(.int 0 0),(.ref 118),(.int 40 0),(.int 0 0),(.ref 125),(.int 44 0),(.int 0 0),(.ref 130),(.int 55 0),(.int 0 0),(.ref 137),(.int 57 0),(.int 0 0),(.ref 144),(.int 68 0),(.int 0 0),(.ref 151),(.int 74 0),(.int 0 0),(.ref 156),(.int 76 0),(.int 0 0),(.ref 163),(.int 83 0),(.int 0 0),(.ref 170),(.int 87 0),(.int 0 0),(.ref 177),(.int 110 0),(.int 0 0),(.ref 233),(.int 114 0),(.int 0 0),(.ref 240),(.int 126 0),(.int 0 0),(.ref 245),(.int 133 0),(.int 0 0),(.ref 252),(.int 139 0),(.int 0 0),(.ref 257),(.int 157 0),(.int 0 0),(.ref 264),(.int 164 0),(.int 0 0),(.ref 269),(.int 166 0),(.int 0 0),(.ref 276),(.int 182 0),(.int 0 0),(.ref 283),(.int 191 0),(.int 0 0),(.ref 290),(.int 195 0),(.int 0 0),(.ref 295),(.int 204 0),(.int 0 0),(.ref 300)])),#[]⟩
noncomputable def o15:OO:=λ_=>oT [(.str "k" 190)]
noncomputable def o16:OO:=λ_=>oG "_wall" "_wall" (top 0)
noncomputable def o17:OO:=λ_=>oC "_wall" 187 "_wall" 1 1 0 0 3 15 181 16 17 18 19 191 192
noncomputable def o18:OO:=λ_=>oF "_wall" "_wall" (top 0) (.str "__main__" 164) 20
noncomputable def o19:OO:=λ_=>oT [(.type "ValueError")]
noncomputable def o20:OO:=λ_=>⟨(.type "builtin_function_or_method"),none,(.fields (List.toArray [(.builtin "type.__prepare__"),(.type "type")])),#[]⟩
noncomputable def o21:OO:=λP=>⟨(.type "dict"),none,(.dict (List.toArray [kE P "__module__" 203 (.str "stillheap.errors" 194),kE P "__qualname__" 205 (.str "HeapError" 204),kE P "__firstlineno__" 207 (.int 5 206),kE P "__init__" 215 (.ref 35),kE P "called" 222 (.ref 42),kE P "__static_attributes__" 223 (.ref 43)]) 6),#[]⟩
noncomputable def o22:OO:=λ_=>⟨.none,none,(.fields (List.toArray [(.int 7 0),(.int 4 0),(.ref 34),(.int 10 0),(.int 4 0),(.ref 41)])),#[]⟩
noncomputable def o23:OO:=λ_=>⟨(.type "code"),none,(.fields (List.toArray [(.str "HeapError" 198),(.str "HeapError" 199),(.str "/claim/cut.py" 200),(.int 5 0),(.int 0 0),(.int 0 0),(.int 0 0),(.int 0 0),(.ref 25),(.bool false),(.int 181 0),(.ref 26),.none,.none,.none,.none,(.int 201 0),(.int 5 0),(.str "/claim/cut.py" 202)])),#[]⟩
noncomputable def o24:OO:=λ_=>⟨(.type "frame"),none,.plain,(List.toArray [(.some (.ref 27)),(.some (.ref 3)),(.some (.ref 24)),none,(.some (.str "stillheap.errors" 194)),none,(.some (.ref 0))])⟩
noncomputable def o25:OO:=λ_=>oT [(.str "self" 211),(.str "text" 212)]
noncomputable def o26:OO:=λ_=>oG "__init__" "HeapError.__init__" (inClass (top 2) 0)
noncomputable def o27:OO:=λ_=>oC "__init__" 208 "HeapError.__init__" 7 2 0 0 3 29 181 30 31 32 33 213 214
noncomputable def o28:OO:=λ_=>oF "__init__" "HeapError.__init__" (inClass (top 2) 0) (.str "stillheap.errors" 194) 34
noncomputable def o29:OO:=λ_=>oT [(.str "self" 219)]
noncomputable def o30:OO:=λ_=>oG "called" "HeapError.called" (inClass (top 2) 1)
noncomputable def o31:OO:=λ_=>oC "called" 216 "HeapError.called" 10 1 0 0 3 36 181 37 38 39 40 220 221
noncomputable def o32:OO:=λ_=>oF "called" "HeapError.called" (inClass (top 2) 1) (.str "stillheap.errors" 194) 41
noncomputable def o33:OO:=λP=>⟨(.type "dict"),none,(.dict (List.toArray [kE P "__module__" 203 (.str "stillheap.errors" 194),kE P "__firstlineno__" 207 (.int 5 206),kE P "__init__" 215 (.ref 35),kE P "called" 222 (.ref 42),kE P "__static_attributes__" 223 (.ref 43),kE P "__weakref__" 225 (.ref 46),kE P "__doc__" 226 .none]) 3),#[]⟩
noncomputable def o34:OO:=λ_=>⟨(.type "type"),none,(.cls ⟨"HeapError",[(.type "ValueError")],[(.ref 45),(.type "ValueError"),(.type "Exception"),(.type "BaseException"),(.type "object")],44, "HeapError",true,[],[(.ref 65),(.ref 84)],false,none,false⟩),(List.toArray [(.some (.ref 22)),none,(.some (.str "HeapError" 196)),(.some (.str "HeapError" 204)),(.some (.builtin "ValueError.__new__")),(.some (.bool true))])⟩
noncomputable def o35:OO:=λ_=>⟨(.type "getset_descriptor"),none,(.fields (List.toArray [(.str "__weakref__" 224),(.ref 45),(.builtin "ExceptionGroup.__weakref__"),.none])),#[]⟩
noncomputable def o36:OO:=λ_=>⟨(.type "super"),none,(.fields (List.toArray [(.ref 45),(.ref 45),(.ref 45)])),#[]⟩
noncomputable def o37:OO:=λ_=>⟨(.type "builtin_function_or_method"),none,(.fields (List.toArray [(.builtin "object.__init_subclass__"),(.ref 45)])),#[]⟩
noncomputable def o38:OO:=λ_=>oT [(.ref 45)]
noncomputable def o39:OO:=λP=>⟨(.type "dict"),none,(.dict (List.toArray [kE P "__module__" 236 (.str "stillheap.errors" 194),kE P "__qualname__" 238 (.str "NoRoom" 237),kE P "__firstlineno__" 240 (.int 12 239),kE P "called" 247 (.ref 62),kE P "__static_attributes__" 248 (.ref 63)]) 5),#[]⟩
noncomputable def o40:OO:=λ_=>⟨.none,none,(.fields (List.toArray [(.int 14 0),(.int 4 0),(.ref 61)])),#[]⟩
noncomputable def o41:OO:=λ_=>⟨(.type "code"),none,(.fields (List.toArray [(.str "NoRoom" 231),(.str "NoRoom" 232),(.str "/claim/cut.py" 233),(.int 12 0),(.int 0 0),(.int 0 0),(.int 0 0),(.int 0 0),(.ref 52),(.bool false),(.int 181 0),(.ref 53),.none,.none,.none,.none,(.int 234 0),(.int 12 0),(.str "/claim/cut.py" 235)])),#[]⟩
noncomputable def o42:OO:=λ_=>⟨(.type "frame"),none,.plain,(List.toArray [(.some (.ref 54)),(.some (.ref 3)),(.some (.ref 51)),none,(.some (.str "stillheap.errors" 194)),none,(.some (.ref 0))])⟩
noncomputable def o43:OO:=λ_=>oT [(.str "self" 244)]
noncomputable def o44:OO:=λ_=>oG "called" "NoRoom.called" (inClass (top 3) 0)
noncomputable def o45:OO:=λ_=>oC "called" 241 "NoRoom.called" 14 1 0 0 3 56 181 57 58 59 60 245 246
noncomputable def o46:OO:=λ_=>oF "called" "NoRoom.called" (inClass (top 3) 0) (.str "stillheap.errors" 194) 61
noncomputable def o47:OO:=λP=>⟨(.type "dict"),none,(.dict (List.toArray [kE P "__module__" 236 (.str "stillheap.errors" 194),kE P "__firstlineno__" 240 (.int 12 239),kE P "called" 247 (.ref 62),kE P "__static_attributes__" 248 (.ref 63),kE P "__doc__" 249 .none]) 2),#[]⟩
noncomputable def o48:OO:=λ_=>⟨(.type "type"),none,(.cls ⟨"NoRoom",[(.ref 45)],[(.ref 65),(.ref 45),(.type "ValueError"),(.type "Exception"),(.type "BaseException"),(.type "object")],64, "NoRoom",true,[],[],false,none,false⟩),(List.toArray [(.some (.ref 49)),none,(.some (.str "NoRoom" 229)),(.some (.str "NoRoom" 237)),(.some (.builtin "ValueError.__new__")),(.some (.bool true))])⟩
noncomputable def o49:OO:=λ_=>⟨(.type "super"),none,(.fields (List.toArray [(.ref 65),(.ref 65),(.ref 65)])),#[]⟩
noncomputable def o50:OO:=λ_=>⟨(.type "builtin_function_or_method"),none,(.fields (List.toArray [(.builtin "object.__init_subclass__"),(.ref 65)])),#[]⟩
noncomputable def o51:OO:=λP=>⟨(.type "dict"),none,(.dict (List.toArray [kE P "__module__" 259 (.str "stillheap.errors" 194),kE P "__qualname__" 261 (.str "BadAddress" 260),kE P "__firstlineno__" 263 (.int 16 262),kE P "called" 270 (.ref 81),kE P "__static_attributes__" 271 (.ref 82)]) 5),#[]⟩
noncomputable def o52:OO:=λ_=>⟨.none,none,(.fields (List.toArray [(.int 18 0),(.int 4 0),(.ref 80)])),#[]⟩
noncomputable def o53:OO:=λ_=>⟨(.type "code"),none,(.fields (List.toArray [(.str "BadAddress" 254),(.str "BadAddress" 255),(.str "/claim/cut.py" 256),(.int 16 0),(.int 0 0),(.int 0 0),(.int 0 0),(.int 0 0),(.ref 71),(.bool false),(.int 181 0),(.ref 72),.none,.none,.none,.none,(.int 257 0),(.int 16 0),(.str "/claim/cut.py" 258)])),#[]⟩
noncomputable def o54:OO:=λ_=>⟨(.type "frame"),none,.plain,(List.toArray [(.some (.ref 73)),(.some (.ref 3)),(.some (.ref 70)),none,(.some (.str "stillheap.errors" 194)),none,(.some (.ref 0))])⟩
noncomputable def o55:OO:=λ_=>oT [(.str "self" 267)]
noncomputable def o56:OO:=λ_=>oG "called" "BadAddress.called" (inClass (top 4) 0)
noncomputable def o57:OO:=λ_=>oC "called" 264 "BadAddress.called" 18 1 0 0 3 75 181 76 77 78 79 268 269
noncomputable def o58:OO:=λ_=>oF "called" "BadAddress.called" (inClass (top 4) 0) (.str "stillheap.errors" 194) 80
noncomputable def o59:OO:=λP=>⟨(.type "dict"),none,(.dict (List.toArray [kE P "__module__" 259 (.str "stillheap.errors" 194),kE P "__firstlineno__" 263 (.int 16 262),kE P "called" 270 (.ref 81),kE P "__static_attributes__" 271 (.ref 82),kE P "__doc__" 272 .none]) 2),#[]⟩
noncomputable def o60:OO:=λ_=>⟨(.type "type"),none,(.cls ⟨"BadAddress",[(.ref 45)],[(.ref 84),(.ref 45),(.type "ValueError"),(.type "Exception"),(.type "BaseException"),(.type "object")],83, "BadAddress",true,[],[],false,none,false⟩),(List.toArray [(.some (.ref 68)),none,(.some (.str "BadAddress" 252)),(.some (.str "BadAddress" 260)),(.some (.builtin "ValueError.__new__")),(.some (.bool true))])⟩
noncomputable def o61:OO:=λ_=>⟨(.type "super"),none,(.fields (List.toArray [(.ref 84),(.ref 84),(.ref 84)])),#[]⟩
noncomputable def o62:OO:=λ_=>⟨(.type "builtin_function_or_method"),none,(.fields (List.toArray [(.builtin "object.__init_subclass__"),(.ref 84)])),#[]⟩
noncomputable def o63:OO:=λ_=>oT [(.str "value" 280)]
noncomputable def o64:OO:=λ_=>oG "kind_of" "kind_of" (top 6)
noncomputable def o65:OO:=λ_=>oC "kind_of" 277 "kind_of" 21 1 0 0 3 87 181 88 89 90 91 281 282
noncomputable def o66:OO:=λ_=>oF "kind_of" "kind_of" (top 6) (.str "stillheap.values" 275) 92
noncomputable def o67:OO:=λ_=>oT [(.str "memory" 289),(.str "a" 290),(.str "t" 291),(.str "values" 292),(.str "k" 293),(.str "value" 294)]
noncomputable def o68:OO:=λ_=>oG "lay" "lay" (top 8)
noncomputable def o69:OO:=λ_=>oC "lay" 286 "lay" 24 4 0 0 3 94 181 95 96 97 98 295 296
noncomputable def o70:OO:=λ_=>oF "lay" "lay" (top 8) (.str "stillheap.layout" 284) 99
noncomputable def o71:OO:=λ_=>oG "thing_at" "thing_at" (top 9)
noncomputable def o72:OO:=λ_=>⟨(.type "code"),none,(.fields (List.toArray [(.str "thing_at" 298),(.str "thing_at" 299),(.str "/claim/cut.py" 300),(.int 29 0),(.int 2 0),(.int 0 0),(.int 0 0),(.int 3 0),(.ref 101),(.bool true),(.int 181 0),(.ref 102),.none,.none,.none,(.ref 103),(.int 301 0),(.int 29 0),(.str "/claim/cut.py" 302)])),#[]⟩
noncomputable def o73:OO:=λ_=>oF "thing_at" "thing_at" (top 9) (.str "stillheap.layout" 284) 104
noncomputable def o74:OO:=λ_=>oT [(.str "memory" 307),(.str "a" 308)]
noncomputable def o75:OO:=λ_=>oG "fields_at" "fields_at" (top 10)
noncomputable def o76:OO:=λ_=>oC "fields_at" 304 "fields_at" 32 2 0 0 3 106 181 107 108 109 110 309 310
noncomputable def o77:OO:=λ_=>oF "fields_at" "fields_at" (top 10) (.str "stillheap.layout" 284) 111
noncomputable def o78:OO:=λ_=>oT [(.str "memory" 315),(.str "a" 316),(.str "kinds" 317),(.str "word" 318)]
noncomputable def o79:OO:=λ_=>oG "fields_told" "fields_told" (top 11)
noncomputable def o80:OO:=λ_=>oC "fields_told" 312 "fields_told" 34 3 0 0 3 113 181 114 115 116 117 319 320
noncomputable def o81:OO:=λ_=>oF "fields_told" "fields_told" (top 11) (.str "stillheap.layout" 284) 118
noncomputable def o82:OO:=λ_=>oT [(.str "memory" 325),(.str "a" 326),(.str "fields" 327)]
noncomputable def o83:OO:=λ_=>oG "look_at_room" "look_at_room" (top 12)
noncomputable def o84:OO:=λ_=>oC "look_at_room" 322 "look_at_room" 40 3 0 0 3 120 181 121 122 123 124 328 329
noncomputable def o85:OO:=λ_=>oF "look_at_room" "look_at_room" (top 12) (.str "stillheap.layout" 284) 125
noncomputable def o86:OO:=λ_=>oG "copied" "copied" (top 14)
noncomputable def o87:OO:=λ_=>⟨(.type "code"),none,(.fields (List.toArray [(.str "copied" 333),(.str "copied" 334),(.str "/claim/cut.py" 335),(.int 44 0),(.int 4 0),(.int 0 0),(.int 0 0),(.int 3 0),(.ref 127),(.bool true),(.int 181 0),(.ref 128),.none,.none,.none,(.ref 129),(.int 336 0),(.int 44 0),(.str "/claim/cut.py" 337)])),#[]⟩
noncomputable def o88:OO:=λ_=>oF "copied" "copied" (top 14) (.str "stillheap.copying" 331) 130
noncomputable def o89:OO:=λ_=>oT [(.str "source" 342),(.str "roots" 343)]
noncomputable def o90:OO:=λ_=>oG "copied_words" "copied_words" (top 15)
noncomputable def o91:OO:=λ_=>oC "copied_words" 339 "copied_words" 55 2 0 0 3 132 181 133 134 135 136 344 345
noncomputable def o92:OO:=λ_=>oF "copied_words" "copied_words" (top 15) (.str "stillheap.copying" 331) 137
noncomputable def o93:OO:=λ_=>oT [(.str "source" 350),(.str "roots" 351),(.str "things" 352),(.str "words" 353),(.str "done" 354),(.str "a" 355)]
noncomputable def o94:OO:=λ_=>oG "things_met" "things_met" (top 16)
noncomputable def o95:OO:=λ_=>oC "things_met" 347 "things_met" 57 2 0 0 3 139 181 140 141 142 143 356 357
noncomputable def o96:OO:=λ_=>oF "things_met" "things_met" (top 16) (.str "stillheap.copying" 331) 144
noncomputable def o97:OO:=λ_=>oT [(.str "word" 362)]
noncomputable def o98:OO:=λ_=>oG "address_told" "address_told" (top 17)
noncomputable def o99:OO:=λ_=>oC "address_told" 359 "address_told" 68 1 0 0 3 146 181 147 148 149 150 363 364
noncomputable def An:OO:=λ_=>oF "address_told" "address_told" (top 17) (.str "stillheap.copying" 331) 151
noncomputable def CM:OO:=λ_=>oG "words_among" "words_among" (top 18)
noncomputable def Ao:OO:=λ_=>⟨(.type "code"),none,(.fields (List.toArray [(.str "words_among" 366),(.str "words_among" 367),(.str "/claim/cut.py" 368),(.int 74 0),(.int 1 0),(.int 0 0),(.int 0 0),(.int 3 0),(.ref 153),(.bool true),(.int 181 0),(.ref 154),.none,.none,.none,(.ref 155),(.int 369 0),(.int 74 0),(.str "/claim/cut.py" 370)])),#[]⟩
noncomputable def Ap:OO:=λ_=>oF "words_among" "words_among" (top 18) (.str "stillheap.copying" 331) 156
noncomputable def Aq:OO:=λ_=>oT [(.str "first" 375),(.str "things" 376),(.str "places" 377),(.str "place" 378),(.str "a" 379)]
noncomputable def CN:OO:=λ_=>oG "places_from" "places_from" (top 19)
noncomputable def Ar:OO:=λ_=>oC "places_from" 372 "places_from" 76 2 0 0 3 158 181 159 160 161 162 380 381
noncomputable def As:OO:=λ_=>oF "places_from" "places_from" (top 19) (.str "stillheap.copying" 331) 163
noncomputable def Au:OO:=λ_=>oT [(.str "word" 386),(.str "places" 387),(.str "a" 388)]
noncomputable def CO:OO:=λ_=>oG "told_anew" "told_anew" (top 20)
noncomputable def Av:OO:=λ_=>oC "told_anew" 383 "told_anew" 83 2 0 0 3 165 181 166 167 168 169 389 390
noncomputable def Aw:OO:=λ_=>oF "told_anew" "told_anew" (top 20) (.str "stillheap.copying" 331) 170
noncomputable def CP:OO:=λP=>⟨(.type "dict"),none,(.dict (List.toArray [kE P "__module__" 401 (.str "stillheap.memory" 392),kE P "__qualname__" 403 (.str "Memory" 402),kE P "__firstlineno__" 405 (.int 87 404),kE P "__init__" 413 (.ref 185),kE P "size" 420 (.ref 192),kE P "at" 428 (.ref 199),kE P "put" 437 (.ref 206),kE P "copy_of" 444 (.ref 213),kE P "look_at_address" 452 (.ref 220),kE P "__static_attributes__" 454 (.ref 221)]) 10),#[]⟩
noncomputable def CQ:OO:=λ_=>⟨.none,none,(.fields (List.toArray [(.int 89 0),(.int 4 0),(.ref 184),(.int 92 0),(.int 4 0),(.ref 191),(.int 95 0),(.int 4 0),(.ref 198),(.int 99 0),(.int 4 0),(.ref 205),(.int 103 0),(.int 4 0),(.ref 212),(.int 106 0),(.int 4 0),(.ref 219)])),#[]⟩
noncomputable def CS:OO:=λ_=>⟨(.type "code"),none,(.fields (List.toArray [(.str "Memory" 396),(.str "Memory" 397),(.str "/claim/cut.py" 398),(.int 87 0),(.int 0 0),(.int 0 0),(.int 0 0),(.int 0 0),(.ref 175),(.bool false),(.int 181 0),(.ref 176),.none,.none,.none,.none,(.int 399 0),(.int 87 0),(.str "/claim/cut.py" 400)])),#[]⟩
noncomputable def CT:OO:=λ_=>⟨(.type "frame"),none,.plain,(List.toArray [(.some (.ref 177)),(.some (.ref 3)),(.some (.ref 174)),none,(.some (.str "stillheap.memory" 392)),none,(.some (.ref 0))])⟩
noncomputable def Ax:OO:=λ_=>oT [(.str "self" 409),(.str "size" 410)]
noncomputable def CU:OO:=λ_=>oG "__init__" "Memory.__init__" (inClass (top 22) 0)
noncomputable def Ay:OO:=λ_=>oC "__init__" 406 "Memory.__init__" 89 2 0 0 3 179 181 180 181 182 183 411 412
noncomputable def Az:OO:=λ_=>oF "__init__" "Memory.__init__" (inClass (top 22) 0) (.str "stillheap.memory" 392) 184
noncomputable def AA:OO:=λ_=>oT [(.str "self" 417)]
noncomputable def CV:OO:=λ_=>oG "size" "Memory.size" (inClass (top 22) 1)
noncomputable def AB:OO:=λ_=>oC "size" 414 "Memory.size" 92 1 0 0 3 186 181 187 188 189 190 418 419
noncomputable def AD:OO:=λ_=>oF "size" "Memory.size" (inClass (top 22) 1) (.str "stillheap.memory" 392) 191
noncomputable def AE:OO:=λ_=>oT [(.str "self" 424),(.str "a" 425)]
noncomputable def CW:OO:=λ_=>oG "at" "Memory.at" (inClass (top 22) 2)
noncomputable def AF:OO:=λ_=>oC "at" 421 "Memory.at" 95 2 0 0 3 193 181 194 195 196 197 426 427
noncomputable def AG:OO:=λ_=>oF "at" "Memory.at" (inClass (top 22) 2) (.str "stillheap.memory" 392) 198
noncomputable def AH:OO:=λ_=>oT [(.str "self" 432),(.str "a" 433),(.str "word" 434)]
noncomputable def CY:OO:=λ_=>oG "put" "Memory.put" (inClass (top 22) 3)
noncomputable def AI:OO:=λ_=>oC "put" 429 "Memory.put" 99 3 0 0 3 200 181 201 202 203 204 435 436
noncomputable def AJ:OO:=λ_=>oF "put" "Memory.put" (inClass (top 22) 3) (.str "stillheap.memory" 392) 205
noncomputable def AK:OO:=λ_=>oT [(.str "self" 441)]
noncomputable def CZ:OO:=λ_=>oG "copy_of" "Memory.copy_of" (inClass (top 22) 4)
noncomputable def AL:OO:=λ_=>oC "copy_of" 438 "Memory.copy_of" 103 1 0 0 3 207 181 208 209 210 211 442 443
noncomputable def AM:OO:=λ_=>oF "copy_of" "Memory.copy_of" (inClass (top 22) 4) (.str "stillheap.memory" 392) 212
noncomputable def AN:OO:=λ_=>oT [(.str "self" 448),(.str "a" 449)]
noncomputable def C0:OO:=λ_=>oG "look_at_address" "Memory.look_at_address" (inClass (top 22) 5)
noncomputable def AO:OO:=λ_=>oC "look_at_address" 445 "Memory.look_at_address" 106 2 0 0 3 214 181 215 216 217 218 450 451
noncomputable def AQ:OO:=λ_=>oF "look_at_address" "Memory.look_at_address" (inClass (top 22) 5) (.str "stillheap.memory" 392) 219
noncomputable def AR:OO:=λ_=>oT [(.str "cells" 453)]
noncomputable def AS:OO:=λP=>⟨(.type "dict"),none,(.dict (List.toArray [kE P "__module__" 401 (.str "stillheap.memory" 392),kE P "__firstlineno__" 405 (.int 87 404),kE P "__init__" 413 (.ref 185),kE P "size" 420 (.ref 192),kE P "at" 428 (.ref 199),kE P "put" 437 (.ref 206),kE P "copy_of" 444 (.ref 213),kE P "look_at_address" 452 (.ref 220),kE P "__static_attributes__" 454 (.ref 221),kE P "__dict__" 456 (.ref 224),kE P "__weakref__" 458 (.ref 225),kE P "__doc__" 459 .none]) 4),#[]⟩
noncomputable def AU:OO:=λ_=>⟨(.type "type"),none,(.cls ⟨"Memory",[(.type "object")],[(.ref 223),(.type "object")],222, "Memory",true,[],[],false,none,false⟩),(List.toArray [none,none,(.some (.str "Memory" 394)),(.some (.str "Memory" 402)),(.some (.builtin "object.__new__")),(.some (.bool true))])⟩
noncomputable def AV:OO:=λ_=>⟨(.type "getset_descriptor"),none,(.fields (List.toArray [(.str "__dict__" 455),(.ref 223),(.builtin "function.__dict__"),(.builtin "function.__dict__#set")])),#[]⟩
noncomputable def AW:OO:=λ_=>⟨(.type "getset_descriptor"),none,(.fields (List.toArray [(.str "__weakref__" 457),(.ref 223),(.builtin "ExceptionGroup.__weakref__"),.none])),#[]⟩
noncomputable def C1:OO:=λ_=>⟨(.type "super"),none,(.fields (List.toArray [(.ref 223),(.ref 223),(.ref 223)])),#[]⟩
noncomputable def C2:OO:=λ_=>⟨(.type "builtin_function_or_method"),none,(.fields (List.toArray [(.builtin "object.__init_subclass__"),(.ref 223)])),#[]⟩
noncomputable def AX:OO:=λ_=>oT [(.str "script" 467),(.str "k" 468)]
noncomputable def C3:OO:=λ_=>oG "_law_cell" "_law_cell" (top 24)
noncomputable def AY:OO:=λ_=>oC "_law_cell" 464 "_law_cell" 110 2 0 0 3 228 181 229 230 231 232 469 470
noncomputable def AZ:OO:=λ_=>oF "_law_cell" "_law_cell" (top 24) (.str "law_stillheap_k40_copies_laid" 462) 233
noncomputable def A0:OO:=λ_=>oT [(.str "cell" 475),(.str "rest" 476),(.str "told" 477),(.str "k" 478),(.str "near" 479)]
noncomputable def C4:OO:=λ_=>oG "_law_digits" "_law_digits" (top 25)
noncomputable def A1:OO:=λ_=>oC "_law_digits" 472 "_law_digits" 114 1 0 0 3 235 181 236 237 238 239 480 481
noncomputable def A2:OO:=λ_=>oF "_law_digits" "_law_digits" (top 25) (.str "law_stillheap_k40_copies_laid" 462) 240
noncomputable def C5:OO:=λ_=>oG "_law_stream" "_law_stream" (top 26)
noncomputable def A3:OO:=λ_=>⟨(.type "code"),none,(.fields (List.toArray [(.str "_law_stream" 483),(.str "_law_stream" 484),(.str "/claim/cut.py" 485),(.int 126 0),(.int 2 0),(.int 0 0),(.int 0 0),(.int 3 0),(.ref 242),(.bool true),(.int 181 0),(.ref 243),.none,.none,.none,(.ref 244),(.int 486 0),(.int 126 0),(.str "/claim/cut.py" 487)])),#[]⟩
noncomputable def A4:OO:=λ_=>oF "_law_stream" "_law_stream" (top 26) (.str "law_stillheap_k40_copies_laid" 462) 245
noncomputable def A5:OO:=λ_=>oT [(.str "number" 492),(.str "places" 493)]
noncomputable def C6:OO:=λ_=>oG "_law_word_by" "_law_word_by" (top 27)
noncomputable def A6:OO:=λ_=>oC "_law_word_by" 489 "_law_word_by" 133 2 0 0 3 247 181 248 249 250 251 494 495
noncomputable def A7:OO:=λ_=>oF "_law_word_by" "_law_word_by" (top 27) (.str "law_stillheap_k40_copies_laid" 462) 252
noncomputable def C7:OO:=λ_=>oG "_law_built" "_law_built" (top 28)
noncomputable def xM:OO:=λ_=>⟨(.type "code"),none,(.fields (List.toArray [(.str "_law_built" 497),(.str "_law_built" 498),(.str "/claim/cut.py" 499),(.int 139 0),(.int 1 0),(.int 0 0),(.int 0 0),(.int 3 0),(.ref 254),(.bool true),(.int 181 0),(.ref 255),.none,.none,.none,(.ref 256),(.int 500 0),(.int 139 0),(.str "/claim/cut.py" 501)])),#[]⟩
noncomputable def A8:OO:=λ_=>oF "_law_built" "_law_built" (top 28) (.str "law_stillheap_k40_copies_laid" 462) 257
noncomputable def A9:OO:=λ_=>oT [(.str "things" 506),(.str "size" 507),(.str "memory" 508),(.str "t" 509),(.str "a" 510),(.str "fields" 511),(.str "k" 512),(.str "word" 513)]
noncomputable def C8:OO:=λ_=>oG "_law_memory" "_law_memory" (top 29)
noncomputable def Ba:OO:=λ_=>oC "_law_memory" 503 "_law_memory" 157 2 0 0 3 259 181 260 261 262 263 514 515
noncomputable def Bb:OO:=λ_=>oF "_law_memory" "_law_memory" (top 29) (.str "law_stillheap_k40_copies_laid" 462) 264
noncomputable def C9:OO:=λ_=>oG "_law_words" "_law_words" (top 30)
noncomputable def Bc:OO:=λ_=>⟨(.type "code"),none,(.fields (List.toArray [(.str "_law_words" 517),(.str "_law_words" 518),(.str "/claim/cut.py" 519),(.int 164 0),(.int 1 0),(.int 0 0),(.int 0 0),(.int 3 0),(.ref 266),(.bool true),(.int 181 0),(.ref 267),.none,.none,.none,(.ref 268),(.int 520 0),(.int 164 0),(.str "/claim/cut.py" 521)])),#[]⟩
noncomputable def Bd:OO:=λ_=>oF "_law_words" "_law_words" (top 30) (.str "law_stillheap_k40_copies_laid" 462) 269
noncomputable def Be:OO:=λ_=>oT [(.str "things" 526),(.str "roots" 527),(.str "at" 528),(.str "t" 529),(.str "a" 530),(.str "fields" 531),(.str "row" 532),(.str "left" 533),(.str "place" 534),(.str "word" 535)]
noncomputable def Dc:OO:=λ_=>oG "_law_met" "_law_met" (top 31)
noncomputable def Bf:OO:=λ_=>oC "_law_met" 523 "_law_met" 166 2 0 0 3 271 181 272 273 274 275 536 537
noncomputable def Bg:OO:=λ_=>oF "_law_met" "_law_met" (top 31) (.str "law_stillheap_k40_copies_laid" 462) 276
noncomputable def Bh:OO:=λ_=>oT [(.str "things" 542),(.str "roots" 543),(.str "first" 544),(.str "at" 545),(.str "t" 546),(.str "a" 547),(.str "fields" 548),(.str "pairs" 549)]
noncomputable def De:OO:=λ_=>oG "_law_pairs" "_law_pairs" (top 32)
noncomputable def Bi:OO:=λ_=>oC "_law_pairs" 539 "_law_pairs" 182 3 0 0 3 278 181 279 280 281 282 550 551
noncomputable def Bj:OO:=λ_=>oF "_law_pairs" "_law_pairs" (top 32) (.str "law_stillheap_k40_copies_laid" 462) 283
noncomputable def Bk:OO:=λ_=>oT [(.str "word" 556),(.str "pairs" 557)]
noncomputable def Df:OO:=λ_=>oG "_law_anew" "_law_anew" (top 33)
noncomputable def Bl:OO:=λ_=>oC "_law_anew" 553 "_law_anew" 191 2 0 0 3 285 181 286 287 288 289 558 559
noncomputable def Bm:OO:=λ_=>oF "_law_anew" "_law_anew" (top 33) (.str "law_stillheap_k40_copies_laid" 462) 290
noncomputable def Dh:OO:=λ_=>oG "_law_due" "_law_due" (top 34)
noncomputable def Bn:OO:=λ_=>⟨(.type "code"),none,(.fields (List.toArray [(.str "_law_due" 561),(.str "_law_due" 562),(.str "/claim/cut.py" 563),(.int 195 0),(.int 3 0),(.int 0 0),(.int 0 0),(.int 3 0),(.ref 292),(.bool true),(.int 181 0),(.ref 293),.none,.none,.none,(.ref 294),(.int 564 0),(.int 195 0),(.str "/claim/cut.py" 565)])),#[]⟩
noncomputable def Bo:OO:=λ_=>oF "_law_due" "_law_due" (top 34) (.str "law_stillheap_k40_copies_laid" 462) 295
noncomputable def Di:OO:=λ_=>oG "law" "law" (top 35)
noncomputable def Bp:OO:=λ_=>⟨(.type "code"),none,(.fields (List.toArray [(.str "law" 567),(.str "law" 568),(.str "/claim/cut.py" 569),(.int 204 0),(.int 1 0),(.int 0 0),(.int 0 0),(.int 3 0),(.ref 297),(.bool true),(.int 181 0),(.ref 298),.none,.none,.none,(.ref 299),(.int 570 0),(.int 204 0),(.str "/claim/cut.py" 571)])),#[]⟩
noncomputable def Bq:OO:=λ_=>oF "law" "law" (top 35) (.str "law_stillheap_k40_copies_laid" 462) 300
noncomputable def hTa(P:Params):BT:=mkT P 12 (o0::o1::o2::o3::o4::o5::o6::o7::o8::o9::o10::o7::o8::o11::o12::[])
noncomputable def hSa(w:World)(os:OsState):SharedT:=⟨hTa w.params,15,⟨[],[],[],0,[],[],false,(List.toArray []),[],0,false,false,false,0,[2000,10,10],false,0,true,[],[],0,false⟩,#[],⟨0,0,0,0⟩,187,os⟩
noncomputable def hTb(P:Params):BT:=mkT P 12 (o0::o1::o2::o3::o4::o5::o6::o7::o8::o9::o10::o7::o8::o11::o12::[])
noncomputable def hSb(w:World)(os:OsState):SharedT:=⟨hTb w.params,15,⟨[],[],[],0,[],[],false,(List.toArray []),[],0,false,false,false,0,[2000,10,10],false,0,true,[],[],0,false⟩,#[],⟨0,0,0,0⟩,187,os⟩
noncomputable def hT0(P:Params):BT:=mkT P 12 (o0::o1::o2::o13::o4::o5::o6::o7::o8::o9::o10::o7::o14::o11::o12::o7::o8::o15::o7::o16::o17::o18::o19::o20::o21::o7::o22::o23::o24::o7::o8::o25::o7::o26::o27::o28::o7::o8::o29::o7::o30::o31::o32::o7::o33::o34::o35::o36::o37::o38::o20::o39::o7::o40::o41::o42::o7::o8::o43::o7::o44::o45::o46::o7::o47::o48::o49::o50::o38::o20::o51::o7::o52::o53::o54::o7::o8::o55::o7::o56::o57::o58::o7::o59::o60::o61::o62::o7::o8::o63::o7::o64::o65::o66::o7::o8::o67::o7::o68::o69::o70::o7::o8::o71::o72::o73::o7::o8::o74::o7::o75::o76::o77::o7::o8::o78::o7::o79::o80::o81::o7::o8::o82::o7::o83::o84::o85::o7::o8::o86::o87::o88::o7::o8::o89::o7::o90::o91::o92::o7::o8::o93::o7::o94::o95::o96::o7::o8::o97::o7::o98::o99::An::o7::o8::CM::Ao::Ap::o7::o8::Aq::o7::CN::Ar::As::o7::o8::Au::o7::CO::Av::Aw::o7::o20::CP::o7::CQ::CS::CT::o7::o8::Ax::o7::CU::Ay::Az::o7::o8::AA::o7::CV::AB::AD::o7::o8::AE::o7::CW::AF::AG::o7::o8::AH::o7::CY::AI::AJ::o7::o8::AK::o7::CZ::AL::AM::o7::o8::AN::o7::C0::AO::AQ::AR::AS::AU::AV::AW::C1::C2::o7::o8::AX::o7::C3::AY::AZ::o7::o8::A0::o7::C4::A1::A2::o7::o8::C5::A3::A4::o7::o8::A5::o7::C6::A6::A7::o7::o8::C7::xM::A8::o7::o8::A9::o7::C8::Ba::Bb::o7::o8::C9::Bc::Bd::o7::o8::Be::o7::Dc::Bf::Bg::o7::o8::Bh::o7::De::Bi::Bj::o7::o8::Bk::o7::Df::Bl::Bm::o7::o8::Dh::Bn::Bo::o7::o8::Di::Bp::Bq::[])
noncomputable def hS0(w:World)(os:OsState):SharedT:=⟨hT0 w.params,302,⟨[],[],[],0,[],[],false,(List.toArray []),[],0,false,false,false,0,[2000,10,10],false,0,true,[],[],0,false⟩,#[],⟨0,0,0,0⟩,573,os⟩
noncomputable def hTf(P:Params):BT:=mkT P 12 (o0::o1::o2::o13::o4::o5::o6::o7::o8::o9::o10::o7::o14::o11::o12::o7::o8::o15::o7::o16::o17::o18::o19::o20::o21::o7::o22::o23::o24::o7::o8::o25::o7::o26::o27::o28::o7::o8::o29::o7::o30::o31::o32::o7::o33::o34::o35::o36::o37::o38::o20::o39::o7::o40::o41::o42::o7::o8::o43::o7::o44::o45::o46::o7::o47::o48::o49::o50::o38::o20::o51::o7::o52::o53::o54::o7::o8::o55::o7::o56::o57::o58::o7::o59::o60::o61::o62::o7::o8::o63::o7::o64::o65::o66::o7::o8::o67::o7::o68::o69::o70::o7::o8::o71::o72::o73::o7::o8::o74::o7::o75::o76::o77::o7::o8::o78::o7::o79::o80::o81::o7::o8::o82::o7::o83::o84::o85::o7::o8::o86::o87::o88::o7::o8::o89::o7::o90::o91::o92::o7::o8::o93::o7::o94::o95::o96::o7::o8::o97::o7::o98::o99::An::o7::o8::CM::Ao::Ap::o7::o8::Aq::o7::CN::Ar::As::o7::o8::Au::o7::CO::Av::Aw::o7::o20::CP::o7::CQ::CS::CT::o7::o8::Ax::o7::CU::Ay::Az::o7::o8::AA::o7::CV::AB::AD::o7::o8::AE::o7::CW::AF::AG::o7::o8::AH::o7::CY::AI::AJ::o7::o8::AK::o7::CZ::AL::AM::o7::o8::AN::o7::C0::AO::AQ::AR::AS::AU::AV::AW::C1::C2::o7::o8::AX::o7::C3::AY::AZ::o7::o8::A0::o7::C4::A1::A2::o7::o8::C5::A3::A4::o7::o8::A5::o7::C6::A6::A7::o7::o8::C7::xM::A8::o7::o8::A9::o7::C8::Ba::Bb::o7::o8::C9::Bc::Bd::o7::o8::Be::o7::Dc::Bf::Bg::o7::o8::Bh::o7::De::Bi::Bj::o7::o8::Bk::o7::Df::Bl::Bm::o7::o8::Dh::Bn::Bo::o7::o8::Di::Bp::Bq::[])
noncomputable def hSf(w:World)(os:OsState):SharedT:=⟨hTf w.params,302,⟨[],[],[],0,[],[],false,(List.toArray []),[],0,false,false,false,0,[2000,10,10],false,0,true,[],[],0,false⟩,#[],⟨0,0,0,0⟩,573,os⟩
def Br:Env:={scope:=(PySem.Challenge.pw_stillheap_k40_copies_laid).main.scope,locals:=mainNs,globals:=mainNs,cells:=[],code:=(.ref 13),frame:=some 14}
def hG0:List Stmt:=[top 0,top 1,top 2,top 3,top 4,top 5,top 6,top 7,top 8,top 9,top 10,top 11,top 12,top 13,top 14,top 15,top 16,top 17,top 18,top 19,top 20,top 21,top 22,top 23,top 24,top 25,top 26,top 27,top 28,top 29,top 30,top 31,top 32,top 33,top 34,top 35]
def hB:List Stmt:=hG0++[]
def hC:Code:=.body hB Br
abbrev hF:List Frame:=[topFrame ⟨0,0,0,0⟩]
theorem D7(w:World)(os:OsState):topGo treeTable PySem.Challenge.pw_stillheap_k40_copies_laid w 11 (.some (.ref 6)) 12 ⟨boot_heap w.params,#[],boot_drawn,boot_toks,os⟩ (topStub PySem.Challenge.pw_stillheap_k40_copies_laid)=some ((hSa w os).abs,⟨denote treeTable hC,hC,⟨0,0,0,0⟩,hF⟩):=by kernel_rfl
theorem D8(w:World)(os:OsState):segRun treeTable PySem.Challenge.pw_stillheap_k40_copies_laid w 11 (.some (.ref 6)) 1 1 (hSa w os).abs (blockOf hB Br hC ⟨0,0,0,0⟩ hF)=some (.next,(hSb w os).abs,hC,⟨0,0,0,0⟩):=by kernel_rfl
theorem hR0(w:World)(os:OsState):segRunT treeTable PySem.Challenge.pw_stillheap_k40_copies_laid w 11 (.some (.ref 6)) 1 1953 (hSb w os) (piecesOf hG0 Br hC ⟨0,0,0,0⟩ hF)=some (.next,hS0 w os,hC,⟨204,0,225,89⟩):=by kernel_rfl
theorem D9(w:World)(os:OsState):topRun treeTable PySem.Challenge.pw_stillheap_k40_copies_laid w 11 (.some (.ref 6)) 2 (hS0 w os).abs ⟨doneF .next,hC,⟨204,0,225,89⟩,hF⟩=some (hSf w os).abs:=by kernel_rfl
theorem Ea(w:World)(os:OsState):topRun treeTable PySem.Challenge.pw_stillheap_k40_copies_laid w 11 (.some (.ref 6)) (12+(1+(1953+2))) ⟨boot_heap w.params,#[],boot_drawn,boot_toks,os⟩ (topStub PySem.Challenge.pw_stillheap_k40_copies_laid)=some (hSf w os).abs:=go_top (D7 w os) (piece_block (D8 w os) (piece_app (segRun_of (hR0 w os)) (D9 w os)))
noncomputable def hK0(P:Params):Frag:=(nat_lit 2,o2 P)::(nat_lit 3,o13 P)::(nat_lit 15,o7 P)::(nat_lit 17,o15 P)::(nat_lit 18,o7 P)::(nat_lit 20,o17 P)::(nat_lit 21,o18 P)::(nat_lit 22,o19 P)::(nat_lit 29,o7 P)::(nat_lit 31,o25 P)::(nat_lit 32,o7 P)::(nat_lit 34,o27 P)::(nat_lit 35,o28 P)::(nat_lit 36,o7 P)::(nat_lit 38,o29 P)::(nat_lit 39,o7 P)::(nat_lit 41,o31 P)::(nat_lit 42,o32 P)::(nat_lit 43,o7 P)::(nat_lit 44,o33 P)::(nat_lit 45,o34 P)::(nat_lit 46,o35 P)::(nat_lit 49,o38 P)::(nat_lit 56,o7 P)::(nat_lit 58,o43 P)::(nat_lit 59,o7 P)::(nat_lit 61,o45 P)::(nat_lit 62,o46 P)::(nat_lit 63,o7 P)::(nat_lit 64,o47 P)::(nat_lit 65,o48 P)::(nat_lit 68,o38 P)::(nat_lit 75,o7 P)::(nat_lit 77,o55 P)::(nat_lit 78,o7 P)::(nat_lit 80,o57 P)::(nat_lit 81,o58 P)::(nat_lit 82,o7 P)::(nat_lit 83,o59 P)::(nat_lit 84,o60 P)::(nat_lit 87,o7 P)::(nat_lit 89,o63 P)::(nat_lit 90,o7 P)::(nat_lit 92,o65 P)::(nat_lit 93,o66 P)::(nat_lit 94,o7 P)::(nat_lit 96,o67 P)::(nat_lit 97,o7 P)::(nat_lit 99,o69 P)::(nat_lit 100,o70 P)::(nat_lit 101,o7 P)::(nat_lit 104,o72 P)::(nat_lit 105,o73 P)::(nat_lit 106,o7 P)::(nat_lit 108,o74 P)::(nat_lit 109,o7 P)::(nat_lit 111,o76 P)::(nat_lit 112,o77 P)::(nat_lit 113,o7 P)::(nat_lit 115,o78 P)::(nat_lit 116,o7 P)::(nat_lit 118,o80 P)::(nat_lit 119,o81 P)::(nat_lit 120,o7 P)::(nat_lit 122,o82 P)::(nat_lit 123,o7 P)::(nat_lit 125,o84 P)::(nat_lit 126,o85 P)::(nat_lit 127,o7 P)::(nat_lit 130,o87 P)::(nat_lit 131,o88 P)::(nat_lit 132,o7 P)::(nat_lit 134,o89 P)::(nat_lit 135,o7 P)::(nat_lit 137,o91 P)::(nat_lit 138,o92 P)::(nat_lit 139,o7 P)::(nat_lit 141,o93 P)::(nat_lit 142,o7 P)::(nat_lit 144,o95 P)::(nat_lit 145,o96 P)::(nat_lit 146,o7 P)::(nat_lit 148,o97 P)::(nat_lit 149,o7 P)::(nat_lit 151,o99 P)::(nat_lit 152,An P)::(nat_lit 153,o7 P)::(nat_lit 156,Ao P)::(nat_lit 157,Ap P)::(nat_lit 158,o7 P)::(nat_lit 160,Aq P)::(nat_lit 161,o7 P)::(nat_lit 163,Ar P)::(nat_lit 164,As P)::(nat_lit 165,o7 P)::(nat_lit 167,Au P)::(nat_lit 168,o7 P)::(nat_lit 170,Av P)::(nat_lit 171,Aw P)::(nat_lit 179,o7 P)::(nat_lit 181,Ax P)::(nat_lit 182,o7 P)::(nat_lit 184,Ay P)::(nat_lit 185,Az P)::(nat_lit 186,o7 P)::(nat_lit 188,AA P)::(nat_lit 189,o7 P)::(nat_lit 191,AB P)::(nat_lit 192,AD P)::(nat_lit 193,o7 P)::(nat_lit 195,AE P)::(nat_lit 196,o7 P)::(nat_lit 198,AF P)::(nat_lit 199,AG P)::(nat_lit 200,o7 P)::(nat_lit 202,AH P)::(nat_lit 203,o7 P)::(nat_lit 205,AI P)::(nat_lit 206,AJ P)::(nat_lit 207,o7 P)::(nat_lit 209,AK P)::(nat_lit 210,o7 P)::(nat_lit 212,AL P)::(nat_lit 213,AM P)::(nat_lit 214,o7 P)::(nat_lit 216,AN P)::(nat_lit 217,o7 P)::(nat_lit 219,AO P)::(nat_lit 220,AQ P)::(nat_lit 221,AR P)::(nat_lit 222,AS P)::(nat_lit 223,AU P)::(nat_lit 224,AV P)::(nat_lit 225,AW P)::(nat_lit 228,o7 P)::(nat_lit 230,AX P)::(nat_lit 231,o7 P)::(nat_lit 233,AY P)::(nat_lit 234,AZ P)::(nat_lit 235,o7 P)::(nat_lit 237,A0 P)::(nat_lit 238,o7 P)::(nat_lit 240,A1 P)::(nat_lit 241,A2 P)::(nat_lit 242,o7 P)::(nat_lit 245,A3 P)::(nat_lit 246,A4 P)::(nat_lit 247,o7 P)::(nat_lit 249,A5 P)::(nat_lit 250,o7 P)::(nat_lit 252,A6 P)::(nat_lit 253,A7 P)::(nat_lit 254,o7 P)::(nat_lit 257,xM P)::(nat_lit 258,A8 P)::(nat_lit 259,o7 P)::(nat_lit 261,A9 P)::(nat_lit 262,o7 P)::(nat_lit 264,Ba P)::(nat_lit 265,Bb P)::(nat_lit 266,o7 P)::(nat_lit 269,Bc P)::(nat_lit 270,Bd P)::(nat_lit 271,o7 P)::(nat_lit 273,Be P)::(nat_lit 274,o7 P)::(nat_lit 276,Bf P)::(nat_lit 277,Bg P)::(nat_lit 278,o7 P)::(nat_lit 280,Bh P)::(nat_lit 281,o7 P)::(nat_lit 283,Bi P)::(nat_lit 284,Bj P)::(nat_lit 285,o7 P)::(nat_lit 287,Bk P)::(nat_lit 288,o7 P)::(nat_lit 290,Bl P)::(nat_lit 291,Bm P)::(nat_lit 292,o7 P)::(nat_lit 295,Bn P)::(nat_lit 296,Bo P)::(nat_lit 297,o7 P)::(nat_lit 300,Bp P)::(nat_lit 301,Bq P)::[]
noncomputable def hK(P:Params):Frag:=(nat_lit 255,o8 P)::hK0 P
def hAs:List Addr:=[255,2,3,15,17,18,20,21,22,29,31,32,34,35,36,38,39,41,42,43,44,45,46,49,56,58,59,61,62,63,64,65,68,75,77,78,80,81,82,83,84,87,89,90,92,93,94,96,97,99,100,101,104,105,106,108,109,111,112,113,115,116,118,119,120,122,123,125,126,127,130,131,132,134,135,137,138,139,141,142,144,145,146,148,149,151,152,153,156,157,158,160,161,163,164,165,167,168,170,171,179,181,182,184,185,186,188,189,191,192,193,195,196,198,199,200,202,203,205,206,207,209,210,212,213,214,216,217,219,220,221,222,223,224,225,228,230,231,233,234,235,237,238,240,241,242,245,246,247,249,250,252,253,254,257,258,259,261,262,264,265,266,269,270,271,273,274,276,277,278,280,281,283,284,285,287,288,290,291,292,295,296,297,300,301]
theorem fN(P:Params):hAs=(hK P).map (·.1):=rfl
theorem hP0(w:World):(hK0 w.params).lookup 255=Option.none:=by kernel_rfl
theorem hY{w:World}{h:Heap}(X:(hK w.params).In h):(hK0 w.params).In h∧h.get? 255=some (tabObj #[])∧CodeHd h 257 255:=by
 refine⟨λb o e=>X b o ?_,X 255 (tabObj #[]) (by kernel_rfl),xM w.params,_,_,_,_,_,_,_,_,X 257 (xM w.params) (by kernel_rfl),rfl,rfl,rfl,rfl,rfl,rfl,rfl,rfl,by decide⟩;by_cases c:b=255
 ·rw[c,hP0]at e;cases e
 ·show List.lookup b ((255,o8 w.params)::hK0 w.params)=some o
  rw[List.lookup_cons,show(b == 255)=false from beq_eq_false_iff_ne.mpr c];exact e
def hQ:Program:={PySem.Challenge.pw_stillheap_k40_copies_laid with main:={(PySem.Challenge.pw_stillheap_k40_copies_laid).main with body:=[top 0,top 2,top 3,top 4,top 6,top 8,top 9,top 10,top 11,top 12,top 14,top 15,top 16,top 17,top 18,top 19,top 20,top 22,top 24,top 25,top 26,top 27,top 28,top 29,top 30,top 31,top 32,top 33,top 34,top 35]}}
def hLo:List Str:=[]
theorem BZ(w:World):(fencedOpening treeTable PySem.Challenge.pw_stillheap_k40_copies_laid w 4030).map (λs=>(s.heap,s.gens,s.drawn,s.toks))=some (boot_heap w.params,#[],boot_drawn,boot_toks):=by kernel_rfl
theorem B0(w:World):((boot_heap w.params).isNs mainGlobals&&(#[]:Array GenState).size == 0,(boot_heap w.params).objs.size,(boot_heap w.params).nsMap mainGlobals "__annotations__")=(true,11,((.some (.ref 6)):Option Value)):=by kernel_rfl
abbrev hXt(s:Shared):Bool:=xlAt hQ [] s&&recOk (RowW.records (OpenRow.toRowW (OpenLaw.row PySem.Challenge.rw_stillheap_k40_copies_laid))) s
noncomputable abbrev hFH(w:World):Heap:=(absHeap (hTf w.params) 302 ⟨[],[],[],0,[],[],false,(List.toArray []),[],0,false,false,false,0,[2000,10,10],false,0,true,[],[],0,false⟩)
noncomputable abbrev hFS(w:World)(os:OsState):Shared:=⟨hFH w,#[],⟨0,0,0,0⟩,573,os⟩
theorem hK1(w:World)(os:OsState):staticsOk (importedModules (PySem.Challenge.pw_stillheap_k40_copies_laid).main.body) (boot_heap w.params) (hFH w)=true:=by kernel_rfl
theorem hK2(w:World)(os:OsState):namesBound PySem.Challenge.pw_stillheap_k40_copies_laid (hFH w)=true:=by kernel_rfl
theorem hK3(w:World)(os:OsState):gensDone (hFS w os)=true:=by kernel_rfl
theorem hK4(w:World)(os:OsState):laidKept (boot_heap w.params) (hFH w)=true:=by kernel_rfl
theorem hK5(w:World)(os:OsState):openSeen hQ hLo (importedModules (PySem.Challenge.pw_stillheap_k40_copies_laid).main.body) hXt true (hFS w os)=openGood hQ hLo:=by kernel_rfl
theorem hK6(w:World)(os:OsState):Hook.obs (kHook hK hAs fN) (hFS w os)=Hook.val (kHook hK hAs fN) w:=by kernel_rfl
theorem zH(w:World):(λos:OsState=>((staticsOk (importedModules (PySem.Challenge.pw_stillheap_k40_copies_laid).main.body) (boot_heap w.params) (hFH w)&&namesBound PySem.Challenge.pw_stillheap_k40_copies_laid (hFH w)&&gensDone (hFS w os)&&laidKept (boot_heap w.params) (hFH w)),
  openSeen hQ hLo (importedModules (PySem.Challenge.pw_stillheap_k40_copies_laid).main.body) hXt true (hFS w os),Hook.obs (kHook hK hAs fN) (hFS w os)))=λ_=>(true,openGood hQ hLo,Hook.val (kHook hK hAs fN) w):=by
 funext os
 rw[hK1 w os,hK2 w os,hK3 w os,hK4 w os,hK5 w os,hK6 w os];rfl
theorem B2:LeftO PySem.Challenge.pw_stillheap_k40_copies_laid hQ hLo hXt (Hook.obs (kHook hK hAs fN)) (Hook.val (kHook hK hAs fN)) 4030 :=
 LeftO.of_pieces (H₁:=λP=>absHeap (hTf P) 302 ⟨[],[],[],0,[],[],false,(List.toArray []),[],0,false,false,false,0,[2000,10,10],false,0,true,[],[],0,false⟩) BZ B0 Ea (by rfl) zH
end
end K40
end
section
namespace L2
open PySem PySem.Spec PyProof.Rows
section
variable{κ:Type}[DecidableEq κ]
def fO(kvs:List (κ×V))(k:κ):Option V:=(kvs.find? λkv=>decide (kv.1=k)).map (·.2)
def putK(kvs:List (κ×V))(k:κ)(v:V):List (κ×V) :=
  if(kvs.any λkv=>decide (kv.1=k))=true then kvs.map (λkv=>if kv.1=k then(kv.1,v) else kv) else kvs++[(k,v)]
theorem cM{p:κ×V}{r:List (κ×V)}{k:κ}(e:p.1=k):fO (p::r) k=some p.2:=by simp[fO,F0,e]
theorem cC{p:κ×V}{r:List (κ×V)}{k:κ}(e:¬p.1=k):fO (p::r) k=fO r k:=by simp[fO,F0,e]
theorem hW(k:κ):∀ kvs:List (κ×V),(kvs.any λkv=>decide (kv.1=k))=(fO kvs k).isSome
  | []=>rfl
  | p::r=>by
    rw[F9];by_cases e:p.1=k
    · simp only[cM e,decide_eq_true e,Bool.true_or,Option.isSome_some]
    · rw[cC e,decide_eq_false e,Bool.false_or];exact hW k r
theorem qE(k j:κ)(y:V):∀ kvs:List (κ×V),fO (kvs.map λkv=>if kv.1=k then(kv.1,y) else kv) j=(fO kvs j).map λx=>if j=k then y else x
  | []=>rfl
  | p::r=>by
    have ih:=qE k j y r;rw[Fl];by_cases h:p.1=k
    · rw[if_pos h]
      by_cases e:p.1=j
      · rw[cM (p:=(p.1,y)) e,cM e,FP,if_pos (e.symm.trans h)]
      · rw[cC (p:=(p.1,y)) e,cC e,ih]
    · rw[if_neg h]
      by_cases e:p.1=j
      · rw[cM (p:=p) e,cM e,FP,if_neg (λz=>h (e.trans z))]
      · rw[cC (p:=p) e,cC e,ih]
theorem nA(k j:κ)(y:V):∀ kvs:List (κ×V),fO kvs k=none→fO (kvs++[(k,y)]) j=if j=k then some y else fO kvs j
  | [],_=>by
    by_cases e:k=j
    · rw[if_pos e.symm];exact cM (p:=(k,y)) e
    · rw[if_neg (λz=>e z.symm)];exact cC (p:=(k,y)) e
  | p::r,hn=>by
    rw[List.cons_append];have hk:¬p.1=k:=λz=>by rw[cM z]at hn;cases hn
    rw[cC hk]at hn;have ih:=nA k j y r hn;by_cases e:p.1=j
    · rw[cM e,cM e,if_neg (λz=>hk (e.trans z))]
    · rw[cC e,cC e,ih]
theorem df(kvs:List (κ×V))(k j:κ)(y:V):fO (putK kvs k y) j=if j=k then some y else fO kvs j:=by
  unfold putK;by_cases a:(kvs.any λkv=>decide (kv.1=k))=true
  · rw[if_pos a,qE]
    rw[hW]at a;by_cases e:j=k
    · obtain⟨x,hx⟩:=Option.isSome_iff_exists.mp a
      rw[if_pos e,e,hx,FP,if_pos rfl]
    · rw[if_neg e]
      cases fO kvs j with
      | none=>rfl
      | some x=>rw[FP,if_neg e]
  · rw[if_neg a]
    refine nA k j y kvs ?_;rw[hW]at a;cases q:fO kvs k with
    | none=>rfl
    | some x=>rw[q]at a;exact(a rfl).elim
theorem jB(kvs:List (κ×V))(k:κ)(v:V):(putK kvs k v).length≤kvs.length+1:=by
  unfold putK;split
  · rw[EU];omega
  · rw[E5,Fs,List.length_nil];omega
theorem i9{kvs:List (κ×V)}{k:κ}(v:V)(h:fO kvs k=none):putK kvs k v=kvs++[(k,v)]:=by
  unfold putK;rw[hW,h];exact if_neg (by decide)
theorem jw.gj{o:Option V}{u:Option Value}(r:jw o u):o.isSome=u.isSome:=by
  cases o with
  | none=>cases u with
    | none=>rfl
    | some _=>exact(show False from r).elim
  | some _=>cases u with
    | none=>exact(show False from r).elim
    | some _=>rfl
theorem KV.val{kvs:List (κ×V)}{vs:List (κ×Value)}(r:KV kvs vs)(k:κ):jw (fO kvs k) (valueAt vs k):=by
  unfold KV at r;induction r with
  | nil=>exact True.intro
  | @cons p q ps qs h t ih =>
    obtain⟨h1,h2⟩:=h;by_cases e:p.1=k
    · have e':q.1=k:=h1.symm.trans e
      have b:valueAt (q::qs) k=some q.2:=(by simp[valueAt,F0,e']);rw[cM e,b];exact h2
    · have e':¬q.1=k:=λz=>e (h1.trans z)
      have b:valueAt (q::qs) k=valueAt qs k:=(by simp[valueAt,F0,e']);rw[cC e,b];exact ih
theorem KV.any{kvs:List (κ×V)}{vs:List (κ×Value)}(r:KV kvs vs)(k:κ):(kvs.any λkv=>decide (kv.1=k))=vs.any λkv=>decide (kv.1=k):=by
  unfold KV at r;induction r with
  | nil=>rfl
  | cons h t ih=>rw[F9,F9,ih,h.1]
theorem KV.Bs{kvs:List (κ×V)}{vs:List (κ×Value)}(r:KV kvs vs)(k:κ){y:V}{u:Value}(ry:RelV y u) :
    KV (kvs.map λkv=>if kv.1=k then(kv.1,y) else kv) (vs.map λkv=>if kv.1=k then(kv.1,u) else kv):=by
  unfold KV at r ⊢;induction r with
  | nil=>exact .nil
  | @cons p q ps qs h t ih =>
    rw[Fl,Fl];refine .cons ?_ ih;obtain⟨h1,h2⟩:=h;by_cases e:p.1=k
    · rw[if_pos e,if_pos (h1.symm.trans e)];exact⟨h1,ry⟩
    · rw[if_neg e,if_neg (λz=>e (h1.trans z))];exact⟨h1,h2⟩
theorem KV.put{kvs:List (κ×V)}{vs:List (κ×Value)}(r:KV kvs vs)(k:κ){y:V}{u:Value}(ry:RelV y u):KV (putK kvs k y) (stored vs k u):=by
  unfold putK stored;rw[r.any k];by_cases e:(vs.any λkv=>decide (kv.1=k))=true
  · rw[if_pos e,if_pos e];exact r.Bs k ry
  · rw[if_neg e,if_neg e];exact Paired.snoc r ⟨rfl,ry⟩
theorem KV.length{kvs:List (κ×V)}{vs:List (κ×Value)}(r:KV kvs vs):kvs.length=vs.length:=Paired.length r
end
theorem pG{P:Program}{w:World}{k:Key}{u:Value}(r:RelV (kV k) u):(cq P w).is k u=true:=by
  cases k with
  | inl i=>obtain⟨t,e⟩:=(show ∃ t,u=Value.int i t from r);subst e;exact pP P w i t
  | inr x=>obtain⟨t,e⟩:=(show ∃ t,u=Value.str x t from r);subst e;exact pQ P w x t
theorem nB{P:Program}{w:World}:∀ {ks:List Key} {us:List Value},Vals (ks.map kV) us→ItemsAre (cq P w) ks us
  | [],_,r=>by rw[List.map_nil]at r;cases r;exact .nil
  | k::ks,_,r=>by
    rw[Fl]at r;cases r with
    | cons h t=>exact .cons (pG h) (nB t)
abbrev KT(H:Hp):List (List Key×V)→List (List Key×Addr×Value)→Prop:=Paired λp q=>p.1=q.1∧H q.2.1=some (.tup (p.1.map kV))∧RelV p.2 q.2.2
theorem KT.val{H:Hp}{kvs:List (List Key×V)}{xs:List (List Key×Addr×Value)}(r:KT H kvs xs)(k:List Key):jw (fO kvs k) ((atKey xs k).map (·.2)):=by
  induction r with
  | nil=>exact True.intro
  | @cons p q ps qs h t ih =>
    obtain⟨h1,_,h2⟩:=h;by_cases e:p.1=k
    · have e':q.1=k:=h1.symm.trans e
      have b:atKey (q::qs) k=some q.2:=(by simp[atKey,F0,e']);rw[cM e,b];exact h2
    · have e':¬q.1=k:=λz=>e (h1.trans z)
      have b:atKey (q::qs) k=atKey qs k:=(by simp[atKey,F0,e']);rw[cC e,b];exact ih
theorem KT.Bs{H:Hp}{kvs:List (List Key×V)}{xs:List (List Key×Addr×Value)}(r:KT H kvs xs)(k:List Key){y:V}{u:Value}(ry:RelV y u) :
    KT H (kvs.map λkv=>if kv.1=k then(kv.1,y) else kv) (xs.map (putAt k u)):=by
  induction r with
  | nil=>exact .nil
  | @cons p q ps qs h t ih =>
    rw[Fl,Fl];refine .cons ?_ ih;obtain⟨h1,h2,h3⟩:=h;unfold putAt;by_cases e:p.1=k
    · rw[if_pos e,if_pos (h1.symm.trans e)];exact⟨h1,h2,ry⟩
    · rw[if_neg e,if_neg (λz=>e (h1.trans z))];exact⟨h1,h2,h3⟩
theorem KT.put{H:Hp}{kvs:List (List Key×V)}{xs:List (List Key×Addr×Value)}(r:KT H kvs xs)(k:List Key){b:Addr}{y:V}{u:Value}(hb:H b=some (.tup (k.map kV)))(ry:RelV y u) :
    KT H (putK kvs k y) (storedH xs k b u):=by
  have e:(kvs.any λkv=>decide (kv.1=k))=(atKey xs k).isSome:=by
    rw[hW,(r.val k).gj,Gw]
  unfold putK storedH;rw[e];by_cases q:(atKey xs k).isSome=true
  · rw[if_pos q,if_pos q];exact r.Bs k ry
  · rw[if_neg q,if_neg q];exact Paired.snoc r ⟨rfl,hb,ry⟩
theorem KT.keeps{H H':Hp}{kvs:List (List Key×V)}{xs:List (List Key×Addr×Value)}(r:KT H kvs xs)(ht:∀ b ys,H b=some (.tup ys)→H' b=some (.tup ys)):KT H' kvs xs :=
  Paired.yo r λ_ _ z=>⟨z.1,ht _ _ z.2.1,z.2.2⟩
section
variable{P:Program}{w:World}{H:Hp}{h:Heap}{a:Addr}
theorem yC{u:HO}(ok:HOk P w H h)(e:Rd H a u):bV P w H h a u:=e.ok ok
theorem rq{kvs:List (Key×V)}(ok:HOk P w H h)(e:Rd H a (.dK kvs)):kvs.length≤sizeLine∧(a == sysModules)=false∧∃ vs,KV kvs vs∧h.DictOf (cq P w) a vs :=
  show bV P w H h a (.dK kvs) from yC ok e
theorem yD{kvs:List (Key×V)}(ok:HOk P w H h)(e:H a=some (.dK kvs)):kvs.length≤sizeLine∧(a == sysModules)=false∧∃ vs,KV kvs vs∧h.DictOf (cq P w) a vs:=rq ok (.inl e)
theorem lN{ks:List Key}(ok:HOk P w H h)(e:H a=some (.tup (ks.map kV))):(tupleKind (cq P w)).is h ks a:=by
  obtain⟨_,its,r,o,h1,h2,n,h3⟩:=(show bV P w H h a (.tup (ks.map kV)) from ok a _ e);exact⟨o,its.toArray,n,h1,h2,h3,by simpa using nB r⟩
theorem rA{kvs:List (List Key×V)}(ok:HOk P w H h)(e:Rd H a (.dT kvs)):kvs.length≤sizeLine∧(a == sysModules)=false ∧
    ∃ xs,KT H kvs xs∧h.DictOfH (tupleKind (cq P w)) a xs:=by
  obtain⟨z,y,xs,r,o,es,ep,h1,h2,h3,h4,h5⟩:=(show bV P w H h a (.dT kvs) from yC ok e);refine⟨z,y,xs,r,o,es,ep,h1,h2,h3,h4,λx hx=>?_,h5⟩;have all:∀ {l:List (List Key×V)} {m:List (List Key×Addr×Value)},KT H l m→∀ x∈m,(tupleKind (cq P w)).is h x.1 x.2.1:=by
    intro l m q;induction q with
    | nil=>intro x hx;exact nomatch hx
    | @cons p q ps qs hq t ih =>
      intro x hx;rcases E8.mp hx with e|hx
      · subst e
        exact lN ok (by rw[←hq.1];exact hq.2.1)
      · exact ih x hx
  exact all r x hx
theorem B3{kvs:List (List Key×V)}(ok:HOk P w H h)(e:H a=some (.dT kvs)):kvs.length≤sizeLine∧(a == sysModules)=false ∧
    ∃ xs,KT H kvs xs∧h.DictOfH (tupleKind (cq P w)) a xs:=rA ok (.inl e)
end
def vg(H:Hp)(a:Addr)(y:V)(r:Option V):Prop :=
  (∃ kvs k,Rd H a (.dK kvs)∧y=kV k∧r=fO kvs k)∨∃ kvs k b,Rd H a (.dT kvs)∧y=.ref b∧H b=some (.tup (k.map kV))∧r=fO kvs k
def tN(H:Hp)(a:Addr)(y v:V)(H':Hp):Prop :=
  (∃ kvs k,H a=some (.dK kvs)∧y=kV k∧kvs.length<sizeLine∧H'=upd H a (.dK (putK kvs k v))) ∨
  ∃ kvs k b,H a=some (.dT kvs)∧y=.ref b∧H b=some (.tup (k.map kV))∧kvs.length<sizeLine∧H'=upd H a (.dT (putK kvs k v))
theorem tN.k{H:Hp}{a:Addr}{kvs:List (Key×V)}{k:Key}{v:V}(e:H a=some (.dK kvs))(hl:kvs.length<sizeLine):tN H a (kV k) v (upd H a (.dK (putK kvs k v))):=.inl ⟨kvs,k,e,rfl,hl,rfl⟩
section
variable{X:Cx}{pins:List (Addr×Obj)}{σ:St}{H:Hp}{s:Shared}{a:Addr}{y v:V}{u r:Value}{o:Option V}{A:Around}{E:Value→Shared→Prop}
theorem Inv.big(I:Inv X pins σ H s):sysModules<s.heap.objs.size:=by
  have h:mainGlobals<s.heap.objs.size:=(I.mod.glob.keeps I.bk).lt;exact Nat.lt_trans (by decide) h
theorem uv{Q:Value→Shared→Prop}(hu:A.units+1<cLine)(I:Inv X pins σ H s)(g:vg H a y (some v))(ry:RelV y u)(h:∀ w' s',Inv X pins σ H s'→RelV v w'→Q w' s') :
    wpAny (model X.prog X.w) A (getItem (.ref a) u) Q E s:=by
  rcases g with⟨kvs,k,e,ey,l⟩|⟨kvs,k,b,e,ey,eb,l⟩
  · subst ey
    obtain⟨z,hd,vs,rel,dd⟩:=rq I.hok e;obtain⟨w',hw,rw'⟩:=jw.some_of (v:=v) (o:=valueAt vs k) (by rw[l];exact rel.val k);exact wpAny_getItem_of (pG ry) dd.mapOf hw (h w' _ (I.tok _) rw')
  · subst ey
    cases (show u=Value.ref b from ry);obtain⟨z,hd,xs,rel,dd⟩:=rA I.hok e;obtain⟨w',hw,rw'⟩:=jw.some_of (v:=v) (o:=(atKey xs k).map (·.2)) (by rw[l];exact rel.val k);obtain⟨p,hp,hp2⟩:=Fh.mp hw;refine wpAny_getItem_heap (tupleKind_room_in1 hu) (lN I.hok eb) dd hp ?_;rw[hp2];exact h w' _ (I.tok _) rw'
theorem Eb{Q:Value→Shared→Prop}(hu:A.units+1<cLine)(I:Inv X pins σ H s)(g:vg H a y o)(ry:RelV y u)(h:∀ s',Inv X pins σ H s'→Q (.bool o.isSome) s') :
    wpAny (model X.prog X.w) A (compareOp .In u (.ref a)) Q E s:=by
  rcases g with⟨kvs,k,e,ey,l⟩|⟨kvs,k,b,e,ey,eb,l⟩
  · subst ey
    obtain⟨z,hd,vs,rel,dd⟩:=rq I.hok e;refine wpAny_in_of (pG ry) hd dd.mapOf ?_;rw[←(rel.val k).gj,←l];exact h _ (I.tok _)
  · subst ey
    cases (show u=Value.ref b from ry);obtain⟨z,hd,xs,rel,dd⟩:=rA I.hok e;refine wpAny_in_heap (tupleKind_room_in1 hu) (lN I.hok eb) hd dd ?_;have q:=(rel.val k).gj;rw[Gw]at q;rw[←q,←l];exact h _ (I.tok _)
theorem xN{Q:Value→Shared→Prop}(hu:A.units+1<cLine)(I:Inv X pins σ H s)(g:vg H a y o)(ry:RelV y u)(h:∀ s',Inv X pins σ H s'→Q (.bool (!o.isSome)) s') :
    wpAny (model X.prog X.w) A (compareOp .NotIn u (.ref a)) Q E s:=by
  rcases g with⟨kvs,k,e,ey,l⟩|⟨kvs,k,b,e,ey,eb,l⟩
  · subst ey
    obtain⟨z,hd,vs,rel,dd⟩:=rq I.hok e;refine wpAny_notIn_of (pG ry) hd dd.mapOf ?_;rw[←(rel.val k).gj,←l];exact h _ (I.tok _)
  · subst ey
    cases (show u=Value.ref b from ry);obtain⟨z,hd,xs,rel,dd⟩:=rA I.hok e;refine wpAny_notIn_heap (tupleKind_room_in1 hu) (lN I.hok eb) hd dd ?_;have q:=(rel.val k).gj;rw[Gw]at q;rw[←q,←l];exact h _ (I.tok _)
theorem tO{h':Heap}{t':Nat}{ob:HO}(I:Inv X pins σ H s)(mu:Mut (H a))(hs:Heap.SameBut a s.heap h')(he:∃ q,h'.get? a=some q)(new:bV X.prog X.w (upd H a ob) h' a ob) :
    Inv X pins σ (upd H a ob) {s with heap:=h',toks:=t'} :=
  I.write (x:=a) (e:=a) mu (.inl rfl) (λb q hb z=>(hs.2 b hb).trans z) he new
theorem wo{P:Program}{w:World}{H':Hp}{h':Heap}{kvs:List (Key×V)}{vs:List (Key×Value)}(z:kvs.length≤sizeLine)(hd:(a == sysModules)=false)(rel:KV kvs vs)(dd:h'.DictOf (cq P w) a vs) :
    bV P w H' h' a (.dK kvs):=⟨z,hd,vs,rel,dd⟩
theorem uw{H':Hp}{Q:Unit→Shared→Prop}(hu:A.units+1<cLine)(I:Inv X pins σ H s)(g:tN H a y v H')(ry:RelV y u)(rv:RelV v r)(h:∀ s',Inv X pins σ H' s'→Q () s') :
    wpAny (model X.prog X.w) A (setItem (.ref a) u r) Q E s:=by
  rcases g with⟨kvs,k,e,ey,l,eH⟩|⟨kvs,k,b,e,ey,eb,l,eH⟩
  · subst ey eH
    obtain⟨z,hd,vs,rel,dd⟩:=yD I.hok e;have hz:vs.length≤sizeLine:=(by rw[←rel.length];exact z);have hl:(putK kvs k v).length≤sizeLine:=(by have:=jB kvs k v;omega);refine wpAny_setItem_pairs (hsz:=hz) (pG ry) dd λh' dd' hs=>h _ ?_;have he:∃ q,h'.get? a=some q:=let ⟨q,_,_,hq,_⟩:=dd';⟨q,hq⟩;exact tO I (by rw[e];exact True.intro) hs he (wo hl hd (rel.put k rv) dd')
  · subst ey eH
    cases (show u=Value.ref b from ry);obtain⟨z,hd,xs,rel,dd⟩:=B3 I.hok e;have hz:xs.length≤sizeLine:=(by rw[←Paired.length rel];exact z);have hl:(putK kvs k v).length≤sizeLine:=(by have:=jB kvs k v;omega);refine wpAny_setItem_heap (hsz:=hz) (tupleKind_room_in1 hu) (lN I.hok eb) dd λh' dd' hs=>h _ ?_;obtain⟨q,es,ep,hq,h2,h3,h4,_,h5⟩:=dd';refine tO I (by rw[e];exact True.intro) hs ⟨q,hq⟩ ⟨hl,hd,_,(rel.put k eb rv).keeps λc ys ec=>?_,q,es,ep,hq,h2,h3,h4,h5⟩;rw[ah (bB ec e (λz=>nomatch z))];exact ec
end
section
variable{X:Cx}{pins:List (Addr×Obj)}{σ:St}{H:Hp}{s:Shared}{a:Addr}{kvs:List (Key×V)}{k:Key}{u:Value}{A:Around}{E:Value→Shared→Prop}
end
def Dj(i:Expr):Prop:=∀ ov iv,subscripted i false ov iv=operate [ov,iv] (getItem ov iv)
theorem xO{prog:Program}{w:World}{A:Around}{E:Value→Shared→Prop}{s:Shared}{env:Env}{value slice:Expr}{pos:Pos}{T id:String}{Q:Value→Shared→Prop}
    (hl:typeLookup (.type T) "__getitem__" = pure (some (.builtin id))) (hs:Dj slice)
    (h:wpAny (model prog w) A (eval value env) (λo s₁=>wpAny (model prog w) A (eval slice env) (λi s₂=>s₂.TypeIs o T∧wpAny (model prog w) A (getItem o i) Q E s₂) E s₁) E s) :
    wpAny (model prog w) A (eval (.Subscript value slice pos) env) Q E s:=by
  refine Subscript_ (wpAny_mono h (λo s₁ h₁=>wpAny_mono h₁ (λi s₂ h₂=>?_) λ_ _ x=>x) λ_ _ x=>x);obtain⟨hT,h₂⟩:=h₂;unfold subscriptTail;refine wpAny_bind ?_;rw[getitemInPython_of_ne hT.not_modules];refine wpAny_bind (wpAny_specialOf hT hl ?_);have fin:wpAny (model prog w) A (subscripted slice false o i) (λr s₃=>wpAny (model prog w) A (letTemporaryGo value o r >>= λ_=>pure r) Q E s₃) E s₂:=by
    rw[hs o i];exact wpAny_operating (wpAny_mono h₂ (λr s₃ h₃=>wpAny_bind (wpAny_letTemporaryGo (wpAny_pure h₃))) λ_ _ x=>x)
  first
    | exact wpAny_pure (wpAny_bind fin)
    | exact wpAny_bind (wpAny_pure (wpAny_bind fin))
    | exact wpAny_bind fin
theorem pT{X:Cx}{pins:List (Addr×Obj)}{σ:St}{H:Hp}{s:Shared}{a:Addr}{y:V}{o:Option V}(I:Inv X pins σ H s)(g:vg H a y o):s.TypeIs (.ref a) "dict" := by
  rcases g with⟨kvs,k,e,_,_⟩|⟨kvs,k,b,e,_,_,_⟩
  · obtain⟨_,_,vs,_,dd⟩:=rq I.hok e
    exact dd.typeIs
  · obtain⟨_,_,xs,_,dd⟩:=rA I.hok e
    exact dd.typeIs
def B4(td ty:TE):TE:=λσ H Q=>td σ H λx H1=>ty σ H1 λy H2=>∃ a v,x=.ref a∧vg H2 a y (some v)∧Q v H2
def Ec(ty td:TE):TE:=λσ H Q=>ty σ H λy H1=>td σ H1 λx H2=>∃ a o,x=.ref a∧vg H2 a y o∧Q (.bl o.isSome) H2
def xP(ty td:TE):TE:=λσ H Q=>ty σ H λy H1=>td σ H1 λx H2=>∃ a o,x=.ref a∧vg H2 a y o∧Q (.bl (!o.isSome)) H2
def B7(td ty tv:TE):TS:=λD σ H=>tv σ H λv H1=>td σ H1 λx H2=>ty σ H2 λy H3=>∃ a H4,x=.ref a∧tN H3 a y v H4∧D.nx σ H4
section
variable{X:Cx}{o i e value:Expr}{pos pos' DY:Pos}{td ty tv:TE}
theorem cY(hu:X.A.units+1<cLine)(ho:PE X o td)(hi:PE X i ty)(hs:Dj i):PE X (.Subscript o i pos) (B4 td ty):=by
  intro pins s σ H Q I h;refine xO PySem.F.slot_dict_getitem.lookup hs (thn (ho pins s σ H _ I h) λu s1 ⟨x,H1,I1,rx,q1⟩=>thn (hi pins s1 σ H1 _ I1 q1) λiv s2 ⟨y,H2,I2,ry,a,v,ex,g,q2⟩=>?_);subst ex;obtain rfl:u=Value.ref a:=rx;exact⟨pT I2 g,uv hu I2 g ry λw' s3 I3 rw'=>⟨v,H2,I3,rw',q2⟩⟩
theorem wu(hu:X.A.units+1<cLine)(hi:PE X i ty)(ho:PE X o td):PC X .In i o (Ec ty td):=by
  intro pins s σ H Q I h;refine thn (hi pins s σ H _ I h) λiv s1 ⟨y,H1,I1,ry,q1⟩=>thn (ho pins s1 σ H1 _ I1 q1) λu s2 ⟨x,H2,I2,rx,a,ov,ex,g,q2⟩=>?_;subst ex;obtain rfl:u=Value.ref a:=rx;exact Eb hu I2 g ry λs3 I3=>⟨.bl ov.isSome,H2,I3,rfl,q2⟩
theorem ux(hu:X.A.units+1<cLine)(hi:PE X i ty)(ho:PE X o td):PC X .NotIn i o (xP ty td):=by
  intro pins s σ H Q I h;refine thn (hi pins s σ H _ I h) λiv s1 ⟨y,H1,I1,ry,q1⟩=>thn (ho pins s1 σ H1 _ I1 q1) λu s2 ⟨x,H2,I2,rx,a,ov,ex,g,q2⟩=>?_;subst ex;obtain rfl:u=Value.ref a:=rx;exact xN hu I2 g ry λs3 I3=>⟨.bl (!ov.isSome),H2,I3,rfl,q2⟩
theorem kI(hu:X.A.units+1<cLine)(ho:PE X o td)(hi:PE X i ty)(hv:PE X value tv)(hs:swapsWith value (some (.Subscript o i pos')) pos.line X.env=pure false) :
    PS X (.Assign [.Subscript o i pos'] value pos) (B7 td ty tv):=by
  intro pins s σ H D I h;refine wpAny_Assign_Subscript (thn (hv pins s σ H _ I h) λr s1 ⟨v,H1,I1,rv,q1⟩=>thn (ho pins s1 σ H1 _ I1 q1) λu s2 ⟨x,H2,I2,rx,q2⟩=>thn (hi pins s2 σ H2 _ I2 q2) λiv s3 ⟨y,H3,I3,ry,a,H4,ex,g,q3⟩=>?_) hs;subst ex;obtain rfl:u=Value.ref a:=rx;exact uw hu I3 g ry rv λs4 I4=>⟨σ,H4,I4,q3⟩
end
theorem vz{P:Program}{w:World}{H:Hp}(h:Heap)(hb:sysModules<h.objs.size):bV P w H (h.push {cls:=.type "dict",data:=.dict #[]}) h.objs.size (.dK []) :=
  ⟨Fj _,beq_eq_false_iff_ne.mpr (FC (E9 hb)),[],.nil,Heap.DictOf.new h⟩
def zI:TE:=λ_ H Q=>∀ p,H p=none→Q (.ref p) (upd H p (.dK []))
section
variable{X:Cx}{pos:Pos}
theorem ja:PE X (.Dict [] [] pos) zI:=λpins s σ H Q I h =>
  wpAny_Dict_empty ⟨.ref s.heap.objs.size,_,I.laid (a:=s.heap.objs.size) (o:=.dK []) (t':=s.toks) (λ_ _ q=>ES _ q) (EV _) (vz s.heap I.big),rfl,h _ (I.hok.fresh (EV _))⟩
end
section
variable{X:Cx}{pins:List (Addr×Obj)}{σ:St}{H:Hp}{s:Shared}{a:Addr}{y d:V}{u r:Value}{o:Option V}{A:Around}{E:Value→Shared→Prop}
end
section
variable{X:Cx}{o e f:Expr}{apos tM:Pos}{td ty tx:TE}
end
section
variable{X:Cx}{pins:List (Addr×Obj)}{σ:St}{H:Hp}{s:Shared}{a:Addr}{kvs:List (Key×V)}{A:Around}{E:Value→Shared→Prop}
end
section
variable{X:Cx}{pins:List (Addr×Obj)}{σ:St}{H:Hp}{s:Shared}{a:Addr}{y:V}{u:Value}{A:Around}{E:Value→Shared→Prop}
end
end L2
namespace L2
open PySem PySem.Spec PyProof.Rows
section
variable{X:Cx}
end
end L2
end
section
namespace LX
open PySem PySem.W
def bI(c:Value)(od:Option Addr)(fs:Array Value)(sl:Array (Option Value)):Obj:={cls:=c,dict:=od,data:=.fields fs,slots:=sl}
def wy(dd:Option Addr)(cd:ClassData)(k0 k1 k2 k3 k5:Option Value):Obj:={cls:=.type "type",dict:=dd,data:=.cls cd,slots:=#[k0,k1,k2,k3,some (.builtin "ValueError.__new__"),k5]}
structure dG(K:Frag)(C:Addr)(cd:ClassData):Prop where
 ob:∃ dd k0 k1 k2 k3 k5,K.lookup C=some (wy dd cd k0 k1 k2 k3 k5)
 del:cd.hasDel=false
 line:∃ r,cd.mro=.ref C::r
 val:cd.mro.contains (.type "ValueError")=true
 bas:cd.mro.contains (.type "BaseException")=true
 obj:cd.mro.contains (.type "object")=true
 atr:cd.mro.contains (.type "AttributeError")=false
 nam:cd.mro.contains (.type "NameError")=false
def pH(K:Frag)(C:Addr):Bool:=match K.lookup C with
 | some ⟨.type "type",_,.cls cd,sl⟩=>(match cd.mro,sl.toList with
  | .ref D::_,[_,_,_,_,some (.builtin n),_]=>D == C&&n == "ValueError.__new__" && !cd.hasDel&&cd.mro.contains (.type "ValueError")&&cd.mro.contains (.type "BaseException") &&
    cd.mro.contains (.type "object")&&!cd.mro.contains (.type "AttributeError")&&!cd.mro.contains (.type "NameError")
  | _,_=>false)
 | _=>false
theorem oZ{K:Frag}{C:Addr}(e:pH K C=true):∃ cd,clsIn K C=some cd∧dG K C cd:=by
 unfold pH at e;split at e
 ·rename_i dd cd sl ho
  split at e
  ·rename_i D r k0 k1 k2 k3 n k5 hm hs
   simp only[Gh,beq_iff_eq,Bool.not_eq_true']at e;obtain⟨⟨⟨⟨⟨⟨⟨rfl,rfl⟩,e1⟩,e2⟩,e3⟩,e4⟩,e5⟩,e6⟩:=e;obtain⟨sl⟩:=sl;simp only at hs;subst hs;exact⟨cd,by unfold clsIn;rw[ho],⟨dd,k0,k1,k2,k3,k5,ho⟩,e1,⟨r,hm⟩,e2,e3,e4,e5,e6⟩
  ·cases e
 ·cases e
section
variable{K:Frag}{C:Addr}{cd:ClassData}{M:Model}{h:Heap}
theorem dG.cls(x:dG K C cd):clsIn K C=some cd:=by
 obtain⟨dd,k0,k1,k2,k3,k5,e⟩:=x.ob;unfold clsIn;rw[e];rfl
theorem dG.jb(x:dG K C cd):cd.mro.isEmpty=false:=by
 obtain⟨r,e⟩:=x.line;rw[e];rfl
theorem dG.sub(x:dG K C cd)(X:K.In h)(v:Value):Looks M h (isSubtype (.ref C) v) (cd.mro.contains v) :=
 looks_mroIn X (by unfold mroIn;rw[x.cls,FW,if_neg (by rw[x.jb];decide)])
theorem dG.mro(x:dG K C cd)(X:K.In h):Looks M h (mroOf (.ref C)) cd.mro:=(looks_clsIn X x.cls).andThen .now
theorem dG.typ(x:dG K C cd)(X:K.In h):Looks M h (typeOf (.ref C)) (.type "type"):=by
 obtain⟨dd,k0,k1,k2,k3,k5,e⟩:=x.ob;exact(Looks.ld (X _ _ e)).andThen .now
theorem dG.Dk(x:dG K C cd)(X:K.In h):Looks M h (isType (.ref C)) true:=by
 obtain⟨dd,k0,k1,k2,k3,k5,e⟩:=x.ob;intro A Q E s k q;unfold isType loadHead;exact wpAny_bind (wpAny_loadPart (k _ _ (X _ _ e)) (wpAny_pure q))
theorem dG.madeBy(x:dG K C cd)(X:K.In h):Looks M h (Bind.madeBy (.ref C)) (some "ValueError.__new__"):=by
 obtain⟨dd,k0,k1,k2,k3,k5,e⟩:=x.ob;obtain⟨r,hr⟩:=x.line;intro A Q E s k q;unfold Bind.madeBy;refine wpAny_bind (x.mro X A _ E s k ?_);rw[hr,List.forIn_cons];refine wpAny_bind (wpAny_bind (wpAny_bind (wpAny_bind (wpAny_loadPart (k _ _ (X _ _ e)) (wpAny_pure ?_)))));exact wpAny_pure (wpAny_pure (wpAny_pure q))
theorem dG.static(x:dG K C cd)(X:K.In h):Looks M h (Bind.staticBase (.ref C)) (.ref C):=by
 obtain⟨r,hr⟩:=x.line;intro A Q E s k q;unfold Bind.staticBase;refine wpAny_bind (x.mro X A _ E s k ?_);rw[hr,List.forIn_cons];exact wpAny_bind (wpAny_bind (wpAny_bind (x.madeBy X A _ E s k (wpAny_pure (wpAny_pure (wpAny_pure q))))))
theorem xQ:Manifest.canonical "ValueError.__new__" = Manifest.canonical "BaseException.__new__" := PySem.F.excBase_ValueError.canon
theorem dG.here(x:dG K C cd)(X:K.In h):Looks M h (Bind.madeHere "BaseException.__new__" (.ref C)) () :=
 (x.static X).andThen ((x.madeBy X).andThen (Looks.of_pure (by simp only[FP,xQ,bne_self_eq_false,FA,if_false])))
end
def Back(x:Addr)(R:Result→Shared→Prop)(r:Result)(s':Shared):Prop:=match r with
 | .ok (.ret v)=>v=.none∧R (.ok (.ret (.ref x))) s'
 | .ok _=>False
 | .error e=>R (.error e) s'
abbrev sL(C t:Addr):Obj:=bI (.ref C) none #[.ref t,.none,.none,.none,.bool false,.none] #[]
abbrev ix(vs:List Value):Obj:={cls:=.type "tuple",data:=.seq vs.toArray}
abbrev f9(h:Heap)(C:Addr)(vs:List Value):Heap:=(h.push (ix vs)).push (sL C h.objs.size)
section
variable{prog:Program}{w:World}{A:Around}{R:Result→Shared→Prop}{h:Heap}{g:Array GenState}{d:Drawn}{t:Nat}{os:OsState}{K:Frag}{C:Addr}{cd:ClassData}{vs:List Value}
theorem vA(x:dG K C cd)(X:K.In h)(hv:vs.length≤sizeLine)(k:R (.ok (.ret (.ref (h.objs.size+1)))) ⟨f9 h C vs,g,d,t,os⟩) :
  codeAny (model prog w) A (.call (.builtin "ValueError.__new__") ⟨.ref C::vs,[]⟩) R ⟨h,g,d,t,os⟩:=by
 have F:=PySem.F.excBase_ValueError;have st:=x.static (M:=model prog w) X;have ty:=x.Dk (M:=model prog w) X;have mb:=x.madeBy (M:=model prog w) X;have hh:=x.here (M:=model prog w) X;have s1:=x.sub (M:=model prog w) X (.type "ValueError");rw[x.val]at s1;have s2:=x.sub (M:=model prog w) X (.type "AttributeError");rw[x.atr]at s2;have s3:=x.sub (M:=model prog w) X (.type "NameError");rw[x.nam]at s3;refine codeAny_call_builtin_code (Code.quiet_builtin _ F.quiet) ?_;have star:=F.noStar;simp only[checkBuiltinCall,F.newKind,F.newSplit,F.newRow]
 repeat (first|simp only[bne_self_eq_false,FA,if_false,Bool.not_true]|lk)
 refine codeAny_builtinAt F.entry ?_;unfold Builtin.«BaseException.__new__»;refine wpAt_bind ?_;show wpAt _ _ _ (stack >>= _) _ _ _;refine wpAt_bind (wpAt_stack λp below=>wpAt_of_wpAny ?_);have EH:=F.ends;wp_walk
 refine wpAt_of_wpAny ?_;rw[F.owner]
 repeat (first|simp only[bne_self_eq_false,FA,if_false,Bool.not_true]|lk)
 rw[if_neg (by rw[EZ];omega)];obtain⟨dd,k0,k1,k2,k3,k5,ho⟩:=x.ob
 repeat lk
 refine nd_load (ES _ (ES _ (X _ _ ho))) (wpAny_pure (wpAny_pure ?_));rw[x.del,if_neg EY];refine wpAny_pure (wpAny_pure ?_);show R _ _;rw[F6];exact k
theorem vB{f:Addr}(x:dG K C cd)(X:K.In h)(hi:findIn K (.ref C) "__init__" = some (some (.ref f)))(hf:typeIn K (.ref f)=some (.type "function"))(hv:vs.length≤sizeLine)
  (k:codeAny (model prog w) (A.under (.builtin "type.__call__" ⟨.ref C::vs,[]⟩)) (.call (.ref f) ⟨.ref (h.objs.size+1)::vs,[]⟩) (Back (h.objs.size+1) R) ⟨f9 h C vs,g,d,t,os⟩) :
  codeAny (model prog w) A (.call (.ref C) ⟨vs,[]⟩) R ⟨h,g,d,t,os⟩:=by
 obtain⟨dd,k0,k1,k2,k3,k5,ho⟩:=x.ob;have hC:=X _ _ ho;have ht:=x.typ (M:=model prog w) X;refine codeAny_of_tree ?_;show wpAny _ _ (callAny (.ref C) _) _ _ _;refine nd_load hC ?_;show wpAny _ _ (callAny.viaDunder (.ref C) _) _ _ _;unfold callAny.viaDunder;have sp:Looks (model prog w) h (specialOf (.ref C) "__call__") (some (.builtin "type.__call__")):=ht.andThen (Looks.of_pure tc_lookup);refine wpAny_bind (sp.at ?_);dsimp only;rw[tc_bind];refine wpAny_bind (wpAny_pure (wpAny_bind (wpAny_pure ?_)));refine wpAny_pure (a:=Fin.again (.call (.builtin "type.__call__") ⟨.ref C::vs,[]⟩)) (And.intro rfl ?_);refine codeAny_call_builtin_at (Code.quiet_builtin _ (by decide +kernel)) entry_typeCall (check_slot tc_kind tc_split (ht.andThen (Looks.of_pure tc_sub)) (tc_args _ _ _) ?_);unfold Builtin.«type.__call__»;have hm:=x.mro (M:=model prog w) X;have em:=x.jb;have mb:=x.madeBy (M:=model prog w) X
 repeat (first|simp only[em,FA,if_false]|with_reducible refine wpAny_call ?_|lk)
 refine vA x X hv ?_;have kp:∀ b o,h.get? b=some o→(f9 h C vs).get? b=some o:=λb o e=>ES _ (ES _ e);have X1:K.In (f9 h C vs):=X.keeps kp;have hx:(f9 h C vs).get? (h.objs.size+1)=some (sL C h.objs.size):=by heap_get
 have t1:Looks (model prog w) (f9 h C vs) (typeOf (.ref (h.objs.size+1))) (.ref C):=(Looks.ld hx).andThen .now;have s1:=x.sub (M:=model prog w) X1 (.ref C);obtain⟨r,hr⟩:=x.line;rw[show cd.mro.contains (.ref C)=true by rw[hr];simp]at s1;have i1:=looks_findIn (M:=model prog w) X1 hi;have b1:=bind_fn (M:=model prog w) X1 (.ref (h.objs.size+1)) hf;unfold isInstance callSpecial? specialOf
 repeat (first|with_reducible refine wpAny_call ?_|lk)
 refine codeAny_mono k λr s' z=>?_;rcases r with e|(v|_|_|_)<;>first|exact z|exact z.elim|skip;obtain⟨rfl,z⟩:=z;exact wpAny_pure (wpAny_pure z)
end
section
variable{prog:Program}{w:World}{A:Around}{E:Value→Shared→Prop}{h:Heap}{g:Array GenState}{d:Drawn}{t:Nat}{os:OsState}{K:Frag}{C e t0:Addr}{cd:ClassData}{vs:List Value}{od:Option Addr}{fs:Array Value}{sl:Array (Option Value)}
theorem qF{M:Model}(he:h.get? e=some (bI (.ref C) od fs sl)):Looks M h (typeOf (.ref e)) (.ref C):=(Looks.ld he).andThen .now
theorem pU{Q:Value→Shared→Prop}(x:dG K C cd)(X:K.In h)(he:h.get? e=some (bI (.ref C) od fs sl))(h0:fs[0]?=some (.ref t0))(hv:vs.length≤sizeLine)
  (k:Q .none ⟨(h.push (ix vs)).update e (Obj.mapFields (·.setIfInBounds 0 (.ref h.objs.size))),g,d,t,os⟩) :
  wpAny (model prog w) A (call (.builtin "ValueError.__init__") (.ref e::vs)) Q E ⟨h,g,d,t,os⟩:=by
 have F:=PySem.F.excBase_ValueError;have ty:=qF (M:=model prog w) he;have s1:=x.sub (M:=model prog w) X (.type "ValueError");rw[x.val]at s1;obtain⟨dd,k0,k1,k2,k3,k5,ho⟩:=x.ob;have hC:h.get? C=some ⟨.type "type",dd,.cls cd,#[k0,k1,k2,k3,some (.builtin "ValueError.__new__"),k5]⟩:=X _ _ ho;have star:=F.noStar;refine wpAny_call (codeAny_call_builtin F.init.plain F.initEntry ?_);simp only[checkBuiltinCall,F.initKind,F.initSplit,F.initRow];unfold isInstance Bind.checkArgs;refine wpAny_bind (wpAny_bind (ty.at (s1.at ?_)));simp only[FA,if_false,Bool.not_true];refine wpAny_bind (m:=Bind.printed "*" true _ _) ?_;unfold Bind.printed Bind.receiverType typeNameWhole;rw[if_neg (by decide)];dsimp only;rw[if_neg (by decide)];refine wpAny_bind (ty.at ?_);refine wpAny_bind (wpAny_bind ((looks_clsIn X x.cls).at (wpAny_pure (wpAny_pure ?_))));refine wpAny_bind (m:=if("ValueError" != "*")=true then pure "ValueError" else _) ?_;rw[if_pos star];refine wpAny_pure (wpAny_onRaise ?_);show wpAny _ _ (Bind.check _ _ _ _ []) _ _ _;rw[PyProof.Rows.check_varPos];refine wpAny_pure ?_;unfold Builtin.«BaseException.__init__»;dsimp only;rw[if_neg (by simp)];unfold newTuple Builtin.BaseException.bexcPut;have hsz:0<fs.size:=(Fz.mp h0).1;have e1:=ES (h:=h) (ix vs) he;refine wpAny_bind (wpAny_newObj_type ?_ (by show vs.toArray.size≤sizeLine;rw[EZ];exact hv));refine wpAny_bind (wpAny_bind (wpAny_field (s:=⟨h.push (ix vs),g,d,t,os⟩) e1 rfl h0 ?_));refine wpAny_bind (wpAny_setField (s:=⟨h.push (ix vs),g,d,t,os⟩) e1 rfl hsz ?_);exact wpAny_letGo (wpAny_pure k)
end
section
variable{prog:Program}{w:World}{A:Around}{E:Value→Shared→Prop}{s:Shared}{K:Frag}
theorem xR:findCls K (.type "ValueError") (.type "type") "__init__" = some (.val (.builtin "ValueError.__init__")):=by kernel_rfl
theorem yE:findIn K (.type "type") "__getattribute__" = some (some (.builtin "type.__getattribute__")):=by kernel_rfl
theorem wz{M:Model}{h:Heap}:Looks M h (typeOf (.type "ValueError")) (.type "type"):=Looks.of_pure (by kernel_rfl)
theorem zJ:subIn K (.type "type") (.type "type")=some true:=by kernel_rfl
theorem zK{M:Model}{h:Heap}:Looks M h (opaqueClassAbove (.type "ValueError")) none:=Looks.of_pure (by kernel_rfl)
theorem xS{pl:Sem Bool}{Q:Value×List Value→Shared→Prop}(X:K.In s.heap)(k:Q (.builtin "ValueError.__init__",[]) {s with toks:=s.toks+1}) :
  wpAny (model prog w) A (getMethod (.type "ValueError") "__init__" pl) Q E s:=by
 have sp:Looks (model prog w) s.heap (specialOf (.type "ValueError") "__getattribute__") (some (.builtin "type.__getattribute__")):=wz.andThen (looks_findIn X yE);unfold getMethod;refine wpAny_bind (sp.here ?_);dsimp only;rw[if_pos canon_tga];refine wpAny_bind (cls_open (hook:=none) X zK wz yE (Looks.of_pure (by kernel_rfl)) zJ xR ?_);refine wpAny_pure ?_;show wpAny _ _ (handedOut _) _ _ _;rw[handedOut_of (by kernel_rfl)];exact wpAny_pure (wpAny_pure k)
end
section
variable{prog:Program}{w:World}{A:Around}{E:Value→Shared→Prop}{s:Shared}{K:Frag}{env:Env}
def uy(K:Frag)(E:Value→Shared→Prop)(v:Value)(s1:Shared):Prop :=
 ∃(ea C:Addr) (cd:ClassData) (od:Option Addr) (fs:Array Value) (sl:Array (Option Value)),v=.ref ea∧s1.heap.get? ea=some (bI (.ref C) od fs sl)∧fs[1]?=some .none∧dG K C cd∧K.In s1.heap∧E (.ref ea) s1
theorem uz{e:Expr}{pos:Pos}{Q:Flow→Shared→Prop}(hh:A.handled=none)(k:wpAny (model prog w) A (eval e env) (uy K E) E s) :
  wpAny (model prog w) A (exec (.Raise (some e) none pos) env) Q E s:=by
 show wpAny (model prog w) A (do standAt pos;raiseStmt env (some (do let v ←eval e env;standAt pos;pure v)) none) Q E s
 refine wpAny_bind (wpAny_standAt ?_);unfold raiseStmt;dsimp only;refine wpAny_bind (wpAny_bind (wpAny_mono k (λv s1 q=>wpAny_bind (wpAny_standAt (wpAny_pure ?_))) λ_ _ z=>z));obtain⟨ea,C,cd,od,fs,sl,rfl,he,h1,x,X,hE⟩:=q;obtain⟨hp,g,d,tk,os⟩:=s1;have ty:=qF (M:=model prog w) he;have nt:Looks (model prog w) hp (isType (.ref ea)) false:=by
  intro A' Q' E' s' kk q;unfold isType loadHead;exact wpAny_bind (wpAny_loadPart (kk _ _ he) (wpAny_pure q))
 have sb:=x.sub (M:=model prog w) X (.type "BaseException");rw[x.bas]at sb;have ct:=x.typ (M:=model prog w) X;have f1:Looks (model prog w) hp (field (.ref ea) 1) .none:=looks_field he 1 h1;refine wpAny_bind (wpAny_pure ?_);dsimp only;refine wpAny_bind (wpAny_holding ?_);unfold excFromValue isExcClass isInstance
 repeat (first|simp only[FA,if_false,if_true]|lk)
 show wpAny _ _ handled _ _ _;refine wpAny_handled ?_;rw[hh];exact wpAny_throw hE
theorem uA{ea C:Addr}{fs:Array Value}{sl:Array (Option Value)}{h:Heap}(he:h.get? ea=some (bI (.ref C) none fs sl)):InstAt h ea (bI (.ref C) none fs sl) C none:=⟨he,rfl,rfl,True.intro⟩
theorem uB{ea C dx:Addr}{o:Obj}{fs:Array Value}{sl:Array (Option Value)}{h:Heap}(he:h.get? ea=some (bI (.ref C) (some dx) fs sl))(hd:h.get? dx=some o):InstAt h ea (bI (.ref C) (some dx) fs sl) C (some o):=⟨he,rfl,rfl,hd⟩
end
structure xT(K:Frag)(C:Addr):Prop where
 ga:findIn K (.ref C) "__getattribute__" = some (some (.builtin "BaseException.__getattribute__"))
 gt:findIn K (.ref C) "__getattr__" = some none
section
variable{prog:Program}{w:World}{A:Around}{E:Value→Shared→Prop}{h:Heap}{g:Array GenState}{d:Drawn}{t:Nat}{os:OsState}{K:Frag}{C ea:Addr}{cd:ClassData}{ox:Obj}{od:Option Obj}{name:Str}
theorem uC{tk:Tok}{fill expr:Bool}{r:Builtin.ObjectAttr.Found}{Q:Value→Shared→Prop}(x:dG K C cd)(G:xT K C)(X:K.In h)(I:InstAt h ea ox C od)(hf:findObj K C od name=some r)
  (k:match r with
   | .value v=>handedIn v=true∧Q v ⟨h,g,d,t,os⟩
   | .bind gg a=>wpAny (model prog w) A.in1 (call gg [a,.ref ea,.ref C]) (λv s'=>handedIn v=true∧Q v s') (λ_ _=>False) ⟨h,g,d,t,os⟩
   | .missing=>False) :
  wpAny (model prog w) A (getAttrBy (.ref ea) (.str name tk) fill expr) Q E ⟨h,g,d,t,os⟩:=by
 have ty:=I.type (M:=model prog w);have l1:=looks_findIn (M:=model prog w) X G.ga;have l2:=looks_findIn (M:=model prog w) X G.gt;have l3:=looks_find (M:=model prog w) X I hf;have sb:=x.sub (M:=model prog w) X (.type "BaseException");rw[x.bas]at sb;have S:=PySem.F.excAttr_ValueError.ga;unfold getAttrBy;refine wpAny_holding (wpAny_bind (ty.at (wpAny_bind (l1.at ?_))));dsimp only;rw[show(onTheHeap (Value.ref C)&&Value.builtin "BaseException.__getattribute__" == Value.builtin "object.__getattribute__")=false by rw[show(Value.builtin "BaseException.__getattribute__" == Value.builtin "object.__getattribute__")=false by decide +kernel,FY],if_neg EY];unfold getAttrByItsOwn;have hb:Looks (model prog w) h (hookBefore (.ref C)) none:=looks_hook X (by rw[if_pos (by rfl)];exact G.gt);refine wpAny_bind (hb.at (wpAny_bind (wpAny_attempt (wpAny_holding ?_))));unfold callGetattribute;rw[show(expr&&onTheHeap (Value.builtin "BaseException.__getattribute__"))=false from FY _,if_neg EY];unfold boundAndCalled;rw[S.bind];refine wpAny_bind (wpAny_pure ?_);show wpAny _ _ (call (.builtin "BaseException.__getattribute__") [.ref ea,.str name tk]) _ _ _;refine wpAny_call (codeAny_call_builtin S.plain PySem.F.entry_bexc_ga ?_);refine @check_slot (model prog w) _ _ ⟨h,g,d,t,os⟩ "BaseException.__getattribute__" "BaseException" "__getattribute__" (.ref ea) [.str name tk] [] _ (by decide +kernel) (by decide +kernel) (ty.andThen sb) (PySem.F.args_bexc_ga (.ref ea) (.str name tk)) ?_;unfold Builtin.«object.__getattribute__»;refine wpAny_bind (wpAny_pure (wpAny_bind (wpAny_pure (wpAny_bind (ty.at (wpAny_bind (l3.at ?_)))))));cases r with
 | value v =>
  refine wpAny_pure ?_;show wpAny _ _ (handedOut v) _ _ _;rw[handedOut_of k.1];exact wpAny_pure k.2
 | bind gg a =>
  refine wpAny_bind (wpAny_holding (wpAny_mono k (λv s' z=>wpAny_pure ?_) λ_ _ z=>z.elim));show wpAny _ _ (handedOut v) _ _ _;rw[handedOut_of z.1];exact wpAny_pure z.2
 | missing=>exact k.elim
theorem uD{Q:Option Value→Shared→Prop}(x:dG K C cd)(G:xT K C)(X:K.In h)(I:InstAt h ea ox C od)(hc:findIn K (.ref C) "__class__" = some (some (.builtin "object.__class__")))
  (k:Q (some (.ref C)) ⟨h,g,d,t+1,os⟩):wpAny (model prog w) A (getAttr? (.ref ea) "__class__") Q E ⟨h,g,d,t,os⟩:=by
 have hn:specialIn K (.builtin "object.__class__") "__get__" = some (some (.builtin "getset_descriptor.__get__")):=by kernel_rfl
 have ht:takesIn K (.builtin "object.__class__")=some true:=by kernel_rfl
 have hf:findObj K C od "__class__" = some (.bind (.builtin "getset_descriptor.__get__") (.builtin "object.__class__")):=by
  unfold findObj;rw[x.cls,FW,hc,FW];dsimp only;rw[hn,FW];dsimp only;rw[ht];rfl
 have mo:mroIn K C (.type "object")=some true:=by
  unfold mroIn;rw[x.cls,FW,if_neg (by rw[x.jb];decide),x.obj]
 unfold getAttr? getAttrBy?;refine wpAny_bind (wpAny_mkText (wpAny_bind (wpAny_attempt ?_)));refine uC (t:=t+1) x G X I hf ?_;refine wpAny_call ?_;refine class_get (s:=⟨h,g,d,t+1,os⟩) (ox:=ox) (od:=od) X I mo ⟨rfl,?_⟩;exact wpAny_pure k
theorem xU(x:dG K C cd)(G:xT K C)(hc:findIn K (.ref C) "__class__" = some (some (.builtin "object.__class__"))):KitX K (.ref ea) (.ref C) (λh=>∃ ox od,InstAt h ea ox C od) where
 ty:=λ_ _ _ ⟨_,_,I⟩=>I.type
 it:=λ_ _ X _=>x.Dk X
 ne:=λh tp dd its n sl X htp=>by
  obtain⟨d2,k0,k1,k2,k3,k5,e⟩:=x.ob;refine Bool.eq_false_iff.mpr λq=>?_;have e2:C=tp:=Value.ref.inj (beq_iff_eq.mp q);subst e2;have z:=congrArg (λo:Option Obj=>o.map (·.data)) ((X _ _ e).symm.trans htp);simp[wy]at z
 ca:=λ{_ _ _ _ _ s} X ⟨_,_,I⟩ k=>by
  obtain⟨hh,gg,dd,tt,oo⟩:=s;exact uD x G X I hc k
end
section
variable{prog:Program}{w:World}{A:Around}{E:Value→Shared→Prop}{h:Heap}{g:Array GenState}{d:Drawn}{t:Nat}{os:OsState}{K:Frag}{C CH ea:Addr}{cd:ClassData}{fs:Array Value}{sl:Array (Option Value)}{name:Str}{v:Value}
end
end LX
end
section
namespace LX
open PySem
structure Kept(fr xs:List Addr)(h k:Heap):Prop where
 plain:∀ b o,h.get? b=some o→b∉fr→b∉xs→k.get? b=some o
 frame:∀ b o,h.get? b=some o→b∈fr→b∉xs→∃ sl,k.get? b=some {o with slots:=sl}
theorem Kept.trans{fr xs ys:List Addr}{h k m:Heap}(x:Kept fr xs h k)(y:Kept fr ys k m):Kept fr (xs++ys) h m where
 plain:=λb o e hb hx=>y.plain b o (x.plain b o e hb λz=>hx (FK _ z)) hb λz=>hx (EW _ z)
 frame:=λb o e hb hx=>by
  obtain⟨sl,e1⟩:=x.frame b o e hb λz=>hx (FK _ z);obtain⟨sm,e2⟩:=y.frame b _ e1 hb λz=>hx (EW _ z);exact⟨sm,e2⟩
theorem Kept.weak{fr xs ys:List Addr}{h k:Heap}(x:Kept fr xs h k)(s:∀ b o,h.get? b=some o→b∈xs→b∈ys):Kept fr ys h k :=
 ⟨λb o e hb hy=>x.plain b o e hb λz=>hy (s b o e z),λb o e hb hy=>x.frame b o e hb λz=>hy (s b o e z)⟩
abbrev dA(l:List Env):List Addr:=l.filterMap (·.frame)
section
variable{M:Model}{A:Around}{E:Value→Shared→Prop}{s:Shared}{base:Heap}{env:Env}{outer:List Env}{L e:Addr}{c:Value}{od:Option Addr}{fs:Array Value}{sl:Array (Option Value)}
theorem qG{l:List Env}(F:s.heap.FunFrames base l)(he:s.heap.get? e=some (bI c od fs sl)):e∉dA l:=λz=>by
 obtain⟨_,o,ho,hn⟩:=F.mem z;rw[he]at ho;cases ho;exact hn fs rfl
theorem kJ{h:Heap}{a:Addr}{i:Nat}{x:Value}(ha:h.get? a=some (bI c od fs sl)) :
  (h.update a (Obj.mapFields (·.setIfInBounds i x))).get? a=some (bI c od (fs.setIfInBounds i x) sl):=Heap.get?_update_self _ ha rfl
theorem kK{head:Value}{had:Bool}{Q:Unit→Shared→Prop}(hA:A.frames=some (env::outer))(F:s.heap.FunFrames base (env::outer))(hL:env.frame=some L)
  (he:s.heap.get? e=some (bI c od fs sl)) (h1:1<fs.size)
  (k:∀ m T oc ts,s.heap.objs.size≤T→Kept (dA (env::outer)) [e] s.heap m→m.get? e=some (bI c od (fs.setIfInBounds 1 (.ref T)) sl)→m.get? T=some (bI oc none ts #[])→ts[3]?=some (rawInt L)→Q () {s with heap:=m}) :
  wpAny M A (do let a ←frameOf env;let pl ←entryPlaceOf L had;let b ←EntryCells.newEntry head a .none (rawInt L) .none pl;setField (.ref e) 1 b) Q E s:=by
 have ne:=qG F he;refine wpAny_bind (wpAny_frameOf_fun hA F hL λg hg=>?_);obtain⟨g0,g1,g2⟩:=hg;refine wpAny_bind (wpAny_entryPlaceOf λpl hp=>?_);unfold EntryCells.newEntry newFields;refine wpAny_bind (wpAny_newObj_type ?_ (hp.sizeOk5 _ _ _ _ _));have e1:g.get? e=some (bI c od fs sl):=(g1 e ne).trans he;have e2:=ES (h:=g) {cls:=.type "traceback",dict:=none,data:=.fields ([head,.ref L,.none,rawInt L,.none]++(if pl.isEmpty then List.replicate 6 Value.none else pl)).toArray} e1;refine wpAny_setField e2 rfl h1 ?_;have Te:g.objs.size≠e:=FL (E4 e1);refine k _ g.objs.size (.type "traceback") ([head,.ref L,.none,rawInt L,.none]++(if pl.isEmpty then List.replicate 6 Value.none else pl)).toArray (Nat.le_of_eq g0.symm) ⟨λb o q hb hx=>?_,λb o q hb hx=>?_⟩ (kJ e2) ?_ ?_
 ·have be:b≠e:=λz=>hx (by rw[z];exact ET.mpr rfl)
  rw[Fy _ _ (FC be)];exact ES _ ((g1 b hb).trans q)
 ·have be:b≠e:=λz=>hx (by rw[z];exact ET.mpr rfl)
  obtain⟨sm,q2⟩:=g2 b o q;refine⟨sm,?_⟩;rw[Fy _ _ (FC be)];exact ES _ q2
 ·rw[Fy _ _ (FC Te)]
  exact Ff g rfl
 ·first|(simp;done)|(rcases hp with rfl|⟨_,_,_,_,_,_,_,rfl⟩<;>simp)
inductive jJ(h:Heap)(e:Addr)(fs:Array Value):Option Addr→Prop where
 | none (h1:fs[1]?=some .none):jJ h e fs none
 | some {T:Addr} {oc:Value} {ts:Array Value} {d:Option Addr} {sl:Array (Option Value)} (h1:fs[1]?=some (.ref T)) (ne:T≠e) (hT:h.get? T=some (bI oc d ts sl)) (h3:ts[3]?=some .none):jJ h e fs (some T)
theorem jJ.size{h:Heap}{fs:Array Value}{T:Option Addr}(t:jJ h e fs T):1<fs.size:=by
 cases t with
 | none h1=>exact(Fz.mp h1).1
 | some h1=>exact(Fz.mp h1).1
theorem xV{T0:Option Addr}{Q:Unit→Shared→Prop}(hA:A.frames=some (env::outer))(F:s.heap.FunFrames base (env::outer))(hL:env.frame=some L)(he:s.heap.get? e=some (bI c od fs sl))(t:jJ s.heap e fs T0)
  (k:∀ m T oc ts,s.heap.objs.size≤T→Kept (dA (env::outer)) (e::T0.toList) s.heap m→m.get? e=some (bI c od (fs.setIfInBounds 1 (.ref T)) sl)→m.get? T=some (bI oc none ts #[])→ts[3]?=some (rawInt L)→Q () {s with heap:=m}) :
  wpAny M A (noteFrame (.ref e) env) Q E s:=by
 unfold noteFrame;simp only[hL];have h1s:=t.size;cases t with
 | none h1 =>
  refine wpAny_bind (wpAny_field he rfl h1 ?_);rw[if_neg (by decide)];exact kK hA F hL he h1s k
 | @some T oc ts d sm h1 ne hT h3 =>
  refine wpAny_bind (wpAny_field he rfl h1 ?_);rw[if_pos (show(Value.ref T != Value.none)=true by simp)];refine wpAny_bind (wpAny_field hT rfl h3 ?_);rw[if_neg (show ¬((Value.none == rawInt L)=true) by simp[rawInt])];have h3s:3<ts.size:=(Fz.mp h3).1;refine wpAny_bind (wpAny_setField hT rfl h3s ?_);have oth:∀ b,b≠T→(s.heap.update T (Obj.mapFields (·.setIfInBounds 3 Value.none))).get? b=s.heap.get? b:=λb hb=>Fy _ _ (FC hb);have nT:=qG F hT;have F1:(s.heap.update T (Obj.mapFields (·.setIfInBounds 3 Value.none))).FunFrames base (env::outer):=F.of_keeps λb o hb hn=>⟨o,(oth b λz=>by rw[z,hT]at hb;cases hb;exact hn ts rfl).trans hb,rfl⟩;refine kK (s:={s with heap:=s.heap.update T (Obj.mapFields (·.setIfInBounds 3 Value.none))}) hA F1 hL ((oth e (FC ne)).trans he) h1s λm T' oc' ts' z1 z2 z3 z4 z5=>k m T' oc' ts' ?_ ?_ z3 z4 z5
  ·have zz:(s.heap.update T (Obj.mapFields (·.setIfInBounds 3 Value.none))).objs.size=s.heap.objs.size:=(FU (h:=s.heap) (a:=T) (f:=Obj.mapFields (·.setIfInBounds 3 Value.none))).1
   rw[←zz];exact z1
  ·have kk:Kept (dA (env::outer)) [T] s.heap (s.heap.update T (Obj.mapFields (·.setIfInBounds 3 Value.none))) :=
    ⟨λb o q _ hx=>(oth b λz=>hx (by rw[z];exact ET.mpr rfl)).trans q,λb o q _ hx=>⟨o.slots,(oth b λz=>hx (by rw[z];exact ET.mpr rfl)).trans q⟩⟩
   refine(kk.trans z2).weak λb o _ q=>?_;simp only[Fc,ET]at q;simp only[Option.toList_some,E8,Gi,or_false];exact q.symm
theorem rB{T:Addr}{oc:Value}{ts:Array Value}{d:Option Addr}{sm:Array (Option Value)}{Q:Unit→Shared→Prop}(he:s.heap.get? e=some (bI c od fs sl))(h1:fs[1]?=some (.ref T))(ne:T≠e)
  (hT:s.heap.get? T=some (bI oc d ts sm)) (h3:3<ts.size)
  (k:∀ m,(∀ b o,b≠T→s.heap.get? b=some o→m.get? b=some o)→jJ m e fs (some T)→m.get? e=some (bI c od fs sl)→Q () {s with heap:=m}):wpAny M A (setFlight (.ref e) none) Q E s:=by
 unfold setFlight;refine wpAny_bind (wpAny_field he rfl h1 ?_);rw[if_pos (show(Value.ref T != Value.none)=true by simp)];have oth:∀ b o,b≠T→s.heap.get? b=some o→(s.heap.update T (Obj.mapFields (·.setIfInBounds 3 Value.none))).get? b=some o:=λb o hb q=>(Fy _ _ (FC hb)).trans q;exact wpAny_setField hT rfl h3 (k _ oth (.some h1 ne (kJ hT) (by simp[h3])) (oth e _ (FC ne) he))
theorem wA{T0:Option Addr}{Q:Unit→Shared→Prop}(hA:A.frames=some (env::outer))(F:s.heap.FunFrames base (env::outer))(hL:env.frame=some L)(he:s.heap.get? e=some (bI c od fs sl))(t:jJ s.heap e fs T0)
  (k:∀ m T fs',s.heap.objs.size≤T→Kept (dA (env::outer)) (e::T0.toList) s.heap m→m.get? e=some (bI c od fs' sl)→fs'[0]?=fs[0]?→jJ m e fs' (some T)→Q () {s with heap:=m}) :
  wpAny M A (leaving env (.ref e)) Q E s:=by
 unfold leaving;refine wpAny_bind (xV hA F hL he t λm T oc ts z1 z2 z3 z4 z5=>?_);have Te:T≠e:=FL (E7 (E4 he) z1);have f1:(fs.setIfInBounds 1 (Value.ref T))[1]?=some (.ref T):=by
  have:=t.size
  simp[this]
 refine rB (s:={s with heap:=m}) z3 f1 Te z4 (Fz.mp z5).1 λm' q1 q2 q3=>k m' T _ z1 ⟨λb o q hb hx=>?_,λb o q hb hx=>?_⟩ q3 (by simp) q2
 ·exact q1 b o (E9 (E7 (E4 q) z1)) (z2.plain b o q hb hx)
 ·obtain⟨sm,r⟩:=z2.frame b o q hb hx
  exact⟨sm,q1 b _ (E9 (E7 (E4 q) z1)) r⟩
end
end LX
end
section
namespace L2
open PySem PySem.Spec PyProof.Rows LX
def ExP(fresh:Bool)(C e:Addr)(od:Option Addr)(h:Heap):Prop:=∃ fs sl t0,h.get? e=some (bI (.ref C) od fs sl)∧fs[0]?=some (.ref t0)∧(fresh=true→fs[1]?=some .none)
def exo(fresh:Bool)(C e:Addr)(od:Option Addr):HO:=.ext (ExP fresh C e od)
section
variable{P:Program}{w:World}{H:Hp}{h:Heap}{b:Bool}{C e:Addr}{od:Option Addr}
theorem wB(x:ExP b C e od h):bV P w H h e (exo b C e od):=by
 refine⟨x,?_,λh1 h2 p k=>?_⟩
 ·obtain⟨fs,sl,t0,z,_⟩:=x
  exact⟨_,z⟩
 ·obtain⟨fs,sl,t0,z,r⟩:=p
  exact⟨fs,sl,t0,k _ z,r⟩
theorem kL(ok:HOk P w H h)(z:H e=some (exo b C e od)):ExP b C e od h:=(show bV P w H h e (exo b C e od) from ok e _ z).1
end
def del(H:Hp)(a:Addr):Hp:=λb=>if b=a then none else H b
theorem qH{H:Hp}{a:Addr}:del H a a=none:=by unfold del;rw[if_pos rfl]
theorem iy{H:Hp}{a b:Addr}(h:b≠a):del H a b=H b:=by unfold del;rw[if_neg h]
theorem qI{H:Hp}{a b:Addr}{o:HO}(h:del H a b=some o):H b=some o∧b≠a:=by
 unfold del at h;by_cases q:b=a
 ·rw[if_pos q]at h;cases h
 ·rw[if_neg q]at h;exact⟨h,q⟩
section
variable{P:Program}{w:World}{H H':Hp}{h h':Heap}{a:Addr}
theorem HOk.keeps(ok:HOk P w H h)(k:∀ b u o,H b=some u→h.get? b=some o→h'.get? b=some o):HOk P w H h':=λb u q =>
 (ok b u q).oW (λc v hc r=>by
  rcases hc with rfl|hc
  ·exact k c u v q r
  ·exact k c _ v hc r) (λ_ z=>z) λ_ _ z=>z
theorem HOk.del(ok:HOk P w H h)(ha:∀ y,H a≠some (.own y))(hb:∀ xs,H a≠some (.tup xs)):HOk P w (del H a) h:=λb u q=>by
 obtain⟨q1,q2⟩:=qI q;refine(ok b u q1).oW (λ_ _ _ r=>r) (λc z=>?_) λc xs z=>?_
 ·rw[iy λe=>ha b (by rw[←e];exact z)];exact z
 ·rw[iy λe=>hb xs (by rw[←e];exact z)];exact z
end
theorem gW{h k base:Heap}:∀ {l:List Env},h.FunFrames base l→(∀ b∈frs l,∀ o,h.get? b=some o→∃ sl,k.get? b=some {o with slots:=sl})→k.FunFrames base l
 | [],_,_=>True.intro
 | env::r,⟨h1,⟨L,o,e1,e2,e3,e4⟩,h2⟩,q=>by
  have hm:L∈frs (env::r):=FH.mpr ⟨env,E0,e1⟩;obtain⟨sl,z⟩:=q L hm o e3;refine⟨h1,⟨L,_,e1,e2,z,e4⟩,gW h2 λb hb o' z'=>q b ?_ o' z'⟩;obtain⟨x,hx,hy⟩:=FH.mp hb;exact FH.mpr ⟨x,EX _ hx,hy⟩
structure Lies(P:Program)(w:World)(outer:List Env)(H H':Hp)(s:Shared)(ea C T:Addr)(od:Option Addr)(fs:Array Value)(sl:Array (Option Value))(s':Shared):Prop where
 os:s'.os=s.os
 bare:AllBare s'.gens
 un:Un (frs outer) [] H H' s.heap s'.heap
 hok:HOk P w H' s'.heap
 Dl:s.heap.get? ea=none
 Ed:s.heap.get? T=none
 yF:H' ea=none
 B8:H' T=none
 at_:s'.heap.get? ea=some (bI (.ref C) od fs sl)
 args:∃ t0,fs[0]?=some (.ref t0)
 trail:jJ s'.heap ea fs (some T)
def CXE(P:Program)(w:World):CXT:=λouter H s E e s'=>∃ ea C T od fs sl H',e=.ref ea∧Lies P w outer H H' s ea C T od fs sl s'∧E (.ref C) od H'
section
variable{X:Cx}{pins:List (Addr×Obj)}{σ:St}{H H':Hp}{s s':Shared}{ea C T:Addr}{od:Option Addr}{fs:Array Value}{sl:Array (Option Value)}
theorem Lies.frames(I:Inv X pins σ H s)(l:Lies X.prog X.w X.stack H H' s ea C T od fs sl s'):s'.heap.FunFrames X.base X.stack :=
 gW I.stack λb hb o z=>l.un.any z (I.gO b hb) (by simp)
theorem Lies.on{m:Heap}{t':Nat}(I:Inv X pins σ H s)(l:Lies X.prog X.w X.stack H H' s ea C T od fs sl s')(k:Kept (dA X.stack) [ea,T] s'.heap m) :
  Un (frs X.stack) [] H H' s.heap m∧HOk X.prog X.w H' m:=by
 have fr:∀ b,b∈frs X.stack→H' b=none:=λb hb=>by
  obtain⟨_,o,z,_⟩:=I.stack.mem hb;exact l.un.free b o z (I.gO b hb) (by simp)
 have ne:∀ b o,s.heap.get? b=some o→b∉[ea,T]:=λb o z q=>by
  rcases E8.mp q with e|q
  ·rw[e,l.Dl]at z;cases z
  ·rw[ET.mp q,l.Ed]at z;cases z
 refine⟨⟨λb o z n hb hx=>?_,λb o z n hb hx=>?_,l.un.free,λb o z hx=>?_,l.un.kC,l.un.m7,l.un.m8⟩,?_⟩
 ·exact k.plain b o (l.un.keep b o z n hb hx) hb (ne b o z)
 ·obtain⟨s1,z1⟩:=l.un.slot b o z n hb hx
  obtain⟨s2,z2⟩:=k.frame b _ z1 hb (ne b o z);exact⟨s2,z2⟩
 ·obtain⟨o1,z1⟩:=l.un.there b o z hx
  by_cases hb:b∈dA X.stack
  ·obtain⟨s2,z2⟩:=k.frame b _ z1 hb (ne b o z)
   exact⟨_,z2⟩
  ·exact⟨_,k.plain b _ z1 hb (ne b o z)⟩
 ·refine l.hok.keeps λb u o z q=>k.plain b o q (λhb=>?_) λhx=>?_
  ·rw[fr b hb]at z;cases z
  ·rcases E8.mp hx with e|hx
   ·rw[e,l.yF]at z;cases z
   ·rw[ET.mp hx,l.B8]at z;cases z
end
section
variable{P:Program}{w:World}{K:W.Frag}{mg:Str→Option Value}{base:Heap}{N:List Str}{qual:Str}{scope:Scope}{f:Addr}{cdv:Value}{A:Around}{outer:List Env}{s₀:Shared}{H₀:Hp}{E₀:XK}
abbrev cxE(P:Program)(w:World)(K:W.Frag)(mg:Str→Option Value)(base:Heap)(N:List Str)(qual:Str)(scope:Scope)(f:Addr)(cdv:Value)(A:Around)(outer:List Env)(s₀:Shared)(H₀:Hp)(E₀:XK):Cx :=
 wg (CXE P w) P w K mg base N qual scope f cdv A outer s₀ H₀ E₀
theorem rC{pins:List (Addr×Obj)}{σ:St}{H H':Hp}{s s':Shared}{ea C T:Addr}{od:Option Addr}{fs:Array Value}{sl:Array (Option Value)}(I:Inv (cxE P w K mg base N qual scope f cdv A outer s₀ H₀ E₀) pins σ H s)
  (l:Lies P w (cxE P w K mg base N qual scope f cdv A outer s₀ H₀ E₀).stack H H' s ea C T od fs sl s') (hE:E₀ (.ref C) od H'):(cxE P w K mg base N qual scope f cdv A outer s₀ H₀ E₀).xe (.ref ea) s':=by
 refine wA I.ok.frames (Lies.frames I l) rfl l.at_ l.trail λm T' fs' z1 z2 z3 z4 z5=>?_;obtain⟨un,hok⟩:=l.on (t':=s'.toks) I z2;have J:Inv (cxE P w K mg base N qual scope f cdv A outer s₀ H₀ E₀) pins σ H' {s' with heap:=m}:=I.ra l.os un hok l.bare (λb z=>absurd z (by simp));have old:∀ b o,s₀.heap.get? b=some o→∃ o',s.heap.get? b=some o':=λb o z=>I.base.there b o z (Gi);have e0:s₀.heap.get? ea=none:=by
  cases q:s₀.heap.get? ea with
  | none=>rfl
  | some o =>
   obtain⟨o',z⟩:=old ea o q;rw[l.Dl]at z;cases z
 have t0:s₀.heap.get? T'=none:=by
  cases q:s₀.heap.get? T' with
  | none=>rfl
  | some o =>
   obtain⟨o1,y1⟩:=old T' o q;obtain⟨o2,y2⟩:=l.un.there T' o1 y1 (by simp);exact absurd (E4 y2) (Nat.not_lt.mpr z1)
 obtain⟨a0,ha⟩:=l.args;exact⟨ea,C,T',od,fs',sl,H',rfl,⟨J.os,J.bare,J.base,J.hok,e0,t0,l.yF,l.hok.fresh z1,z3,⟨a0,by rw[z4];exact ha⟩,z5⟩,hE⟩
theorem ie{E:XK}(hE:∀ c od H',E c od H'→E₀ c od H'):Passes (CXE P w) (cxE P w K mg base N qual scope f cdv A outer s₀ H₀ E₀) E:=λpins σ H s e s' I h=>by
 obtain⟨ea,C,T,od,fs,sl,H',rfl,l,q⟩:=h;exact rC I l (hE _ _ _ q)
theorem leave_new{pins:List (Addr×Obj)}{σ:St}{H:Hp}{s:Shared}{ea C:Addr}{od:Option Addr}(I:Inv (cxE P w K mg base N qual scope f cdv A outer s₀ H₀ E₀) pins σ H s)(h1:H ea=some (exo true C ea od))(h0:H₀ ea=none)
  (hE:E₀ (.ref C) od (del H ea)):(cxE P w K mg base N qual scope f cdv A outer s₀ H₀ E₀).xe (.ref ea) s:=by
 obtain⟨fs,sl,a0,z,ha,hf⟩:=kL I.hok h1;have frz:∀ b,b∈frs (cxE P w K mg base N qual scope f cdv A outer s₀ H₀ E₀).stack→H b=none:=I.gO;have e0:s₀.heap.get? ea=none:=by
  cases q:s₀.heap.get? ea with
  | none=>rfl
  | some o =>
   have:=I.base.free ea o q h0 Gi
   rw[h1]at this;cases this
 refine wA I.ok.frames I.stack rfl z (.none (hf rfl)) λm T' fs' z1 z2 z3 z4 z5=>?_;have hd:HOk P w (del H ea) s.heap:=I.hok.del (λy q=>by rw[h1]at q;cases q) λxs q=>by rw[h1]at q;cases q
 have hm:HOk P w (del H ea) m:=hd.keeps λb u o q r=>by
  obtain⟨q1,q2⟩:=qI q;exact z2.plain b o r (λhb=>by rw[frz b hb]at q1;cases q1) (by simpa using q2)
 have neE:∀ b o,s₀.heap.get? b=some o→b≠ea:=λb o q r=>by rw[r,e0]at q;cases q
 have t0:s₀.heap.get? T'=none:=by
  cases q:s₀.heap.get? T' with
  | none=>rfl
  | some o =>
   obtain⟨o2,y2⟩:=I.base.there T' o q Gi;exact absurd (E4 y2) (Nat.not_lt.mpr z1)
 have neL:∀ b o,s₀.heap.get? b=some o→b∈dA (cxE P w K mg base N qual scope f cdv A outer s₀ H₀ E₀).stack→b∈frs outer:=λb o q hb=>by
  rcases E8.mp (I.ir b hb) with r|r
  ·exact absurd (E4 q) (by rw[r];exact Nat.not_lt.mpr I.ok.above)
  ·exact r
 have sub:∀ b,b∈frs outer→b∈dA (cxE P w K mg base N qual scope f cdv A outer s₀ H₀ E₀).stack:=λb hb=>by
  obtain⟨x,hx,hy⟩:=FH.mp hb;exact FH.mpr ⟨x,EX _ hx,hy⟩
 refine⟨ea,C,T',od,fs',sl,del H ea,rfl,⟨I.os,I.bare,⟨λb o q n hb hx=>?_,λb o q n hb hx=>?_,λb o q n hx=>?_,λb o q hx=>?_,λb xs q=>?_,λb o u q=>?_,λb ps q=>?_⟩,hm,e0,t0,qH,?_,z3,⟨a0,by rw[z4];exact ha⟩,z5⟩,hE⟩
 ·exact z2.plain b o (I.base.keep b o q n hb hx) (λz=>hb (neL b o q z)) (by simpa using neE b o q)
 ·obtain⟨s1,y1⟩:=I.base.slot b o q n hb hx
  obtain⟨s2,y2⟩:=z2.frame b _ y1 (sub b hb) (by simpa using neE b o q);exact⟨s2,y2⟩
 ·rw[iy (neE b o q)]
  exact I.base.free b o q n hx
 ·obtain⟨o1,y1⟩:=I.base.there b o q hx
  by_cases hb:b∈dA (cxE P w K mg base N qual scope f cdv A outer s₀ H₀ E₀).stack
  ·obtain⟨s2,y2⟩:=z2.frame b _ y1 hb (by simpa using neE b o q)
   exact⟨_,y2⟩
  ·exact⟨_,z2.plain b _ y1 hb (by simpa using neE b o q)⟩
 ·have r:=I.base.kC b xs q
  rw[iy λe=>by rw[e,h1]at r;cases r];exact r
 ·have r:=I.base.m7 b o u q
  rw[iy λe=>by rw[e,h1]at r;cases r];exact r
 ·obtain⟨more,r⟩:=I.base.m8 b ps q
  exact⟨more,by rw[iy λe=>by rw[e,h1]at r;cases r];exact r⟩
 ·by_cases q:T'=ea
  ·rw[q];exact qH
  ·rw[iy q];exact I.hok.fresh z1
end
theorem Fun.okE{P:Program}{w:World}{K:W.Frag}{mg:Str→Option Value}{base:Heap}{x qual:Str}{st:Stmt}{f:Addr}{fd:FuncData}{N ps:List Str}{k:Nat}{sp:Sp}(F:Fun K x qual st f fd)(S:aG N ps (aj st))(len:∀ vs H Q E,sp vs H Q E→vs.length=ps.length)
  (rn:∀(cdv:Value) (A:Around) (outer:List Env) (s:Shared) (H:Hp) (vs:List V) (Q:VK) (E:XK),eQ k (A.deeper (envOfC qual (aj st) s.heap.objs.size f cdv))→sp vs H Q E →
   ∃ t,PSs (cxE P w K mg base N qual (aj st) f cdv A outer s H E) (eL st) t∧t {nx:=λ_ H'=>Q .non H',rt:=Q} (start N vs) H):jA P w K mg base (CXE P w) (k+1) f fd ps sp:=by
 obtain⟨oc,od,kV,doc,pm,an,cdv,ct,osl,rfl,lk,hcd⟩:=F.ex;exact yv lk hcd S len λA outer s H vs Q E hr hsp=>rn cdv A outer s H vs Q E hr hsp
def qJ(X:Cx)(E:XK):Prop:=∀(pins:List (Addr×Obj)) (σ:St) (H:Hp) (s:Shared) (ea C:Addr) (od:Option Addr),Inv X pins σ H s→H ea=some (exo true C ea od)→X.H₀ ea=none→E (.ref C) od (del H ea)→X.xe (.ref ea) s
theorem sM{P:Program}{w:World}{K:W.Frag}{mg:Str→Option Value}{base:Heap}{N:List Str}{qual:Str}{scope:Scope}{f:Addr}{cdv:Value}{A:Around}{outer:List Env}{s₀:Shared}{H₀:Hp}{E₀:XK} :
  qJ (cxE P w K mg base N qual scope f cdv A outer s₀ H₀ E₀) E₀:=λ_ _ _ _ _ _ _ I h1 h0 q=>leave_new I h1 h0 q
def zL(H₀:Hp)(K:W.Frag)(E:XK)(te:TE):TS:=λ_ σ H=>te σ H λv H1=>∃ ea C od,v=.ref ea∧H1 ea=some (exo true C ea od)∧(∃ cd,dG K C cd)∧H₀ ea=none∧E (.ref C) od (del H1 ea)
section
variable{X:Cx}
theorem k7{e:Expr}{te:TE}{pos:Pos}{E:XK}(hc:X.calm=true)(hx:qJ X E)(he:PE X e te):PS X (.Raise (some e) none pos) (zL X.H₀ X.K E te):=by
 intro pins s σ H D I h;refine uz (K:=X.K) (I.ok.hd hc) (thn (he pins s σ H _ I h) λu s1 ⟨v,H1,I1,r,ea,C,od,ev,h1,⟨cd,xc⟩,h0,q⟩=>?_);subst ev;obtain rfl:u=Value.ref ea:=r;obtain⟨fs,sl,a0,z,ha,hf⟩:=kL I1.hok h1;exact⟨ea,C,cd,od,fs,sl,rfl,z,hf rfl,xc,I1.kIn,hx pins σ H1 s1 ea C od I1 h1 h0 q⟩
def fj(CX:CXT)(X:Cx)(EK:St→XK):Prop:=∀(pins:List (Addr×Obj)) (σ:St) (H:Hp) (s:Shared) (e:Value) (s':Shared),Inv X pins σ H s→CX X.stack H s (EK σ) e s'→X.xe e s'
theorem Passes.x{CX:CXT}{E:XK}(h:Passes CX X E):fj CX X (λ_=>E):=λpins σ H s e s' I q=>h pins σ H s e s' I q
def B9(sp:Sp)(dvs:List V)(EK:St→XK)(t:TA):TE:=λσ H Q=>t σ H λvs H1=>sp (vs++dvs) H1 Q (EK σ)
def yG(C:Addr)(m:Str)(sp:Sp)(dvs:List V)(EK:St→XK)(ta:TE)(t:TA):TE:=λσ H Q=>ta σ H λx H1=>∃ a dx fs,x=.ref a∧H1 a=some (.ins C dx fs)∧fs.lookup m=none ∧
 t σ H1 λvs H2=>sp (x::(vs++dvs)) H2 Q (EK σ)
def Ee(C:Addr)(sp:Sp)(EK:St→XK)(t:TA):TE:=λσ H Q=>t σ H λvs H1=>∀ ea,H1 ea=none→sp (.ref ea::vs) (upd H1 ea (exo true C ea none)) (λv H2=>v=.non∧Q (.ref ea) H2) (EK σ)
variable{CX:CXT}{k:Nat}{f C:Addr}{fd:FuncData}{ps:List Str}{sp:Sp}{dvs:List V}{ds:List Value}{EK:St→XK}{x m:Str}{p pos apos:Pos}{e o:Expr}{es:List Expr}{ta:TE}{t:TA}
theorem Bu{pins:List (Addr×Obj)}{σ:St}{H:Hp}{s:Shared}{Q:VK}{us:List Value}{vs:List V}(F:jA X.prog X.w X.K X.mg X.base CX k f fd ps sp)(hr:eQ k X.A)(hb:Binds X.K fd ps ds)(hd:Vals dvs ds)(hx:fj CX X EK)
  (I:Inv X pins σ H s) (r:Vals vs us) (h:sp (vs++dvs) H Q (EK σ)):wpAny (model X.prog X.w) X.A (call (.ref f) us) (EP X pins σ Q) X.xe s:=by
 have r2:Vals (vs++dvs) (us++ds):=r.append hd;have hl:(us++ds).length=ps.length:=by rw[←r2.length];exact F.len _ _ _ _ h
 refine wpAny_call (codeAny_mono (F.run X.A X.stack s H ⟨us,[]⟩ (us++ds) (vs++dvs) Q (EK σ) hr I.Aj (hb s us I.kIn hl) r2 h) λr s' hq=>?_);cases r with
 | error e=>exact hx pins σ H s e s' I hq
 | ok fl =>
  cases fl with
  | ret u=>exact I.after hq
  | _=>exact False.elim hq
theorem aD(F:jA X.prog X.w X.K X.mg X.base CX k f fd ps sp)(hr:eQ k X.A)(hg:Gl X x)(hm:X.mg x=some (.ref f))(hk:PySem.W.keepIn X.K (.ref f)=true)(hb:Binds X.K fd ps ds)(hd:Vals dvs ds)(hx:fj CX X EK)
  (ha:PA X (e::es) t) (hdb:(x == ("__debug__" : Str))=false:=by decide) (he:starEach (e::es) X.env=(false,eval e X.env)::starEach es X.env:=by rfl) (hpl:(backTo pos (starEach es X.env)).any (·.1)=false:=by rfl) :
  PE X (.Call (.Name x p) (e::es) [] pos) (B9 sp dvs EK t):=by
 intro pins s σ H Q I h;refine wpAny_Call_Name_kw (oX I hg hm ?_ hdb);exact PySem.W.callWith_K (h₀:=X.base) I.ok.mod.kin hk (thn (ha pos pins s σ H _ I h) λus s1 ⟨vs,H1,I1,r,q⟩=>⟨I1.kIn,Bu F hr hb hd hx I1 r q⟩) he hpl
theorem dH{pl:Sem Bool}(he:PE X o ta)(c:Cls X.K C)(hm:Meth X.K C m f)(F:jA X.prog X.w X.K X.mg X.base CX k f fd ps sp)(hr:eQ k X.A)(hb:Binds X.K fd ps ds)(hd:Vals dvs ds)(hx:fj CX X EK)(ha:PA X (e::es) t)
  (hst:starEach (e::es) X.env=(false,eval e X.env)::starEach es X.env:=by rfl) (hpl:(backTo pos (starEach es X.env)).any (·.1)=false:=by rfl)
  (ht:eval (.Call (.Attribute o m apos) (e::es) [] pos) X.env=(do
   let ov ←eval o X.env
   standAt apos.atName
   let (f,first) ←holding [ov] (getMethod ov m pl)
   callWith pos f first (backTo pos (starEach (e::es) X.env)) (backToKw pos (keywordEach [] X.env))):=by rfl) :
  PE X (.Call (.Attribute o m apos) (e::es) [] pos) (yG C m sp dvs EK ta t):=by
 intro pins s σ H Q I h;refine PySem.W.methodCall_KW (pl:=pl) (thn (he pins s σ H _ I h) λu s1 ⟨x,H1,I1,rx,a,dx,fs,ex,ea,l,q⟩=>?_) ht;subst ex;obtain rfl:u=Value.ref a:=rx;refine kF I1 ea c hm l ?_;exact PySem.W.callWith_K (first:=[.ref a]) (h₀:=X.base) I.ok.mod.kin hm.kp (thn (ha pos pins s1 σ H1 _ I1 q) λus s2 ⟨vs,H2,I2,r,q2⟩=>⟨I2.kIn,Bu (us:=.ref a::us) (vs:=.ref a::vs) F hr hb hd hx I2 (.cons rfl r) q2⟩) hst hpl
theorem hX{pl:Sem Bool}(he:PE X o ta)(c:Cls X.K C)(hm:Meth X.K C m f)(F:jA X.prog X.w X.K X.mg X.base CX k f fd ps sp)(hr:eQ k X.A)(hb:Binds X.K fd ps ds)(hd:Vals dvs ds)(hx:fj CX X EK)
  (ht:eval (.Call (.Attribute o m apos) [] [] pos) X.env=(do
   let ov ←eval o X.env
   standAt apos.atName
   let (f,first) ←holding [ov] (getMethod ov m pl)
   callWith pos f first (backTo pos (starEach [] X.env)) (backToKw pos (keywordEach [] X.env))):=by rfl) :
  PE X (.Call (.Attribute o m apos) [] [] pos) (yG C m sp dvs EK ta CJ):=by
 intro pins s σ H Q I h;refine PySem.W.methodCall_KW (pl:=pl) (thn (he pins s σ H _ I h) λu s1 ⟨x,H1,I1,rx,a,dx,fs,ex,ea,l,q⟩=>?_) ht;subst ex;obtain rfl:u=Value.ref a:=rx;refine kF I1 ea c hm l ?_;exact PySem.W.callWith_K0 (first:=[.ref a]) I1.kIn hm.kp (Bu (us:=[.ref a]) (vs:=[.ref a]) F hr hb hd hx I1 (.cons rfl .nil) q)
structure MkX(K:W.Frag)(C f:Addr):Prop where
 cls:∃ cd,dG K C cd
 init:PySem.W.findIn K (.ref C) "__init__" = some (some (.ref f))
 fn:PySem.W.isFn K (.ref f)=true
 kp:PySem.W.keepIn K (.ref C)=true
theorem xW{pins:List (Addr×Obj)}{σ:St}{H:Hp}{s:Shared}{Q:VK}{us:List Value}{vs:List V}(M:MkX X.K C f)(F:jA X.prog X.w X.K X.mg X.base CX k f fd ps sp)(hr:eQ (k+1) X.A)(hb:Binds X.K fd ps [])(hx:fj CX X EK)(hps:ps.length≤1000)
  (I:Inv X pins σ H s) (r:Vals vs us) (h:∀ ea,H ea=none→sp (.ref ea::vs) (upd H ea (exo true C ea none)) (λv H2=>v=.non∧Q (.ref ea) H2) (EK σ)) :
  wpAny (model X.prog X.w) X.A (call (.ref C) us) (EP X pins σ Q) X.xe s:=by
 have hq:=h (s.heap.objs.size+1) (I.hok.fresh (F7 _));obtain⟨cd,xc⟩:=M.cls;have r2:Vals (V.ref (s.heap.objs.size+1)::vs) (Value.ref (s.heap.objs.size+1)::us):=.cons rfl r;have hl:(Value.ref (s.heap.objs.size+1)::us).length=ps.length:=by rw[←r2.length];exact F.len _ _ _ _ hq
 have hz:us.length≤sizeLine:=by rw[Fs]at hl;rw[sizeLine_eq];omega
 have I2:Inv X pins σ (upd H (s.heap.objs.size+1) (exo true C (s.heap.objs.size+1) none)) {s with heap:=f9 s.heap C us}:=by
  refine I.laid (t':=s.toks) (λb u q=>ES _ (ES _ q)) (F7 _) (wB ⟨#[.ref s.heap.objs.size,.none,.none,.none,.bool false,.none],#[],s.heap.objs.size,?_,rfl,λ_=>rfl⟩);show(f9 s.heap C us).get? (s.heap.objs.size+1)=some (sL C s.heap.objs.size);heap_get
 obtain⟨hh,g,d,tk,os⟩:=s;refine wpAny_call (vB xc I.kIn M.init (beq_iff_eq.mp M.fn) hz (codeAny_mono (F.run _ X.stack _ _ ⟨Value.ref (hh.objs.size+1)::us,[]⟩ (Value.ref (hh.objs.size+1)::us) _ _ (EK σ) (hr.make C us []) (I2.Aj.make C us [])
  (by have:=hb _ (Value.ref (hh.objs.size+1)::us) I2.kIn (by rw[Gq];exact hl);rw[Gq]at this;exact this) r2 hq) λr s' hq'=>?_))
 cases r with
 | error e=>exact hx pins σ _ _ e s' I2 hq'
 | ok fl =>
  cases fl with
  | ret u =>
   obtain⟨v,H',I3,rv,ev,q3⟩:=I2.after hq';subst ev;exact⟨rv,⟨V.ref (hh.objs.size+1),H',I3,rfl,q3⟩⟩
  | _=>exact False.elim hq'
theorem sN(M:MkX X.K C f)(F:jA X.prog X.w X.K X.mg X.base CX k f fd ps sp)(hr:eQ (k+1) X.A)(hg:Gl X x)(hm:X.mg x=some (.ref C))(hb:Binds X.K fd ps [])(hx:fj CX X EK)
  (ha:PA X (e::es) t) (hps:ps.length≤1000:=by decide) (hdb:(x == ("__debug__" : Str))=false:=by decide) (he:starEach (e::es) X.env=(false,eval e X.env)::starEach es X.env:=by rfl) (hpl:(backTo pos (starEach es X.env)).any (·.1)=false:=by rfl) :
  PE X (.Call (.Name x p) (e::es) [] pos) (Ee C sp EK t):=by
 intro pins s σ H Q I h;refine wpAny_Call_Name_kw (oX I hg hm ?_ hdb);exact PySem.W.callWith_K (h₀:=X.base) I.ok.mod.kin M.kp (thn (ha pos pins s σ H _ I h) λus s1 ⟨vs,H1,I1,r,q⟩=>⟨I1.kIn,xW M F hr hb hx hps I1 r q⟩) he hpl
end
theorem vC{H:Hp}{a:Addr}{o:HO}(h:H a=some o):upd H a o=H:=by
 funext b
 by_cases e:b=a
 ·rw[e,ab,h]
 ·rw[ah e]
section
variable{X:Cx}
def tVe(K:W.Frag)(t:TA):TE:=λσ H Q=>t σ H λvs H1=>∃ ea C od r,vs=.ref ea::r∧r.length≤1000∧H1 ea=some (exo true C ea od)∧(∃ cd,dG K C cd)∧Q .non H1
theorem Ca{p apos pos:Pos}{e:Expr}{es:List Expr}{t:TA}{pl:Sem Bool}(hg:Gl X "ValueError")(hm:X.mg "ValueError" = none)(ha:PA X (e::es) t)
  (hst:starEach (e::es) X.env=(false,eval e X.env)::starEach es X.env:=by rfl) (hpl:(backTo pos (starEach es X.env)).any (·.1)=false:=by rfl)
  (ht:eval (.Call (.Attribute (.Name "ValueError" p) "__init__" apos) (e::es) [] pos) X.env=(do
   let ov ←eval (.Name "ValueError" p) X.env
   standAt apos.atName
   let (f,first) ←holding [ov] (getMethod ov "__init__" pl)
   callWith pos f first (backTo pos (starEach (e::es) X.env)) (backToKw pos (keywordEach [] X.env))):=by rfl) :
  PE X (.Call (.Attribute (.Name "ValueError" p) "__init__" apos) (e::es) [] pos) (tVe X.K t):=by
 intro pins s σ H Q I h;refine PySem.W.methodCall_KW (pl:=pl) (i0 I hg hm PyProof.Rows.Boot.«ValueError» ?_) ht;refine xS I.kIn ?_;refine PyProof.Rows.callWith_builtin1 (thn (ha pos pins _ σ H _ (I.tok _) h) λus s1 ⟨vs,H1,I1,r,ea,C,od,rr,ev,hl,h1,⟨cd,xc⟩,q⟩=>?_) hst hpl;subst ev;cases r with
 | @cons _ u _ us' r1 r2 =>
 obtain rfl:u=Value.ref ea:=r1;obtain⟨fs,sl,a0,z,ha,hf⟩:=kL I1.hok h1;have hz:us'.length≤sizeLine:=by rw[←r2.length,sizeLine_eq];omega
 have I2:Inv X pins σ H1 {s1 with heap:=s1.heap.push (ix us')}:=I1.kept (t':=s1.toks) λb u q=>ES _ q;have z2:=ES (h:=s1.heap) (ix us') z;have hs0:0<fs.size:=(Fz.mp ha).1;have I3:Inv X pins σ (upd H1 ea (exo true C ea od)) {s1 with heap:=(s1.heap.push (ix us')).update ea (Obj.mapFields (·.setIfInBounds 0 (.ref s1.heap.objs.size)))}:=by
  refine I2.write (x:=ea) (e:=ea) (t':=s1.toks) (by rw[h1];exact True.intro) (.inl rfl) (λb u hb q=>(Fy _ _ (FC hb)).trans q) ⟨_,kJ z2⟩ (wB ⟨_,_,s1.heap.objs.size,kJ z2,by simp[hs0],λ_=>?_⟩)
  have:=hf rfl
  simpa using this
 rw[vC h1]at I3;obtain⟨hh,g,d,tk,os⟩:=s1;exact pU xc I1.kIn z ha hz ⟨.non,H1,I3,rfl,q⟩
abbrev TF:=St→Hp→(Hp→Prop)→Prop
def PF(X:Cx)(e:Expr)(t:TF):Prop :=
 ∀(pins:List (Addr×Obj)) (s:Shared) (σ:St) (H:Hp) (Q:Hp→Prop),Inv X pins σ H s→t σ H Q→wpAny (model X.prog X.w) X.A (eval e X.env) (λv s1=>∃ y tk H1,v=.str y tk∧y.length≤2000∧Inv X pins σ H1 s1∧Q H1) X.xe s
def PFs(X:Cx)(es:List Expr)(t:TF):Prop :=
 ∀(out:Str) (pins:List (Addr×Obj)) (s:Shared) (σ:St) (H:Hp) (Q:V→Hp→Prop),out.length+2000*es.length≤100000→Inv X pins σ H s→t σ H (λH1=>∀ y,y.length≤100000→Q (.str y) H1) →
  wpAny (model X.prog X.w) X.A (joinParts out (evalEach es X.env)) (EP X pins σ Q) X.xe s
def yI:TF:=λ_ H Q=>Q H
def Ef(te:TE):TF:=λσ H Q=>te σ H λv H1=>∃ i,v=.int i∧i.natAbs.log2<1920∧Q H1
def zM(t u:TF):TF:=λσ H Q=>t σ H λH1=>u σ H1 Q
theorem qK:(100000:Nat)≤sizeLine:=by rw[sizeLine_eq];omega
theorem kM{x j pos}(hl:x.length≤2000:=by decide +kernel):PF X (.Constant (.str x) j pos) yI:=λ_ _ _ H _ I h=>Calls.Constant_str ⟨_,_,H,rfl,hl,I.tok _,h⟩
theorem pI{e:Expr}{te:TE}{pos:Pos}(he:PE X e te):PF X (.FormattedValue e (-1) none pos) (Ef te):=by
 intro pins s σ H Q I h;refine FormattedValue_plain (thn (he pins s σ H _ I h) λu s1 ⟨v,H1,I1,r,i,ev,hi,q⟩=>?_);subst ev;obtain⟨t,rfl⟩:=(show ∃ t,u=Value.int i t from r);exact formatField_int_small hi ⟨_,_,H1,rfl,Fo (int_text_len_1921 hi) (by decide),I1.tok _,q⟩
theorem pb:PFs X [] yI:=λout pins s σ H Q hl I h =>
 joinParts_nil ⟨.str out,H,I.tok _,⟨_,rfl⟩,h out (by simpa using hl)⟩ (Fo (by simpa using hl) qK)
theorem eM{e:Expr}{es:List Expr}{t u:TF}(h1:PF X e t)(h2:PFs X es u):PFs X (e::es) (zM t u):=by
 intro out pins s σ H Q hl I h;rw[Fs]at hl;refine joinParts_consE (joinParts_cons (thn (h1 pins s σ H _ I h) λv s1 ⟨y,tk,H1,ev,hy,I1,q⟩=>?_));subst ev;have hz:(out++y).length+2000*es.length≤100000:=by rw[strLen_append];omega
 exact⟨Fo (by omega) qK,h2 (out++y) pins s1 σ H1 Q hz I1 q⟩
def Cb(t:TF):TE:=λσ H Q=>t σ H λH1=>∀ y,y.length≤100000→Q (.str y) H1
theorem pe{e e':Expr}{es:List Expr}{t:TF}{pos:Pos}(h:PFs X (e::e'::es) t)(hl:2000*(e::e'::es).length≤100000:=by decide):PE X (.JoinedStr (e::e'::es) pos) (Cb t) :=
 λpins s σ H Q I q=>JoinedStr_many (h Str.empty pins s σ H Q (by have z:Str.empty.length=0:=rfl;rw[z];omega) I q)
inductive TyX(K:W.Frag)(H:Hp):V→Value→Prop where
 | of {x:V} {t:Value} (h:lL K H x t):TyX K H x t
 | exc {b:Bool} {a C:Addr} {od:Option Addr} {cd:ClassData} (e:H a=some (exo b C a od)) (hd:od=none∨∃ dx fs,od=some dx∧H dx=some (.xd fs)) (x:dG K C cd) (g:xT K C)
   (hc:PySem.W.findIn K (.ref C) "__class__" = some (some (.builtin "object.__class__"))):TyX K H (.ref a) (.ref C)
def Eg:V→Value
 | .ref a=>.ref a
 | .ty n=>.type n
 | _=>.none
theorem vD{P:Program}{w:World}{H:Hp}{h:Heap}{b:Bool}{C a:Addr}{od:Option Addr}(ok:HOk P w H h)(e:H a=some (exo b C a od))(hd:od=none∨∃ dx fs,od=some dx∧H dx=some (.xd fs)) :
  ∃ ox o,PySem.W.InstAt h a ox C o:=by
 obtain⟨fs,sl,a0,z,_⟩:=kL ok e;rcases hd with rfl|⟨dx,gs,rfl,q⟩
 ·exact⟨_,_,uA z⟩
 ·obtain⟨mA,n,_⟩:=(show bV P w H h dx (.xd gs) from ok dx _ q)
  obtain⟨o,_,_,ho,_⟩:=n;exact⟨_,_,uB z ho⟩
def Cc(K:W.Frag):List V→Hp→VK→Prop:=λvs H Q=>∃ x c t b,vs=[x,c]∧TyX K H x t∧(∃ n,c=.ty n)∧PySem.W.kitOne K t (Eg c)=some b∧Q (.bl b) H
theorem xX{pins:List (Addr×Obj)}{s:Shared}{σ:St}{H:Hp}{x:V}{u c t:Value}{b:Bool}{Q:VK}(I:Inv X pins σ H s)(rx:RelV x u)(ty:TyX X.K H x t)(e:PySem.W.kitOne X.K t c=some b)(q:Q (.bl b) H) :
  wpAny (model X.prog X.w) X.A (call (.builtin "isinstance") [u,c]) (EP X pins σ Q) X.xe s:=by
 have fin:∀ tk,EP X pins σ Q (.bool b) {s with toks:=tk}:=λtk=>⟨.bl b,H,I.tok tk,rfl,q⟩;cases ty with
 | of h=>exact uk I rx h e fin
 | exc ea hd xc g hc =>
  cases (show u=Value.ref _ from rx);obtain⟨ox,o,J⟩:=vD I.hok ea hd;exact PySem.W.kia_one (xU xc g hc) I.kIn ⟨ox,o,J⟩ e (λz=>nomatch z) fin
theorem js:jH X (.builtin "isinstance") (Cc X.K):=by
 rintro pins s σ H xs us Q I r ⟨x,c,t,b,rfl,ty,⟨n,rfl⟩,e,q⟩;obtain⟨u,v,rfl,ru,rv⟩:=vals2 r;cases (show v=Value.type n from rv);exact xX I ru ty e q
end
section
variable{X:Cx}{pins:List (Addr×Obj)}{σ:St}{H:Hp}{s:Shared}{E:Value→Shared→Prop}{ea:Addr}
end
section
variable{X:Cx}
end
section
variable{X:Cx}
end
theorem ao.upd{H:Hp}{a:Addr}{o:HO}(h:H a=none):ao H (L2.upd H a o):=λb u q=>by rw[ah λe=>by rw[e,h]at q;cases q];exact q
structure Bv(K:W.Frag)(C:Addr):Prop where
 cls:∃ cd,dG K C cd
 get:xT K C
 own:PySem.W.findIn K (.ref C) "__class__" = some (some (.builtin "object.__class__"))
def xY(K:W.Frag):Sp:=λvs H Q _=>∃ ea C od x,vs=[.ref ea,x]∧H ea=some (exo true C ea od)∧(∃ cd,dG K C cd)∧Q .non H
theorem xh{X:Cx}{x:Str}{T:String}{pos:Pos}(hg:Gl X x)(hm:X.mg x=none)(hv:bootBuiltins x=some (.type T))(hn:x ≠ "__name__" := by decide)(hd:(x == ("__debug__" : Str))=false:=by decide):PE X (.Name x pos) (tC (.ty T)) :=
 λ_ _ _ H _ I h=>i0 I hg hm hv ⟨.ty T,H,I,rfl,h⟩ hn hd
theorem bD{P:Program}{w:World}{X:Cx}:fj (CXE P w) X.nox (λ_ _ _ _=>False):=λ_ _ _ _ _ _ _ ⟨_,_,_,_,_,_,_,_,_,q⟩=>q.elim
theorem uE{n:Int}(h:n.natAbs<2 ^ 1920):n.natAbs.log2<1920:=by
 by_cases z:n.natAbs=0
 ·rw[z];decide
 ·exact(Nat.log2_lt z).mpr h
theorem Cd{P:Program}{w:World}{outer:List Env}{H:Hp}{s:Shared}{e:Value}{s':Shared}(h:CXE P w outer H s (λ_ _ _=>False) e s'):False:=by
 obtain⟨_,_,_,_,_,_,_,_,_,q⟩:=h;exact q
def xi(xs ys:List V):Bool:=(List.range xs.length).all λj=>eqV (xs.getD j .non) (ys.getD j .non)
def Eh(K:W.Frag):R2:=λx y H Q=>∃ a b xs ys,x=.ref a∧y=.ref b∧SqL K H a xs∧SqL K H b ys∧xs.length=ys.length∧xs.all dX=true∧ys.all dX=true∧Q (.bl (xi xs ys)) H
theorem zN{X:Cx}(hu:X.A.units<cLine):OpR X (compareOp .Eq) (Eh X.K):=by
 intro pins s σ H x y v u Q I rx ry h;obtain⟨a,b,xs,ys,rfl,rfl,ha,hb,hl,fx,fy,q⟩:=h;cases rx;cases ry;obtain⟨vs,r1,⟨o1,n1,e1,c1,_,g1⟩,_⟩:=I.list ha;obtain⟨ws,r2,⟨o2,n2,e2,c2,_,g2⟩,_⟩:=I.list hb;have l1:=r1.length;have l2:=r2.length;refine SeqAt.eq_listAt (e:=λj=>eqV (xs.getD j .non) (ys.getD j .non)) ⟨o1,e1,c1,n1,g1⟩ ⟨o2,e2,c2,n2,g2⟩ (by simp only[EZ];omega) hu (λj h1 h2=>?_) ⟨.bl _,H,I,rfl,?_⟩
 ·simp only[EZ]at h1 h2
  obtain⟨w1,z1,rz1⟩:=r1.get (i:=j) (x:=xs[j]'(by omega)) (EO (by omega));obtain⟨w2,z2,rz2⟩:=r2.get (i:=j) (x:=ys[j]'(by omega)) (EO (by omega));have a1:vs.toArray[j]=w1:=by
   have:=(ER.mp z1).2
   simpa using this
  have a2:ws.toArray[j]=w2:=by
   have:=(ER.mp z2).2
   simpa using this
  rw[a1,a2];have d1:xs.getD j .non=xs[j]'(by omega):=by simp[List.getD,EO (show j<xs.length by omega)]
  have d2:ys.getD j .non=ys[j]'(by omega):=by simp[List.getD,EO (show j<ys.length by omega)]
  show SeqAt.EqAt _ _ _ _ (eqV (xs.getD j .non) (ys.getD j .non));rw[d1,d2];exact pF rz1 rz2 (Gj.mp fx _ (Gk _)) (Gj.mp fy _ (Gk _))
 ·have:vs.toArray.size=xs.length:=by simp only[EZ];omega
  rw[this];exact q
section
variable{X:Cx}
variable{o e value:Expr}{f:Str}{pos pos':Pos}{ta tv:TE}
end
theorem iV{prog:Program}{w:World}{A:Around}{R:Result→Shared→Prop}{s:Shared}{elt target iter:Expr}{scope:Scope}{pos:Pos}{it acc:Value}{env:Env}(I:Nat→Shared→Prop)
  (turn:∀ n s,I n s→wpAny (model prog w) A (pyNext it) (λr s₁=>match r with
   | none=>R (.ok .next) s₁
   | some v=>wpAny (model prog w) A (letOwnedTupleGo target it v) (λ_ s5=>wpAny (model prog w) A (assign target env v) (λ_ s₂=>wpAny (model prog w) A (eval elt env) (λx s₃ =>
     wpAny (model prog w) A (call (.builtin "list.append") [acc,x]) (λ_ s₄=>∃ m,m<n∧I m s₄) (notedBy (model prog w) A env λe s'=>R (.error e) s') s₃)
     (notedBy (model prog w) A env λe s'=>R (.error e) s') s₂) (notedBy (model prog w) A env λe s'=>R (.error e) s') s5) (notedBy (model prog w) A env λe s'=>R (.error e) s') s₁) (notedBy (model prog w) A env λe s'=>R (.error e) s') s)
  (n:Nat) (h:I n s):codeAny (model prog w) A (.compLoop (.ListComp elt [⟨target,iter,[],0⟩] scope pos) 0 it acc env) R s:=by
 refine codeAny_loop rfl I (λn s hI=>?_) n h;show wpAny _ _ ((compTurn (.ListComp elt [⟨target,iter,[],0⟩] scope pos) 0 it acc env).onRaise (λx=>do noteFrame x env;theTreesLotGoes x)) _ _ s
 refine wpAny_noted ?_;rw[compTurn_list1];refine wpAny_bind (wpAny_standAt (wpAny_bind (wpAny_mono (turn n s hI) (λr s₁ h₁=>?_) λ_ _ h'=>h')));cases r with
 | none=>exact wpAny_pure h₁
 | some v =>
  refine wpAny_bind (wpAny_mono h₁ (λ_ s5 h5=>?_) λ_ _ h'=>h');exact wpAny_bind (wpAny_mono h5 (λ_ s₂ h₂=>wpAny_bind (wpAny_bind (wpAny_mono h₂ (λx s₃ h₃=>wpAny_bind (wpAny_mono h₃
   (λ_ s₄ h₄=>wpAny_pure (wpAny_pure ⟨rfl,h₄⟩)) λ_ _ h'=>h')) λ_ _ h'=>h'))) λ_ _ h'=>h')
abbrev cxC(X:Cx)(scope:Scope)(cl:List (Str×Addr))(NC:List Str)(C:Addr)(fp:List Addr)(s₀:Shared)(H₀:Hp):Cx :=
 {X with N:=NC,s₀:=s₀,H₀:=H₀,env:=compEnvC scope cl C X.env,outer:=X.stack,ex:=fp,fn:=λ_=>false,pn:=[],xe:=λ_ _=>False}
def gb(σ:St)(idx:List Nat):St:=idx.map λi=>(σ[i]?).getD none
structure pJ(X:Cx)(scope:Scope)(cl:List (Str×Addr))(x:Str)(idx:List Nat)(NC:List Str):Prop where
 wC:closureFor scope X.env=pure cl
 sub:∀ y c,cl.lookup y=some c→X.env.cells.lookup y=some c
 has:∀ y,((relabel scope X.env).names.lookup y=some .cell∨(relabel scope X.env).names.lookup y=some .free)→∃ c,cl.lookup y=some c
 jV:∀ y∈scope.names,y.2≠.cell
 kind:scope.kind=.function
 loc:∀ y∈scope.names,y.2=.local→scope.names.lookup y.1=some .local
 xl:scope.names.lookup x=some .local
 nc:NC=x::idx.map λi=>X.N.getD i x
 nd:NC.Nodup
 cap:∀ i∈idx,i<X.N.length∧((X.env.scope.names.lookup (X.N.getD i x)=some .cell∨X.env.scope.names.lookup (X.N.getD i x)=some .free)∧((relabel scope X.env).names.lookup (X.N.getD i x)=some .cell∨(relabel scope X.env).names.lookup (X.N.getD i x)=some .free))
section
variable{X:Cx}{scope:Scope}{cl:List (Str×Addr)}{x:Str}{idx:List Nat}{NC:List Str}{C:Addr}{fp:List Addr}{pins:List (Addr×Obj)}{σ:St}{H:Hp}{s:Shared}
theorem qL{h1:Heap}{t':Nat}(c:pJ X scope cl x idx NC)(I:Inv X pins σ H s)(hf:∀ b∈fp,jY X pins H b)(hlt:∀ b∈fp,b<s.heap.objs.size)(ns:h1.Ns s.heap.objs.size (λ_=>none))
  (k:∀ b o,s.heap.get? b=some o→h1.get? b=some o):Inv (cxC X scope cl NC s.heap.objs.size fp s H) [] (none::gb σ idx) H {s with heap:=h1,toks:=t'}:=by
 have sub:∀ b,b∈frs X.stack→b∈X.env.locals::X.fs:=I.ir;refine⟨⟨I.ok.mod,c.kind,I.ok.glob,I.ok.blt,EV _,λy z a h1 h2=>I.ok.inj y z a (c.sub _ _ h1) (c.sub _ _ h2),c.has,λy a z=>(by cases z),I.ok.hd,I.ok.frames,.inl rfl,λb hb=>⟨E9 (hlt b hb),λy a q=>(hf b hb).2.2.2.2.1 y a (c.sub _ _ q)⟩,
  λb o q=>I.bs b o q,Fo I.ok.bsz I.sz,λb o q hb=>?_,λb hb z=>?_,I.stack,I.gO⟩,rfl,I.bare,Un.kept k,⟨_,ns,λi y v e1 e2 e3=>?_⟩,λy a q=>?_,I.hok.fresh (EV _),λy a q=>I.gQ _ _ (c.sub _ _ q),λp hp=>(by cases hp),I.hok.keeps λb u o _ q=>k b o q,?_⟩
 ·rcases(hf b hb).2.2.2.1 with z|z
  ·exact I.ok.vZ b o q z
  ·exact absurd (E7 (E4 (I.ok.bs b o q).1) z) (FF _)
 ·rcases E8.mp (sub b z) with r|r
  ·exact(hf b hb).2.1 r
  ·exact(hf b hb).2.2.1 r
 ·cases i with
  | zero=>cases e2
  | succ j =>
   have e1':(idx.map λi=>X.N.getD i x)[j]?=some y:=by
    have:(cxC X scope cl NC s.heap.objs.size fp s H).N=NC:=rfl
    rw[this,c.nc]at e1;exact e1
   have e2':(gb σ idx)[j]?=some (some v):=e2;rw[E3]at e1';unfold gb at e2';rw[E3]at e2';cases ei:idx[j]? with
   | none=>rw[ei]at e1';cases e1'
   | some i =>
    rw[ei]at e1' e2';simp only[FP,Option.some.injEq]at e1' e2';obtain⟨hi,h2,h3⟩:=c.cap i (E6 ei);rw[e1']at h2 h3;have hN:X.N[i]?=some y:=by
     rw[←e1'];simp[List.getD,EO hi]
    have hσ:σ[i]?=some (some v):=by
     cases q:σ[i]? with
     | none=>rw[q]at e2';cases e2'
     | some o=>rw[q]at e2';simp only[FX]at e2';rw[e2']
    obtain⟨m,hn,hl⟩:=I.loc;obtain⟨u,r,l⟩:=hl i y v hN hσ (h2.elim (λz=>.inr (.inl z)) λz=>.inr (.inr z));refine⟨u,r,.inr ⟨h3,?_⟩⟩;rcases l with⟨l,_⟩|⟨_,a,ha,hc⟩
    ·exfalso
     have l':X.env.scope.names.lookup y=some .local:=l;rcases h2 with z|z<;>(rw[l']at z;cases z)
    ·obtain⟨a',ha'⟩:=c.has y h3
     have:=c.sub _ _ ha'
     rw[ha]at this;cases this;exact⟨a,ha',hc.keeps k⟩
 ·obtain⟨v,z⟩:=I.cell _ _ (c.sub _ _ q)
  exact⟨v,z.keeps k⟩
 ·show _=NC.length
  rw[c.nc];simp[gb]
def pK(J:It)(D:Addr)(τ:St)(te:TE)(Q:VK)(H:Hp):Prop:=∃ W:Nat→Nat→List V→Hp→Prop,(∃ m,W 0 m [] H)∧∀ i m ys H2,W i m ys H2→H2 D=some (.lst ys) ∧
 ((J.stop i H2∧Q (.ref D) H2)∨(J.go i H2∧ys.length<sizeLine∧∃ N:List V→Hp→Prop,(∀ zs H',N zs H'→∃ m',m'<m∧W (i+1) m' zs H')∧∀ y H3,J.yld i H2 y H3→te (some y::τ) H3 λv H4=>H4 D=some (.lst ys)∧N (ys++[v]) (upd H4 D (.lst (ys++[v])))))
def yJ(wi:TI)(idx:List Nat)(te:TE):TE:=λσ H Q=>wi σ H λJ H1=>∀ D,H1 D=none→pK J D (gb σ idx) te Q (upd H1 D (.lst []))
theorem k8{X:Cx}{pins:List (Addr×Obj)}{σ:St}{H:Hp}{s:Shared}{D:Addr}{ys:List V}{v:V}{u:Value}(I:Inv X pins σ H s)(h:H D=some (.lst ys))(hz:ys.length<sizeLine)(r:RelV v u) :
  wpAny (model X.prog X.w) X.A (call (.builtin "list.append") [.ref D,u]) (λ_ s'=>Inv X pins σ (upd H D (.lst (ys++[v]))) s') X.xe s:=by
 refine thn (dF pins s σ H (.ref D) [v] (.ref D) [u] (λ_ H'=>H'=upd H D (.lst (ys++[v]))) I rfl (.cons r .nil) ⟨D,ys,v,rfl,rfl,h,hz,rfl⟩) λw s' ⟨_,H',I',_,e⟩=>?_;rw[←e];exact I'
theorem gh{elt iter:Expr}{px pos:Pos}{wi:TI}{te:TE}(c:pJ X scope cl x idx NC)(hc:X.calm=true)(hi:PI X (.Name x px) iter wi)(he:∀ C fp s₀ H₀,PE (cxC X scope cl NC C fp s₀ H₀) elt te)
  (hs:∀ x,foldedSetIterable iter X.env x=pure x:=by intro _;rfl):PE X (.ListComp elt [⟨.Name x px,iter,[],0⟩] scope pos) (yJ wi idx te):=by
 intro pins s σ H Q I h;rw[eval_ListComp];refine wpAny_comprehension_free (use:=none) rfl hs c.wC c.kind c.loc (thn (hi pins s σ H _ I h) λv s1 h1=>thn h1 λitv s2 h2=>?_);obtain⟨it,fp,tn,J,H2,rfl,I2,T,st2,f2,q⟩:=h2;refine wpAny_newObj_type (wpAny_newFunctionEnv c.jV (by intro y hy;simp at hy) (λh₁ hns₁ hsb₁=>?_) c.kind);dsimp only at hns₁ hsb₁ ⊢;have I3:Inv X pins σ (upd H2 s2.heap.objs.size (.lst [])) {s2 with heap:=s2.heap.push {cls:=.type "list",data:=.seq ([]:List Value).toArray},toks:=s2.toks}:=I2.yw (ys:=[]) (its:=[]) .nil (Fj _);obtain⟨W,⟨m0,w0⟩,turn⟩:=q s2.heap.objs.size I2.fresh;generalize hD:s2.heap.objs.size=D at *;generalize hH:s2.heap.push {cls:=.type "list",data:=.seq ([]:List Value).toArray}=h3 at *;have tP:∀ b∈fp,b<D:=λb hb=>by
  obtain⟨o,e,_⟩:=T.obj _ _ st2 b hb;rw[←hD];exact E4 e
 have hlt:∀ b∈fp,b<h3.objs.size:=λb hb=>by
  rw[←hH,F6,hD];exact Gx (tP b hb)
 have hf:∀ b∈fp,jY X pins (upd H2 D (.lst [])) b:=λb hb=>⟨by rw[ah (E9 (tP b hb))];exact(f2 b hb).1,(f2 b hb).2⟩;have kp:∀ b o,h3.get? b=some o→h₁.get? b=some o:=λb o e=>hsb₁.extBut b o (E9 (E4 e)) (ES _ e);have I4:Inv (cxC X scope cl NC h3.objs.size fp {s2 with heap:=h3,toks:=s2.toks} (upd H2 D (.lst []))) [] (none::gb σ idx) (upd H2 D (.lst [])) {s2 with heap:=h₁,toks:=s2.toks+([]:List (Str×Value)).length} :=
  qL (s:={s2 with heap:=h3,toks:=s2.toks}) c I3 hf hlt hns₁ kp
 have jZ:∀ {H':Hp},(∀ b∈fp,H' b=none)→∀ b∈fp,jY (cxC X scope cl NC h3.objs.size fp {s2 with heap:=h3,toks:=s2.toks} (upd H2 D (.lst []))) [] H' b:=λhn b hb =>
  ⟨hn b hb,E9 (hlt b hb),λz=>(E8.mp (I3.ir b z)).elim (hf b hb).2.1 (hf b hb).2.2.1,.inl hb,λy a q=>(hf b hb).2.2.2.2.1 y a (c.sub _ _ q),λp hp=>(by cases hp)⟩
 have st1:tn 0 h₁:=T.keep 0 _ _ st2 λb hb o e=>kp b o (by rw[←hH];exact ES _ e);have loop:∀ s4:Shared,s4={s2 with heap:=h₁,toks:=s2.toks+([]:List (Str×Value)).length} →
   codeAny (model X.prog X.w) X.A (.compLoop (.ListComp elt [⟨.Name x px,iter,[],0⟩] scope pos) 0 (.ref it) (.ref D) (compEnvC scope cl h3.objs.size X.env)) (compPost (model X.prog X.w) X.A X.xe none (EP X pins σ Q) (.ref D) h3.objs.size) s4:=by
  rintro s4 rfl;refine iV (λn s'=>∃ i ys H' v0,Inv (cxC X scope cl NC h3.objs.size fp {s2 with heap:=h3,toks:=s2.toks} (upd H2 D (.lst []))) [] (v0::gb σ idx) H' s'∧tn i s'.heap∧(∀ b∈fp,H' b=none)∧W i n ys H')
   ?_ m0 ⟨0,[],_,none,I4,st1,λb hb=>(hf b hb).1,w0⟩
  rintro n s5 ⟨i,ys,H5,v0,I5,st5,fr5,w5⟩;obtain⟨hDl,alt⟩:=turn i n ys H5 w5;rcases alt with⟨stop,qn⟩|⟨go,hz,N,hN,step⟩
  ·refine thn (T.done (cxC X scope cl NC h3.objs.size fp {s2 with heap:=h3,toks:=s2.toks} (upd H2 D (.lst []))) rfl rfl rfl hc i [] s5 _ H5 _ I5 (jZ fr5) st5 stop) λr s6 ⟨hr,I6⟩=>?_
   subst hr;obtain⟨m,ns6,_⟩:=id I6.loc;refine⟨m,ns6,λh' hs'=>⟨.ref D,H5,?_,rfl,qn⟩⟩;have J6:Inv X pins σ H5 s6:=I3.ra (ch:=fp) I6.os I6.base I6.hok I6.bare λb hb=>⟨(hf b hb).2.2.2.1,(hf b hb).2.1,(hf b hb).2.2.2.2.1,(hf b hb).2.2.2.2.2⟩;refine J6.turned (t':=s6.toks) (it:=h3.objs.size) (λb o hb e=>hs'.extBut b o hb e) I6.free (FL I3.lt) (.inr I3.sz) (λy a q z=>?_) (λp hp z=>?_)
   ·obtain⟨v,q'⟩:=I3.cell y a q
    exact absurd q'.lt (by rw[z];exact FF _)
   ·exact absurd (E4 (I3.pin p hp).1) (by rw[z];exact FF _)
  ·refine thn (T.item (cxC X scope cl NC h3.objs.size fp {s2 with heap:=h3,toks:=s2.toks} (upd H2 D (.lst []))) rfl rfl rfl hc i [] s5 _ H5 _ I5 (jZ fr5) st5 go) λr s6 ⟨u,hr,h6⟩=>?_
   subst hr;refine thn h6 λ_ s7 ⟨y,H7,I7,r7,y7,st7,fr7⟩=>?_;have I7':=I7.pinned (jZ fr7) (T.obj _ _ st7);have hnl:(relabel scope X.env).names.lookup x=some .local:=lookup_relabel_local c.xl;refine wpAny_mono (aC (X:=cxC X scope cl NC h3.objs.size fp {s2 with heap:=h3,toks:=s2.toks} (upd H2 D (.lst []))) (i:=0) (x:=x) (pos:=px) c.nd (by show NC[0]?=some x;rw[c.nc];rfl) (.inl hnl) (.inr hnl) _ s7 _ H7 y u
    (λσ' H'=>σ'=some y::gb σ idx∧H'=H7) I7' r7 ⟨rfl,rfl⟩) (λ_ s8 ⟨σ8,H8,I8,e8,e8'⟩=>?_) λ_ _ z=>z.elim
   subst e8 e8';refine wpAny_mono (he _ _ _ _ _ s8 _ H8 _ I8 (step y H8 y7)) (λw s9 ⟨v,H9,I9,r9,hD9,n9⟩=>?_) λ_ _ z=>z.elim;obtain⟨m',hm,w9⟩:=hN _ _ n9;refine wpAny_mono (k8 (X:=(cxC X scope cl NC h3.objs.size fp {s2 with heap:=h3,toks:=s2.toks} (upd H2 D (.lst [])))) I9 hD9 hz r9) (λ_ s10 I10=>?_) λ_ _ z=>z.elim;refine⟨m',hm,i+1,ys++[v],_,some y,I10.fz,T.keep _ _ _ st7 λb hb o e=>(I10.pin (b,o) (EW _ (EW _ (cF hb e)))).1,λb hb=>?_,w9⟩;obtain⟨o,e,d⟩:=T.obj _ _ st7 b hb;exact(I10.pin (b,o) (EW _ (EW _ (cF hb e)))).2.1
 exact codeAny_compStart_list (loop _ rfl) (T.self _ 0 _ _ _ st1 (loop _ rfl))
end
section
variable{X:Cx}
theorem lO{prog:Program}{w:World}{A:Around}{R:Result→Shared→Prop}{s:Shared}{elt target iter c:Expr}{scope:Scope}{pos:Pos}{it acc:Value}{env:Env}(I:Nat→Shared→Prop)
  (turn:∀ n s,I n s→wpAny (model prog w) A (pyNext it) (λr s₁=>match r with
   | none=>R (.ok .next) s₁
   | some v=>wpAny (model prog w) A (letOwnedTupleGo target it v) (λ_ s5=>wpAny (model prog w) A (assign target env v) (λ_ s₂=>wpAny (model prog w) A (isTrue c env (eval c env)) (λok s6=>if ok=true then wpAny (model prog w) A (eval elt env) (λx s₃ =>
     wpAny (model prog w) A (call (.builtin "list.append") [acc,x]) (λ_ s₄=>∃ m,m<n∧I m s₄) (notedBy (model prog w) A env λe s'=>R (.error e) s') s₃)
     (notedBy (model prog w) A env λe s'=>R (.error e) s') s6 else ∃ m,m<n∧I m s6) (notedBy (model prog w) A env λe s'=>R (.error e) s') s₂) (notedBy (model prog w) A env λe s'=>R (.error e) s') s5) (notedBy (model prog w) A env λe s'=>R (.error e) s') s₁) (notedBy (model prog w) A env λe s'=>R (.error e) s') s)
  (n:Nat) (h:I n s):codeAny (model prog w) A (.compLoop (.ListComp elt [⟨target,iter,[c],0⟩] scope pos) 0 it acc env) R s:=by
 refine codeAny_loop rfl I (λn s hI=>?_) n h;show wpAny _ _ ((compTurn (.ListComp elt [⟨target,iter,[c],0⟩] scope pos) 0 it acc env).onRaise (λx=>do noteFrame x env;theTreesLotGoes x)) _ _ s
 refine wpAny_noted ?_;rw[compTurn_list];refine wpAny_bind (wpAny_standAt (wpAny_bind (wpAny_mono (turn n s hI) (λr s₁ h₁=>?_) λ_ _ h'=>h')));cases r with
 | none=>exact wpAny_pure h₁
 | some v =>
  refine wpAny_bind (wpAny_mono h₁ (λ_ s5 h5=>?_) λ_ _ h'=>h');refine wpAny_bind (wpAny_mono h5 (λ_ s₂ h₂=>wpAny_bind (wpAny_mono (wpAny_tests_one h₂) (λok s₃ h₃=>?_) λ_ _ h'=>h')) λ_ _ h'=>h');cases ok with
  | false=>exact wpAny_pure ⟨rfl,h₃⟩
  | true =>
   exact wpAny_bind (wpAny_bind (wpAny_mono h₃ (λx s₄ h₄=>wpAny_bind (wpAny_mono h₄ (λ_ s₅ h₅=>wpAny_pure (wpAny_pure ⟨rfl,h₅⟩)) λ_ _ h'=>h')) λ_ _ h'=>h'))
variable{scope:Scope}{cl:List (Str×Addr)}{x:Str}{idx:List Nat}{NC:List Str}{C:Addr}{fp:List Addr}{pins:List (Addr×Obj)}{σ:St}{H:Hp}{s:Shared}
end
def Ite(K:W.Frag)(a:Addr):It :=
 ⟨λi H=>∃ xs x,SqL K H a xs∧xs[i]?=some x,λi H y H'=>∃ t x,H t=none∧y=.ref t∧(∀ xs,SqL K H a xs→xs[i]?=some x)∧H'=upd H t (.tup [.int (i:Int),x]),λi H=>∃ xs,SqL K H a xs∧xs.length≤i⟩
theorem uF{P:Program}{w:World}{K:W.Frag}{es:List Expr}{x1:Nat}{pos:Pos}(a it e:Addr)(hne:e≠it) :
  Turn P w K (.Tuple es x1 pos) (Ite K a) [e,it] e (λi h=>∃ old,IsEnum h e it i old∧h.IsListIter it a i) where
 mem:=by simp
 obj:=λi h st b hb=>by
  obtain⟨old,h1,o,q,c,d⟩:=st;rcases E8.mp hb with z|z
  ·rw[z]
   exact⟨_,h1,λv z=>by
    have z':Data.fields _=Data.cell v:=z;cases z'⟩
  ·rw[ET.mp z]
   exact⟨o,q,λv z=>by rw[d]at z;cases z⟩
 keep:=λi h h' st k=>by
  obtain⟨old,h1,h2⟩:=st;exact⟨old,k e (by simp) _ h1,h2.at λo q=>k it (by simp) o q⟩
 item:=by
  intro X hP hw hK hc i pins s σ H E I hf st hg;subst hP hw hK;obtain⟨xs,x,hq,hx⟩:=hg;obtain⟨its,rv,p,hz⟩:=I.list hq;obtain⟨u,hu,ru⟩:=rv.get hx;obtain⟨old,he,hit⟩:=st;have fr:H s.heap.objs.size=none:=I.hok.fresh (EV _);refine wpAny_pyNext_enum_item he hit p.isList (x:=u) (by simpa using hu) hne λh1 heo hit1 ht1 hz1 hk1=>⟨_,rfl,wpAny_letOwnedTupleGo_enum heo λh2 he2 hs2=>?_⟩;replace hs2:Heap.SameBut e h1 h2:=hs2;have hel:e<s.heap.objs.size:=E4 he;have k2:∀ b o,b≠e→b≠it→s.heap.get? b=some o→h2.get? b=some o:=λb o z1 z2 q=>(hs2.2 b z1).trans (hk1 b o z1 z2 q);have ht2:h2.get? s.heap.objs.size=some {cls:=.type "tuple",data:=.seq #[.int i s.toks,u]}:=(hs2.2 _ (FL hel)).trans ht1;have Ei:h2.IsListIter it a (i+1):=hit1.extBut hs2.extBut (FC hne);have nt:∀ b o,s.heap.get? b=some o→b≠s.heap.objs.size:=λb o q=>E9 (E4 q);have nh:∀ b v,H b=some v→b≠s.heap.objs.size:=λb v q=>ae q fr;have ne':∀ b v,H b=some v→b≠e∧b≠it:=λb v q=>⟨ae q (hf e (by simp)).1,ae q (hf it (by simp)).1⟩;refine⟨.ref s.heap.objs.size,upd H s.heap.objs.size (.tup [.int (i:Int),x]),?_,rfl,⟨_,x,fr,rfl,λys hy=>by rw[I.qz hy hq];exact hx,rfl⟩,⟨_,he2,Ei⟩,λb hb=>?_⟩
  ·refine Inv.step (s:=s) (h':=h2) (t':=s.toks+1) (H:=H) (g':=s.gens) (d':=s.drawn) (ch:=[e,it]) I (λb hb=>⟨(hf b hb).2.2.2.1,(hf b hb).2.1,(hf b hb).2.2.2.2.1,(hf b hb).2.2.2.2.2⟩)
    (λb o _ _ z q _=>k2 b o (λy=>z (by simp[y])) (λy=>z (by simp[y])) q) (λb o _ _ z q _=>⟨o.slots,k2 b o (λy=>z (by simp[y])) (λy=>z (by simp[y])) q⟩)
    (λb o _ q n=>by rw[ah (nt b o q)];exact n) (λb o z q=>⟨o,k2 b o (λy=>z (by simp[y])) (λy=>z (by simp[y])) q⟩)
    (λb xs q=>by rw[ah (nh b _ q)];exact q) (λb o v q=>by rw[ah (nh b _ q)];exact q) (λb ps q=>⟨#[],by rw[ah (nh b _ q),q];simp⟩) (λm hm=>?_) (λb v q=>?_) I.bare
   ·obtain⟨o,es',ep,ho,r⟩:=hm
    exact⟨o,es',ep,k2 _ o (FC (hf e (by simp)).2.1) (FC (hf it (by simp)).2.1) ho,r⟩
   ·by_cases z:b=s.heap.objs.size
    ·subst z
     rw[ab]at q;cases q;exact⟨by show 2≤sizeLine;decide,[.int i s.toks,u],.cons ⟨_,rfl⟩ (.cons ru .nil),_,ht2,rfl,_,rfl⟩
    ·rw[ah z]at q
     refine(I.hok b v q).oW (λc o hc w=>?_) (λc w=>by rw[ah (nh c _ w)];exact w) λc xs w=>by rw[ah (nh c _ w)];exact w
     rcases hc with y|y
     ·rw[y]at w ⊢
      exact k2 b o (ne' b v q).1 (ne' b v q).2 w
     ·exact k2 c o (ne' c _ y).1 (ne' c _ y).2 w
  ·have hb':b<s.heap.objs.size:=by
    rcases E8.mp hb with z|z
    ·rw[z];exact hel
    ·rw[ET.mp z]
     obtain⟨o,q,_⟩:=hit;exact E4 q
   rw[ah (E9 hb')];exact(hf b hb).1
 done:=by
  intro X hP hw hK hc i pins s σ H E I hf st hg;subst hP hw hK;obtain⟨xs,hq,hx⟩:=hg;obtain⟨its,rv,p,hz⟩:=I.list hq;obtain⟨f0,f1,f2,f3,f4,f5⟩:=hf it (by simp);have hl:=rv.length;obtain⟨old,he,hit⟩:=st;exact wpAny_pyNext_enum_end (I.ok.hd hc) he hit p.isList (by simp;omega) λh' eb=>⟨rfl,I.turned (t':=s.toks) (λb o hb q=>eb b o hb q) f0 f1 f3 f4 f5⟩
 self:=λA i s Q E st h=>by
  obtain⟨old,he,hit⟩:=st;exact wpAny_pyIter_enum he h
section
variable{X:Cx}{es:List Expr}{x1:Nat}{tp:Pos}
def Ce(K:W.Frag)(ta:TA):TI:=λσ H R=>ta σ H λvs H1=>∃ a,vs=[.ref a]∧(∃ xs,SqL K H1 a xs)∧R (Ite K a) H1
theorem ji{a:Expr}{ta:TA}{p pos:Pos}(hg:Gl X "enumerate")(hm:X.mg "enumerate" = none)(ha:PA X [a] ta)(hs:starEach [a] X.env=[(false,eval a X.env)]:=by rfl):PI X (.Tuple es x1 tp) (.Call (.Name "enumerate" p) [a] [] pos) (Ce X.K ta):=by
 intro pins s σ H R I h;refine Call_ (i0 I hg hm PyProof.Rows.Boot.«enumerate» (PyProof.Rows.callWith_type1 (thn (ha pos pins s σ H _ I h) λus s1 ⟨vs,H1,I1,r1,q1⟩=>?_) hs rfl));obtain⟨l,e,⟨xs,hq⟩,q⟩:=q1;subst e;cases r1 with
 | cons r rr =>
  cases rr;cases r;obtain⟨its,rv,pl,hz⟩:=I1.list hq;refine call_enumerate_list pl.isList λh' he hit hsz hk=>?_;refine wpAny_pyIter_enum he ?_;refine⟨s1.heap.objs.size+1,[s1.heap.objs.size+1,s1.heap.objs.size],_,_,H1,rfl,I1.kept (t':=s1.toks) hk,uF l s1.heap.objs.size (s1.heap.objs.size+1) (Nat.succ_ne_self _),⟨_,he,hit⟩,λb hb=>?_,q⟩;have hb':s1.heap.objs.size≤b:=by
   rcases E8.mp hb with z|z
   ·rw[z];exact F7 _
   ·rw[ET.mp z]
    exact EV _
  exact I1.xC hb' (I1.hok.fresh hb')
end
theorem hZ{K:W.Frag}{a:Addr}{xs:List V}{g:TG}{tb:TS}{D:Ends}{σ:St}{H:Hp}(Pv:Nat→St→Hp→Prop)(h0:Pv 0 σ H)(hl:∀ i σ H,i≤xs.length→Pv i σ H→SqL K H a xs)
  (hs:∀ i x σ H t,xs[i]?=some x→Pv i σ H→H t=none→g (.ref t) σ (upd H t (.tup [.int (i:Int),x])) λσ2 H2=>tb {D with nx:=Pv (i+1),ct:=Pv (i+1),bk:=D.nx} σ2 H2) (hd:∀ σ H,Pv xs.length σ H→D.nx σ H) :
  ∃ W:Nat→Nat→St→Hp→Prop,(∃ m,W 0 m σ H)∧∀ i m σ H,W i m σ H →
   ((Ite K a).stop i H∧D.nx σ H)∨((Ite K a).go i H∧∃ N:St→Hp→Prop,(∀ σ' H',N σ' H'→∃ m',m'<m∧W (i+1) m' σ' H')∧∀ x H',(Ite K a).yld i H x H'→g x σ H' λσ2 H2=>tb {D with nx:=N,ct:=N,bk:=D.nx} σ2 H2):=by
 refine⟨λi m σ H=>m=xs.length-i∧i≤xs.length∧Pv i σ H,⟨xs.length,by simp,Fj _,h0⟩,?_⟩;rintro i m σ H ⟨rfl,hi,p⟩;by_cases hlt:i<xs.length
 ·refine .inr ⟨⟨xs,xs[i],hl i σ H hi p,EO hlt⟩,Pv (i+1),λσ' H' p'=>⟨xs.length-(i+1),by omega,rfl,hlt,p'⟩,λx H' y=>?_⟩
  obtain⟨t,v,e1,e2,e3,e4⟩:=y;subst e2 e4;exact hs i v σ H t (e3 xs (hl i σ H hi p)) p e1
 ·have e:i=xs.length:=by omega
  subst e;exact .inl ⟨⟨xs,hl _ σ H hi p,EV _⟩,hd σ H p⟩
end L2
namespace L2
open PySem
theorem d6{lo:Int}{n:Nat}{te:TE}{Q:VK}{D:Addr}{τ:St}{H:Hp}(Pv:Nat→List V→Hp→Prop)(h0:Pv 0 [] H)(hD:∀ i ys H,i≤n→Pv i ys H→H D=some (.lst ys)∧ys.length=i)(hn:n≤sizeLine)
  (hs:∀ i ys H,i<n→Pv i ys H→te (some (.int (lo+i))::τ) H λv H4=>H4 D=some (.lst ys)∧Pv (i+1) (ys++[v]) (upd H4 D (.lst (ys++[v])))) (hd:∀ ys H,Pv n ys H→Q (.ref D) H):pK (Itr lo n) D τ te Q H:=by
 refine⟨λi m ys H=>m=n-i∧i≤n∧Pv i ys H,⟨n,by simp,Fj _,h0⟩,?_⟩;rintro i m ys H2 ⟨rfl,hi,p⟩;obtain⟨hd1,hd2⟩:=hD i ys H2 hi p;refine⟨hd1,?_⟩;by_cases hlt:i<n
 ·refine .inr ⟨hlt,by omega,Pv (i+1),λzs H' p'=>⟨n-(i+1),by omega,rfl,hlt,p'⟩,λy H3 e=>?_⟩
  obtain⟨e1,e2⟩:=e;subst e1 e2;exact hs i ys _ hlt p
 ·have e:i=n:=by omega
  subst e;exact .inl ⟨EV _,hd ys H2 p⟩
theorem gn{K:W.Frag}{a:Addr}{xs:List V}{te:TE}{Q:VK}{D:Addr}{τ:St}{H:Hp}(Pv:Nat→List V→Hp→Prop)(h0:Pv 0 [] H)(hD:∀ i ys H,i≤xs.length→Pv i ys H→H D=some (.lst ys)∧ys.length=i)(hl:∀ i ys H,i≤xs.length→Pv i ys H→SqL K H a xs)(hn:xs.length≤sizeLine)
  (hs:∀ i x ys H,xs[i]?=some x→Pv i ys H→te (some x::τ) H λv H4=>H4 D=some (.lst ys)∧Pv (i+1) (ys++[v]) (upd H4 D (.lst (ys++[v])))) (hd:∀ ys H,Pv xs.length ys H→Q (.ref D) H):pK (Itl K a) D τ te Q H:=by
 refine⟨λi m ys H=>m=xs.length-i∧i≤xs.length∧Pv i ys H,⟨xs.length,by simp,Fj _,h0⟩,?_⟩;rintro i m ys H2 ⟨rfl,hi,p⟩;obtain⟨hd1,hd2⟩:=hD i ys H2 hi p;refine⟨hd1,?_⟩;by_cases hlt:i<xs.length
 ·refine .inr ⟨⟨xs,xs[i],hl i ys H2 hi p,EO hlt⟩,by omega,Pv (i+1),λzs H' p'=>⟨xs.length-(i+1),by omega,rfl,hlt,p'⟩,λy H3 e=>?_⟩
  obtain⟨e1,e2⟩:=e;subst e1;exact hs i y ys _ (e2 xs (hl i ys _ hi p)) p
 ·have e:i=xs.length:=by omega
  subst e;exact .inl ⟨⟨xs,hl _ ys H2 hi p,EV _⟩,hd ys H2 p⟩
end L2
end
section
namespace L2
open PySem PySem.Spec PyProof.Rows LX
def tQ(sc:Scope)(names:List (Str×NameKind)):List (Str×NameKind):=names.map λ(n,k)=>if(k == .free&&sc.kind == .function&&sc.names.lookup n == some .cell) then(n,.cell) else(n,k)
def xj(sc scope:Scope)(x:Str)(ns N:List Str)(idx:List Nat):Prop :=
 (∀ y∈scope.names,y.2≠.cell)∧(∀ y∈scope.names,y.2=.local→scope.names.lookup y.1=some .local)∧scope.names.lookup x=some .local∧(∀ p∈tQ sc scope.names,p.2=.cell∨p.2=.free→p.1∈ns)∧(x::idx.map λi=>N.getD i x).Nodup ∧
 ∀ i∈idx,i<N.length∧((sc.names.lookup (N.getD i x)=some .cell∨sc.names.lookup (N.getD i x)=some .free)∧((tQ sc scope.names).lookup (N.getD i x)=some .cell∨(tQ sc scope.names).lookup (N.getD i x)=some .free))
instance (sc scope:Scope) (x:Str) (ns N:List Str) (idx:List Nat):Decidable (xj sc scope x ns N idx):=by unfold xj;infer_instance
theorem fI{y:Str}:∀ {cl:List (Str×Addr)},y∈cl.map (·.1)→∃ c,cl.lookup y=some c
 | [],h=>by simp at h
 | (n,c)::r,h=>by
  by_cases e:y=n
  ·exact⟨c,by simp[List.lookup,e]⟩
  ·have h':y∈r.map (·.1):=by
    rw[Fl]at h;rcases E8.mp h with z|z
    ·exact absurd z e
    ·exact z
   obtain⟨c',q⟩:=fI h';have hb:(y == n)=false:=beq_eq_false_iff_ne.mpr e;exact⟨c',by simp only[List.lookup,hb];exact q⟩
theorem dm{X:Cx}{sc scope:Scope}{cl:List (Str×Addr)}{x:Str}{ns N:List Str}{idx:List Nat}(hsc:X.env.scope=sc)(hN:X.N=N)(hk:scope.kind=.function)(p:xj sc scope x ns N idx)(hn:cl.map (·.1)=ns)
  (rD:closureFor scope X.env=pure cl) (xZ:∀ q∈cl,X.env.cells.lookup q.1=some q.2):pJ X scope cl x idx (x::idx.map λi=>N.getD i x):=by
 obtain⟨p1,p2,p3,p4,p5,p6⟩:=p;have re:(relabel scope X.env).names=tQ sc scope.names:=by subst hsc;rfl
 subst hsc hN hn;refine⟨rD,λy c q=>xZ (y,c) (Fq q),λy h=>?_,p1,hk,p2,p3,rfl,p5,λi hi=>?_⟩
 ·rw[re]at h
  refine fI ?_;rcases h with h|h
  ·exact p4 (y,.cell) (Fq h) (.inl rfl)
  ·exact p4 (y,.free) (Fq h) (.inr rfl)
 ·rw[re]
  exact p6 i hi
theorem m4{P:Program}{w:World}{X:Cx}:fj (CXE P w) X (λ_ _ _ _=>False):=λ_ _ _ _ _ _ _ ⟨_,_,_,_,_,_,_,_,_,q⟩=>q.elim
section
variable{X:Cx}{scope:Scope}{cl:List (Str×Addr)}{x:Str}{idx:List Nat}{NC:List Str}{pins:List (Addr×Obj)}{σ:St}{H:Hp}{s:Shared}
theorem jj{i:Nat}{y:Str}{elt iter:Expr}{px py pos Dm:Pos}{wi:TI}{te:TE}(hN:X.N.Nodup)(hi':X.N[i]?=some y)(hx:X.env.scope.names.lookup y=some .local)(c:pJ X scope cl x idx NC)(hc:X.calm=true)(hi:PI X (.Name x px) iter wi)
  (he:∀ C fp s₀ H₀,PE (cxC X scope cl NC C fp s₀ H₀) elt te) (hsw:swapsWith (.ListComp elt [⟨.Name x px,iter,[],0⟩] scope pos) (some (.Name y py)) Dm.line X.env=pure true:=by rfl)
  (hs:∀ x,foldedSetIterable iter X.env x=pure x:=by intro _;rfl):PS X (.Assign [.Name y py] (.ListComp elt [⟨.Name x px,iter,[],0⟩] scope pos) Dm) (Ag (yJ wi idx te) (i8 i)):=by
 intro pins s σ H D0 I h;rw[exec_Assign_Name_used _ _ _ _ hsw];refine wpAny_bind (wpAny_standAt (wpAny_bind ?_));show wpAny _ _ (do let _ ←comprehension (.ListComp elt [⟨.Name x px,iter,[],0⟩] scope pos) scope X.env _ (newList []) false (eval iter X.env) (some (assign (.Name y py) X.env))) _ _ s
 refine wpAny_bind (wpAny_mono (wpAny_comprehension_free (use:=some (assign (.Name y py) X.env)) (Q:=λ_ s'=>SP X pins D0 .next s') rfl hs c.wC c.kind c.loc
  (thn (hi pins s σ H _ I h) λv s1 h1=>thn h1 λitv s2 h2=>?_)) (λ_ s' hq=>wpAny_pure (wpAny_pure hq)) λ_ _ e=>e)
 obtain⟨it,fp,tn,J,H2,rfl,I2,T,st2,f2,q⟩:=h2;refine wpAny_newObj_type (wpAny_newFunctionEnv c.jV (by intro y hy;simp at hy) (λh₁ hns₁ hsb₁=>?_) c.kind);dsimp only at hns₁ hsb₁ ⊢;have I3:Inv X pins σ (upd H2 s2.heap.objs.size (.lst [])) {s2 with heap:=s2.heap.push {cls:=.type "list",data:=.seq ([]:List Value).toArray},toks:=s2.toks}:=I2.yw (ys:=[]) (its:=[]) .nil (Fj _);obtain⟨W,⟨m0,w0⟩,turn⟩:=q s2.heap.objs.size I2.fresh;generalize hD:s2.heap.objs.size=D at *;generalize hH:s2.heap.push {cls:=.type "list",data:=.seq ([]:List Value).toArray}=h3 at *;have tP:∀ b∈fp,b<D:=λb hb=>by
  obtain⟨o,e,_⟩:=T.obj _ _ st2 b hb;rw[←hD];exact E4 e
 have hlt:∀ b∈fp,b<h3.objs.size:=λb hb=>by
  rw[←hH,F6,hD];exact Gx (tP b hb)
 have hf:∀ b∈fp,jY X pins (upd H2 D (.lst [])) b:=λb hb=>⟨by rw[ah (E9 (tP b hb))];exact(f2 b hb).1,(f2 b hb).2⟩;have kp:∀ b o,h3.get? b=some o→h₁.get? b=some o:=λb o e=>hsb₁.extBut b o (E9 (E4 e)) (ES _ e);have I4:Inv (cxC X scope cl NC h3.objs.size fp {s2 with heap:=h3,toks:=s2.toks} (upd H2 D (.lst []))) [] (none::gb σ idx) (upd H2 D (.lst [])) {s2 with heap:=h₁,toks:=s2.toks+([]:List (Str×Value)).length} :=
  qL (s:={s2 with heap:=h3,toks:=s2.toks}) c I3 hf hlt hns₁ kp
 have jZ:∀ {H':Hp},(∀ b∈fp,H' b=none)→∀ b∈fp,jY (cxC X scope cl NC h3.objs.size fp {s2 with heap:=h3,toks:=s2.toks} (upd H2 D (.lst []))) [] H' b:=λhn b hb =>
  ⟨hn b hb,E9 (hlt b hb),λz=>(E8.mp (I3.ir b z)).elim (hf b hb).2.1 (hf b hb).2.2.1,.inl hb,λy a q=>(hf b hb).2.2.2.2.1 y a (c.sub _ _ q),λp hp=>(by cases hp)⟩
 have st1:tn 0 h₁:=T.keep 0 _ _ st2 λb hb o e=>kp b o (by rw[←hH];exact ES _ e);have loop:∀ s4:Shared,s4={s2 with heap:=h₁,toks:=s2.toks+([]:List (Str×Value)).length} →
   codeAny (model X.prog X.w) X.A (.compLoop (.ListComp elt [⟨.Name x px,iter,[],0⟩] scope pos) 0 (.ref it) (.ref D) (compEnvC scope cl h3.objs.size X.env)) (compPost (model X.prog X.w) X.A X.xe (some (assign (.Name y py) X.env)) (λ_ s'=>SP X pins D0 .next s') (.ref D) h3.objs.size) s4:=by
  rintro s4 rfl;refine iV (λn s'=>∃ i ys H' v0,Inv (cxC X scope cl NC h3.objs.size fp {s2 with heap:=h3,toks:=s2.toks} (upd H2 D (.lst []))) [] (v0::gb σ idx) H' s'∧tn i s'.heap∧(∀ b∈fp,H' b=none)∧W i n ys H')
   ?_ m0 ⟨0,[],_,none,I4,st1,λb hb=>(hf b hb).1,w0⟩
  rintro n s5 ⟨i5,ys,H5,v0,I5,st5,fr5,w5⟩;obtain⟨hDl,alt⟩:=turn i5 n ys H5 w5;rcases alt with⟨stop,qn⟩|⟨go,hz,N,hN',step⟩
  ·refine thn (T.done (cxC X scope cl NC h3.objs.size fp {s2 with heap:=h3,toks:=s2.toks} (upd H2 D (.lst []))) rfl rfl rfl hc i5 [] s5 _ H5 _ I5 (jZ fr5) st5 stop) λr s6 ⟨hr,I6⟩=>?_
   subst hr;obtain⟨m,ns6,_⟩:=id I6.loc;have J6:Inv X pins σ H5 s6:=I3.ra (ch:=fp) I6.os I6.base I6.hok I6.bare λb hb=>⟨(hf b hb).2.2.2.1,(hf b hb).2.1,(hf b hb).2.2.2.2.1,(hf b hb).2.2.2.2.2⟩;have fC:jY X pins H5 h3.objs.size:=I3.xC (EV _) I6.free;obtain⟨o,es,ep,ho,rr⟩:=ns6;have od:∀ v,o.data≠.cell v:=λv z=>by
    rw[rr.1]at z;cases z
   show wpAny _ _ (assign (.Name y py) X.env (.ref D)) (λ_ s''=>∃ m,s''.heap.Ns h3.objs.size m∧∀ h',Heap.SameBut h3.objs.size s''.heap h'→SP X pins D0 .next {s'' with heap:=h'}) X.xe s6;have J7:=J6.pinned (fp:=[h3.objs.size]) (λb hb=>by rw[ET.mp hb];exact fC) (λb hb=>by rw[ET.mp hb];exact⟨o,ho,od⟩);refine wpAny_mono (aC (pos:=py) hN hi' (.inl hx) (.inr hx) _ s6 _ H5 (.ref D) (.ref D) D0.nx J7 rfl qn) (λ_ s7 ⟨σ7,H7,I7,q7⟩=>?_) (λ_ _ z=>z);have pC:=I7.pin (h3.objs.size,o) (EW _ (EW _ (cF (ET.mpr rfl) ho)));refine⟨m,⟨o,es,ep,pC.1,rr⟩,λh' hs'=>⟨σ7,H7,?_,q7⟩⟩;exact I7.fz.turned (t':=s7.toks) (it:=h3.objs.size) (λb o hb e=>hs'.extBut b o hb e) pC.2.1 fC.2.1 fC.2.2.2.1 fC.2.2.2.2.1 fC.2.2.2.2.2
  ·refine thn (T.item (cxC X scope cl NC h3.objs.size fp {s2 with heap:=h3,toks:=s2.toks} (upd H2 D (.lst []))) rfl rfl rfl hc i5 [] s5 _ H5 _ I5 (jZ fr5) st5 go) λr s6 ⟨u,hr,h6⟩=>?_
   subst hr;refine thn h6 λ_ s7 ⟨y,H7,I7,r7,y7,st7,fr7⟩=>?_;have I7':=I7.pinned (jZ fr7) (T.obj _ _ st7);have hnl:(relabel scope X.env).names.lookup x=some .local:=lookup_relabel_local c.xl;refine wpAny_mono (aC (X:=cxC X scope cl NC h3.objs.size fp {s2 with heap:=h3,toks:=s2.toks} (upd H2 D (.lst []))) (i:=0) (x:=x) (pos:=px) c.nd (by show NC[0]?=some x;rw[c.nc];rfl) (.inl hnl) (.inr hnl) _ s7 _ H7 y u
    (λσ' H'=>σ'=some y::gb σ idx∧H'=H7) I7' r7 ⟨rfl,rfl⟩) (λ_ s8 ⟨σ8,H8,I8,e8,e8'⟩=>?_) λ_ _ z=>z.elim
   subst e8 e8';refine wpAny_mono (he _ _ _ _ _ s8 _ H8 _ I8 (step y H8 y7)) (λw s9 ⟨v,H9,I9,r9,hD9,n9⟩=>?_) λ_ _ z=>z.elim;obtain⟨m',hm,w9⟩:=hN' _ _ n9;refine wpAny_mono (k8 (X:=(cxC X scope cl NC h3.objs.size fp {s2 with heap:=h3,toks:=s2.toks} (upd H2 D (.lst [])))) I9 hD9 hz r9) (λ_ s10 I10=>?_) λ_ _ z=>z.elim;refine⟨m',hm,i5+1,ys++[v],_,some y,I10.fz,T.keep _ _ _ st7 λb hb o e=>(I10.pin (b,o) (EW _ (EW _ (cF hb e)))).1,λb hb=>?_,w9⟩;obtain⟨o,e,d⟩:=T.obj _ _ st7 b hb;exact(I10.pin (b,o) (EW _ (EW _ (cF hb e)))).2.1
 exact codeAny_compStart_list (loop _ rfl) (T.self _ 0 _ _ _ st1 (loop _ rfl))
end
section
variable{X:Cx}
end
theorem wD{v:V}(h:dX v=true):eqV v v=true:=by
 cases v with
 | non=>rfl
 | bl b=>cases b<;>rfl
 | int n=>simp[eqV]
 | str z=>simp[eqV]
 | _=>exact absurd (show false=true from h) EY
section
variable{X:Cx}
end
section
variable{X:Cx}{tg:Expr}
end
section
variable{X:Cx}{scope:Scope}{cl:List (Str×Addr)}{x:Str}{idx:List Nat}{NC:List Str}{pins:List (Addr×Obj)}{σ:St}{H:Hp}{s:Shared}
end
end L2
end
section
namespace L2
open PySem PySem.Spec PyProof.Rows LX
section
variable{P:Program}{w:World}{A:Around}{E:Value→Shared→Prop}{s:Shared}{a:Addr}{S:Int→Bool}{n:Nat}
end
end L2
end
section
namespace L2
open PySem PySem.Spec PyProof.Rows LX
section
variable{P:Program}{w:World}{A:Around}{R:Result→Shared→Prop}{I:Addr}{fp wr:List Addr}{G:Array GenState→Array GenState→Prop}{n:Nat}{p:Nat→Value→Prop}{St:Nat→Shared→Prop}
end
section
variable{P:Program}{w:World}{A:Around}{E:Value→Shared→Prop}{s:Shared}
end
section
variable{P:Program}{w:World}{A:Around}{E:Value→Shared→Prop}{s:Shared}{it a:Addr}{first:Value}{i n ep:Nat}
end
section
variable{P:Program}{w:World}{A:Around}{E:Value→Shared→Prop}{s:Shared}{it a:Addr}{first:Value}{i n ep:Nat}{es:Array (Int×Value)}{t:SetTable}
end
section
variable{P:Program}{w:World}{A:Around}{E:Value→Shared→Prop}{s:Shared}{I a:Addr}{ep:Nat}{es:Array (Int×Value)}{t:SetTable}{sl:Nat→Nat}{vs:List Value}
end
end L2
end
section
namespace L2
open PySem PySem.Spec PyProof.Rows LX PySem.W
section
variable{P:Program}{w:World}{A:Around}{E:Value→Shared→Prop}{s:Shared}{a:Addr}{ep:Nat}{es:Array (Int×Value)}{t:SetTable}
end
section
variable{P:Program}{w:World}{A:Around}{E:Value→Shared→Prop}{s:Shared}{a:Addr}{ep:Nat}{es:Array (Int×Value)}{t:SetTable}
end
section
variable{X:Cx}
end
end L2
end
section
namespace L2
open PySem PySem.Spec PyProof.Rows LX
section
variable{X:Cx}{pins:List (Addr×Obj)}{σ:St}{H:Hp}{s:Shared}{d:Addr}{kvs:List (Key×V)}
theorem Inv.frozen(I:Inv X pins σ H s)(hd:H d=some (.dK kvs)):∃ o,Inv X pins σ (upd H d (.frz o (.dK kvs))) s:=by
 obtain⟨hz,h0,vs,rel,o,es,ep,ho,r⟩:=yD I.hok hd;have nn:∀ {b:Addr},H b=none→upd H d (.frz o (.dK kvs)) b=none:=λ{b} q=>by
  rw[ah λz=>by rw[z,hd]at q;cases q];exact q
 have ns:∀ {b:Addr} {u:HO},H b=some u→u≠.dK kvs→upd H d (.frz o (.dK kvs)) b=some u:=λ{b u} q n=>by
  rw[ah λz=>n (by rw[z,hd]at q;exact(Fg q).symm)];exact q
 refine⟨o,I.ok,I.os,I.bare,⟨I.base.keep,I.base.slot,λb ob q n e=>nn (I.base.free b ob q n e),I.base.there,λb xs q=>ns (I.base.kC b xs q) (by intro z;cases z),λb ob u q=>ns (I.base.m7 b ob u q) (by intro z;cases z),λb ps q=>?_⟩,I.loc,I.cell,nn I.free,λx c q=>nn (I.gQ x c q),λp hp=>?_,λa u q=>?_,I.len⟩
 ·obtain⟨more,q'⟩:=I.base.m8 b ps q
  exact⟨more,ns q' (by intro z;cases z)⟩
 ·obtain⟨p1,p2,p3⟩:=I.pin p hp
  exact⟨p1,nn p2,p3⟩
 ·have st:∀ {a:Addr} {u:HO},bV X.prog X.w H s.heap a u→bV X.prog X.w (upd H d (.frz o (.dK kvs))) s.heap a u:=λx=>x.oW (λ_ _ _ z=>z) (λb z=>ns z (by intro y;cases y)) λb xs z=>ns z (by intro y;cases y)
  by_cases e:a=d
  ·subst e
   rw[ab]at q;cases q;exact⟨ho,st (I.hok a _ hd)⟩
  ·rw[ah e]at q
   exact st (I.hok a u q)
def Ej(te:TE):TE:=λσ H Q=>te σ H λv H1=>∃ d kvs,H1 d=some (.dK kvs)∧∀ o,Q v (upd H1 d (.frz o (.dK kvs)))
theorem sO{e:Expr}{te:TE}(h:PE X e te):PE X e (Ej te):=by
 intro pins s σ H Q I t;refine wpAny_mono (h pins s σ H _ I t) (λu s1 ⟨v,H1,I1,r,q⟩=>?_) λ_ _ z=>z;obtain⟨d,kvs,hd,q⟩:=q;obtain⟨o,I2⟩:=I1.frozen hd;exact⟨v,_,I2,r,q o⟩
def Itd(d:Addr)(o:Obj)(kvs:List (Key×V)):It :=
 ⟨λi H=>H d=some (.frz o (.dK kvs))∧i<kvs.length,λi H x H'=>H'=H∧∃ p,kvs[i]?=some p∧x=kV p.1,λi H=>H d=some (.frz o (.dK kvs))∧kvs.length≤i⟩
theorem zO{P:Program}{w:World}{k:Key}{u:Value}(h:(cq P w).is k u=true):RelV (kV k) u:=by
 have h4:mZ k u=true:=h;rcases bN h4 with⟨i,t,e1,e2⟩|⟨y,t,e1,e2⟩
 ·subst e1 e2
  exact⟨t,rfl⟩
 ·subst e1 e2
  exact⟨t,rfl⟩
theorem sP{o:Obj}(I:Inv X pins σ H s)(hd:H d=some (.frz o (.dK kvs))){es:Array DictEntry}{ep:Nat}(eo:o.data=.dict es ep):kvs.length≤sizeLine∧(d == sysModules)=false∧∃ vs,KV kvs vs∧s.heap.DictAt (cq X.prog X.w) d vs ep:=by
 obtain⟨ho,hz,h0,vs,rel,o',es',ep',ho',c1,c2,c3⟩:=(show bV X.prog X.w H s.heap d (.frz o (.dK kvs)) from I.hok d _ hd);have e:o'=o:=Fg (ho'.symm.trans ho);subst e;rw[eo]at c2;injection c2 with e1 e2;subst e1 e2;exact⟨hz,h0,vs,rel,o',es,ho',c1,eo,c3⟩
theorem vE{o:Obj}(I:Inv X pins σ H s)(hd:H d=some (.frz o (.dK kvs))):∃ es ep,o.data=.dict es ep:=by
 obtain⟨ho,hz,h0,vs,rel,o',es',ep',ho',c1,c2,c3⟩:=(show bV X.prog X.w H s.heap d (.frz o (.dK kvs)) from I.hok d _ hd);have e:o'=o:=Fg (ho'.symm.trans ho);subst e;exact⟨es',ep',c2⟩
theorem wF:∀ {kvs:List (Key×V)} {vs:List (Key×Value)},KV kvs vs→∀ {i:Nat} {p:Key×V},kvs[i]?=some p→∃ x,vs[i]?=some (p.1,x)
 | _,_,.nil,_,_,h=>by simp at h
 | (k,v)::_,(k',x)::_,.cons a r,0,p,h=>by
  have h1:(k,v)=p:=by simpa using h
  subst h1;obtain⟨e,_⟩:=a;have e':k=k':=e;subst e';exact⟨x,rfl⟩
 | _::_,_::_,.cons _ r,i+1,p,h=>by
  have:=wF r (i:=i) (p:=p) (by simpa using h)
  simpa using this
theorem uG{P:Program}{w:World}{K:W.Frag}{tg:Expr}(d it:Addr)(o:Obj)(kvs:List (Key×V))(ne:d≠it):Turn P w K tg (Itd d o kvs) [it] it (λi h=>∃ es ep,o.data=.dict es ep∧h.IsKeyIter it d i kvs.length ep) where
 mem:=by simp
 obj:=λi h st b hb=>by
  have e:b=it:=by simpa using hb
  subst e;obtain⟨es,ep,_,o,e,c,d⟩:=st;exact⟨o,e,λv z=>by rw[d]at z;cases z⟩
 keep:=λi h h' ⟨es,ep,eo,st⟩ k=>⟨es,ep,eo,st.at λo e=>k it (by simp) o e⟩
 item:=by
  rintro X hP hw hK hc i pins s σ H E I hf ⟨es,ep,eo,st⟩ ⟨hd,hi⟩;subst hP hw hK;obtain⟨hz,h0,vs,rel,hat⟩:=sP I hd eo;have hl:=rel.length;obtain⟨x,hx⟩:=wF rel (EO hi);obtain⟨f0,f1,f2,f3,f4,f5⟩:=hf it (by simp);rw[hl]at st;refine wpAny_pyNext_dict_item st hat hx λkey h' hk st' sb=>?_;have I1:Inv X pins σ H {s with heap:=h'}:=I.turned (t':=s.toks) (λb o hb e=>(sb.2 b hb).trans e) f0 f1 f3 f4 f5;exact⟨key,rfl,letGo_keyiter (s':={s with heap:=h'}) st' ⟨kV (kvs[i]'hi).1,H,I1,zO hk,⟨rfl,_,EO hi,rfl⟩,⟨es,ep,eo,by rw[hl];exact st'⟩,λb hb=>(hf b hb).1⟩⟩
 done:=by
  rintro X hP hw hK hc i pins s σ H E I hf ⟨es,ep,eo,st⟩ ⟨hd,hi⟩;subst hP hw hK;obtain⟨hz,h0,vs,rel,hat⟩:=sP I hd eo;have hl:=rel.length;obtain⟨f0,f1,f2,f3,f4,f5⟩:=hf it (by simp);rw[hl]at st;exact wpAny_pyNext_dict_end (I.ok.hd hc) st hat (FG (by omega)) λh' eb=>⟨rfl,I.turned (t':=s.toks) (λb o hb e=>eb b o hb e) f0 f1 f3 f4 f5⟩
 self:=λ_ _ _ _ _ ⟨_,_,_,st⟩ h=>wpAny_pyIter_keyiter st h
def Cf(td:TE):TI:=λσ H R=>td σ H λx H1=>∃ d o kvs,x=.ref d∧H1 d=some (.frz o (.dK kvs))∧R (Itd d o kvs) H1
theorem kN{tg l:Expr}{tl:TE}(hl:PE X l tl):PI X tg l (Cf tl):=by
 intro pins s σ H R I h;refine thn (hl pins s σ H _ I h) λv s1 ⟨x,H1,I1,r1,q1⟩=>?_;obtain⟨d,o,kvs,e,hd,q⟩:=q1;subst e;cases r1;obtain⟨es,ep,eo⟩:=vE I1 hd;obtain⟨hz,h0,vs,rel,hat⟩:=sP I1 hd eo;have hl:=rel.length;refine wpAny_pyIter_dict h0 hat ?_;rw[←hl];refine⟨s1.heap.objs.size,[s1.heap.objs.size],_,_,H1,rfl,I1.kept (t':=s1.toks) λb o e=>ES _ e,uG d _ o kvs (E9 hat.lt_size),⟨es,ep,eo,_,Ff _ rfl,rfl,rfl⟩,λb hb=>?_,q⟩;have e:b=s1.heap.objs.size:=by simpa using hb
 subst e;exact I1.xC (EV _) (I1.hok.fresh (EV _))
end
theorem qM{d:Addr}{o:Obj}{kvs:List (Key×V)}{g:TG}{tb:TS}{D:Ends}{σ:St}{H:Hp}(Pv:Nat→St→Hp→Prop)(h0:Pv 0 σ H)(hl:∀ i σ H,i≤kvs.length→Pv i σ H→H d=some (.frz o (.dK kvs)))
  (hs:∀ i p σ H,kvs[i]?=some p→Pv i σ H→g (kV p.1) σ H λσ2 H2=>tb {D with nx:=Pv (i+1),ct:=Pv (i+1),bk:=D.nx} σ2 H2) (hd:∀ σ H,Pv kvs.length σ H→D.nx σ H) :
  ∃ W:Nat→Nat→St→Hp→Prop,(∃ m,W 0 m σ H)∧∀ i m σ H,W i m σ H →
   ((Itd d o kvs).stop i H∧D.nx σ H)∨((Itd d o kvs).go i H∧∃ N:St→Hp→Prop,(∀ σ' H',N σ' H'→∃ m',m'<m∧W (i+1) m' σ' H')∧∀ x H',(Itd d o kvs).yld i H x H'→g x σ H' λσ2 H2=>tb {D with nx:=N,ct:=N,bk:=D.nx} σ2 H2):=by
 refine⟨λi m σ H=>m=kvs.length-i∧i≤kvs.length∧Pv i σ H,⟨kvs.length,by simp,Fj _,h0⟩,?_⟩;rintro i m σ H ⟨rfl,hi,p⟩;by_cases hlt:i<kvs.length
 ·refine .inr ⟨⟨hl i σ H hi p,hlt⟩,Pv (i+1),λσ' H' p'=>⟨kvs.length-(i+1),by omega,rfl,hlt,p'⟩,λx H' y=>?_⟩
  obtain⟨e1,q,e2,e3⟩:=y;subst e1 e3;exact hs i q σ _ e2 p
 ·have e:i=kvs.length:=by omega
  subst e;exact .inl ⟨⟨hl _ σ H hi p,EV _⟩,hd σ H p⟩
section
variable{X:Cx}
end
section
variable{X:Cx}{pins:List (Addr×Obj)}{σ:St}{H:Hp}{s:Shared}
end
theorem rE:∀ {ms ns:List Int},ms.length=ns.length→xi (ms.map V.int) (ns.map V.int)=decide (ms=ns):=by
 intro ms ns hl;rw[F8,decide_eq_true_eq];unfold xi;rw[Gj];constructor
 ·intro h
  refine List.ext_getElem hl λj h1 h2=>?_
  have:=h j (by rw[EU];exact F5.mpr h1)
  simpa[List.getD,h1,h2,eqV] using this
 ·rintro rfl j hj
  rw[EU]at hj;have hj:=F5.mp hj;simp[List.getD,hj,eqV]
theorem jt(ns:List Int):(ns.map V.int).all dX=true:=by simp[dX]
section
variable{X:Cx}
theorem vF:∀ {x y:V} {us:List Value},Vals [x,y] us→∃ u v,us=[u,v]∧RelV x u∧RelV y v
 | _,_,_,.cons a (.cons b .nil)=>⟨_,_,rfl,a,b⟩
end
section
variable{X:Cx}
end
section
variable{X:Cx}
end
theorem j2:typeLookup (Value.type "list") (Str.ofString "keys")=pure none:=am_miss_of_fast (by decide +kernel)
theorem list_getattr_none:typeLookup (Value.type "list") (Str.ofString "__getattr__")=pure none:=am_miss_of_fast (by decide +kernel)
section
variable{P:Program}{w:World}{A:Around}{E:Value→Shared→Prop}
theorem x8{h:Heap}{g:Array GenState}{d:Drawn}{t:Nat}{os:OsState}{a:Addr}{its:Array Value}{n:Nat}{u:Tok}{Q:PySem.Fin→Shared→Prop}(hx:h.get? a=some {cls:=.type "list",data:=.seq its n})(hA:A.handled=none)
  (q:∀(h':Heap) (tk:Nat) (e:Addr),h.NewAttrErr h' e (.ref a) (Str.ofString "keys")→E (.ref e) {heap:=h',gens:=g,drawn:=d,toks:=tk,os:=os}) :
  wpAny (model P w) A (Builtin.«object.__getattribute__» {pos:=[.ref a,.str (Str.ofString "keys") u]}) Q E {heap:=h,gens:=g,drawn:=d,toks:=t,os:=os}:=by
 have hT:Shared.TypeIs {heap:=h,gens:=g,drawn:=d,toks:=t,os:=os} (.ref a) "list" := ⟨_,hx,rfl⟩;have f1:=j2;unfold Builtin.«object.__getattribute__»;wp_walk
 exact wpAny_raiseAttrError hA q (by decide +kernel)
theorem uH{h:Heap}{g:Array GenState}{d:Drawn}{t:Nat}{os:OsState}{a:Addr}{its:Array Value}{n:Nat}{Q:Option Value→Shared→Prop}(hx:h.get? a=some {cls:=.type "list",data:=.seq its n})(hA:A.handled=none)
  (q:∀(h':Heap) (tk:Nat),(∀ b o,h.get? b=some o→h'.get? b=some o)→Q none {heap:=h',gens:=g,drawn:=d,toks:=tk,os:=os}) :
  wpAny (model P w) A (getAttr? (.ref a) (Str.ofString "keys")) Q E {heap:=h,gens:=g,drawn:=d,toks:=t,os:=os}:=by
 have hT:∀ t,Shared.TypeIs {heap:=h,gens:=g,drawn:=d,toks:=t,os:=os} (.ref a) "list" := λ_=>⟨_,hx,rfl⟩;have hT0:=hT t;have hT1:=hT (t+1);have f2:=PySem.F.slot_list_getattribute.lookup;have f3:=PySem.F.slot_list_getattribute.bind (Value.ref a);have f5:=list_getattr_none;have f1:=sub_AttributeError;unfold getAttr? getAttrBy?;wp_walk
 refine codeAny_call_builtin PySem.F.slot_list_getattribute.plain PySem.F.entry_list_ga (PySem.F.slot_list_getattribute.check _ _ _ _ (Value.ref a) [Value.str (Str.ofString "keys") t] [] _ hT1 (PySem.F.args_list_getattribute_2 _ _) (x8 hx (by simp[hA]) λh' tk e he=>?_));obtain⟨t',u',hg⟩:=he.there;have hTe:Shared.TypeIs {heap:=h',gens:=g,drawn:=d,toks:=tk,os:=os} (.ref e) "AttributeError" := ⟨_,hg,rfl⟩;have q':=q h' tk he.keeps;show wpAny _ _ (getattributeRaised _ _ _ _ _ _ _) _ _ _;unfold getattributeRaised;wp_walk
 all_goals exact q'
end
theorem nC:entryFor table "dict.update.loop" = some Builtin.«dict.update.loop» := entryFor_of_tree (by rfl)
theorem ig:plainId "dict.update.loop" = true:=by decide +kernel
section
variable{P:Program}{w:World}{A:Around}{R:Result→Shared→Prop}{KK:Type}[DecidableEq KK]{knd:KeyKind P w KK}
theorem stored_new{kvs:List (KK×Value)}{k:KK}{v:Value}(h:k∉kvs.map (·.1)):stored kvs k v=kvs++[(k,v)]:=by
 rw[stored.eq_1,if_neg];intro z;obtain⟨p,hp,e⟩:=List.any_eq_true.mp z;exact h (Fx.mpr ⟨p,hp,of_decide_eq_true e⟩)
theorem nE{h h':Heap}{D:Addr}{kvs:List (KK×Value)}(d:Heap.DictOf knd h D kvs)(k:∀ o,h.get? D=some o→h'.get? D=some o):Heap.DictOf knd h' D kvs:=by
 obtain⟨o,es,ep,h1,h2⟩:=d;exact⟨o,es,ep,k o h1,h2⟩
theorem rF{I l D:Addr}{items:Array Value}(hA:A.in1.handled=none)(hne:l≠I)(hDI:D≠I)(hDl:D≠l)(kv:List (KK×Value))(hn:kv.length=items.size)(nd:(kv.map (·.1)).Nodup)(hz:kv.length≤sizeLine) :
  ∀(k i:Nat) (s:Shared),items.size-i=k→i≤items.size→(s.heap.IsListIter I l i∧s.heap.IsList l items)→Heap.DictOf knd s.heap D (kv.take i) →
  (∀ j (hj:j<kv.length),∃(b:Addr) (o:Obj) (kx:Value) (n:Nat),items[j]?=some (.ref b)∧s.heap.get? b=some o∧o.cls=.type "tuple" ∧ o.data=.seq #[kx,kv[j].2] n∧knd.is kv[j].1 kx=true∧b≠D∧b≠I) →
  (∀(h':Heap) (tk:Nat),Heap.DictOf knd h' D kv→(∀ b o,b≠D→b≠I→s.heap.get? b=some o→h'.get? b=some o)→R (.ok (.ret .none)) {s with heap:=h',toks:=tk}) →
  codeAny (model P w) A (.builtin "dict.update.loop" ⟨[.ref D,.ref I,.int (i:Int) 0,.none],[]⟩) R s:=by
 have W:=Walks.list (prog:=P) (w:=w) hA I l hne items;intro k;induction k with
 | zero =>
  intro i s hk hi st hS ht q;have e:i=items.size:=by omega
  subst e;refine codeAny_builtin nC ?_;rw[F4 ig _];show wpAny _ A.in1 (pyNext (.ref I) >>= _) _ _ s;refine wpAny_bind (W.done s _ _ st λh' tk hm=>?_);rw[←hn,E1 (EV _)]at hS;wp_walk
  exact q h' tk (nE hS λo z=>hm D o (by simpa using hDI) z) λb o _ nb z=>hm b o (by simpa using nb) z
 | succ k ih =>
  intro i s hk hi st hS ht q;have hlt:i<items.size:=by omega
  refine codeAny_builtin nC ?_;rw[F4 ig _];show wpAny _ A.in1 (pyNext (.ref I) >>= _) _ _ s;refine wpAny_bind (W.item i s _ _ hlt st λv h' tk hP st' hm=>?_);obtain⟨b,o,kx,n,hb,ho,hc,hd,hk1,nb1,nb2⟩:=ht i (by omega);have hv:v=.ref b:=by
   have hP:items[i]?=some v:=hP;rw[hb]at hP;exact(Fg hP).symm
  subst hv;have ho':=hm b o (by simpa using nb2) ho;have hT:Shared.TypeIs {s with heap:=h',toks:=tk} (.ref b) "tuple" := ⟨_,ho',hc⟩;show wpAny _ A.in1 (holding [Value.ref b] _ >>= _) _ _ _;refine wpAny_bind (wpAny_holding (wpAny_bind (wpAny_tryCatch ?_)));unfold Builtin.Dict.pairItems;refine wpAny_bind (wpAny_typeOf hT ?_);rw[if_pos (by decide)];refine wpAny_bind (wpAny_seqItems ho' hd (wpAny_pure ?_));show wpAny _ A.in1 (holding [kx,kv[i].2] (dictSet D kx kv[i].2)) _ _ _;have hS':=nE (h':=h') hS λo z=>hm D o (by simpa using hDI) z;have hi':i<kv.length:=by omega
  have tk1:kv.take (i+1)=kv.take i++[kv[i]]:=FR hi';have nk:kv[i].1∉(kv.take i).map (·.1):=λg=>by
   have h1:((kv.take i).map (·.1)++[kv[i].1]).Nodup:=by
    have e9:(kv.take (i+1)).map (·.1)=(kv.take i).map (·.1)++[kv[i].1]:=by
     rw[tk1,Fd];rfl
    rw[←e9];exact((List.take_sublist _ _).map _).nodup nd
   exact(FN.mp h1).2.2 _ g _ (ET.mpr rfl) rfl
  refine wpAny_holding (wpAny_dictSet_pairs hk1 hS' (λh2 dd sb=>?_) (by rw[Fb];omega));rw[stored_new nk,show kv.take i++[(kv[i].1,kv[i].2)]=kv.take (i+1) from tk1.symm]at dd;refine wpAny_pure ⟨plainId_quiet ig _,?_⟩;show codeAny (model P w) A (.builtin "dict.update.loop" ⟨[.ref D,.ref I,.int ((i+1:Nat):Int) 0,.none],[]⟩) R _;have keep:∀ b o,b≠D→b≠I→s.heap.get? b=some o→h2.get? b=some o:=λb o n1 n2 z=>(sb.2 b n1).trans (hm b o (by simpa using n2) z);refine ih (i+1) _ (by omega) hlt (W.frame _ h' h2 st' λb hb' o z=>?_) dd (λj hj=>?_) λh3 tk3 d3 k3=>q h3 tk3 d3 λb o n1 n2 z=>k3 b o n1 n2 (keep b o n1 n2 z)
  ·rw[sb.2 b (λe:b=D=>?_)]
   ·exact z
   ·rw[e]at hb'
    rcases E8.mp hb' with g|g
    ·exact hDI g
    ·exact hDl (ET.mp g)
  ·obtain⟨b,o,kx,n,x1,x2,x3,x4,x5,x6,x7⟩:=ht j hj
   exact⟨b,o,kx,n,x1,keep b o x6 x7 x2,x3,x4,x5,x6,x7⟩
end
section
variable{P:Program}{w:World}{A:Around}{E:Value→Shared→Prop}{KK:Type}[DecidableEq KK]{knd:KeyKind P w KK}
theorem rG{s:Shared}{l:Addr}{items:Array Value}{nl:Nat}{Q:Value→Shared→Prop}(hA:A.handled=none)(hl:s.heap.get? l=some {cls:=.type "list",data:=.seq items nl})(kv:List (KK×Value))(hn:kv.length=items.size)(nd:(kv.map (·.1)).Nodup)(hz:kv.length≤sizeLine)
  (ht:∀ j (hj:j<kv.length),∃(b:Addr) (o:Obj) (kx:Value) (n:Nat),items[j]?=some (.ref b)∧s.heap.get? b=some o∧o.cls=.type "tuple" ∧ o.data=.seq #[kx,kv[j].2] n∧knd.is kv[j].1 kx=true)
  (q:∀(h':Heap) (tk:Nat),Heap.DictOf knd h' s.heap.objs.size kv→(∀ b o,s.heap.get? b=some o→h'.get? b=some o)→Q (.ref s.heap.objs.size) {s with heap:=h',toks:=tk}) :
  wpAny (model P w) A (call (.type "dict") [.ref l]) Q E s:=by
 obtain⟨h0,g,d,t,os⟩:=s;dsimp only at hl ht q;refine callType_codes PySem.F.kt_called_dict (PySem.F.kt_typeCall_dict_1 _) PySem.F.entry_dict_init (kt_code_dict_new (Q₁:=λv u=>v=.ref h0.objs.size∧u={heap:=h0.push {cls:=.type "dict",data:=.dict #[]},gens:=g,drawn:=d,toks:=t,os:=os}) _ ⟨rfl,rfl⟩) λobj s1 ⟨e1,e2⟩=>?_;subst e1 e2;have yz:=Heap.DictOf.new (knd:=knd) h0;have hp:∀ b o,h0.get? b=some o→(h0.push {cls:=.type "dict",data:=.dict #[]}).get? b=some o:=λb o z=>ES _ z;have hT:=yz.typeIs (s:={heap:=h0.push {cls:=.type "dict",data:=.dict #[]},gens:=g,drawn:=d,toks:=t,os:=os});have hTl:Shared.TypeIs {heap:=h0.push {cls:=.type "dict",data:=.dict #[]},gens:=g,drawn:=d,toks:=t,os:=os} (.ref l) "list" := ⟨_,hp _ _ hl,rfl⟩;refine⟨hT,PySem.F.args_dict_init_2 _ _,?_⟩;unfold Builtin.«dict.__init__» Builtin.Dict.selfAndRest;refine wpAny_bind (wpAny_bind (wpAny_notOrdered_dict hT ?_));show wpAny _ _ (pure _) _ _ _;refine wpAny_pure ?_;show wpAny _ _ (Builtin.Dict.updateFrom _ _ _ _ _) _ _ _;unfold Builtin.Dict.updateFrom;refine wpAny_bind (wpAny_typeOf hTl ?_);dsimp only;rw[if_pos (by decide)];refine wpAny_bind (uH (hp _ _ hl) (by simp[hA]) λh1 tk1 k1=>?_)
 try dsimp only
 rw[if_pos (show(none:Option Value).isNone=true from rfl)];refine wpAny_bind (wpAny_rule ?_);have hl1:h1.IsList l items:=⟨_,k1 _ _ (hp _ _ hl),rfl,_,rfl⟩;refine wpAny_bind (wpAny_pyIter_list hl1 ?_);refine wpAny_pure ⟨plainId_quiet ig _,?_⟩;have l0:l<h0.objs.size:=E4 hl;obtain⟨oD,esD,epD,gD,Cg⟩:=yz;have gD1:=k1 _ _ gD;have s1:h0.objs.size<h1.objs.size:=E4 gD1;have up:∀ b o,h0.get? b=some o→(h1.push {cls:=Value.type "list_iterator",data:=Data.fields #[Value.ref l,Value.int 0 0]}).get? b=some o:=λb o z=>ES _ (k1 _ _ (hp _ _ z));refine rF (knd:=knd) (I:=h1.objs.size) (l:=l) (D:=h0.objs.size) (items:=items) (by simp[hA]) (E9 (Nat.lt_trans l0 s1)) (E9 s1) (FL l0) kv hn nd hz (items.size-0) 0 _ rfl (Fj _) ⟨⟨_,Ff _ rfl,rfl,rfl⟩,hl1.push _⟩ ?_ (λj hj=>?_) λh' tk dd kk=>?_
 ·exact⟨oD,esD,epD,ES _ gD1,Cg⟩
 ·obtain⟨b,o,kx,n,x1,x2,x3,x4,x5⟩:=ht j hj
  have b0:=E4 x2;exact⟨b,o,kx,n,x1,up _ _ x2,x3,x4,x5,E9 b0,E9 (Nat.lt_trans b0 s1)⟩
 ·refine⟨rfl,q h' tk dd λb o z=>?_⟩
  have b0:=E4 z;exact kk b o (E9 b0) (E9 (Nat.lt_trans b0 s1)) (up _ _ z)
end
section
variable{P:Program}{w:World}{A:Around}{E:Value→Shared→Prop}
end
section
variable{X:Cx}
theorem qN{pins:List (Addr×Obj)}{σ:St}{H:Hp}{s:Shared}(I:Inv X pins σ H s):∀(xs:List Addr) (kvs:List (Key×V)),Paired (λx (p:Key×V)=>H x=some (.tup [kV p.1,p.2])) xs kvs →
  ∃ vs:List (Key×Value),KV kvs vs∧vs.map (·.1)=kvs.map (·.1)∧vs.length=xs.length∧∀ j (h1:j<vs.length) (h2:j<xs.length),∃(o:Obj) (kx:Value) (n:Nat),s.heap.get? xs[j]=some o∧o.cls=.type "tuple" ∧ o.data=.seq #[kx,vs[j].2] n∧(cq X.prog X.w).is vs[j].1 kx=true
 | _,_,.nil=>⟨[],.nil,rfl,rfl,λj h=>absurd h (Nat.not_lt_zero _)⟩
 | x::xs,p::kvs,.cons h t=>by
  obtain⟨vs,r1,r2,r3,r4⟩:=qN I xs kvs t;obtain⟨its,rv,⟨o,ho,hc,n,hd⟩,_⟩:=I.tuple (SqT.of h);obtain⟨u,v,rfl,ru,rv'⟩:=vF rv;refine⟨(p.1,v)::vs,.cons ⟨rfl,rv'⟩ r1,by rw[Fl,Fl,r2],by rw[Fs,Fs,r3],λj h1 h2=>?_⟩;cases j with
  | zero=>exact⟨o,u,n,ho,hc,hd,pG ru⟩
  | succ j=>exact r4 j (Nat.lt_of_succ_lt_succ h1) (Nat.lt_of_succ_lt_succ h2)
theorem qO:∀ {xs:List Addr} {its:List Value},Vals (xs.map V.ref) its→its=xs.map Value.ref
 | [],_,.nil=>rfl
 | x::xs,_,.cons r t=>by
  cases (show _=Value.ref x from r);rw[Fl,←qO t]
def zP:List V→Hp→VK→Prop:=λvs H Q=>∃(p:Addr) (xs:List Addr) (kvs:List (Key×V)),vs=[.ref p]∧H p=some (.lst (xs.map V.ref))∧Paired (λx (p:Key×V)=>H x=some (.tup [kV p.1,p.2])) xs kvs∧(kvs.map (·.1)).Nodup∧∀ l:Addr,H l=none→Q (.ref l) (upd H l (.dK kvs))
theorem iI(hc:X.calm=true):jH X (.type "dict") zP:=by
 rintro pins s σ H xs us Q I r ⟨p,xs,kvs,rfl,hp,hpr,nd,q⟩;obtain⟨u,rfl,ru⟩:=r.one;cases (show u=Value.ref p from ru);obtain⟨its,n,rv,ho,hz⟩:=I.lst hp;obtain⟨vs,r1,r2,r3,r4⟩:=qN I xs kvs hpr;have ei:=qO rv;subst ei;rw[EU]at hz;have hl:kvs.length=vs.length:=by
  have:=congrArg List.length r2
  simpa using this.symm
 refine rG (knd:=cq X.prog X.w) (I.ok.hd hc) ho vs (by simp[r3]) (by rw[r2];exact nd) (by omega) (λj hj=>?_) λh' tk dd k=>?_
 ·obtain⟨o,kx,n,x1,x2,x3,x4⟩:=r4 j hj (by omega)
  exact⟨xs[j],o,kx,n,by simp[show j<xs.length by omega],x1,x2,x3,x4⟩
 ·refine⟨.ref s.heap.objs.size,_,I.laid (a:=s.heap.objs.size) (o:=.dK kvs) (t':=tk) k (EV _) ?_,rfl,q _ (I.hok.fresh (EV _))⟩
  exact wo (by omega) (beq_eq_false_iff_ne.mpr (FC (E9 I.big))) r1 dd
def Ek(K:W.Frag):R2:=λx y H Q=>∃ a b,∃ ms ns:List Int,x=.ref a∧y=.ref b∧SqL K H a (ms.map V.int)∧SqL K H b (ns.map V.int)∧Q (.bl (decide (ms=ns))) H
theorem zQ(hu:X.A.units<cLine):OpR X (compareOp .Eq) (Ek X.K):=by
 rintro pins s σ H x y v u Q I rx ry ⟨a,b,ms,ns,rfl,rfl,ha,hb,q⟩;by_cases hl:ms.length=ns.length
 ·refine zN hu pins s σ H _ _ v u Q I rx ry ⟨a,b,_,_,rfl,rfl,ha,hb,by simpa using hl,jt _,jt _,?_⟩
  rw[rE hl];exact q
 ·cases rx
  cases ry;obtain⟨vs,r1,⟨o1,n1,e1,c1,_,g1⟩,_⟩:=I.list ha;obtain⟨ws,r2,⟨o2,n2,e2,c2,_,g2⟩,_⟩:=I.list hb;have l1:=r1.length;have l2:=r2.length;rw[EU]at l1 l2;refine SeqAt.eq_list_lengthsAt ⟨o1,e1,c1,n1,g1⟩ ⟨o2,e2,c2,n2,g2⟩ (by simp only[EZ,bne_iff_ne,ne_eq];omega) hu ⟨.bl false,H,I,rfl,?_⟩;rw[decide_eq_false λz=>hl (by rw[z])]at q;exact q
end
section
variable{P:Program}{w:World}{K:W.Frag}{mg:Str→Option Value}{base:Heap}{N:List Str}{qual:Str}{scope:Scope}{f:Addr}{cdv:Value}{A:Around}{outer:List Env}{s₀:Shared}{H₀:Hp}{E₀:XK}
end
section
open PySem.SeqAt
open PySem.AutoSeq1 (wpAny_loadPart')
open PySem.MeetsSeq PySem.MeetsSeq2 PySem.MeetsSeq3
end
section
variable{X:Cx}
end
section
variable{P:Program}{w:World}{A:Around}{E:Value→Shared→Prop}
end
section
variable{X:Cx}
end
section
variable{P:Program}{w:World}
variable{A:Around}{E:Value→Shared→Prop}{s:Shared}
end
section
variable{cmp:Nat→Nat→(Bool→Shared→Prop)→Shared→Prop}{s:Shared}
end
section
variable{P:Program}{w:World}{A:Around}{E:Value→Shared→Prop}{s:Shared}
end
section
variable{P:Program}{w:World}{A:Around}{E:Value→Shared→Prop}{s:Shared}
def El(P:Program)(w:World)(A:Around)(vs:List Value)(s:Shared):Prop:=∃ κ:SortKind,(∀(Q:SortKind→Shared→Prop) (E:Value→Shared→Prop),Q κ s→wpAny (model P w) A (keyKind' vs.toArray) Q E s) ∧
 ∀ i j,i<vs.length→j<vs.length→∀ C:Bool→Shared→Prop,(∀ b,C b s)→PySem.W.kas_ask P w A κ vs i j C s
end
section
variable{X:Cx}{pins:List (Addr×Obj)}{σ:St}{H:Hp}{s:Shared}{A:Around}{E:Value→Shared→Prop}
theorem iJ{us:List Value}{a b:Int}(r:Vals [.int a,.int b] us):∃ t t',us=[.int a t,.int b t']:=by
 cases r with
 | cons h1 r =>
  cases r with
  | cons h2 r =>
   cases r;obtain⟨t,rfl⟩:=h1;obtain⟨t',rfl⟩:=h2;exact⟨t,t',rfl⟩
theorem x9(I:Inv X pins σ H s){p q:Addr}{a b a' b':Int}(hp:H p=some (.tup [.int a,.int b]))(hq:H q=some (.tup [.int a',.int b'])){Q:Bool→Shared→Prop}(k:∀ c,Q c s):wpAny (model X.prog X.w) A (keyLt' (tuples' true) (.ref p) (.ref q)) Q E s:=by
 obtain⟨vs,r1,t1,_⟩:=I.tuple (SqT.of hp);obtain⟨ws,r2,t2,_⟩:=I.tuple (SqT.of hq);obtain⟨n0,n1,rfl⟩:=iJ r1;obtain⟨m0,m1,rfl⟩:=iJ r2;obtain⟨o1,ho1,_,n,hd1⟩:=t1;obtain⟨o2,ho2,_,m,hd2⟩:=t2;refine PySem.W.kat_lt ho1 hd1 ho2 hd2 (PySem.W.kat_cons (wpAny_eqBool_int ?_));by_cases h0:a=a'
 ·rw[show(a == a')=true from beq_iff_eq.mpr h0]
  refine PySem.W.kat_yes (PySem.W.kat_cons (wpAny_eqBool_int ?_));by_cases h1:b=b'
  ·rw[show(b == b')=true from beq_iff_eq.mpr h1]
   exact PySem.W.kat_yes (PySem.W.kat_nil (k _))
  ·rw[show(b == b')=false from beq_eq_false_iff_ne.mpr h1]
   exact PySem.W.kat_no (PySem.W.kat_one _ _ (PyProof.Rows.lt_int (k _)))
 ·rw[show(a == a')=false from beq_eq_false_iff_ne.mpr h0]
  exact PySem.W.kat_no (oneLt_int (k _))
theorem kO(I:Inv X pins σ H s):∀ us:List Value,(∀ v∈us,∃ q a b,v=.ref q∧H q=some (.tup [.int a,.int b]))→∃ fs:List Value,fs.length=us.length∧(∀ v∈fs,∃ n t,v=Value.int n t)∧PySem.W.KatTups s.heap us fs
 | [],_=>⟨[],rfl,(λv h=>nomatch h),.nil⟩
 | e::us,hw=>by
  obtain⟨fs,h1,h2,h3⟩:=kO I us λz hz=>hw z (EX _ hz);obtain⟨q,a,b,rfl,hq⟩:=hw e E0;obtain⟨vs,r1,⟨o,go,gc,n,gd⟩,_⟩:=I.tuple (SqT.of hq);obtain⟨n0,n1,rfl⟩:=iJ r1;refine⟨.int a n0::fs,by rw[Fs,Fs,h1],λv hv=>?_,.cons go gc gd rfl h3⟩;rcases E8.mp hv with rfl|hv
  ·exact⟨_,_,rfl⟩
  ·exact h2 v hv
theorem uI(I:Inv X pins σ H s){us:List Value}(hw:∀ v∈us,∃ q a b,v=.ref q∧H q=some (.tup [.int a,.int b]))(h2:2≤us.length):El X.prog X.w A us s:=by
 refine⟨tuples' true,λQ E q=>?_,λi j hi hj C c=>?_⟩
 ·obtain⟨fs,e1,e2,e3⟩:=kO I us hw
  refine PySem.W.kat_kind (T:=Value.type "int") e3 (by omega) (λv hv=>?_) (by rfl) q;obtain⟨n,t,rfl⟩:=e2 v hv;exact PySem.W.Looks.of_pure rfl
 ·unfold PySem.W.kas_ask
  rw[Fe,Fe,EO hi,EO hj,FX,FX];obtain⟨q1,a1,b1,e1,g1⟩:=hw _ (Gk hi);obtain⟨q2,a2,b2,e2,g2⟩:=hw _ (Gk hj);rw[e1,e2];exact x9 I g1 g2 c
end
end L2
end
section
namespace L2
open PySem PySem.Spec PyProof.Rows LX PySem.W
def d7{α:Type}(n:Nat)(P:α→Prop):KasT α→Prop
 | .ret a=>P a
 | .ask i j k=>i<n∧j<n∧∀ b,d7 n P (k b)
theorem d7.bind{α β:Type}{n:Nat}{P:α→Prop}{Q:β→Prop}{f:α→KasT β}:∀ {t:KasT α},d7 n P t→(∀ a,P a→d7 n Q (f a))→d7 n Q (t.bind f)
 | .ret a,h,k=>k a h
 | .ask _ _ _,h,k=>⟨h.1,h.2.1,λb=>d7.bind (h.2.2 b) k⟩
def Pm(n:Nat)(p:Array Nat):Prop:=p.Perm (List.toArray (List.range n))
theorem Pm.lt{n:Nat}{p:Array Nat}(h:Pm n p)(hn:0<n)(k:Nat):p.getD k 0<n:=by
 by_cases hk:k<p.size
 ·have e:p.getD k 0=p[k]:=by simp[Array.getD,hk]
  rw[e];have m:p[k]∈p:=Array.getElem_mem hk;have m':=h.mem_iff.mp m;simpa using m'
 ·have e:p.getD k 0=0:=by simp[Array.getD,hk]
  rw[e];exact hn
theorem Pm.rev{n:Nat}{p:Array Nat}(h:Pm n p)(i j:Nat):Pm n (kas_rev p i j):=(mirror_perm _ _ _ _).trans h
theorem k9{n:Nat}{p:Array Nat}(h:Pm n p)(hn:0<n):∀(f m:Nat),d7 n (λ_=>True) (kas_asc p f m)
 | 0,_=>trivial
 | f+1,m=>⟨h.lt hn _,h.lt hn _,λb=>by
  cases b with
  | true=>exact trivial
  | false=>exact k9 h hn f (m+1)⟩
theorem ij{n:Nat}(hn:0<n):∀(f:Nat) (p:Array Nat) (m q:Nat),Pm n p→d7 n (λr=>Pm n r.1) (kas_desc f p m q)
 | 0,_,_,_,h=>h
 | f+1,p,m,q,h=>⟨h.lt hn _,h.lt hn _,λb=>by
  cases b with
  | true =>
   show d7 n _ (if q>0 then _ else _);by_cases hq:q>0
   ·rw[if_pos hq];exact ij hn f _ _ _ (h.rev _ _)
   ·rw[if_neg hq];exact ij hn f _ _ _ h
  | false =>
   refine⟨h.lt hn _,h.lt hn _,λc=>?_⟩;cases c with
   | true=>exact h
   | false=>exact ij hn f _ _ _ h⟩
theorem kQ{n:Nat}(hn:0<n){p:Array Nat}(h:Pm n p)(m wG:Nat):d7 n (λr=>Pm n r.2) (kas_tail3 m wG p) :=
 (k9 (h.rev _ _) hn _ _).bind λ_ _=>h.rev _ _
theorem iz{n:Nat}(hn:0<n){p:Array Nat}(h:Pm n p)(m wG:Nat):d7 n (λr=>Pm n r.2) (kas_descPart m wG p):=by
 refine(ij hn _ _ _ _ h).bind λr hr=>?_;by_cases hq:r.2.2>0
 ·rw[if_pos hq];exact kQ hn (hr.rev _ _) _ _
 ·rw[if_neg hq];exact kQ hn hr _ _
theorem rH{n:Nat}(hn:0<n){p:Array Nat}(h:Pm n p)(wG:Nat):d7 n (λr=>Pm n r.2) (kas_count wG p):=by
 refine(k9 h hn _ _).bind λm _=>?_;by_cases h1:(m == wG)=true
 ·rw[if_pos h1];exact h
 ·rw[if_neg h1]
  by_cases h2:m>1
  ·rw[if_pos h2]
   refine⟨h.lt hn _,h.lt hn _,λb=>?_⟩;cases b with
   | true=>exact h
   | false=>exact iz hn (h.rev _ _) _ _
  ·rw[if_neg h2];exact iz hn h _ _
theorem iK{n:Nat}(hn:0<n){p:Array Nat}(h:Pm n p)(k:Nat):∀(f l r:Nat),d7 n (λ_=>True) (kas_place p k f l r)
 | 0,_,_=>trivial
 | f+1,l,r=>by
  show d7 n _ (if l≥r then _ else _);by_cases h1:l≥r
  ·rw[if_pos h1];exact trivial
  ·rw[if_neg h1]
   refine⟨h.lt hn _,h.lt hn _,λb=>?_⟩;cases b with
   | true=>exact iK hn h k f _ _
   | false=>exact iK hn h k f _ _
theorem qP{n:Nat}(hn:0<n):∀(f:Nat) (p:Array Nat) (k:Nat),Pm n p→d7 n (Pm n) (kas_bin f p k)
 | 0,_,_,h=>h
 | f+1,p,k,h=>(iK hn h k _ _ _).bind λl _=>qP hn f _ _ ((bubble_perm _ _ _).trans h)
theorem uJ{n:Nat}(hn:0<n):d7 n (Pm n) (kas_sort n):=by
 refine(rH hn (Array.Perm.refl _) n).bind λr hr=>?_;by_cases h:r.1<n
 ·rw[if_pos h];exact qP hn _ _ _ hr
 ·rw[if_neg h];exact hr
theorem d7.wp{α:Type}{n:Nat}{P:α→Prop}{cmp:Nat→Nat→(Bool→Shared→Prop)→Shared→Prop}{G:α→Shared→Prop}{s:Shared}(hc:∀ i j,i<n→j<n→∀ C:Bool→Shared→Prop,(∀ b,C b s)→cmp i j C s)(hG:∀ a,P a→G a s):∀ {t:KasT α},d7 n P t→t.kasWp cmp G s
 | .ret a,h=>hG a h
 | .ask i j k,h=>hc i j h.1 h.2.1 _ λb=>d7.wp hc hG (h.2.2 b)
end L2
end
section
namespace L2
open PySem PySem.Spec PyProof.Rows LX
open PySem.W (CodeHd tabObj envX kla_obj kla_fn)
section
variable{X:Cx}{pins:List (Addr×Obj)}{σ:St}{H:Hp}{s:Shared}
theorem Inv.zR{a:Addr}{o:HO}{h':Heap}{t':Nat}(I:Inv X pins σ H s)(hs:Heap.SameBut a s.heap h')(hn:H a=none)(own:X.s₀.heap.objs.size≤a)(nl:a≠X.env.locals)
  (nc:∀ x c,X.env.cells.lookup x=some c→c≠a) (np:∀ p∈X.pn++pins,p.1≠a) (lt:∃ u,h'.get? a=some u) (new:bV X.prog X.w (upd H a o) h' a o):Inv X pins σ (upd H a o) {s with heap:=h',toks:=t'}:=by
 have na:∀ b u,H b=some u→b≠a:=λb u e z=>by rw[z,hn]at e;cases e
 have ot:∀ b,b∉[a]→b≠a:=λb hb z=>hb (by rw[z];exact ET.mpr rfl);refine I.step (g':=s.gens) (d':=s.drawn) (ch:=[a]) (λb hb=>?_) (λb o _ _ hc e _=>(hs.2 b (ot b hc)).trans e) (λb o _ _ hc e _=>⟨o.slots,(hs.2 b (ot b hc)).trans e⟩) (λb _ hc _ n=>by rw[ah (ot b hc)];exact n)
  (λb o hc e=>⟨o,(hs.2 b (ot b hc)).trans e⟩) (λb _ e=>by rw[ah (na b _ e)];exact e) (λb _ _ e=>by rw[ah (na b _ e)];exact e) (λb ps e=>⟨#[],by rw[ah (na b _ e),e];simp⟩) (λm hm=>hm.sameBut hs nl.symm) (λb u e=>?_) I.bare
 ·rw[ET.mp hb]
  exact⟨.inr own,nl,nc,np⟩
 ·by_cases hb:b=a
  ·subst hb;rw[ab]at e;cases e;exact new
  ·rw[ah hb]at e
   refine(I.hok b u e).oW (λc v hc q=>(hs.2 c ?_).trans q) (λc q=>by rw[ah (na c _ q)];exact q) λc xs q=>by rw[ah (na c _ q)];exact q
   rcases hc with z|z
   ·rw[z];exact hb
   ·exact na c _ z
theorem Inv.xk{a:Addr}{o o':Obj}{h':Heap}{t':Nat}(I:Inv X ((a,o)::pins) σ H s)(hs:Heap.SameBut a s.heap h')(ho:h'.get? a=some o')(own:X.s₀.heap.objs.size≤a)(np:∀ p∈X.pn++pins,p.1≠a)(d:∀ v,o'.data≠.cell v) :
  Inv X ((a,o')::pins) σ H {s with heap:=h',toks:=t'}:=by
 obtain⟨e1,e2,e3,e4,e5⟩:=I.pin (a,o) (EW _ E0);have nc:∀ x c,X.env.cells.lookup x=some c→c≠a:=λx c e z=>by
  obtain⟨v,oc,h1,h2⟩:=I.cell x c e;rw[z]at h1;have h1':=h1.symm.trans e1;cases h1';exact e5 v h2
 have I1:Inv X pins σ H s:=I.iu λp hp=>I.pin p (EW _ (EX _ hp));have I2:Inv X pins σ H {s with heap:=h',toks:=t'}:=I1.turned (t':=t') (it:=a) (λb o hb e=>(hs.2 b hb).trans e) e2 e3 (.inr own) nc np;refine I2.iu λp hp=>?_;rcases E8.mp hp with rfl|hp
 ·exact⟨ho,e2,e3,e4,d⟩
 ·exact I2.pin p (EW _ hp)
theorem Inv.u1{p:Addr×Obj}(I:Inv X (p::pins) σ H s):Inv X pins σ H s:=I.iu λq hq=>I.pin q (EW _ (EX _ hq))
theorem Inv.yK{a:Addr}{o:Obj}(I:Inv X pins σ H s)(h1:s.heap.get? a=some o)(h2:H a=none)(h3:a≠X.env.locals)(h4:a∉X.fs)(h5:∀ v,o.data≠.cell v):Inv X ((a,o)::pins) σ H s:=by
 refine I.iu λp hp=>?_;rcases E8.mp hp with rfl|hp
 ·exact⟨h1,h2,h3,h4,h5⟩
 ·exact I.pin p (EW _ hp)
theorem Inv.yL(I:Inv X pins σ H s){a:Addr}(h:s.heap.objs.size≤a):∀ p∈X.pn++pins,p.1≠a:=λp hp z=>by
 have:=E4 (I.pin p hp).1
 rw[z]at this;exact absurd (E7 this h) (FF _)
end
abbrev cxL(X:Cx)(A:Around)(qual:Str)(scope:Scope)(cl:List (Str×Addr))(NC:List Str)(L f:Addr)(cd:Value)(s₀:Shared)(H₀:Hp):Cx :=
 {X with A:=A.deeper (envX qual scope L f cd cl),N:=NC,s₀:=s₀,H₀:=H₀,env:=envX qual scope L f cd cl,outer:=X.stack,stack:=envX qual scope L f cd cl::X.stack,ex:=[],fn:=λ_=>false,calm:=true,pn:=[],xe:=λ_ _=>False}
structure rJ(X:Cx)(scope:Scope)(cl:List (Str×Addr))(x:Str)(idx:List Nat)(NC:List Str):Prop where
 wC:closureFor scope X.env=pure cl
 sub:∀ y c,cl.lookup y=some c→X.env.cells.lookup y=some c
 has:∀ y,(scope.names.lookup y=some .cell∨scope.names.lookup y=some .free)→∃ c,cl.lookup y=some c
 jV:∀ y∈scope.names,y.2≠.cell
 kind:scope.kind=.function
 co:scope.isCoroutine=false
 gen:scope.isGenerator=false
 xl:scope.names.lookup x=some .local
 nc:NC=x::idx.map λi=>X.N.getD i x
 cap:∀ i∈idx,i<X.N.length∧((X.env.scope.names.lookup (X.N.getD i x)=some .cell∨X.env.scope.names.lookup (X.N.getD i x)=some .free)∧(scope.names.lookup (X.N.getD i x)=some .cell∨scope.names.lookup (X.N.getD i x)=some .free))
structure kR(K:W.Frag)(mg:Str→Option Value)(base:Heap)(c Pt:Addr):Prop where
 cd:CodeHd base c Pt
 ne:mainGlobals≠Pt
 bm:base.BuiltinsAt mg Pt
section
variable{X:Cx}{pins:List (Addr×Obj)}{σ:St}{H:Hp}{s:Shared}{scope:Scope}{cl:List (Str×Addr)}{x:Str}{idx:List Nat}{NC:List Str}{qual:Str}{f:Addr}{cd:Value}
theorem ya{A:Around}{h1:Heap}{t':Nat}{v:V}{u:Value}(c:rJ X scope cl x idx NC)(I:Inv X pins σ H s)(hA:A.frames=some X.stack)(hh:A.handled=none)(rv:RelV v u)(ns:h1.Ns s.heap.objs.size (λy=>[(x,u)].reverse.lookup y))
  (k:∀ b o,s.heap.get? b=some o→h1.get? b=some o):Inv (cxL X A qual scope cl NC s.heap.objs.size f cd s H) [] (some v::gb σ idx) H {s with heap:=h1,toks:=t'}:=by
 refine⟨⟨I.ok.mod,c.kind,rfl,rfl,EV _,λy z a h1 h2=>I.ok.inj y z a (c.sub _ _ h1) (c.sub _ _ h2),c.has,λy a z=>(by cases z),λ_=>hh,(by show A.frames.map _=_;rw[hA];rfl),.inr ⟨rfl,rfl⟩,λb hb=>(by cases hb),
  λb o q=>I.bs b o q,Fo I.ok.bsz I.sz,λb o q hb=>(by cases hb),λb hb z=>(by cases hb),I.stack,I.gO⟩,rfl,I.bare,Un.kept k,⟨_,ns,λi y v' e1 e2 e3=>?_⟩,λy a q=>?_,I.hok.fresh (EV _),λy a q=>I.gQ _ _ (c.sub _ _ q),λp hp=>(by cases hp),I.hok.kept k,?_⟩
 ·cases i with
  | zero =>
   have e1':NC[0]?=some y:=e1;rw[c.nc]at e1';obtain rfl:x=y:=(by simpa using e1');have e2':some (some v)=some (some v'):=e2;cases e2';exact⟨u,rv,.inl ⟨c.xl,by simp⟩⟩
  | succ j =>
   have e1':(idx.map λi=>X.N.getD i x)[j]?=some y:=by
    have Dn:NC[j+1]?=some y:=e1;rw[c.nc]at Dn;exact Dn
   have e2':(gb σ idx)[j]?=some (some v'):=e2;rw[E3]at e1';unfold gb at e2';rw[E3]at e2';cases ei:idx[j]? with
   | none=>rw[ei]at e1';cases e1'
   | some i =>
    rw[ei]at e1' e2';simp only[FP,Option.some.injEq]at e1' e2';obtain⟨hi,h2,h3⟩:=c.cap i (E6 ei);rw[e1']at h2 h3;have hN:X.N[i]?=some y:=by
     rw[←e1'];simp[List.getD,EO hi]
    have hσ:σ[i]?=some (some v'):=by
     cases q:σ[i]? with
     | none=>rw[q]at e2';cases e2'
     | some o=>rw[q]at e2';simp only[FX]at e2';rw[e2']
    obtain⟨m,hn,hl⟩:=I.loc;obtain⟨u',r,l⟩:=hl i y v' hN hσ (h2.elim (λz=>.inr (.inl z)) λz=>.inr (.inr z));refine⟨u',r,.inr ⟨h3,?_⟩⟩;rcases l with⟨l,_⟩|⟨_,a,ha,hc⟩
    ·exfalso
     have l':X.env.scope.names.lookup y=some .local:=l;rcases h2 with z|z<;>(rw[l']at z;cases z)
    ·obtain⟨a',ha'⟩:=c.has y h3
     have:=c.sub _ _ ha'
     rw[ha]at this;cases this;exact⟨a,ha',hc.keeps k⟩
 ·obtain⟨v',z⟩:=I.cell _ _ (c.sub _ _ q)
  exact⟨v',z.keeps k⟩
 ·show _=NC.length
  rw[c.nc];simp[gb]
theorem yb{A:Around}{k:Nat}{params:Arguments}{body:Expr}{pm ctv:Value}{c':Addr}{te:TE}{Q:VK}{v:V}{u:Value}(c:rJ X scope cl x idx NC)(I:Inv X pins σ H s)(hA:A.frames=some X.stack)(hr:eQ (k+1) A)(rv:RelV v u)
  (hf:s.heap.get? f=some (kla_obj "<lambda>" qual params body scope cl pm c' ctv)) (hcd:s.heap.CodeRec (.ref c') qual) (hb:∀ u:Value,bindArgs (kla_fn "<lambda>" qual params body scope cl pm (.ref c') ctv) ⟨[u],[]⟩=pure [(x,u)])
  (he:PE (cxL X A qual scope cl NC s.heap.objs.size f (.ref c') s H) body te) (hq:te (some v::gb σ idx) H Q) :
  wpAny (model X.prog X.w) A (call (.ref f) [u]) (λu' s'=>∃ v' H',Inv X pins σ H' s'∧RelV v' u'∧(∀ b xs,H b=some (.tup xs)→H' b=some (.tup xs))∧Q v' H') (λ_ _=>False) s:=by
 refine wpAny_call (PySem.W.kla_callFunE hr.depth hf rfl c.co c.gen rfl hcd ?_);rw[hb u];refine wpAny_pure (wpAny_newFunctionEnv c.jV (λy hy=>by rw[ET.mp hy];exact c.xl) (λh₁ hns hsb=>⟨I.nolimit.fresh _ hsb,?_⟩) c.kind);show codeAny _ _ (.expr body (envX qual scope s.heap.objs.size f (.ref c') cl)) _ _;have kp:∀ b o,s.heap.get? b=some o→h₁.get? b=some o:=λb o e=>hsb.extBut b o (E9 (E4 e)) (ES _ e);have I1:=ya (qual:=qual) (f:=f) (cd:=.ref c') (t':=s.toks+1) c I hA hr.hd rv hns kp;refine PySem.W.kla_codeExpr (wpAny_mono (he [] _ _ H Q I1 hq) (λu' s' ⟨v',H',I',r',q'⟩=>?_) λ_ _ z=>z.elim);exact⟨v',H',I.ra (ch:=[]) I'.os I'.base I'.hok I'.bare (λb hb=>(by cases hb)),r',I'.base.kC,q'⟩
theorem vG{params:Arguments}{body:Expr}{nF:Pos}{cc Pt:Addr}{ps:Array Value}{Q:Value→Shared→Prop}(c:rJ X scope cl x idx NC)(m5:X.env.code=.ref cc)(T:kR X.K X.mg X.base cc Pt)(I:Inv X pins σ H s)(hP:H Pt=some (.tbl ps))(ht:TriplesOk ps.toList)(hnf:codeAmong nF ps.toList=none)
  (Bw:defaultsOf params X.env=([],[]))
  (q:∀(f c':Addr) (oc:Obj) (pm ctv:Value) (ps':Array Value) (s':Shared),Inv X ((f,kla_obj "<lambda>" (X.env.qual ++ "<lambda>") params body scope cl pm c' ctv)::(c',oc)::pins) σ (upd H Pt (.tbl ps')) s'→s'.heap.CodeRec (.ref c') (X.env.qual ++ "<lambda>")→Q (.ref f) s') :
  wpAny (model X.prog X.w) X.A (eval (.Lambda params body scope nF) X.env) Q X.xe s:=by
 have hP':s.heap.get? Pt=some (tabObj ps):=I.hok Pt _ hP;have bm':s.heap.BuiltinsAt X.mg Pt:=let ⟨bm,ob,a1,a2,a3,a4,a5,a6⟩:=T.bm;⟨bm,ob,a1,a2,a3,a4,I.bk _ _ a5,a6⟩;refine PySem.W.kla_eval Bw (PySem.W.kla_makeFunction (mg:=X.mg) c.wC I.ok.glob (I.mod.glob.keeps I.bk) m5 (T.cd.keeps I.bk) hP' ht hnf T.ne bm' λc' ctv h' tk hx hge hlt hrec htb=>?_);obtain⟨c2,oc,vs,t,e2,hoc,hd,hv⟩:=hrec;cases e2;have nP:∀ b u,b≠Pt→s.heap.get? b=some u→h'.get? b=some u:=λb u hb e=>hx b u hb e;have tr:∀ b,H b=none→b≠Pt:=λb n z=>by rw[z,hP]at n;cases n
 have ltP:Pt<s.heap.objs.size:=E4 hP';have hsz:s.heap.objs.size≤h'.objs.size:=Fo hge (Gu hlt);generalize hpm:(X.mg "__name__").getD .none=pm;obtain⟨of,hof⟩:∃ of,of=kla_obj "<lambda>" (X.env.qual ++ "<lambda>") params body scope cl pm c' ctv:=⟨_,rfl⟩;have Dp:(kla_obj "<lambda>" (X.env.qual ++ "<lambda>") params body scope cl pm c' ctv)=of:=hof.symm;have kp:∀ b u,b≠Pt→s.heap.get? b=some u→(h'.push of).get? b=some u:=λb u hb e=>ES _ (nP b u hb e);have I2:Inv X pins σ (upd H Pt (.tbl (ps++#[rawInt nF.line,rawInt nF.col,.ref c']))) {s with heap:=h'.push of,toks:=tk}:=by
  refine I.step (g':=s.gens) (d':=s.drawn) (ch:=[]) (λ_ z=>nomatch z) (λb o _ _ _ e n=>kp b o (tr b n) e) (λb o _ _ _ e n=>⟨o.slots,kp b o (tr b n) e⟩) (λb o _ e n=>by rw[ah (tr b n)];exact n) (λb o _ e=>?_)
   (λb xs e=>by rw[ah (bB e hP (by simp))];exact e) (λb o u e=>by rw[ah (bB e hP (by simp))];exact e) (λb qs e=>?_) (λm hm=>?_) (λb u e=>?_) I.bare
  ·by_cases hb:b=Pt
   ·subst hb;exact⟨_,ES _ htb⟩
   ·exact⟨o,kp b o hb e⟩
  ·by_cases hb:b=Pt
   ·subst hb
    rw[hP]at e;cases e;exact⟨_,ab⟩
   ·exact⟨#[],by rw[ah hb,e];simp⟩
  ·obtain⟨o,es,ep,ho,r⟩:=hm
   exact⟨o,es,ep,kp _ o (tr _ I.free) ho,r⟩
  ·by_cases hb:b=Pt
   ·subst hb
    rw[ab]at e;cases e;show(h'.push of).get? b=some _;exact ES _ htb
   ·rw[ah hb]at e
    refine(I.hok b u e).oW (λz w hz r=>kp z w ?_ r) (λz r=>by rw[ah (bB r hP (by simp))];exact r) λz xs r=>by rw[ah (bB r hP (by simp))];exact r
    rcases hz with rfl|hz
    ·exact hb
    ·exact bB hz hP (by simp)
 have fr:∀ a,s.heap.objs.size≤a→upd H Pt (.tbl (ps++#[rawInt nF.line,rawInt nF.col,.ref c'])) a=none:=λa ha=>by
  rw[ah (FL (E7 ltP ha))];exact I.hok.fresh ha
 have nl:∀ a,s.heap.objs.size≤a→a≠X.env.locals:=λa ha=>FL (E7 I.lt ha);rw[Dp];refine q h'.objs.size c' oc pm ctv (ps++#[rawInt nF.line,rawInt nF.col,.ref c']) _ ?_ ⟨c',oc,vs,t,rfl,ES _ hoc,hd,hv⟩;refine Inv.yK (Inv.yK I2 (ES _ hoc) (fr _ hge) (nl _ hge) (I.xB hge) (λv z=>by rw[hd]at z;cases z)) ?_ (fr _ hsz) (nl _ hsz) (I.xB hsz) (λv z=>by cases z);rw[Dp];exact Ff _ (by rw[hof];rfl)
end
end L2
end
section
namespace L2
open PySem PySem.Spec PyProof.Rows LX
open PySem.W (CodeHd tabObj envX kla_obj kla_fn)
section
variable{P:Program}{w:World}{A:Around}{E:Value→Shared→Prop}{s:Shared}
theorem pV{r:Addr}{n:Nat}{t u v:Tok}{R:List Value→Shared→Prop}(hh:A.handled=none)(hr:s.heap.get? r=some {cls:=.type "range",data:=.fields #[.int 0 t,.int n u,.int 1 v]})(hn:n≤63)
  (h:∀(h':Heap) (tk:Nat) (acc:Array Value),(∀ b o,s.heap.get? b=some o→h'.get? b=some o)→ItemsOf (λi v=>∃ t,v=.int ((0:Int)+i*1) t) acc n→R acc.toList {s with heap:=h',toks:=tk}) :
  wpAny (model P w) A (collect (.ref r)) R E s:=by
 have hlt:=E4 hr;unfold collect;refine wpAny_bind (wpAny_runValue (codeAny_builtin PySem.F.entry_proto_collect ?_));rw[F4 PySem.F.plain_proto_collect _];show wpAny _ A.in1 (newList [] >>= λl=>again (.builtin "list.__iadd__" ⟨[l,.ref r],[]⟩)) _ _ s;refine wpAny_bind (wpAny_newObj_type ?_);refine wpAny_pure ⟨plainId_quiet PySem.F.plain_list_iadd _,codeAny_builtin PySem.F.entry_list_iadd ?_⟩;rw[F4 PySem.F.plain_list_iadd _];have hS₁:(s.heap.push {cls:=.type "list",data:=.seq ([]:List Value).toArray}).get? s.heap.objs.size=some {cls:=.type "list",data:=.seq #[]}:=Ff _ rfl;show wpAny _ A.in1 (Builtin.List.listExtendWith (.ref s.heap.objs.size) (.ref r) (.ref s.heap.objs.size)) _ _ _;have hz:Builtin.Range.rangeSize 0 n 1=n:=by
  unfold Builtin.Range.rangeSize;simp only[show((1:Int)>0)=True from eq_true (by decide),if_true];by_cases h0:(0:Int)<n
  ·rw[if_pos h0];simp only[Int.ediv_one];omega
  ·rw[if_neg h0];omega
 have hsm:Builtin.Range.small 0 n 1=true:=by
  unfold Builtin.Range.small;rw[hz];have fl:∀ i:Int,0≤i→i≤63→Builtin.Range.rangeFitsLong i=true:=λi h1 h2=>by
   unfold Builtin.Range.rangeFitsLong;simp;omega
  have hn':(n:Int)≤63:=by exact_mod_cast hn
  have h0:(0:Int)≤n:=Int.natCast_nonneg n;rw[fl 0 (by decide) (by decide),fl n h0 hn',fl 1 (by decide) (by decide),if_pos (by decide),fl (n+(1-1)) (by omega) (by omega)];simp
 have key:=wpAny_extend_range (prog:=P) (w:=w) (A:=A) (s:={s with heap:=s.heap.push {cls:=.type "list",data:=.seq ([]:List Value).toArray}})
  (R:=λ(q:Result) (s':Shared)=>∃(h':Heap) (tk:Nat) (rK:Array Value) (c':Nat),q=.ok (.ret (.ref s.heap.objs.size))∧s'={s with heap:=h',toks:=tk} ∧
   (∀ b o,s.heap.get? b=some o→h'.get? b=some o)∧h'.get? s.heap.objs.size=some {cls:=.type "list",dict:=none,data:=.seq rK c',slots:=#[]}∧ItemsOf (λi v=>∃ t,v=.int ((0:Int)+i*1) t) rK n)
  hh (ES _ hr) hsm hz (by omega) s.heap.objs.size (.ref s.heap.objs.size) 0 hS₁
  (λh' tk rK c' hk hS' rL=>⟨h',tk,rK,c',rfl,rfl,λb o e=>hk b o (E9 (E4 e)) (ES _ e),hS',rL⟩)
 refine wpAny_mono key (λfin s' x=>?_) λe s' x=>?_
 ·cases fin with
  | done f =>
   obtain⟨h',tk,rK,c',e,rfl,hk,hS',rL⟩:=x;cases e;exact wpAny_bind (wpAny_load hS' (wpAny_pure (h h' tk rK hk rL)))
  | again c' =>
   refine⟨x.1,codeAny_mono x.2 λq s2 y=>?_⟩;obtain⟨h',tk,rK,c',e,rfl,hk,hS',rL⟩:=y;cases e;exact wpAny_bind (wpAny_load hS' (wpAny_pure (h h' tk rK hk rL)))
 ·obtain⟨h',tk,rK,c',e,_⟩:=x
  cases e
end
section
variable{X:Cx}{pins:List (Addr×Obj)}{σ:St}{H:Hp}{s:Shared}
def Ci(X:Cx)(A:Around)(f:Addr)(n:Nat)(W:Hp→Prop)(PN:List (Addr×Obj))(σ:St):Prop:=∀(k:Nat) (t:Tok) (pins:List (Addr×Obj)) (H:Hp) (s:Shared),k<n→W H→(∀ p∈PN,p∈pins)→Inv X pins σ H s →
 wpAny (model X.prog X.w) A (call (.ref f) [.int k t]) (λu s'=>∃ H',Inv X pins σ H' s'∧W H'∧(∀ b xs,H b=some (.tup xs)→H' b=some (.tup xs))∧∃ q a b,u=.ref q∧H' q=some (.tup [.int a,.int b])) (λ_ _=>False) s
def PrK(H:Hp)(v:Value):Prop:=∃ q a b,v=Value.ref q∧H q=some (.tup [.int a,.int b])
def sQ(vs:List Value)(n:Nat):Prop:=vs.length=n∧∀ i,i<n→∃ t,vs.getD i Value.none=.int (i:Int) t
theorem nG{vs:List Value}{n:Nat}(h:sQ vs n):∀(ks:List Nat),(∀ k∈ks,k<n)→Vals (ks.map λi:Nat=>V.int (i:Int)) (ks.map λi:Nat=>vs.getD i Value.none)
 | [],_=>.nil
 | k::ks,hk=>.cons (let ⟨t,e⟩:=h.2 k (hk k E0);⟨t,e⟩) (nG h ks λk m=>hk k (EX _ m))
theorem vH{A:Around}{E:Value→Shared→Prop}{F:PySem.Fin→Shared→Prop}{n e0:Nat}{f a:Addr}{W:Hp→Prop}{vs:List Value}{PN:List (Addr×Obj)}(hK:Ci X A f n W PN σ)(hs:∀ p∈PN,p∈pins)(hi:sQ vs n)(hn:n≤63)(w0:W H)
  (I:Inv X ((a,seqObj "list" vs.toArray e0)::pins) σ H s) (ow:X.s₀.heap.objs.size≤a) (na:∀ p∈X.pn++pins,p.1≠a)
  (q:∀(H':Hp) (s':Shared) (ks:List Nat),W H'→H' a=none→ks.Perm (List.range n)→Inv X pins σ (upd H' a (.lst (ks.map λi:Nat=>V.int (i:Int)))) s'→F (.done (.ret .none)) s') :
  wpAny (model X.prog X.w) A (ksk_tree a (.ref f) false) F E s:=by
 have zl:∀ m:Nat,m≤64→m≤sizeLine:=λm h=>by rw[sizeLine_eq];omega
 have lv:=hi.1;obtain⟨ga,_,_⟩:=I.pin _ (EW _ E0);have alt:a<s.heap.objs.size:=E4 ga;unfold ksk_tree;refine wpAny_bind (listItems_at ga rfl ?_);refine wpAny_bind (listUpdate_at ga rfl ?_ (zl _ (by rw[EZ];omega)) (Fj _));have s1:=FU s.heap a (Obj.mapSeq λ_=>(#[]:Array Value));obtain⟨e1,g1⟩:∃ e1,(s.heap.update a (Obj.mapSeq λ_=>(#[]:Array Value))).get? a=some (seqObj "list" #[] e1):=⟨_,get?_update_seq ga λ_=>#[]⟩;have I1:Inv X ((a,seqObj "list" #[] e1)::pins) σ H {s with heap:=s.heap.update a (Obj.mapSeq λ_=>(#[]:Array Value))}:=I.xk (t':=s.toks) s1 g1 ow na (λv z=>by cases z);refine wpAny_bind (seqEpoch_at g1 rfl ?_);refine wpAny_bind (wpAny_newTuple ?_ (zl _ (by show vs.length≤_;omega)));refine wpAny_bind (wpAny_newList ?_ (Fj _));refine wpAny_holding ?_;obtain⟨h2,eh2⟩:∃ h2,(s.heap.update a (Obj.mapSeq λ_=>(#[]:Array Value))).push (seqObj "tuple" vs.toArray 0)=h2:=⟨_,rfl⟩;have k2:∀ b o,(s.heap.update a (Obj.mapSeq λ_=>(#[]:Array Value))).get? b=some o→(h2.push (seqObj "list" #[] 0)).get? b=some o:=λb o e=>by
  rw[←eh2];exact ES _ (ES _ e)
 have hsz:(s.heap.update a (Obj.mapSeq λ_=>(#[]:Array Value))).objs.size≤h2.objs.size:=by
  rw[←eh2,size_push'];exact F7 _
 show wpAny (model X.prog X.w) A _ F E {s with heap:=((s.heap.update a (Obj.mapSeq λ_=>(#[]:Array Value))).push (seqObj "tuple" vs.toArray 0)).push (seqObj "list" #[] 0)};show wpAny (model X.prog X.w) A (ksk_rest a (.ref f) false vs.toArray e1 (.ref ((s.heap.update a (Obj.mapSeq λ_=>(#[]:Array Value))).push (seqObj "tuple" vs.toArray 0)).objs.size)) F E _;rw[eh2];have I2:Inv X ((a,seqObj "list" #[] e1)::pins) σ H {s with heap:=h2.push (seqObj "list" #[] 0)}:=I1.kept (t':=s.toks) k2;generalize hkS:h2.objs.size=kS at *;have I3:Inv X ((kS,seqObj "list" #[] 0)::(a,seqObj "list" #[] e1)::pins) σ H {s with heap:=h2.push (seqObj "list" #[] 0)} :=
  I2.yK (by rw[←hkS];exact Ff _ rfl) (I1.hok.fresh hsz) (FL (E7 I1.lt hsz)) (I1.xB hsz) (λv z=>by cases z)
 have nk:∀ p∈X.pn++((a,seqObj "list" #[] e1)::pins),p.1≠kS:=I1.yL hsz;have owk:X.s₀.heap.objs.size≤kS:=Fo I1.sz hsz;clear I2 k2;unfold ksk_rest;refine wpAny_bind (wpAny_rule ?_);rw[List.forIn_toArray];refine wpAny_bind (ksk_fold (λi s'=>∃(H':Hp) (ks:List Value) (e:Nat),Inv X ((kS,seqObj "list" ks.toArray e)::(a,seqObj "list" #[] e1)::pins) σ H' s'∧W H'∧ks.length=i∧∀ v∈ks,PrK H' v) vs 0 _ ⟨H,[],0,I3,w0,rfl,λv m=>nomatch m⟩ ?_ ?_)
 ·rintro j x s' hx ⟨H',ks,e,I',w',lk,hk⟩
  have hj:j<n:=by rw[←lv];exact(ER.mp hx).1
  obtain⟨t,et⟩:=hi.2 j hj;have ex:x=.int (j:Int) t:=by rw[←et,Fe,hx];rfl
  subst ex;refine wpAny_bind (wpAny_attempt (wpAny_mono (hK j t _ H' s' hj w' (λp hp=>EX _ (EX _ (hs p hp))) I') (λu s2 ⟨H2,I2,w2,tu,q',a',b',eu,hq'⟩=>?_) λ_ _ z=>z.elim));obtain⟨gk,_⟩:=I2.pin _ (EW _ E0)
  try dsimp only
  have lz:ks.length≤63:=by omega
  refine wpAny_bind (listUpdate_at gk rfl ?_ (zl _ (by rw[EZ];omega)) (Fo (Nat.le_of_eq (Array.size_push ..)) (by rw[EZ,sizeLine_eq];omega)));refine wpAny_pure ⟨rfl,?_⟩;have s2b:=FU s2.heap kS (Obj.mapSeq (·.push u));have ea:ks.toArray.push u=(ks++[u]).toArray:=by simp
  obtain⟨c2,hc2⟩:∃ c2,(s2.heap.update kS (Obj.mapSeq (·.push u))).get? kS=some (seqObj "list" (ks++[u]).toArray c2):=⟨_,by rw[←ea];exact get?_update_seq gk (·.push u)⟩;refine⟨H2,ks++[u],c2,I2.xk (t':=s2.toks) s2b hc2 owk nk (λv z=>by cases z),w2,by rw[E5,lk];simp,λv m=>?_⟩;rcases Fc.mp m with m|m
  ·obtain⟨q1,a1,b1,ev,h1⟩:=hk v m
   exact⟨q1,a1,b1,ev,tu _ _ h1⟩
  ·rw[ET.mp m]
   exact⟨q',a',b',eu,hq'⟩
 rintro s' ⟨H',ks,e,I',w',lk,hk⟩;rw[Nat.zero_add]at lk;obtain⟨gk,_,nlk,nfk,_⟩:=I'.pin _ (EW _ E0);obtain⟨ga',fa',nla,nfa,_⟩:=I'.pin _ (EW _ (EX _ E0));refine wpAny_bind (listItems_at gk rfl ?_);have nka:kS≠a:=λz=>nk (a,seqObj "list" #[] e1) (EW _ E0) z.symm;have nca:∀ x c,X.env.cells.lookup x=some c→c≠a:=λx c ec z=>by
  obtain⟨v,oc,h1,h2⟩:=I'.cell x c ec;rw[z]at h1;have h1':=h1.symm.trans ga';cases h1';cases h2
 have tail:∀(st:SortSt) (s2:Shared) (ps:List Nat),s2=s'→ps.Perm (List.range n)→(arrOf st).map (·.2)=List.toArray (ps.map λi:Nat=>vs.getD i Value.none)→failedOf st=none→wpAny (model X.prog X.w) A (ksk_tail a false e1 (.ref kS) st) F E s2:=by
  intro st s2 ps es hp Bx hf;rw[es];have lp:ps.length=n:=by rw[hp.length_eq,Gf]
  have b1:=FU s'.heap kS (Obj.mapSeq λ_=>(#[]:Array Value));have g2:(s'.heap.update kS (Obj.mapSeq λ_=>(#[]:Array Value))).get? a=some (seqObj "list" #[] e1):=(b1.2 a nka.symm).trans ga';obtain⟨ck,hck⟩:∃ ck,(s'.heap.update kS (Obj.mapSeq λ_=>(#[]:Array Value))).get? kS=some (seqObj "list" #[] ck):=⟨_,get?_update_seq gk λ_=>#[]⟩;have J1:=(I'.xk (t':=s'.toks) b1 hck owk nk (λv z=>by cases z)).u1.u1;have b2:=FU (s'.heap.update kS (Obj.mapSeq λ_=>(#[]:Array Value))) a (Obj.mapSeq λ_=>List.toArray (ps.map λi:Nat=>vs.getD i Value.none));obtain⟨c2,hc2⟩:∃ c2,((s'.heap.update kS (Obj.mapSeq λ_=>(#[]:Array Value))).update a (Obj.mapSeq λ_=>List.toArray (ps.map λi:Nat=>vs.getD i Value.none))).get? a=some (seqObj "list" (List.toArray (ps.map λi:Nat=>vs.getD i Value.none)) c2):=⟨_,get?_update_seq g2 λ_=>List.toArray (ps.map λi:Nat=>vs.getD i Value.none)⟩;unfold ksk_tail
  try dsimp only
  rw[Bx];refine wpAny_bind (listUpdate_at gk rfl ?_ (zl _ (by rw[EZ];omega)) (Fj _));refine wpAny_bind (wpAny_letGo ?_);refine wpAny_bind (seqEpoch_at g2 rfl ?_);refine wpAny_bind (listUpdate_at g2 rfl ?_ (Fj _) (by simp only[FA,if_false];rw[EZ,EU,lp,sizeLine_eq];omega));rw[hf];simp only[bne_self_eq_false,FA,if_false];refine wpAny_pure (q H' _ ps w' fa' hp (J1.zR (t':=s'.toks) b2 fa' ow nla nca na ⟨_,hc2⟩ ⟨?_,_,c2,nG hi ps λk m=>?_,hc2⟩))
  ·rw[EU,lp];exact zl _ (by omega)
  ·exact F5.mp (hp.mem_iff.mp m)
 have zs:vs.toArray.size=n:=by simp[lv]
 show wpAny (model X.prog X.w) A (ksk_end a false vs.toArray e1 (.ref kS) ks.toArray) F E s';unfold ksk_end;simp only[FA,if_false];by_cases h2:vs.toArray.size<2
 ·rw[if_pos h2,if_pos h2]
  refine wpAny_bind (wpAny_pure ?_);rw[StateT.run_pure];refine wpAny_bind (wpAny_pure ?_)
  try dsimp only
  refine tail (SortSt.mk' general' (ks.toArray.zip vs.toArray) #[] 7 none) s' (List.range n) rfl (List.Perm.refl _) ?_ rfl;show(ks.toArray.zip vs.toArray).map (·.2)=_;apply Array.toList_inj.mp
  have e2:ks.length=vs.length:=by omega
  simp only[Array.toList_map,ksk_zip];rw[List.map_snd_zip (by omega)];apply Gg
  intro i;rw[E3];by_cases hin:i<n
  ·rw[List.getElem?_range hin]
   show vs[i]?=some (vs.getD i Value.none);rw[Fe,EO (by omega)];rfl
  ·rw[FG (by omega),FG (by rw[Gf];omega)]
   rfl
 ·rw[if_neg h2,if_neg h2]
  have l2:2≤vs.length:=by omega
  have l2k:2≤ks.length:=by omega
  have hl:ks.length=vs.length:=by omega
  obtain⟨κ,k1,k2⟩:=uI (A:=A) I' (us:=ks) hk l2k;refine wpAny_bind (k1 _ _ ?_);refine wpAny_bind (wpAny_mono (PySem.W.kat_run (ks:=ks) (vs:=vs) (Q:=λst' s2=>s2=s'∧failedOf st'=none∧∃ ps:List Nat,ps.Perm (List.range n)∧(arrOf st').map (·.2)=List.toArray (ps.map λi:Nat=>vs.getD i Value.none)) (G:=λp s2=>s2=s'∧Pm n p) hl l2 (by omega)
   (λp st' s2 a1 a2 a3 ⟨a4,a5⟩=>⟨a4,a3,p.toList,by have:=Array.perm_iff_toList_perm.mp a5;simpa using this,PySem.W.kat_snds hl a2⟩) (by rw[lv];exact d7.wp (λi j h1 h2 C hC=>k2 i j (by omega) (by omega) C hC) (λp hp=>⟨rfl,hp⟩) (uJ (by omega)))) ?_ λ_ _ e=>e)
  rintro⟨⟨⟩,st'⟩ s2 ⟨e2,hf,ps,hp,Bx⟩;exact tail st' s2 ps e2 hp Bx hf
end
end L2
end
section
namespace L2
open PySem PySem.Spec PyProof.Rows LX
open PySem.W (CodeHd tabObj envX kla_obj kla_fn)
def tSK(Pt:Addr)(idx:List Nat)(tr:TA)(te:TE):TE:=λσ H Q=>tr σ H λvs H1=>∃(r:Addr) (n:Nat),vs=[.ref r]∧H1 r=some (.rng 0 n)∧n≤63∧H1 Pt=some (.tbl #[])∧∃ W:Hp→Prop,(∀ ps,W (upd H1 Pt (.tbl ps))) ∧
 (∀(H2:Hp) (k:Nat),W H2→k<n→te (some (.int k)::gb σ idx) H2 λv H3=>W H3∧∃ q a b,v=.ref q∧H3 q=some (.tup [.int a,.int b])) ∧
 ∀(H2:Hp) (l:Addr) (ks:List Nat),W H2→H2 l=none→ks.Perm (List.range n)→Q (.ref l) (upd H2 l (.lst (ks.map λi:Nat=>V.int (i:Int))))
section
variable{X:Cx}
theorem rM{cc Pt:Addr}{p pos Ak nF:Pos}{e body:Expr}{params:Arguments}{scope:Scope}{cl:List (Str×Addr)}{x:Str}{idx:List Nat}{NC:List Str}{tr:TA}{te:TE}{k:Nat}(hr:eQ (k+4) X.A)(yM:X.calm=true)(hg:Gl X "sorted")(hm:X.mg "sorted" = none)
  (ha:PA X [e] tr) (c:rJ X scope cl x idx NC) (m5:X.env.code=.ref cc) (T:kR X.K X.mg X.base cc Pt) (Bw:defaultsOf params X.env=([],[]))
  (hb:∀(pm ctv:Value) (c':Addr) (u:Value),bindArgs (kla_fn "<lambda>" (X.env.qual ++ "<lambda>") params body scope cl pm (.ref c') ctv) ⟨[u],[]⟩=pure [(x,u)])
  (he:∀(A:Around) (L f:Addr) (cd:Value) (s₀:Shared) (H₀:Hp),PE (cxL X A (X.env.qual ++ "<lambda>") scope cl NC L f cd s₀ H₀) body te)
  (hst:starEach [e] X.env=(false,eval e X.env)::starEach [] X.env:=by rfl)
  (hpl:((backTo pos (starEach [e] X.env)).any (·.1)||(backToKw pos (keywordEach [⟨some "key",.Lambda params body scope nF,Ak⟩] X.env)).any (·.1.isNone))=false:=by rfl) :
  PE X (.Call (.Name "sorted" p) [e] [⟨some "key",.Lambda params body scope nF,Ak⟩] pos) (tSK Pt idx tr te):=by
 intro pins s σ H Q I h;refine wpAny_Call_Name_kw (i0 I hg hm (show bootBuiltins "sorted" = some (.builtin "sorted") by kernel_rfl) ?_);refine PySem.W.callWith_of (P:=λ_=>True) hpl (λ_ _=>⟨.machine,.inr (.inl rfl),PySem.W.Looks.of_pure rfl⟩) (evalArgs_kw2 (by rfl) (thn (ha pos pins s σ H _ I h) λus s1 ⟨vs,H1,I1,rv,r,n,ev,hrg,hn,hPt,W,w1,wk,wq⟩=>?_) hst);subst ev;obtain⟨u,rfl,ru⟩:=rv.one;cases (show u=Value.ref r from ru);show wpAny _ _ (evalAll ((do let v ←eval (.Lambda params body scope nF) X.env;standAt pos;pure v)::[])) _ _ s1
 refine wpAny_evalAll_cons (wpAny_bind (vG (ps:=#[]) c m5 T I1 hPt trivial rfl Bw λf c' oc pm ctv ps' s2 I2 hcd=>wpAny_bind (wpAny_standAt (wpAny_pure (wpAny_evalAll_nil ⟨trivial,?_⟩)))));show wpAny _ _ (call (.builtin "sorted") [.ref r] [(Str.ofString "key",.ref f)]) _ _ s2;have nrP:r≠Pt:=bB hrg hPt (by simp);have Em:upd H1 Pt (.tbl ps') r=some (.rng 0 n):=by rw[ah nrP];exact hrg
 obtain⟨t0,t1,t2,hro⟩:=(show bV X.prog X.w _ s2.heap r (.rng 0 n) from I2.hok r _ Em);have hh:X.A.in1.handled=none:=I.ok.hd yM;refine call_function_entry_kw kind_sorted plain_sorted entry_sorted (ksk_s1 _ _) ?_;unfold Builtin.«sorted»;refine wpAny_bind (m:=checkCount "sorted" 1 1 _) (wpAny_pure ?_);refine wpAny_bind (pV hh hro hn λh3 tk acc k3 rL=>?_);have Dq:acc.toList.length=n:=by rw[Gp];exact rL.1
 have hi:sQ acc.toList n:=⟨Dq,λi hin=>by
  have hi':i<acc.size:=by rw[rL.1];exact hin
  obtain⟨t,et⟩:=rL.2 i acc[i] (Array.getElem?_eq_getElem hi');refine⟨t,?_⟩;rw[Fe,Array.getElem?_toList,Array.getElem?_eq_getElem hi',FX,et];congr 1
  omega⟩
 refine wpAny_bind (wpAny_newList ?_ (by rw[Dq,sizeLine_eq];omega));have I3:=I2.kept (h':=h3) (t':=tk) k3;have I4:=I3.kept (h':=h3.push (seqObj "list" acc.toList.toArray 0)) (t':=tk) λb o e=>ES _ e;have I5:=I4.yK (a:=h3.objs.size) (o:=seqObj "list" acc.toList.toArray 0) (Ff _ rfl) (I3.hok.fresh (EV _)) (FL I3.lt) (I3.xB (EV _)) (λv z=>by cases z);obtain⟨gf,_⟩:=I5.pin _ (EW _ (EX _ E0));have gl:(h3.push (seqObj "list" acc.toList.toArray 0)).get? h3.objs.size=some (seqObj "list" acc.toList.toArray 0):=Ff _ rfl;refine wpAny_bind (wpAny_holding (wpAny_call_entry_kw slot_list_sort (self:=.ref h3.objs.size) (rest:=[]) ⟨_,gl,rfl⟩ entry_list_sort ?body (ksk_l1 _ _)));obtain⟨c2,oc2,vs2,tq,ec,hoc,hdc,hvq⟩:=hcd;cases ec;rw[ksk_t1];have hR:eQ (k+1) X.A.in1.in1:=⟨I.ok.hd yM,by have:=hr.dp;show X.A.depth+3*(k+1)+5<_;omega,by have:=hr.un;show X.A.units+1+1+16*(k+1)+200<_;omega⟩;have hfr:X.A.in1.in1.frames=some X.stack:=I.ok.frames;obtain⟨pc,_⟩:=I2.pin (c',oc) (EW _ (EX _ E0));have eoc:oc2=oc:=Fg (hoc.symm.trans pc);subst eoc;refine vH (W:=W) (n:=n) (PN:=[(f,kla_obj "<lambda>" (X.env.qual ++ "<lambda>") params body scope cl pm c' ctv),(c',oc2)]) (λk' t xa H' s' hk hw hs I'=>?_) (λp hp=>?_) hi hn (w1 ps') I5 I3.sz (I3.yL (EV _)) λH' s' ks w' fa hp I'=>?_
 ·obtain⟨hf',_⟩:=I'.pin _ (EW _ (hs _ E0))
  obtain⟨hc',_⟩:=I'.pin _ (EW _ (hs _ (EX _ E0)));refine thn (yb (v:=.int k') c I' hfr hR ⟨t,rfl⟩ hf' ⟨c',oc2,vs2,tq,rfl,hc',hdc,hvq⟩ (hb pm ctv c') (he _ _ _ _ _ _) (wk H' k' hw hk)) λu s3 ⟨v',H3,J,rv',tu,w3,q',a',b',ev',hq'⟩=>?_;subst ev';cases (show u=Value.ref q' from rv');exact⟨H3,J,w3,tu,q',a',b',rfl,hq'⟩
 ·rcases E8.mp hp with rfl|hp
  ·exact E0
  ·rw[ET.mp hp]
   exact EX _ E0
 ·refine⟨_,rfl,wpAny_pure ⟨_,rfl,.ref h3.objs.size,_,I'.u1.u1,rfl,wq H' _ ks w' fa hp⟩⟩
end
end L2
end
section
namespace L2
open PySem PySem.Spec PyProof.Rows LX
open PySem.W (CodeHd tabObj)
theorem Fun.okC{P:Program}{w:World}{K:W.Frag}{mg:Str→Option Value}{base:Heap}{x qual:Str}{st:Stmt}{f cc:Addr}{fd:FuncData}{N ps:List Str}{k:Nat}{sp:Sp}(F:Fun K x qual st f fd)(m5:fd.code=.ref cc)(S:aG N ps (aj st))(len:∀ vs H Q E,sp vs H Q E→vs.length=ps.length)
  (rn:∀(A:Around) (outer:List Env) (s:Shared) (H:Hp) (vs:List V) (Q:VK) (E:XK),eQ k (A.deeper (envOfC qual (aj st) s.heap.objs.size f (.ref cc)))→sp vs H Q E →
   ∃ t,PSs (cxE P w K mg base N qual (aj st) f (.ref cc) A outer s H E) (eL st) t∧t {nx:=λ_ H'=>Q .non H',rt:=Q} (start N vs) H):jA P w K mg base (CXE P w) (k+1) f fd ps sp:=by
 obtain⟨oc,od,kV,doc,pm,an,cdv,ct,osl,rfl,lk,hcd⟩:=F.ex;obtain rfl:cdv=.ref cc:=m5;exact yv lk hcd S len λA outer s H vs Q E hr hsp=>rn A outer s H vs Q E hr hsp
def By(sc scope:Scope)(x:Str)(ns N:List Str)(idx:List Nat):Prop :=
 (∀ y∈scope.names,y.2≠.cell)∧scope.names.lookup x=some .local∧(∀ p∈scope.names,p.2=.cell∨p.2=.free→p.1∈ns) ∧
 ∀ i∈idx,i<N.length∧((sc.names.lookup (N.getD i x)=some .cell∨sc.names.lookup (N.getD i x)=some .free)∧(scope.names.lookup (N.getD i x)=some .cell∨scope.names.lookup (N.getD i x)=some .free))
instance (sc scope:Scope) (x:Str) (ns N:List Str) (idx:List Nat):Decidable (By sc scope x ns N idx):=by unfold By;infer_instance
theorem zS{X:Cx}{sc scope:Scope}{cl:List (Str×Addr)}{x:Str}{ns N:List Str}{idx:List Nat}(hsc:X.env.scope=sc)(hN:X.N=N)(hk:scope.kind=.function)(hco:scope.isCoroutine=false)(hge:scope.isGenerator=false)(p:By sc scope x ns N idx)(hn:cl.map (·.1)=ns)
  (rD:closureFor scope X.env=pure cl) (xZ:∀ q∈cl,X.env.cells.lookup q.1=some q.2):rJ X scope cl x idx (x::idx.map λi=>N.getD i x):=by
 obtain⟨p1,p3,p4,p6⟩:=p;subst hsc hN hn;refine⟨rD,λy c q=>xZ (y,c) (Fq q),λy h=>?_,p1,hk,hco,hge,p3,rfl,p6⟩;refine fI ?_;rcases h with h|h
 ·exact p4 (y,.cell) (Fq h) (.inl rfl)
 ·exact p4 (y,.free) (Fq h) (.inr rfl)
theorem uK{P:Program}{w:World}{K:W.Frag}{mg mb:Str→Option Value}{CX:CXT}{k:Nat}{fa a c Pt:Addr}{fd:FuncData}{x:Str}{sp:Sp}{s₁:Shared}{vs:List Value}{ns:List Int}
  (KX:K.In s₁.heap) (hns:s₁.heap.Ns mainGlobals mg) (hb:s₁.heap.Ns builtinsNs mb) (hbb:∀ x:Str,x ≠ "__name__" → mb x=bootBuiltins x) (En:s₁.heap.NoLimit) (hg:s₁.gens=#[])
  (ha:s₁.heap.get? a=some {cls:=.type "list",data:=.seq vs.toArray}) (hi:IntsAre vs ns) (hl:ns.length≤sizeLine) (hr:eQ k callerA)
  (hP:s₁.heap.get? Pt=some (tabObj #[])) (kP:K.lookup Pt=none) (hC:CodeHd s₁.heap c Pt) (hB:∃ bm ob,mg "__builtins__" = some (.ref bm)∧bm≠builtinsNs∧s₁.heap.get? bm=some ob∧ob.cls=.type "module" ∧ ob.dict=some builtinsNs∧ob.data=.plain)
  (F:∀ base:Heap,K.In base→base.Ns mainGlobals mg→kR K mg base c Pt→jA P w K mg base CX k fa fd [x] sp) (Cj:∀(s:Shared) (u:Value),BindsTo s fd ⟨[u],[]⟩ [(x,u)])
  (hsp:∀ H:Hp,H Pt=some (.tbl #[])→SqL K H a (ns.map V.int)→sp [.ref a] H (λv _=>v=.bl true) λ_ _ _=>False)
  (hCX:∀ H e s',CX [] H s₁ (λ_ _ _=>False) e s'→False) :
  codeAny (model P w) callerA (.call (.ref fa) ⟨[.ref a],[]⟩) (λr s'=>r=.ok (.ret (.bool true))∧OldK s₁.heap s'.heap∧s'.os=s₁.os∧AllBare s'.gens) s₁:=by
 have rv:=nz hi;have Eo:=hi.length;have naP:a≠Pt:=λz=>by rw[z,hP]at ha;cases ha
 have core:∀ H:Hp,H Pt=some (.tbl #[])→SqL K H a (ns.map V.int)→HOk P w H s₁.heap→(∀ b,b≠Pt→H b=none∨(b=a∧∃ o xs,H b=some (.frz o (.lst xs))))→(H a≠none→K.lookup a=none) →
   codeAny (model P w) callerA (.call (.ref fa) ⟨[.ref a],[]⟩) (λr s'=>r=.ok (.ret (.bool true))∧OldK s₁.heap s'.heap∧s'.os=s₁.os∧AllBare s'.gens) s₁:=by
  intro H hT hS hok hA hK;have kT:∀ {b:Addr} {o:Obj},s₁.heap.get? b=some o→H b=none→(qw s₁.heap H).get? b=some o:=λe n=>vq e n;have no:∀ {b:Addr} {o:Obj},s₁.heap.get? b=some o→o.data≠.fields #[]→o.cls≠.type "list" → H b=none:=λ{b o} e d1 d2=>by
   by_cases hb:b=Pt
   ·subst hb;rw[hP]at e;cases e;exact absurd rfl d1
   ·rcases hA b hb with z|⟨z,_⟩
    ·exact z
    ·subst z;rw[ha]at e;cases e;exact absurd rfl d2
  have noA:∀ {b:Addr} {o:Obj} {es:Array DictEntry} {ep:Nat},s₁.heap.get? b=some o→o.data=.dict es ep→H b=none:=λ{b o es ep} e d=>by
   by_cases hb:b=Pt
   ·subst hb;rw[hP]at e;cases e;cases d
   ·rcases hA b hb with z|⟨z,_⟩
    ·exact z
    ·subst z;rw[ha]at e;cases e;cases d
  have nsK:∀ {b:Addr} {m:Str→Option Value},s₁.heap.Ns b m→(qw s₁.heap H).Ns b m:=λ{b m} ⟨o,es,ep,e,d,r⟩=>⟨o,es,ep,kT e (noA e d),d,r⟩;have hKb:K.In (qw s₁.heap H):=λb o e=>kT (KX b o e) (by
   by_cases hb:b=Pt
   ·subst hb;rw[kP]at e;cases e
   ·rcases hA b hb with z|⟨z,_,_,z2⟩
    ·exact z
    ·subst z
     rw[hK (by rw[z2];simp)]at e;cases e)
  have hgP:mainGlobals≠Pt:=λz=>by
   obtain⟨o,es,ep,e,hd,_⟩:=hns;rw[z,hP]at e;cases e;cases hd
  have Ep:kR K mg (qw s₁.heap H) c Pt:=by
   obtain⟨bm,ob,b1,b2,b3,b4,b5,b6⟩:=hB;obtain⟨o,vs',file,tf,flags,tg,inF,text,tt,e1,r1,r2,r3,r4⟩:=hC;refine⟨⟨o,vs',file,tf,flags,tg,inF,text,tt,kT e1 (no e1 (λz=>?_) (λz=>by rw[r1]at z;exact absurd z (by decide))),r1,r2,r3,r4⟩,hgP,bm,ob,b1,b2,λq=>?_,λq=>?_,kT b3 (no b3 (λz=>by rw[b6]at z;cases z) (λz=>by rw[b4]at z;exact absurd z (by decide))),b4,b5,b6⟩
   ·rw[r2]at z;cases z;cases r3
   ·obtain⟨o',es,ep,e,hd,_⟩:=hns
    rw[q,e]at b3;cases b3;rw[hd]at b6;cases b6
   ·rw[q,hP]at b3;cases b3;cases b4
  have hM:Mod K mg (qw s₁.heap H):=⟨hKb,nsK hns,⟨mb,nsK hb,hbb⟩,let ⟨mc,h1,h2⟩:=En;⟨mc,nsK h1,h2⟩⟩;have e0:vd P w K mg (qw s₁.heap H) callerA [] s₁ H:=⟨rfl,hM,λb o e=>xA e,Nat.le_of_eq (ue _ _),trivial,λb hb=>absurd (show b∈([]:List Addr) from hb) (by simp),hok,.of_eq hg⟩;refine codeAny_mono ((F _ hKb (nsK hns) Ep).run callerA [] s₁ H ⟨[.ref a],[]⟩ [.ref a] [.ref a] _ _ hr e0 (Cj s₁ (.ref a)) (.cons rfl .nil) (hsp H hT hS)) λr s' h=>?_;cases r with
  | error e=>exact(hCX H e s' h).elim
  | ok fl =>
   cases fl with
   | next=>exact False.elim h
   | brk=>exact False.elim h
   | cont=>exact False.elim h
   | ret u =>
    obtain⟨v,H',os,bare,un,Dr,r',q⟩:=h;have q':v=.bl true:=q;subst q';obtain rfl:u=Value.bool true:=r';have kept:∀ b o,b≠Pt→s₁.heap.get? b=some o→s'.heap.get? b=some o:=λb o hb e=>by
     rcases hA b hb with z|⟨_,ob,xs,z⟩
     ·exact un.keep b o e z (by intro z;exact absurd (show b∈([]:List Addr) from z) (by simp)) (by simp)
     ·have z2:=un.m7 b ob _ z
      obtain⟨e1,_⟩:=hok b _ z;obtain⟨e2,_⟩:=Dr b _ z2;rw[e]at e1;cases e1;exact e2
    obtain⟨more,hm⟩:=un.m8 Pt #[] hT;have hm':s'.heap.get? Pt=some (tabObj (#[]++more)):=Dr Pt _ hm;refine⟨rfl,⟨λb o e=>?_,λb o e=>?_⟩,os,bare⟩
    ·by_cases hb:b=Pt
     ·subst hb
      rw[hP]at e;cases e;exact .inr (.inl ⟨(hC.tab hP).isCodeTable,rfl,#[],more,rfl,hm'⟩)
     ·exact .inl (kept b o hb e)
    ·by_cases hb:b=Pt
     ·subst hb;exact⟨_,hm'⟩
     ·exact⟨o,kept b o hb e⟩
 cases hk:K.lookup a with
 | some o =>
  have e:=KX a o hk;rw[ha]at e;cases e;refine core (λb=>if b=Pt then some (.tbl #[]) else none) (if_pos rfl) (.inr ⟨_,vs.toArray,_,hk,rfl,rfl,rfl,by rw[EZ,Eo];exact hl,by simpa using rv⟩) (λb u z=>?_) (λb hb=>.inl (if_neg hb)) λz=>absurd (if_neg naP) z;by_cases hb:b=Pt
  ·have z':=(if_pos hb).symm.trans z
   cases z';subst hb;exact hP
  ·have z':=(if_neg hb).symm.trans z
   cases z'
 | none =>
  refine core (λb=>if b=Pt then some (.tbl #[]) else if b=a then some (.frz {cls:=.type "list",data:=.seq vs.toArray} (.lst (ns.map V.int))) else none) (if_pos rfl) (.inl (.inr ⟨{cls:=.type "list",data:=.seq vs.toArray},(if_neg naP).trans (if_pos rfl)⟩)) (λb u z=>?_) (λb hb=>?_) λ_=>hk
  ·by_cases hb:b=Pt
   ·have z':=(if_pos hb).symm.trans z
    cases z';subst hb;exact hP
   ·have z':=(if_neg hb).symm.trans z
    by_cases hb2:b=a
    ·have z2:=(if_pos hb2).symm.trans z'
     cases z2;subst hb2;exact⟨ha,by rw[EU];exact hl,vs,_,rv,ha⟩
    ·have z2:=(if_neg hb2).symm.trans z'
     cases z2
  ·by_cases hb2:b=a
   ·exact .inr ⟨hb2,_,_,(if_neg hb).trans (if_pos hb2)⟩
   ·exact .inl ((if_neg hb).trans (if_neg hb2))
theorem vI{l:PySem.W.OpenLaw}{n k:Nat}{q:Program}{loose:List Str}{XP:(Str→Option Value)→Heap→Prop}{YP:World→Heap→Prop}{d:DefRec}{K:Params→W.Frag}{CX:World→CXT}{sp:World→Sp}{x:Str}{c Pt:Addr}
  (hn:l.most=some n) (hn2:n≤sizeLine) (hdf:d.params.defaults=[]) (hr:eQ k callerA)
  (hY:∀(w:World) (h:Heap),YP w h→(K w.params).In h∧h.get? Pt=some (tabObj #[])∧CodeHd h c Pt) (kP:∀ w:World,(K w.params).lookup Pt=none)
  (F:∀(w:World) (mg:Str→Option Value) (fa:Addr) (h:Heap),(K w.params).In h→h.Ns mainGlobals mg→mg d.name=some (.ref fa) →
   ∃ fd:FuncData,(∀(s:Shared) (u:Value),BindsTo s fd ⟨[u],[]⟩ [(x,u)]) ∧
    ∀ base:Heap,(K w.params).In base→base.Ns mainGlobals mg→kR (K w.params) mg base c Pt→jA l.prog w (K w.params) mg base (CX w) k fa fd [x] (sp w))
  (hsp:∀(w:World) (H:Hp) (a:Addr) (ns:List Int),ns.length≤n→H Pt=some (.tbl #[])→SqL (K w.params) H a (ns.map V.int)→sp w [.ref a] H (λv _=>v=.bl true) λ_ _ _=>False)
  (hCX:∀(w:World) (H:Hp) (s:Shared) (e:Value) (s':Shared),CX w [] H s (λ_ _ _=>False) e s'→False) :
  PySem.W.WalkO q loose XP YP l.row.toRowW d [] (λf vs=>PySem.call f vs):=by
 refine Att.pS hn hdf λw s₀ s₁ mg mb fa o pm cd doc a vs ns G Y ho hd hcd hmg Am hints hlen hg=>?_;obtain⟨KX,hP,hC⟩:=hY w _ Y;obtain⟨fd,hb,hF⟩:=F w mg fa _ KX G.T.g hmg;exact uK KX G.T.g G.T.b G.T.builtins G.T.nolimit hg Am hints (Fo hlen hn2) hr hP (kP w) hC G.T.bmain hF hb (λH hO hS=>hsp w H a ns hlen hO hS) λH e s'=>hCX w H s₁ e s'
end L2
end
section
namespace L2
open PySem PySem.Spec PyProof.Rows LX
section
variable{X:Cx}
end
inductive Vl where
 | a (v:V)
 | l (xs:List Vl)
 | t (xs:List Vl)
def Rp(H:Hp):Nat→V→Vl→Prop
 | 0,v,.a x=>v=x∧dX x=true
 | 0,_,.l _=>False
 | 0,_,.t _=>False
 | _+1,v,.a x=>v=x∧dX x=true
 | n+1,v,.l xs=>∃ p us,v=.ref p∧H p=some (.lst us)∧us.length=xs.length∧∀(i:Nat) (u:V) (x:Vl),us[i]?=some u→xs[i]?=some x→Rp H n u x
 | n+1,v,.t xs=>∃ p us,v=.ref p∧H p=some (.tup us)∧us.length=xs.length∧∀(i:Nat) (u:V) (x:Vl),us[i]?=some u→xs[i]?=some x→Rp H n u x
def eqD:Nat→Vl→Vl→Bool
 | _,.a x,.a y=>eqV x y
 | n+1,.l xs,.l ys=>(List.range xs.length).all (λi=>match xs[i]?,ys[i]? with|some x,some y=>eqD n x y|_,_=>true)&&xs.length == ys.length
 | n+1,.t xs,.t ys=>(List.range xs.length).all (λi=>match xs[i]?,ys[i]? with|some x,some y=>eqD n x y|_,_=>true)&&xs.length == ys.length
 | _,_,_=>false
theorem Rp.jC{H:Hp}{n:Nat}{v x:V}(h:Rp H n v (.a x)):v=x∧dX x=true:=by cases n<;>exact h
theorem pL{n:Nat}{x y:V}:eqD n (.a x) (.a y)=eqV x y:=by cases n<;>rfl
theorem wH{H:Hp}{n:Nat}{us:List V}{xs ys:List Vl}(lx:us.length=xs.length)(ly:us.length=ys.length)(h:∀(i:Nat) (x y:Vl),xs[i]?=some x→ys[i]?=some y→eqD n x y=true) :
  ((List.range xs.length).all (λi=>match xs[i]?,ys[i]? with|some x,some y=>eqD n x y|_,_=>true)&&xs.length == ys.length)=true:=by
 rw[Gh];refine⟨Gj.mpr λi hi=>?_,beq_iff_eq.mpr (by omega)⟩;have hi:=F5.mp hi;have e1:xs[i]?=some xs[i]:=EO hi;have e2:ys[i]?=some (ys[i]'(by omega)):=EO (by omega);simp only[e1,e2];exact h i _ _ e1 e2
theorem fB{H:Hp}:∀ {n:Nat} {v:V} {a b:Vl},Rp H n v a→Rp H n v b→eqD n a b=true:=by
 intro n;induction n with
 | zero =>
  intro v a b ha hb;cases a with
  | a x =>
   cases b with
   | a y =>
    obtain⟨rfl,fx⟩:=ha.jC;obtain⟨rfl,_⟩:=hb.jC;rw[pL];exact wD fx
   | l ys=>exact hb.elim
   | t ys=>exact hb.elim
  | l xs=>exact ha.elim
  | t xs=>exact ha.elim
 | succ n ih =>
  intro v a b ha hb;cases a with
  | a x =>
   obtain⟨rfl,fx⟩:=ha.jC;cases b with
   | a y =>
    obtain⟨rfl,_⟩:=hb.jC;rw[pL];exact wD fx
   | l ys =>
    obtain⟨p,us,rfl,_⟩:=hb;exact absurd (show false=true from fx) EY
   | t ys =>
    obtain⟨p,us,rfl,_⟩:=hb;exact absurd (show false=true from fx) EY
  | l xs =>
   obtain⟨p,us,rfl,hp,hl,hi⟩:=ha;cases b with
   | a y =>
    obtain⟨e,fy⟩:=hb.jC;rw[←e]at fy;exact absurd (show false=true from fy) EY
   | l ys =>
    obtain⟨q,ws,e,hq,ml,mi⟩:=hb;cases e;rw[hp]at hq;cases hq;exact wH (H:=H) hl ml λi x y e1 e2=>by
     have hiu:i<us.length:=(by rw[hl];exact(ER.mp e1).1);exact ih (hi i _ x (EO hiu) e1) (mi i _ y (EO hiu) e2)
   | t ys =>
    obtain⟨q,ws,e,hq,ml,mi⟩:=hb;cases e;rw[hp]at hq;cases hq
  | t xs =>
   obtain⟨p,us,rfl,hp,hl,hi⟩:=ha;cases b with
   | a y =>
    obtain⟨e,fy⟩:=hb.jC;rw[←e]at fy;exact absurd (show false=true from fy) EY
   | t ys =>
    obtain⟨q,ws,e,hq,ml,mi⟩:=hb;cases e;rw[hp]at hq;cases hq;exact wH (H:=H) hl ml λi x y e1 e2=>by
     have hiu:i<us.length:=(by rw[hl];exact(ER.mp e1).1);exact ih (hi i _ x (EO hiu) e1) (mi i _ y (EO hiu) e2)
   | l ys =>
    obtain⟨q,ws,e,hq,ml,mi⟩:=hb;cases e;rw[hp]at hq;cases hq
structure RcB(A:Around)(s:Shared)(u v:Value)(b:Bool):Prop where
 eq:SeqAt.RcAt A s u v b
 ne:SeqAt.RcNeAt A s u v (!b)
theorem nI{A:Around}{s:Shared}{y x:V}{u v:Value}(ry:RelV y u)(rx:RelV x v)(fy:dX y=true)(fx:dX x=true):RcB A s u v (eqV y x):=by
 cases y with
 | non =>
  cases ry;cases x with
  | non=>cases rx;exact⟨.none_none ,.none_none ⟩
  | bl b=>cases rx;exact⟨.none_bool b,.none_bool b⟩
  | int b=>obtain⟨t,rfl⟩:=rx;exact⟨.none_int b t,.none_int b t⟩
  | str b=>obtain⟨t,rfl⟩:=rx;exact⟨.none_str b t,.none_str b t⟩
  | _=>exact absurd (show false=true from fx) EY
 | bl a =>
  cases ry;cases x with
  | non=>cases rx;exact⟨.bool_none a,.bool_none a⟩
  | bl b=>cases rx;exact⟨.bool_bool a b,.bool_bool a b⟩
  | int b=>obtain⟨t,rfl⟩:=rx;exact⟨.bool_int a b t,.bool_int a b t⟩
  | str b=>obtain⟨t,rfl⟩:=rx;exact⟨.bool_str a b t,.bool_str a b t⟩
  | _=>exact absurd (show false=true from fx) EY
 | int a =>
  obtain⟨t',rfl⟩:=ry;cases x with
  | non=>cases rx;exact⟨.int_none a t',.int_none a t'⟩
  | bl b=>cases rx;exact⟨.int_bool a t' b,.int_bool a t' b⟩
  | int b=>obtain⟨t,rfl⟩:=rx;exact⟨.int_int a t' b t,.int_int a t' b t⟩
  | str b=>obtain⟨t,rfl⟩:=rx;exact⟨.int_str a t' b t,.int_str a t' b t⟩
  | _=>exact absurd (show false=true from fx) EY
 | str a =>
  obtain⟨t',rfl⟩:=ry;cases x with
  | non=>cases rx;exact⟨.str_none a t',.str_none a t'⟩
  | bl b=>cases rx;exact⟨.str_bool a t' b,.str_bool a t' b⟩
  | int b=>obtain⟨t,rfl⟩:=rx;exact⟨.str_int a t' b t,.str_int a t' b t⟩
  | str b=>obtain⟨t,rfl⟩:=rx;exact⟨.str_str a t' b t,.str_str a t' b t⟩
  | _=>exact absurd (show false=true from fx) EY
 | _=>exact absurd (show false=true from fy) EY
section
variable{X:Cx}{pins:List (Addr×Obj)}{σ:St}{H:Hp}{s:Shared}
theorem qQ{A:Around}{x:V}{u:Value}{l:Addr}{items:Array Value}(rx:RelV x u)(fx:dX x=true)(hl:s.heap.IsList l items)(hu:A.units<cLine):RcB A s u (.ref l) false∧RcB A s (.ref l) u false∧SeqAt.EqAt A s u (.ref l) false∧SeqAt.EqAt A s (.ref l) u false:=by
 cases x with
 | non=>cases rx;exact⟨⟨.none_list hl hu,.none_list hl hu⟩,⟨.list_none hl hu,.list_none hl hu⟩,.none_list hl hu,.list_none hl hu⟩
 | bl b=>cases rx;exact⟨⟨.bool_list _ hl hu,.bool_list _ hl hu⟩,⟨.list_bool _ hl hu,.list_bool _ hl hu⟩,.bool_list _ hl hu,.list_bool _ hl hu⟩
 | int n=>obtain⟨t,rfl⟩:=rx;exact⟨⟨.int_list _ _ hl hu,.int_list _ _ hl hu⟩,⟨.list_int _ _ hl hu,.list_int _ _ hl hu⟩,.int_list _ _ hl hu,.list_int _ _ hl hu⟩
 | str z=>obtain⟨t,rfl⟩:=rx;exact⟨⟨.str_list _ _ hl hu,.str_list _ _ hl hu⟩,⟨.list_str _ _ hl hu,.list_str _ _ hl hu⟩,.str_list _ _ hl hu,.list_str _ _ hl hu⟩
 | _=>exact absurd (show false=true from fx) EY
theorem qR{A:Around}{x:V}{u:Value}{l:Addr}{items:Array Value}(rx:RelV x u)(fx:dX x=true)(hl:s.heap.IsTuple l items)(hu:A.units<cLine):RcB A s u (.ref l) false∧RcB A s (.ref l) u false∧SeqAt.EqAt A s u (.ref l) false∧SeqAt.EqAt A s (.ref l) u false:=by
 cases x with
 | non=>cases rx;exact⟨⟨.none_tuple hl hu,.none_tuple hl hu⟩,⟨.tuple_none hl hu,.tuple_none hl hu⟩,.none_tuple hl hu,.tuple_none hl hu⟩
 | bl b=>cases rx;exact⟨⟨.bool_tuple _ hl hu,.bool_tuple _ hl hu⟩,⟨.tuple_bool _ hl hu,.tuple_bool _ hl hu⟩,.bool_tuple _ hl hu,.tuple_bool _ hl hu⟩
 | int n=>obtain⟨t,rfl⟩:=rx;exact⟨⟨.int_tuple _ _ hl hu,.int_tuple _ _ hl hu⟩,⟨.tuple_int _ _ hl hu,.tuple_int _ _ hl hu⟩,.int_tuple _ _ hl hu,.tuple_int _ _ hl hu⟩
 | str z=>obtain⟨t,rfl⟩:=rx;exact⟨⟨.str_tuple _ _ hl hu,.str_tuple _ _ hl hu⟩,⟨.tuple_str _ _ hl hu,.tuple_str _ _ hl hu⟩,.str_tuple _ _ hl hu,.tuple_str _ _ hl hu⟩
 | _=>exact absurd (show false=true from fx) EY
theorem lst_is(I:Inv X pins σ H s){p:Addr}{us:List V}(h:H p=some (.lst us)):∃ vs,Vals us vs∧s.heap.IsList p vs.toArray:=by
 obtain⟨vs,r,⟨o,n,e,c,_,g⟩,_⟩:=I.list (SqL.of h);exact⟨vs,r,o,e,c,n,g⟩
theorem tup_is(I:Inv X pins σ H s){p:Addr}{us:List V}(h:H p=some (.tup us)):∃ vs,Vals us vs∧s.heap.IsTuple p vs.toArray:=by
 obtain⟨vs,r,t,_⟩:=I.tuple (SqT.of h);exact⟨vs,r,t⟩
theorem rcG(I:Inv X pins σ H s):∀ {n:Nat} {x y:V} {a b:Vl},Rp H n x a→Rp H n y b→∀ {A:Around} {u v:Value},RelV x u→RelV y v→A.units+n<cLine →
  SeqAt.EqAt A s u v (eqD n a b)∧(¬((∃ z,a=.a z)∧∃ z,b=.a z)→RcB A s u v (eqD n a b)):=by
 intro n;induction n with
 | zero =>
  intro x y a b ha hb A u v rx ry hu;cases a with
  | a z =>
   cases b with
   | a z' =>
    obtain⟨rfl,fx⟩:=ha.jC;obtain⟨rfl,fy⟩:=hb.jC;rw[pL];exact⟨pF rx ry fx fy,λh=>(h ⟨⟨_,rfl⟩,_,rfl⟩).elim⟩
   | _=>exact hb.elim
  | _=>exact ha.elim
 | succ n ih =>
  intro x y a b ha hb A u v rx ry hu;have hu0:A.units<cLine:=by omega
  cases a with
  | a z =>
   obtain⟨rfl,fx⟩:=ha.jC;cases b with
   | a z' =>
    obtain⟨rfl,fy⟩:=hb.jC;rw[pL];exact⟨pF rx ry fx fy,λh=>(h ⟨⟨_,rfl⟩,_,rfl⟩).elim⟩
   | l ys =>
    obtain⟨q,ws,rfl,hq,_⟩:=hb;obtain⟨vs,_,hl⟩:=lst_is I hq;cases ry;obtain⟨h1,_,h3,_⟩:=qQ rx fx hl hu0;exact⟨h3,λ_=>h1⟩
   | t ys =>
    obtain⟨q,ws,rfl,hq,_⟩:=hb;obtain⟨vs,_,hl⟩:=tup_is I hq;cases ry;obtain⟨h1,_,h3,_⟩:=qR rx fx hl hu0;exact⟨h3,λ_=>h1⟩
  | l xs =>
   have ha':=ha;obtain⟨p,us,rfl,hp,lx,hx⟩:=ha;obtain⟨vs,r1,hl⟩:=lst_is I hp;cases rx;cases b with
   | a z' =>
    obtain⟨rfl,fy⟩:=hb.jC;obtain⟨_,h2,_,h4⟩:=qQ ry fy hl hu0;exact⟨h4,λ_=>h2⟩
   | l ys =>
    have hb':=hb;obtain⟨q,ws,rfl,hq,ly,hy⟩:=hb;obtain⟨vs2,r2,hl2⟩:=lst_is I hq;cases ry;have l1:=r1.length;have l2:=r2.length;have rc:RcB A s (.ref p) (.ref q) (eqD (n+1) (.l xs) (.l ys)):=by
     by_cases hs:xs.length=ys.length
     ·have he:∀ j (h1:j<vs.toArray.size) (h2:j<vs2.toArray.size),SeqAt.EqAt A.in1 s vs.toArray[j] vs2.toArray[j] (match xs[j]?,ys[j]? with|some x,some y=>eqD n x y|_,_=>true):=λj h1 h2=>by
       simp only[EZ]at h1 h2;obtain⟨w1,z1,rz1⟩:=r1.get (i:=j) (x:=us[j]'(by omega)) (EO (by omega));obtain⟨w2,z2,rz2⟩:=r2.get (i:=j) (x:=ws[j]'(by omega)) (EO (by omega));have a1:vs.toArray[j]=w1:=by
        have:=(ER.mp z1).2
        simpa using this
       have a2:vs2.toArray[j]=w2:=by
        have:=(ER.mp z2).2
        simpa using this
       rw[a1,a2];have e1:xs[j]?=some (xs[j]'(by omega)):=EO (by omega);have e2:ys[j]?=some (ys[j]'(by omega)):=EO (by omega);simp only[e1,e2];exact(ih (hx j _ _ (EO (by omega)) e1) (hy j _ _ (EO (by omega)) e2) rz1 rz2 (by rw[Around.in1_units];omega)).1
      have e:eqD (n+1) (.l xs) (.l ys)=(List.range vs.toArray.size).all (λi=>match xs[i]?,ys[i]? with|some x,some y=>eqD n x y|_,_=>true):=by
       show(_&&_)=_;rw[beq_iff_eq.mpr hs,Bool.and_true];simp only[EZ];rw[show vs.length=xs.length by omega]
      rw[e];exact⟨.lists hl hl2 (by simp only[EZ];omega) hu0 he,.lists hl hl2 (by simp only[EZ];omega) hu0 he⟩
     ·have e:eqD (n+1) (.l xs) (.l ys)=false:=by
       show(_&&_)=_;rw[beq_eq_false_iff_ne.mpr hs,FY]
      rw[e];exact⟨.lists_lengths hl hl2 (by simp only[EZ,bne_iff_ne,ne_eq];omega) hu0,.lists_lengths hl hl2 (by simp only[EZ,bne_iff_ne,ne_eq];omega) hu0⟩
    refine⟨?_,λ_=>rc⟩;by_cases e:p=q
    ·subst e
     rw[fB ha' hb'];exact .same _
    ·exact .of_refs e rc.eq
   | t ys =>
    obtain⟨q,ws,rfl,hq,ly,hy⟩:=hb;obtain⟨vs2,r2,hl2⟩:=tup_is I hq;cases ry;have ne:p≠q:=λe=>by rw[e,hq]at hp;cases hp
    exact⟨.of_refs ne (.list_tuple hl hl2 hu0),λ_=>⟨.list_tuple hl hl2 hu0,.list_tuple hl hl2 hu0⟩⟩
  | t xs =>
   have ha':=ha;obtain⟨p,us,rfl,hp,lx,hx⟩:=ha;obtain⟨vs,r1,hl⟩:=tup_is I hp;cases rx;cases b with
   | a z' =>
    obtain⟨rfl,fy⟩:=hb.jC;obtain⟨_,h2,_,h4⟩:=qR ry fy hl hu0;exact⟨h4,λ_=>h2⟩
   | l ys =>
    obtain⟨q,ws,rfl,hq,ly,hy⟩:=hb;obtain⟨vs2,r2,hl2⟩:=lst_is I hq;cases ry;have ne:p≠q:=λe=>by rw[e,hq]at hp;cases hp
    exact⟨.of_refs ne (.tuple_list hl hl2 hu0),λ_=>⟨.tuple_list hl hl2 hu0,.tuple_list hl hl2 hu0⟩⟩
   | t ys =>
    have hb':=hb;obtain⟨q,ws,rfl,hq,ly,hy⟩:=hb;obtain⟨vs2,r2,hl2⟩:=tup_is I hq;cases ry;have l1:=r1.length;have l2:=r2.length;have he:∀ j (h1:j<vs.toArray.size) (h2:j<vs2.toArray.size),SeqAt.EqAt A.in1 s vs.toArray[j] vs2.toArray[j] (match xs[j]?,ys[j]? with|some x,some y=>eqD n x y|_,_=>true):=λj h1 h2=>by
     simp only[EZ]at h1 h2;obtain⟨w1,z1,rz1⟩:=r1.get (i:=j) (x:=us[j]'(by omega)) (EO (by omega));obtain⟨w2,z2,rz2⟩:=r2.get (i:=j) (x:=ws[j]'(by omega)) (EO (by omega));have a1:vs.toArray[j]=w1:=by
      have:=(ER.mp z1).2
      simpa using this
     have a2:vs2.toArray[j]=w2:=by
      have:=(ER.mp z2).2
      simpa using this
     rw[a1,a2];have e1:xs[j]?=some (xs[j]'(by omega)):=EO (by omega);have e2:ys[j]?=some (ys[j]'(by omega)):=EO (by omega);simp only[e1,e2];exact(ih (hx j _ _ (EO (by omega)) e1) (hy j _ _ (EO (by omega)) e2) rz1 rz2 (by rw[Around.in1_units];omega)).1
    have e:eqD (n+1) (.t xs) (.t ys)=((List.range (min vs.toArray.size vs2.toArray.size)).all (λi=>match xs[i]?,ys[i]? with|some x,some y=>eqD n x y|_,_=>true)&&vs.toArray.size == vs2.toArray.size):=by
     show(_&&_)=_;simp only[EZ];by_cases hs:xs.length=ys.length
     ·rw[show min vs.length vs2.length=xs.length by omega,show(vs.length == vs2.length)=(xs.length == ys.length) by rw[show vs.length=xs.length by omega,show vs2.length=ys.length by omega]]
     ·rw[beq_eq_false_iff_ne.mpr hs,show(vs.length == vs2.length)=false from beq_eq_false_iff_ne.mpr (by omega),FY,FY]
    have rc:RcB A s (.ref p) (.ref q) (eqD (n+1) (.t xs) (.t ys)):=by
     rw[e];exact⟨.tuples hl hl2 hu0 he,.tuples hl hl2 hu0 he⟩
    refine⟨?_,λ_=>rc⟩;by_cases e:p=q
    ·subst e
     rw[fB ha' hb'];exact .same _
    ·exact .of_refs e rc.eq
end
def Er(n:Nat):R2:=λx y H Q=>∃ a b,Rp H n x a∧Rp H n y b∧Q (.bl (eqD n a b)) H
def Es(n:Nat):R2:=λx y H Q=>∃ a b,Rp H n x a∧Rp H n y b∧Q (.bl (!eqD n a b)) H
section
variable{X:Cx}
theorem sR{n:Nat}(hu:X.A.units+n<cLine):OpR X (compareOp .Eq) (Er n):=by
 rintro pins s σ H x y v u Q I rx ry ⟨a,b,ha,hb,q⟩;by_cases h:(∃ z,a=.a z)∧∃ z,b=.a z
 ·obtain⟨⟨z,rfl⟩,z',rfl⟩:=h
  obtain⟨rfl,fx⟩:=ha.jC;obtain⟨rfl,fy⟩:=hb.jC;rw[pL]at q;exact(nI rx ry fx fy).eq _ _ _ _ ⟨.bl _,H,I,rfl,q⟩
 ·exact((rcG I ha hb rx ry hu).2 h).eq _ _ _ _ ⟨.bl _,H,I,rfl,q⟩
theorem pM{n:Nat}(hu:X.A.units+n<cLine):OpR X (compareOp .NotEq) (Es n):=by
 rintro pins s σ H x y v u Q I rx ry ⟨a,b,ha,hb,q⟩;by_cases h:(∃ z,a=.a z)∧∃ z,b=.a z
 ·obtain⟨⟨z,rfl⟩,z',rfl⟩:=h
  obtain⟨rfl,fx⟩:=ha.jC;obtain⟨rfl,fy⟩:=hb.jC;rw[pL]at q;exact(nI rx ry fx fy).ne _ _ _ _ ⟨.bl _,H,I,rfl,q⟩
 ·exact((rcG I ha hb rx ry hu).2 h).ne _ _ _ _ ⟨.bl _,H,I,rfl,q⟩
end
section
variable{X:Cx}{pins:List (Addr×Obj)}{σ:St}{H:Hp}{s:Shared}{d:Addr}{o:Obj}{u:HO}
theorem yN:∀ {ns:List Int} {us:List Value},Vals (ns.map V.int) us→∃ ps:List (Int×Tok),us=ps.map (λp=>Value.int p.1 p.2)∧ps.map (·.1)=ns
 | [],_,.nil=>⟨[],rfl,rfl⟩
 | n::r,_,.cons h t=>by
  obtain⟨k,rfl⟩:=h;obtain⟨ps,e,e2⟩:=yN t;exact⟨(n,k)::ps,by rw[e];rfl,by rw[Fl,e2]⟩
def Ck(K:W.Frag):List V→Hp→VK→Prop:=λvs H Q=>∃(p:Addr) (ns:List Int),vs=[.ref p]∧SqL K H p (ns.map V.int)∧Q (.int ns.sum) H
theorem nJ(hc:X.calm=true):jH X (.builtin "sum") (Ck X.K):=by
 rintro pins s σ H xs us Q I r ⟨p,ns,rfl,hq,q⟩;obtain⟨u,rfl,ru⟩:=r.one;cases (show u=Value.ref p from ru);obtain⟨its,rv,⟨o,n,e1,e2,e3,e4⟩,hz⟩:=I.list hq;obtain⟨ps,e,ee⟩:=yN rv;have hl:s.heap.IsList p (intItems ps.toArray):=by
  refine⟨o,e1,e2,n,?_⟩;rw[e4,e];simp[intItems]
 have hs:preSum (numAt ps.toArray) ps.toArray.size=ns.sum:=by
  rw[preSum_eq];simp only[EZ];rw[ee,E1 (by rw[←ee,EU];exact EV _)]
 refine sum_intListG (I.ok.hd hc) hl λh' tk t' hk=>⟨.int ns.sum,H,I.kept (t':=tk) hk,⟨t',by rw[hs]⟩,q⟩
end
theorem nK{d:Addr}{o:Obj}{kvs:List (Key×V)}{te:TE}{Q:VK}{D:Addr}{τ:St}{H:Hp}(Pv:Nat→List V→Hp→Prop)(h0:Pv 0 [] H)(hD:∀ i ys H,i≤kvs.length→Pv i ys H→H D=some (.lst ys)∧ys.length=i)(hl:∀ i ys H,i≤kvs.length→Pv i ys H→H d=some (.frz o (.dK kvs)))(hn:kvs.length≤sizeLine)
  (hs:∀ i p ys H,kvs[i]?=some p→Pv i ys H→te (some (kV p.1)::τ) H λv H4=>H4 D=some (.lst ys)∧Pv (i+1) (ys++[v]) (upd H4 D (.lst (ys++[v])))) (hd:∀ ys H,Pv kvs.length ys H→Q (.ref D) H):pK (Itd d o kvs) D τ te Q H:=by
 refine⟨λi m ys H=>m=kvs.length-i∧i≤kvs.length∧Pv i ys H,⟨kvs.length,by simp,Fj _,h0⟩,?_⟩;rintro i m ys H2 ⟨rfl,hi,p⟩;obtain⟨d1,d2⟩:=hD i ys H2 hi p;refine⟨d1,?_⟩;have hS:=hl i ys H2 hi p;by_cases hlt:i<kvs.length
 ·refine .inr ⟨⟨hS,hlt⟩,by omega,Pv (i+1),λzs H' p'=>⟨kvs.length-(i+1),by omega,rfl,hlt,p'⟩,λy H3 q=>?_⟩
  obtain⟨e1,q',e2,e3⟩:=q;subst e1 e3;exact hs i q' ys _ e2 p
 ·have e:i=kvs.length:=by omega
  subst e;exact .inl ⟨⟨hS,EV _⟩,hd ys H2 p⟩
section
variable{X:Cx}{i o:Expr}{ty td:TE}
end
section
variable{X:Cx}{K:W.Frag}
def Cm(K:W.Frag):List V→Hp→VK→Prop:=λxs H Q=>∃ p ys,xs=[V.ref p]∧(SqL K H p ys∨SqT K H p ys)∧Q (.int (ys.length:Int)) H
theorem nL(hK:X.K=K):jH X (.builtin "len") (Cm K):=by
 subst hK;exact aJ
end
section
variable{X:Cx}{o:Expr}{ta:TE}
end
end L2
end
section
namespace L2
open PySem PySem.Spec PyProof.Rows LX
section
variable{prog:Program}{w:World}{A:Around}{E:Value→Shared→Prop}{s:Shared}{a₀:Array Keyed}
end
section
variable{X:Cx}
end
end L2
end
section
namespace K40
open PySem L2 LX
abbrev cP:Stmt:=inClass (top 2) 0
abbrev ju:Stmt:=top 6
abbrev xm:Stmt:=top 8
abbrev gH:Stmt:=top 9
abbrev g5:Stmt:=top 10
abbrev fP:Stmt:=top 11
abbrev eZ:Stmt:=top 12
abbrev gw:Stmt:=top 14
abbrev e7:Stmt:=top 15
abbrev gy:Stmt:=top 16
abbrev fc:Stmt:=top 17
abbrev d9:Stmt:=top 18
abbrev fQ:Stmt:=top 19
abbrev g6:Stmt:=top 20
abbrev dM:Stmt:=inClass (top 22) 0
abbrev fR:Stmt:=inClass (top 22) 1
abbrev g7:Stmt:=inClass (top 22) 2
abbrev gz:Stmt:=inClass (top 22) 3
abbrev bW:Stmt:=inClass (top 22) 5
abbrev g8:Stmt:=top 24
abbrev fS:Stmt:=top 25
abbrev ed:Stmt:=top 26
abbrev fe:Stmt:=top 27
abbrev bX:Stmt:=top 28
abbrev fT:Stmt:=top 29
abbrev eT:Stmt:=top 30
abbrev iL:Stmt:=top 31
abbrev gA:Stmt:=top 32
abbrev g9:Stmt:=top 33
abbrev gI:Stmt:=top 34
abbrev rN:Stmt:=top 35
structure Ad where
 ba:Addr
 aE:Addr
 dY:Addr
 aI:Addr
 aq:Addr
 aO:FuncData
 cN:Addr
 fg:FuncData
 jK:Addr
 rO:FuncData
 cG:Addr
 fk:FuncData
 cf:Addr
 eI:FuncData
 bh:Addr
 dq:FuncData
 aS:Addr
 cv:FuncData
 dZ:Addr
 h7:FuncData
 a7:Addr
 cQ:FuncData
 bu:Addr
 c7:FuncData
 aT:Addr
 cw:FuncData
 aZ:Addr
 cJ:FuncData
 bj:Addr
 dr:FuncData
 cg:Addr
 eJ:FuncData
 aL:Addr
 bC:FuncData
 aU:Addr
 bJ:FuncData
 bO:Addr
 cV:FuncData
 a9:Addr
 bY:FuncData
 au:Addr
 aK:FuncData
 bP:Addr
 dB:FuncData
 bo:Addr
 du:FuncData
 bq:Addr
 dw:FuncData
 a8:Addr
 cS:FuncData
 bE:Addr
 c9:FuncData
 br:Addr
 dy:FuncData
 bF:Addr
 dR:FuncData
 cH:Addr
 fm:FuncData
 bG:Addr
 dS:FuncData
 bQ:Addr
 dC:FuncData
 cI:Addr
 fq:FuncData
 m6:Addr
 rP:FuncData
structure Txt(K:W.Frag)(mg:Str→Option Value)(D:Ad):Prop where
 h:∃ cd,dG K D.ba cd
 mH:mg "HeapError" = some (.ref D.ba)
 fU:mg "BadAddress" = some (.ref D.aE)
 dz:Bv K D.aE
 fV:MkX K D.aE D.aq
 wI:PySem.W.kitOne K (.ref D.aE) (.type "ValueError")=some true
 vj:∃ cd,dG K D.aE cd∧cd.mro.contains (.ref D.ba)=true
 z8:mg "NoRoom" = some (.ref D.dY)
 Aa:Bv K D.dY
 Ab:MkX K D.dY D.aq
 Ac:PySem.W.kitOne K (.ref D.dY) (.type "ValueError")=some true
 yO:∃ cd,dG K D.dY cd∧cd.mro.contains (.ref D.ba)=true
 nM:mg "Memory" = some (.ref D.aI)
 az:Cls K D.aI
 ik:Mk K D.aI D.aL
 cx:i3 K D.aI "cells"
 cT:Meth K D.aI "size" D.aU
 eU:Meth K D.aI "at" D.bO
 cK:Meth K D.aI "put" D.a9
 cZ:Meth K D.aI "look_at_address" D.au
 jv:mg "kind_of" = some (.ref D.cN)
 gp:PySem.W.keepIn K (.ref D.cN)=true
 Cn:mg "lay" = some (.ref D.jK)
 xn:PySem.W.keepIn K (.ref D.jK)=true
 rQ:mg "thing_at" = some (.ref D.cG)
 iM:PySem.W.keepIn K (.ref D.cG)=true
 pW:mg "fields_at" = some (.ref D.cf)
 hJ:PySem.W.keepIn K (.ref D.cf)=true
 lP:mg "fields_told" = some (.ref D.bh)
 fW:PySem.W.keepIn K (.ref D.bh)=true
 gX:mg "look_at_room" = some (.ref D.aS)
 dN:PySem.W.keepIn K (.ref D.aS)=true
 vJ:mg "copied" = some (.ref D.dZ)
 lg:PySem.W.keepIn K (.ref D.dZ)=true
 j3:mg "copied_words" = some (.ref D.a7)
 ff:PySem.W.keepIn K (.ref D.a7)=true
 iW:mg "things_met" = some (.ref D.bu)
 eV:PySem.W.keepIn K (.ref D.bu)=true
 gY:mg "address_told" = some (.ref D.aT)
 dO:PySem.W.keepIn K (.ref D.aT)=true
 iA:mg "words_among" = some (.ref D.aZ)
 eh:PySem.W.keepIn K (.ref D.aZ)=true
 lQ:mg "places_from" = some (.ref D.bj)
 fX:PySem.W.keepIn K (.ref D.bj)=true
 jD:mg "told_anew" = some (.ref D.cg)
 fJ:PySem.W.keepIn K (.ref D.cg)=true
 hU:mg "_law_cell" = some (.ref D.bP)
 eK:PySem.W.keepIn K (.ref D.bP)=true
 lS:mg "_law_digits" = some (.ref D.bo)
 fY:PySem.W.keepIn K (.ref D.bo)=true
 lT:mg "_law_stream" = some (.ref D.bq)
 fZ:PySem.W.keepIn K (.ref D.bq)=true
 gZ:mg "_law_word_by" = some (.ref D.a8)
 dP:PySem.W.keepIn K (.ref D.a8)=true
 nY:mg "_law_built" = some (.ref D.bE)
 gB:PySem.W.keepIn K (.ref D.bE)=true
 lU:mg "_law_memory" = some (.ref D.br)
 f6:PySem.W.keepIn K (.ref D.br)=true
 gC:mg "_law_words" = some (.ref D.bF)
 dU:PySem.W.keepIn K (.ref D.bF)=true
 rR:mg "_law_met" = some (.ref D.cH)
 iN:PySem.W.keepIn K (.ref D.cH)=true
 nZ:mg "_law_pairs" = some (.ref D.bG)
 gE:PySem.W.keepIn K (.ref D.bG)=true
 jE:mg "_law_anew" = some (.ref D.bQ)
 fK:PySem.W.keepIn K (.ref D.bQ)=true
 rS:mg "_law_due" = some (.ref D.cI)
 iO:PySem.W.keepIn K (.ref D.cI)=true
 EI:mg "law" = some (.ref D.m6)
 yP:PySem.W.keepIn K (.ref D.m6)=true
 eW:mg "len" = none
 dI:mg "range" = none
 jW:mg "list" = none
 lh:mg "sorted" = none
 u3:mg "sum" = none
 dW:mg "isinstance" = none
 xo:mg "int" = none
 sS:mg "bool" = none
 pf:mg "tuple" = none
 cW:mg "enumerate" = none
 gF:mg "ValueError" = none
 lV:mg "dict" = none
structure Ok(P:Program)(w:World)(K:W.Frag)(mg:Str→Option Value)(base:Heap)(n:Nat)(f:Addr)(fd:FuncData)(ps:List Str)(sp:Sp):Prop where
 g:jA P w K mg base (CXE P w) n f fd ps sp
 b:Binds K fd ps []
section
variable{P:Program}{w:World}{K:W.Frag}{mg:Str→Option Value}{base:Heap}{D:Ad}
theorem tR{t u:TS}{D:Ends}{σ:St}{H:Hp}(h:∀ N:St→Hp→Prop,(∀ σ' H',u D σ' H'→N σ' H')→t {D with nx:=N} σ H):CB t u D σ H:=h (u D) (λ_ _ q=>q)
theorem wJ{P:Program}{w:World}{X:Cx}:Passes (CXE P w) X (λ_ _ _=>False):=λ_ _ _ _ _ _ _ ⟨_,_,_,_,_,_,_,_,_,q⟩=>q.elim
theorem gq{H0 H:Hp}{K:W.Frag}{E E2:XK}{C:Addr}{y:Str}(ec:Bv K C)(h0:∀ b,H b=none→H0 b=none)(k:∀ H',ao H H'→E (.ref C) none H')(ea:Addr)(hea:H ea=none) :
  xY K [.ref ea,.str y] (upd H ea (exo true C ea none)) (λv H2=>v=.non∧(λ(v:V) (H1:Hp)=>∃ ea C od,v=.ref ea∧H1 ea=some (exo true C ea od)∧(∃ cd,dG K C cd)∧H0 ea=none∧E (.ref C) od (del H1 ea)) (.ref ea) H2) E2:=by
 refine⟨ea,C,none,.str y,rfl,ab,ec.cls,rfl,ea,C,none,rfl,ab,ec.cls,h0 _ hea,k _ λb o q=>?_⟩;have nb:b≠ea:=λe=>by rw[e,hea]at q;cases q
 rw[iy nb,ah nb];exact q
def Bad(C:Addr)(H:Hp)(E:XK):Prop:=∀ H',ao H H'→E (.ref C) none H'
theorem Bad.same{C:Addr}{H H1:Hp}{E:XK}(k:Bad C H E)(s:ao H H1):Bad C H1 E:=λH' s'=>k H' (s.trans s')
def Sm(n:Int):Prop:=n.natAbs.log2<1920
theorem Sm.of{n:Int}(h0:-1000000≤n)(h1:n≤1000000):Sm n:=uE (Nat.lt_trans (show n.natAbs<2000000 by omega) (by decide))
theorem fh{xs:List V}{a:Int}{v:V}(h0:0≤a)(h:xs[a.toNat]?=some v):atI xs a=some v:=by
 have e:a=(a.toNat:Int):=by omega
 rw[e];exact tL h
theorem u6{n:Nat}{a:Int}(h0:0≤a)(h1:a<n):ixN n a=some a.toNat:=by
 unfold ixN;rw[if_pos h0,if_pos h1]
theorem cA{b:Bool}{A B:Prop}(h:b=false)(k:B):if b=true then A else B:=by rw[h];exact k
theorem d0{b:Bool}{A B:Prop}(h:b=true)(k:A):if b=true then A else B:=by rw[h];exact k
def But(m:Addr)(H H':Hp):Prop:=∀ b u,b≠m→H b=some u→H' b=some u
theorem But.upd{m a:Addr}{H:Hp}{o:HO}(h:H a=none):But m H (L2.upd H a o):=λb u _ q=>by rw[ah (ae q h)];exact q
theorem But.self{m:Addr}{H:Hp}{o:HO}:But m H (L2.upd H m o):=λb u n q=>by rw[ah n];exact q
theorem But.trans{m:Addr}{H H1 H2:Hp}(a:But m H H1)(b:But m H1 H2):But m H H2:=λc u n q=>b c u n (a c u n q)
theorem But.same{m:Addr}{H H1:Hp}(s:ao H H1):But m H H1:=λb u _ q=>s b u q
theorem ao.none{H H':Hp}(s:ao H H'){b:Addr}(h:H' b=none):H b=none:=by
 cases q:H b with
 | none=>rfl
 | some u=>rw[s _ _ q]at h;cases h
inductive Mw where
 | no
 | num (n:Int)
 | ad (a:Int)
 | hd (t n:Int)
 | mv (a n:Int)
def Mw.its:Mw→List V
 | .no=>[]
 | .num n=>[.str "number",.int n]
 | .ad a=>[.str "at",.int a]
 | .hd t n=>[.str "head",.int t,.int n]
 | .mv a n=>[.str "moved",.int a,.int n]
def Mw.kind:Mw→Str
 | .no => "none"
 | .num _ => "number"
 | .ad _ => "at"
 | .hd _ _ => "head"
 | .mv _ _ => "moved"
def MV(H:Hp)(v:V)(w:Mw):Prop:=(w=.no∧v=.non)∨(w≠.no∧∃ t,v=.ref t∧H t=some (.tup w.its))
def aX(H H':Hp):Prop:=∀ t us,H t=some (.tup us)→H' t=some (.tup us)
theorem aX.of{H H':Hp}(s:ao H H'):aX H H':=λt us q=>s _ _ q
theorem aX.trans{H H1 H2:Hp}(a:aX H H1)(b:aX H1 H2):aX H H2:=λt us q=>b t us (a t us q)
theorem aX.set{H:Hp}{c:Addr}{xs:List V}{o:HO}(h:H c=some (.lst xs)):aX H (upd H c o):=λt us q=>by
 rw[ah (bB q h (by intro z;cases z))];exact q
theorem MV.keep{H H':Hp}{v:V}{w:Mw}(h:MV H v w)(s:aX H H'):MV H' v w:=by
 rcases h with h|⟨n,t,e,q⟩
 ·exact .inl h
 ·exact .inr ⟨n,t,e,s _ _ q⟩
def MR(H:Hp)(xs:List V)(ws:List Mw):Prop:=xs.length=ws.length∧∀(i:Nat) (v:V) (w:Mw),xs[i]?=some v→ws[i]?=some w→MV H v w
theorem MR.keep{H H':Hp}{xs:List V}{ws:List Mw}(h:MR H xs ws)(s:aX H H'):MR H' xs ws:=⟨h.1,λi v w a b=>(h.2 i v w a b).keep s⟩
theorem MR.get{H:Hp}{xs:List V}{ws:List Mw}(h:MR H xs ws){i:Nat}{w:Mw}(hw:ws[i]?=some w):∃ v,xs[i]?=some v∧MV H v w:=by
 have hi:i<xs.length:=by rw[h.1];exact(ER.mp hw).1
 exact⟨_,EO hi,h.2 i _ _ (EO hi) hw⟩
theorem MR.set{H:Hp}{xs:List V}{ws:List Mw}{i:Nat}{v:V}{w:Mw}(h:MR H xs ws)(hv:MV H v w):MR H (xs.set i v) (ws.set i w):=by
 refine⟨by rw[Fw,Fw];exact h.1,λj u y a b=>?_⟩;by_cases e:i=j
 ·subst e
  rw[List.getElem?_set]at a b;simp only[if_true]at a b;split at a
  ·split at b
   ·cases a;cases b;exact hv
   ·cases b
  ·cases a
 ·rw[FT e]at a b
  exact h.2 j u y a b
theorem MR.rep{H:Hp}{n:Nat}:MR H (List.replicate n .non) (List.replicate n .no):=⟨by rw[Ft,Ft],λi v w a b=>by
 rw[List.getElem?_replicate]at a b;split at a
 ·rename_i c
  rw[if_pos c]at b;cases a;cases b;exact .inl ⟨rfl,rfl⟩
 ·cases a⟩
structure Mm(D:Ad)(H:Hp)(m mx c:Addr)(xs:List V)(ws:List Mw):Prop where
 i:H m=some (.ins D.aI mx [("cells",.ref c)])
 l:H c=some (.lst xs)
 r:MR H xs ws
 z:ws.length≤10000
section
variable{D:Ad}{H H':Hp}{m mx c:Addr}{xs:List V}{ws:List Mw}
theorem Mm.same(M:Mm D H m mx c xs ws)(s:ao H H'):Mm D H' m mx c xs ws:=⟨s _ _ M.i,s _ _ M.l,M.r.keep (aX.of s),M.z⟩
theorem Mm.mc(M:Mm D H m mx c xs ws):m≠c:=bB M.i M.l (by intro z;cases z)
theorem Mm.set(M:Mm D H m mx c xs ws){i:Nat}{v:V}{w:Mw}(hv:MV H v w):Mm D (upd H c (.lst (xs.set i v))) m mx c (xs.set i v) (ws.set i w) :=
 ⟨by rw[ah M.mc];exact M.i,ab,(M.r.set hv).keep (aX.set M.l),by rw[Fw];exact M.z⟩
end
theorem vK(n:Nat):(List.replicate n [V.non]).flatten=List.replicate n .non:=by
 induction n with
 | zero=>rfl
 | succ n ih=>rw[FD,F3,ih,FD];rfl
def thg(ws:List Mw)(a:Int):Option (Int×Int):=if 0≤a then(match ws[a.toNat]? with|some (.hd t n)=>if a+n<ws.length then some (t,n) else none|_=>none) else none
theorem lj{ws:List Mw}{a t n:Int}(h:thg ws a=some (t,n)):0≤a∧ws[a.toNat]?=some (.hd t n)∧a+n<ws.length:=by
 unfold thg at h;split at h
 ·rename_i h0
  split at h
  ·rename_i t' n' e
   split at h
   ·rename_i hl
    cases h;exact⟨h0,e,hl⟩
   ·cases h
  ·cases h
 ·cases h
structure Gm(ws:List Mw):Prop where
 hd:∀ t n,Mw.hd t n∈ws→0≤n∧n≤1000
 mv:∀ a n,Mw.mv a n∈ws→Sm a
def gi(ws:List Mw):Nat→List Mw→List Mw
 | _,[]=>ws
 | i,u::r=>gi (ws.set i u) (i+1) r
theorem ip(ws:List Mw)(i:Nat)(us:List Mw):(gi ws i us).length=ws.length:=by
 induction us generalizing ws i with
 | nil=>rfl
 | cons u r ih=>unfold gi;rw[ih,Fw]
theorem iP(ws:List Mw)(i:Nat)(us:List Mw)(u:Mw):gi ws i (us++[u])=(gi ws i us).set (i+us.length) u:=by
 induction us generalizing ws i with
 | nil=>rfl
 | cons v r ih =>
  show gi (ws.set i v) (i+1) (r++[u])=(gi (ws.set i v) (i+1) r).set (i+(r.length+1)) u;rw[ih,show i+1+r.length=i+(r.length+1) by omega]
theorem vL(ws:List Mw)(i:Nat)(us:List Mw)(j:Nat)(hl:i+us.length≤ws.length):(gi ws i us)[j]?=if i≤j∧j<i+us.length then us[j-i]? else ws[j]?:=by
 induction us generalizing ws i with
 | nil=>rw[if_neg (by simp)];rfl
 | cons u r ih =>
  show(gi (ws.set i u) (i+1) r)[j]?=_;rw[Fs]at hl ⊢;rw[ih (ws.set i u) (i+1) (by rw[Fw];omega)];by_cases c:i=j
  ·subst c
   rw[if_neg (by omega),if_pos (by omega),FZ (by omega),F2];rfl
  ·by_cases d:i+1≤j∧j<i+1+r.length
   ·rw[if_pos d,if_pos (by omega),show j-i=(j-(i+1))+1 by omega,List.getElem?_cons_succ]
   ·rw[if_neg d,if_neg (by omega),FT c]
def layW(ws:List Mw)(a:Nat)(t:Int)(us:List Mw):List Mw:=gi (ws.set a (.hd t us.length)) (a+1) us
def jX(ws:List Mw)(a n:Nat):List Mw:=(ws.drop (a+1)).take n
abbrev gS:List Str:=["self", "text"]
theorem gM:aG gS ["self", "text"] (aj cP):=⟨rfl,rfl,rfl,by decide +kernel,rfl,by decide +kernel,by decide +kernel⟩
theorem gN(F:Fun K "__init__" "HeapError.__init__" cP D.aq D.aO)(T:Txt K mg D):Ok P w K mg base 1 D.aq D.aO ["self", "text"] (xY K):=by
 refine⟨?_,F.binds (ps:=["self", "text"]) λ_ _ _ _ _ _ us hl=>match us,hl with|[_,_],_=>rfl⟩
 refine F.okE gM (λvs H Q E h=>?_) (λcdv A' outer s' H vs Q E hr h=>?_)
 ·obtain⟨ea,C,od,x,rfl,_⟩:=h
  rfl
 ·obtain⟨ea,C,od,x,rfl,h1,hc,k⟩:=h
  refine⟨_,(ak (bH (Ca rfl T.gF (aa (pv 0) (aa (pv 1) ag))))),?_⟩;exact⟨_,rfl,_,rfl,ea,C,od,[x],rfl,(by show 1≤1000;decide),h1,hc,k⟩
def lq(D:Ad):Sp:=λvs H Q _=>∃ m dx,∃ n:Int,vs=[.ref m,.int n]∧H m=some (.ins D.aI dx [])∧0≤n∧n≤10000∧∀ c H',But m H H'→H c=none→Mm D H' m dx c (List.replicate n.toNat .non) (List.replicate n.toNat .no)→Q .non H'
abbrev iQ:List Str:=["self", "size"]
theorem iF:aG iQ ["self", "size"] (aj dM):=⟨rfl,rfl,rfl,by decide +kernel,rfl,by decide +kernel,by decide +kernel⟩
theorem iG(F:Fun K "__init__" "Memory.__init__" dM D.aL D.bC)(T:Txt K mg D):Ok P w K mg base 1 D.aL D.bC ["self", "size"] (lq D):=by
 refine⟨?_,F.binds (ps:=["self", "size"]) λ_ _ _ _ _ _ us hl=>match us,hl with|[_,_],_=>rfl⟩
 refine F.okE iF (λvs H Q E h=>?_) (λcdv A' outer s' H vs Q E hr h=>?_)
 ·obtain⟨m,dx,n,rfl,_⟩:=h
  rfl
 ·obtain⟨m,dx,n,rfl,hm,n0,n1,k⟩:=h
  refine⟨_,(ak (zA (pv 0) (av zG (gv (aa gR ag)) (pv 1)) rfl)),?_⟩;refine⟨by show 1≤sizeLine;decide,λp hp=>⟨_,rfl,p,n,_,rfl,rfl,ab,by omega,by omega,by show 1*n.toNat≤sizeLine;exact Fo (show 1*n.toNat≤10000 by omega) (by decide),λq hq=>?_⟩⟩;have np:m≠p:=ae hm hp;have hm1:upd H p (.lst [.non]) m=some (.ins D.aI dx []):=by rw[ah np];exact hm
  have nq:m≠q:=ae hm1 hq;have qp:q≠p:=λe=>by rw[e,ab]at hq;cases hq
  have hq0:H q=none:=by rw[ah qp]at hq;exact hq
  refine⟨_,rfl,m,D.aI,dx,[],rfl,(by rw[ah nq];exact hm1),T.az,T.cx,by decide,?_⟩;refine k q _ (((But.upd hp).trans (But.upd hq)).trans But.self) hq0 ⟨ab,?_,MR.rep,by rw[Ft];omega⟩;rw[ah (FC nq),ab,vK]
def h8(D:Ad):Sp:=λvs H Q _=>∃ m mx c xs ws,vs=[.ref m]∧Mm D H m mx c xs ws∧Q (.int ws.length) H
abbrev lX:List Str:=["self"]
theorem j4:aG lX ["self"] (aj fR):=⟨rfl,rfl,rfl,by decide +kernel,rfl,by decide +kernel,by decide +kernel⟩
theorem j5(F:Fun K "size" "Memory.size" fR D.aU D.bJ)(T:Txt K mg D):Ok P w K mg base 1 D.aU D.bJ ["self"] (h8 D):=by
 refine⟨?_,F.binds (ps:=["self"]) λ_ _ _ _ _ _ us hl=>match us,hl with|[_],_=>rfl⟩
 refine F.okE j4 (λvs H Q E h=>?_) (λcdv A' outer s' H vs Q E hr h=>?_)
 ·obtain⟨m,mx,c,xs,ws,rfl,_⟩:=h
  rfl
 ·obtain⟨m,mx,c,xs,ws,rfl,M,k⟩:=h
  refine⟨_,(PSs.nox (ak (aW (aV aJ rfl T.eW PyProof.Rows.Boot.«len» (aa (pE (pv 0) rfl) ag))))),?_⟩;refine⟨_,rfl,m,D.aI,mx,_,.ref c,rfl,M.i,T.az,T.cx,rfl,c,_,rfl,.inl (SqL.of M.l),?_⟩;rw[M.r.1];exact k
def lA(D:Ad):Sp:=λvs H Q E=>∃ m mx c xs ws,∃ a:Int,vs=[.ref m,.int a]∧Mm D H m mx c xs ws∧Sm a∧(if 0≤a∧a<ws.length then Q .non H else Bad D.aE H E)
abbrev fD:List Str:=["self", "a"]
theorem ft:aG fD ["self", "a"] (aj bW):=⟨rfl,rfl,rfl,by decide +kernel,rfl,by decide +kernel,by decide +kernel⟩
theorem fu(F:Fun K "look_at_address" "Memory.look_at_address" bW D.au D.aK)(T:Txt K mg D)
  (ar:Ok P w K mg base 1 D.aq D.aO ["self", "text"] (xY K)):Ok P w K mg base 3 D.au D.aK ["self", "a"] (lA D):=by
 refine⟨?_,F.binds (ps:=["self", "a"]) λ_ _ _ _ _ _ us hl=>match us,hl with|[_,_],_=>rfl⟩
 refine F.okE ft (λvs H Q E h=>?_) (λcdv A' outer s' H vs Q E hr h=>?_)
 ·obtain⟨m,mx,c,xs,ws,a,rfl,_⟩:=h
  rfl
 ·obtain⟨m,mx,c,xs,ws,a,rfl,M,ha,k⟩:=h
  refine⟨_,(ak (eR (sI (vv BN pB ai (pv 1) (aV aJ rfl T.eW PyProof.Rows.Boot.«len» (aa (pE (pv 0) rfl) ag))))
    (ak (k7 rfl sM (sN T.fV ar.g (hr.mono (by decide)) rfl T.fU ar.b (Passes.x (ie λ_ _ _ q=>q)) (aa (pe (eM kM (eM (pI (pv 1)) pb))) ag))))
    cu)),?_⟩
  have el:=M.r.1;by_cases g:0≤a∧a<(ws.length:Int)
  ·rw[if_pos g]at k
   refine⟨_,rfl,0,a,rfl,rfl,_,rfl,kH (λ_=>⟨_,rfl,m,D.aI,mx,_,.ref c,rfl,M.i,T.az,T.cx,rfl,c,_,rfl,.inl (SqL.of M.l),a,_,rfl,rfl,_,rfl,kH (λh2=>absurd h2 (by rw[el,decide_eq_true g.2];decide)) (λ_=>k)⟩) (λh1=>absurd (decide_eq_true g.1) h1)⟩
  ·rw[if_neg g]at k
   by_cases g0:0≤a
   ·have g1:¬a<(ws.length:Int):=λz=>g ⟨g0,z⟩
    refine⟨_,rfl,0,a,rfl,rfl,_,rfl,kH (λ_=>⟨_,rfl,m,D.aI,mx,_,.ref c,rfl,M.i,T.az,T.cx,rfl,c,_,rfl,.inl (SqL.of M.l),a,_,rfl,rfl,_,rfl,kH (λ_=>⟨_,rfl,a,rfl,ha,λy hy ea hea=>gq T.dz (λ_ q=>q) k ea hea⟩) (λh2=>absurd (by rw[el,decide_eq_false g1];rfl) h2)⟩) (λh1=>absurd (decide_eq_true g0) h1)⟩
   ·refine⟨_,rfl,0,a,rfl,rfl,_,rfl,kH (λh1=>absurd (of_decide_eq_true h1) g0) (λ_=>⟨_,rfl,vf ⟨_,rfl,a,rfl,ha,λy hy ea hea=>gq T.dz (λ_ q=>q) k ea hea⟩⟩)⟩
def pN(D:Ad):Sp:=λvs H Q E=>∃ m mx c xs ws,∃ a:Int,vs=[.ref m,.int a]∧Mm D H m mx c xs ws∧Sm a∧(if 0≤a∧a<ws.length then ∀ v w,xs[a.toNat]?=some v→ws[a.toNat]?=some w→MV H v w→Q v H else Bad D.aE H E)
abbrev pX:List Str:=["self", "a"]
theorem n4:aG pX ["self", "a"] (aj g7):=⟨rfl,rfl,rfl,by decide +kernel,rfl,by decide +kernel,by decide +kernel⟩
theorem n6(F:Fun K "at" "Memory.at" g7 D.bO D.cV)(T:Txt K mg D)
  (ay:Ok P w K mg base 3 D.au D.aK ["self", "a"] (lA D)):Ok P w K mg base 4 D.bO D.cV ["self", "a"] (pN D):=by
 refine⟨?_,F.binds (ps:=["self", "a"]) λ_ _ _ _ _ _ us hl=>match us,hl with|[_,_],_=>rfl⟩
 refine F.okE n4 (λvs H Q E h=>?_) (λcdv A' outer s' H vs Q E hr h=>?_)
 ·obtain⟨m,mx,c,xs,ws,a,rfl,_⟩:=h
  rfl
 ·obtain⟨m,mx,c,xs,ws,a,rfl,M,ha,k⟩:=h
  refine⟨_,(af (bH (dH (pv 0) T.az T.cZ ay.g (hr.mono (by decide)) ay.b .nil (Passes.x (ie λ_ _ _ q=>q)) (aa (pv 1) ag)))
   (ak (aW (cn cX (pE (pv 0) rfl) (pv 1) (λ_ _=>rfl))))),?_⟩
  have el:=M.r.1;refine⟨_,rfl,m,_,_,rfl,M.i,(by kernel_rfl),_,rfl,m,mx,c,xs,ws,a,rfl,M,ha,?_⟩;by_cases g:0≤a∧a<(ws.length:Int)
  ·rw[if_pos g]at k ⊢
   have hw:ws[a.toNat]?=some (ws[a.toNat]'(by omega)):=EO _;obtain⟨v,hv,mv⟩:=M.r.get hw;exact⟨_,rfl,m,D.aI,mx,_,.ref c,rfl,M.i,T.az,T.cx,rfl,_,rfl,c,xs,a,v,rfl,rfl,SqL.of M.l,fh g.1 hv,k v _ hv hw mv⟩
  ·rw[if_neg g]at k ⊢
   exact k
def jk(D:Ad):Sp:=λvs H Q E=>∃ m mx c xs ws,∃(a:Int) (v:V) (w:Mw),vs=[.ref m,.int a,v]∧Mm D H m mx c xs ws∧Sm a∧MV H v w∧(if 0≤a∧a<ws.length then(Mm D (upd H c (.lst (xs.set a.toNat v))) m mx c (xs.set a.toNat v) (ws.set a.toNat w)→Q .non (upd H c (.lst (xs.set a.toNat v)))) else Bad D.aE H E)
abbrev n8:List Str:=["self", "a", "word"]
theorem lY:aG n8 ["self", "a", "word"] (aj gz):=⟨rfl,rfl,rfl,by decide +kernel,rfl,by decide +kernel,by decide +kernel⟩
theorem lZ(F:Fun K "put" "Memory.put" gz D.a9 D.bY)(T:Txt K mg D)
  (ay:Ok P w K mg base 3 D.au D.aK ["self", "a"] (lA D)):Ok P w K mg base 4 D.a9 D.bY ["self", "a", "word"] (jk D):=by
 refine⟨?_,F.binds (ps:=["self", "a", "word"]) λ_ _ _ _ _ _ us hl=>match us,hl with|[_,_,_],_=>rfl⟩
 refine F.okE lY (λvs H Q E h=>?_) (λcdv A' outer s' H vs Q E hr h=>?_)
 ·obtain⟨m,mx,c,xs,ws,a,v,w,rfl,_⟩:=h
  rfl
 ·obtain⟨m,mx,c,xs,ws,a,v,w,rfl,M,ha,hv,k⟩:=h
  refine⟨_,(af (bH (dH (pv 0) T.az T.cZ ay.g (hr.mono (by decide)) ay.b .nil (Passes.x (ie λ_ _ _ q=>q)) (aa (pv 1) ag)))
   (ak (jU (pv 2) (lJ (pE (pv 0) rfl) (pv 1) set_list)))),?_⟩
  have el:=M.r.1;refine⟨_,rfl,m,_,_,rfl,M.i,(by kernel_rfl),_,rfl,m,mx,c,xs,ws,a,rfl,M,ha,?_⟩;by_cases g:0≤a∧a<(ws.length:Int)
  ·rw[if_pos g]at k ⊢
   exact⟨_,rfl,_,rfl,m,D.aI,mx,_,.ref c,rfl,M.i,T.az,T.cx,rfl,_,rfl,c,xs,a,a.toNat,rfl,rfl,M.l,u6 g.1 (by rw[el];exact g.2),k (M.set hv)⟩
  ·rw[if_neg g]at k ⊢
   exact k
def sT:Sp:=λvs H Q _=>∃ v w,vs=[v]∧MV H v w∧Q (.str w.kind) H
abbrev uL:List Str:=["value"]
theorem rT:aG uL ["value"] (aj ju):=⟨rfl,rfl,rfl,by decide +kernel,rfl,by decide +kernel,by decide +kernel⟩
theorem rU(F:Fun K "kind_of" "kind_of" ju D.cN D.fg)(T:Txt K mg D):Ok P w K mg base 1 D.cN D.fg ["value"] (sT):=by
 refine⟨?_,F.binds (ps:=["value"]) λ_ _ _ _ _ _ us hl=>match us,hl with|[_],_=>rfl⟩
 refine F.okE rT (λvs H Q E h=>?_) (λcdv A' outer s' H vs Q E hr h=>?_)
 ·obtain⟨v,w,rfl,_⟩:=h
  rfl
 ·obtain⟨v,w,rfl,hv,k⟩:=h
  refine⟨_,(PSs.nox (ak (aW (qy (aM sJ (pv 0) gR (bg _)) di (cn c6 (pv 0) ai (λ_ _=>rfl)))))),?_⟩;rcases hv with⟨rfl,rfl⟩|⟨n,t,rfl,ht⟩
  ·exact⟨_,rfl,rfl,_,rfl,kH (λ_=>k) (λh=>absurd (by simp) h)⟩
  ·refine⟨_,rfl,rfl,_,rfl,kH (λh=>by simp at h) (λ_=>⟨_,rfl,t,_,0,.str w.kind,rfl,rfl,SqT.of ht,?_,k⟩)⟩
   cases w with
   | no=>exact absurd rfl n
   | _=>rfl
def pk(D:Ad):Sp:=λvs H Q E=>∃ m mx c xs ws,∃ a n:Int,vs=[.ref m,.int a,.int n]∧Mm D H m mx c xs ws∧Sm a∧Sm n∧(if 0≤a∧a+n<ws.length then Q .non H else Bad D.aE H E)
abbrev j6:List Str:=["memory", "a", "fields"]
theorem jL:aG j6 ["memory", "a", "fields"] (aj eZ):=⟨rfl,rfl,rfl,by decide +kernel,rfl,by decide +kernel,by decide +kernel⟩
theorem jM(F:Fun K "look_at_room" "look_at_room" eZ D.aS D.cv)(T:Txt K mg D)
  (aw:Ok P w K mg base 1 D.aU D.bJ ["self"] (h8 D))
  (ar:Ok P w K mg base 1 D.aq D.aO ["self", "text"] (xY K)):Ok P w K mg base 3 D.aS D.cv ["memory", "a", "fields"] (pk D):=by
 refine⟨?_,F.binds (ps:=["memory", "a", "fields"]) λ_ _ _ _ _ _ us hl=>match us,hl with|[_,_,_],_=>rfl⟩
 refine F.okE jL (λvs H Q E h=>?_) (λcdv A' outer s' H vs Q E hr h=>?_)
 ·obtain⟨m,mx,c,xs,ws,a,n,rfl,_⟩:=h
  rfl
 ·obtain⟨m,mx,c,xs,ws,a,n,rfl,M,ha,hn,k⟩:=h
  refine⟨_,(ak (eR (PW.pt (pw_or (aM pB (pv 1) ai (bg _)) (pw_or1 (aM BO (av aP (pv 1) (pv 2)) (hX (pv 0) T.az T.cT aw.g (hr.mono (by decide)) aw.b .nil (Passes.x (ie λ_ _ _ q=>q))) (bg _)))))
    (ak (k7 rfl sM (sN T.fV ar.g (hr.mono (by decide)) rfl T.fU ar.b (Passes.x (ie λ_ _ _ q=>q)) (aa (pe (eM kM (eM (pI (pv 2)) (eM kM (eM (pI (pv 1)) pb))))) ag))))
    cu)),?_⟩
  by_cases g0:a<0
  ·rw[if_neg (λz=>by have:=z.1;omega)]at k
   exact⟨_,rfl,a,0,rfl,rfl,_,rfl,d0 (decide_eq_true g0) (vf ⟨_,rfl,n,rfl,hn,_,rfl,a,rfl,ha,λy hy ea hea=>gq T.dz (λ_ q=>q) k ea hea⟩)⟩
  ·refine⟨_,rfl,a,0,rfl,rfl,_,rfl,cA (decide_eq_false g0) ⟨_,rfl,_,rfl,a,n,rfl,rfl,_,rfl,m,_,_,rfl,M.i,(by kernel_rfl),m,mx,c,xs,ws,rfl,M,_,_,rfl,rfl,_,rfl,?_⟩⟩
   by_cases g:0≤a∧a+n<(ws.length:Int)
   ·rw[if_pos g]at k
    exact cA (decide_eq_false (by omega)) k
   ·rw[if_neg g]at k
    exact d0 (decide_eq_true (by omega)) ⟨_,rfl,n,rfl,hn,_,rfl,a,rfl,ha,λy hy ea hea=>gq T.dz (λ_ q=>q) k ea hea⟩
def qS(D:Ad):Sp:=λvs H Q E=>∃ m mx c xs ws,∃(a:Int) (kd:Addr),vs=[.ref m,.int a,.ref kd]∧Mm D H m mx c xs ws∧Gm ws∧Sm a∧H kd=some (.tup [.str "head"])∧(match thg ws a with|some (_,n)=>Q (.int n) H|none=>Bad D.aE H E)
abbrev l4:List Str:=["memory", "a", "kinds", "word"]
theorem g4:aG l4 ["memory", "a", "kinds"] (aj fP):=⟨rfl,rfl,rfl,by decide +kernel,rfl,by decide +kernel,by decide +kernel⟩
theorem j7(F:Fun K "fields_told" "fields_told" fP D.bh D.dq)(T:Txt K mg D)
  (aR:Ok P w K mg base 4 D.bO D.cV ["self", "a"] (pN D))
  (cO:Ok P w K mg base 1 D.cN D.fg ["value"] (sT))
  (bw:Ok P w K mg base 3 D.aS D.cv ["memory", "a", "fields"] (pk D))
  (ar:Ok P w K mg base 1 D.aq D.aO ["self", "text"] (xY K)):Ok P w K mg base 5 D.bh D.dq ["memory", "a", "kinds"] (qS D):=by
 refine⟨?_,F.binds (ps:=["memory", "a", "kinds"]) λ_ _ _ _ _ _ us hl=>match us,hl with|[_,_,_],_=>rfl⟩
 refine F.okE g4 (λvs H Q E h=>?_) (λcdv A' outer s' H vs Q E hr h=>?_)
 ·obtain⟨m,mx,c,xs,ws,a,kd,rfl,_⟩:=h
  rfl
 ·obtain⟨m,mx,c,xs,ws,a,kd,rfl,M,gm,ha,hkd,k⟩:=h
  refine⟨_,(af (aA (i:=3) g4.nd rfl (Or.inl rfl) (dH (pv 0) T.az T.eU aR.g (hr.mono (by decide)) aR.b .nil (Passes.x (ie λ_ _ _ q=>q)) (aa (pv 1) ag)))
   (af (eR (PW.pt (pw_or (aM iU (aD cO.g (hr.mono (by decide)) rfl T.jv T.gp cO.b .nil (Passes.x (ie λ_ _ _ q=>q)) (aa (pv 3) ag)) (pv 2) (by with_unfolding_all rfl)) (pw_or1 (aM pB (cn c6 (pv 3) ai (λ_ _=>rfl)) ai (bg _)))))
    (ak (k7 rfl sM (sN T.fV ar.g (hr.mono (by decide)) rfl T.fU ar.b (Passes.x (ie λ_ _ _ q=>q)) (aa (pe (eM kM (eM (pI (pv 1)) pb))) ag))))
    cu)
   (af (bH (aD bw.g (hr.mono (by decide)) rfl T.gX T.dN bw.b .nil (Passes.x (ie λ_ _ _ q=>q)) (aa (pv 0) (aa (pv 1) (aa (cn c6 (pv 3) ai (λ_ _=>rfl)) ag)))))
   (ak (aW (cn c6 (pv 3) ai (λ_ _=>rfl))))))),?_⟩
  refine⟨_,rfl,m,_,_,rfl,M.i,(by kernel_rfl),_,rfl,m,mx,c,xs,ws,a,rfl,M,ha,?_⟩;by_cases g:0≤a∧a<(ws.length:Int)
  ·rw[if_pos g]
   intro v wd hv hw mv;refine⟨_,rfl,v,wd,rfl,mv,_,rfl,kd,_,rfl,.inr (SqT.of hkd),rfl,rfl,_,rfl,?_⟩;have nh:(∀ t n,wd≠.hd t n)→thg ws a=none:=λh=>by
    unfold thg;rw[if_pos g.1,hw];cases wd with
    | hd t n=>exact absurd rfl (h t n)
    | _=>rfl
   have bad:(∀ t n,wd≠.hd t n)→(!inV (V.str wd.kind) [V.str "head"])=true:=λh=>by
    cases wd with
    | hd t n=>exact absurd rfl (h t n)
    | _=>kernel_rfl
   by_cases hh:∃ t n,wd=.hd t n
   ·obtain⟨t,n,rfl⟩:=hh
    have hn:=gm.hd t n (E6 hw);obtain⟨_,p,rfl,hp⟩:=mv.resolve_left (λz=>by cases z.1);refine cA (by kernel_rfl) ⟨_,rfl,p,_,2,.int n,rfl,rfl,SqT.of hp,rfl,n,0,rfl,rfl,_,rfl,cA (decide_eq_false (by omega)) ?_⟩;refine⟨_,rfl,_,rfl,_,rfl,p,_,2,.int n,rfl,rfl,SqT.of hp,rfl,m,mx,c,xs,ws,a,n,rfl,M,ha,Sm.of (by omega) (by omega),?_⟩;by_cases l:a+n<(ws.length:Int)
    ·rw[if_pos ⟨g.1,l⟩]
     rw[show thg ws a=some (t,n) by unfold thg;rw[if_pos g.1,hw];exact if_pos l]at k;exact⟨_,rfl,p,_,2,.int n,rfl,rfl,SqT.of hp,rfl,k⟩
    ·rw[if_neg (λz=>l z.2)]
     rw[show thg ws a=none by unfold thg;rw[if_pos g.1,hw];exact if_neg l]at k;exact k
   ·have h:∀ t n,wd≠.hd t n:=λt n e=>hh ⟨t,n,e⟩
    rw[nh h]at k;exact d0 (bad h) (vf ⟨_,rfl,a,rfl,ha,λy hy ea hea=>gq T.dz (λ_ q=>q) k ea hea⟩)
  ·rw[if_neg g]
   have:thg ws a=none:=by
    unfold thg;by_cases h0:0≤a
    ·rw[if_pos h0,List.getElem?_eq_none_iff.mpr (by omega)]
    ·rw[if_neg h0]
   rw[this]at k;exact k
def wK(D:Ad):Sp:=λvs H Q E=>∃ m mx c xs ws,∃ a:Int,vs=[.ref m,.int a]∧Mm D H m mx c xs ws∧Gm ws∧Sm a∧(match thg ws a with|some (_,n)=>∀ H',ao H H'→Q (.int n) H'|none=>Bad D.aE H E)
abbrev pY:List Str:=["memory", "a"]
theorem oa:aG pY ["memory", "a"] (aj g5):=⟨rfl,rfl,rfl,by decide +kernel,rfl,by decide +kernel,by decide +kernel⟩
theorem oe(F:Fun K "fields_at" "fields_at" g5 D.cf D.eI)(T:Txt K mg D)
  (eA:Ok P w K mg base 5 D.bh D.dq ["memory", "a", "kinds"] (qS D)):Ok P w K mg base 6 D.cf D.eI ["memory", "a"] (wK D):=by
 refine⟨?_,F.binds (ps:=["memory", "a"]) λ_ _ _ _ _ _ us hl=>match us,hl with|[_,_],_=>rfl⟩
 refine F.okE oa (λvs H Q E h=>?_) (λcdv A' outer s' H vs Q E hr h=>?_)
 ·obtain⟨m,mx,c,xs,ws,a,rfl,_⟩:=h
  rfl
 ·obtain⟨m,mx,c,xs,ws,a,rfl,M,gm,ha,k⟩:=h
  refine⟨_,(ak (aW (aD eA.g (hr.mono (by decide)) rfl T.lP T.fW eA.b .nil (Passes.x (ie λ_ _ _ q=>q)) (aa (pv 0) (aa (pv 1) (aa (cB (aa di ag)) ag)))))),?_⟩;refine⟨_,rfl,_,rfl,by show 1≤sizeLine;decide,λkd hkd=>?_⟩;have s1:=ao.upd (o:=.tup [V.str "head"]) hkd;refine⟨m,mx,c,xs,ws,a,kd,rfl,M.same s1,gm,ha,ab,?_⟩;cases e:thg ws a with
  | none=>rw[e]at k;exact k.same s1
  | some z=>rw[e]at k;exact k _ s1
def wL(D:Ad):Sp:=λvs H Q E=>∃ m mx c xs ws,∃ a:Int,vs=[.ref m,.int a]∧Mm D H m mx c xs ws∧Gm ws∧Sm a∧(match thg ws a with|some (t,n)=>∀ p l ys H',ao H H'→H l=none→H' p=some (.tup [.int t,.ref l])→H' l=some (.lst ys)→MR H' ys (jX ws a.toNat n.toNat)→Q (.ref p) H'|none=>Bad D.aE H E)
abbrev kU:List Str:=["memory", "a", "fields"]
theorem jF:aG kU ["memory", "a"] (aj gH):=⟨rfl,rfl,rfl,by decide +kernel,rfl,by decide +kernel,by decide +kernel⟩
theorem pZ(F:Fun K "thing_at" "thing_at" gH D.cG D.fk)(T:Txt K mg D)
  (fL:Ok P w K mg base 6 D.cf D.eI ["memory", "a"] (wK D))
  (aR:Ok P w K mg base 4 D.bO D.cV ["self", "a"] (pN D)):Ok P w K mg base 7 D.cG D.fk ["memory", "a"] (wL D):=by
 refine⟨?_,F.binds (ps:=["memory", "a"]) λ_ _ _ _ _ _ us hl=>match us,hl with|[_,_],_=>rfl⟩
 refine F.okE jF (λvs H Q E h=>?_) (λcdv A' outer s' H vs Q E hr h=>?_)
 ·obtain⟨m,mx,c,xs,ws,a,rfl,_⟩:=h
  rfl
 ·obtain⟨m,mx,c,xs,ws,a,rfl,M,gm,ha,k⟩:=h
  refine⟨_,(af (aA (i:=2) jF.nd rfl (Or.inl rfl) (aD fL.g (hr.mono (by decide)) rfl T.pW T.hJ fL.b .nil (Passes.x (ie λ_ _ _ q=>q)) (aa (pv 0) (aa (pv 1) ag))))
   (ak (aW (cB (aa (cn c6 (dH (pv 0) T.az T.eU aR.g (hr.mono (by decide)) aR.b .nil (Passes.x (ie λ_ _ _ q=>q)) (aa (pv 1) ag)) ai (λ_ _=>rfl)) (aa (gh (cl:=[("memory",s'.heap.objs.size+1),("a",s'.heap.objs.size+2)]) (x := "k") (idx:=[1,0]) (NC:=["k", "a", "memory"]) ?co1 rfl (dh rfl T.dI (aa (pv 2) ag)) (λC fp s₀ H₀=>(dH (pv 2) T.az T.eU aR.g (hr.mono (by decide)) aR.b .nil m4 (aa (av aP (av aP (pv 1) ai) (pv 0)) ag)))) ag)))))),?_⟩
  case co1 =>
   exact dm (sc:=aj gH) (N:=kU) (ns:=["memory", "a"]) rfl rfl rfl (by decide +kernel) rfl rfl (by
    intro q hq;rcases E8.mp hq with rfl|hq
    ·rfl
    rw[ET.mp hq];rfl)
  have el:=M.r.1;refine⟨_,rfl,_,rfl,m,mx,c,xs,ws,a,rfl,M,gm,ha,?_⟩;cases e:thg ws a with
  | none=>rw[e]at k;exact k
  | some z =>
   obtain⟨t,n⟩:=z;rw[e]at k;obtain⟨a0,hw,al⟩:=lj e;have hn:=gm.hd t n (E6 hw);intro H1 s1;have M1:=M.same s1;refine⟨_,rfl,m,_,_,rfl,M1.i,(by kernel_rfl),_,rfl,m,mx,c,xs,ws,a,rfl,M1,ha,?_⟩;rw[if_pos ⟨a0,by omega⟩];intro v w2 hv hw2 mv;rw[hw]at hw2;cases hw2;obtain⟨_,p,rfl,hp⟩:=mv.resolve_left (λz=>by cases z.1);have z:=M.z;obtain⟨n,rfl⟩:∃ j:Nat,n=(j:Int):=⟨n.toNat,by omega⟩;simp only[Int.toNat_natCast]at k;refine⟨p,_,1,.int t,rfl,rfl,SqT.of hp,rfl,_,rfl,n,rfl,by omega,by omega,λL hL=>?_⟩;refine d6 (lo:=0) (n:=n) (λi ys Hc=>ys=(xs.drop (a.toNat+1)).take i∧ao H1 Hc∧Hc L=some (.lst ys)) ⟨rfl,ao.upd hL,ab⟩ (λi ys Hc hi ⟨e,_,z⟩=>⟨z,by rw[e,Fb,FV];omega⟩) (by exact Fo (show n≤10000 by omega) (by decide)) (λi ys Hc hi ⟨e,sc,z⟩=>?_) (λys Hc ⟨e,sc,z⟩=>?_)
   ·have M2:=M1.same sc
    have hx:ws[(a+1+(0+(i:Int))).toNat]?=some (ws[(a+1+(0+(i:Int))).toNat]'(by omega)):=EO _;refine⟨_,rfl,m,_,_,rfl,M2.i,(by kernel_rfl),_,rfl,a,1,rfl,rfl,_,rfl,_,_,rfl,rfl,m,mx,c,xs,ws,_,rfl,M2,Sm.of (by omega) (by omega),?_⟩;rw[if_pos ⟨by omega,by omega⟩];intro v w2 hv2 _ _;refine⟨z,?_,λb u q=>by rw[ah (ae q hL)];exact sc b u q,ab⟩;have hd:(xs.drop (a.toNat+1))[i]?=some v:=by
     rw[Gb,←hv2];congr 1
     omega
    rw[e,List.take_succ,hd];rfl
   ·refine⟨by show 2≤sizeLine;decide,λq hq=>?_⟩
    have s3:=ao.upd (o:=.tup [V.int t,V.ref L]) hq;refine k q L _ _ ((s1.trans sc).trans s3) (ao.none s1 hL) ab (by rw[s3 _ _ z,e]) ⟨by unfold jX;rw[Fb,Fb,FV,FV,el],λi v w2 g1 g2=>?_⟩;unfold jX at g2;rw[Gd]at g1 g2;split at g1
    ·rename_i ci
     rw[if_pos ci,Gb]at g2;rw[Gb]at g1;exact(M.r.2 _ _ _ g1 g2).keep ((aX.of s1).trans ((aX.of sc).trans (aX.of s3)))
    ·cases g1
end
section
variable{P:Program}{w:World}{K:W.Frag}{mg:Str→Option Value}{base:Heap}{D:Ad}
theorem gx{n:Nat}(h:n≤20000):n<sizeLine:=Ga h (by decide)
theorem eP{n:Nat}(h:n≤20000):n≤sizeLine:=Gu (gx h)
theorem take_snoc{α:Type}{gs:List α}{i:Nat}{t:α}(e:gs[i]?=some t):gs.take (i+1)=gs.take i++[t]:=by rw[FR (ER.mp e).1,(ER.mp e).2]
theorem ia{ws:List Mw}{a:Nat}{t:Int}{us:List Mw}:(layW ws a t us).length=ws.length:=by unfold layW;rw[ip,Fw]
def Kys(kvs:List (Key×V))(ms:List Int):Prop:=kvs.map (·.1)=ms.map Sum.inl
theorem Kys.len{kvs:List (Key×V)}{ms:List Int}(k:Kys kvs ms):kvs.length=ms.length:=by have:=congrArg List.length k;simpa using this
theorem Kys.non{kvs:List (Key×V)}{ms:List Int}(k:Kys kvs ms){t:Int}(h:t∉ms):fO kvs (Sum.inl t)=none:=by
 induction kvs generalizing ms with
 | nil=>rfl
 | cons p r ih=>cases ms with
  | nil=>cases k
  | cons a ms =>
   unfold Kys at k;rw[Fl,Fl]at k;injection k with k1 k2;rw[cC (λz=>h (by rw[←Sum.inl.inj (k1.symm.trans z)];exact E0))];exact ih k2 λz=>h (EX _ z)
structure Dg(kvs:List (Key×V))(ms:List Int)(g:Int→Int):Prop where
 k:Kys kvs ms
 n:ms.Nodup
 v:∀ t∈ms,fO kvs (Sum.inl t)=some (.int (g t))
theorem Dg.nil{g:Int→Int}:Dg [] [] g:=⟨rfl,Gv,λt m=>nomatch m⟩
theorem uM{kvs:List (Key×V)}{ms:List Int}{t:Int}{v:V}(k:Kys kvs ms)(h:t∈ms):Kys (putK kvs (Sum.inl t) v) ms:=by
 unfold Kys at k ⊢;rw[←k];have hs:(kvs.any λkv=>decide (kv.1=(Sum.inl t:Key)))=true:=by
  have m:(Sum.inl t:Key)∈kvs.map (·.1):=by rw[k];exact Fx.mpr ⟨t,h,rfl⟩
  obtain⟨p,mp,e⟩:=Fx.mp m;exact List.any_eq_true.mpr ⟨p,mp,decide_eq_true e⟩
 unfold putK;rw[if_pos hs,List.map_map];refine List.map_congr_left λp _=>?_;show(if p.1=Sum.inl t then(p.1,v) else p).1=p.1;split<;>rfl
theorem Dg.put{kvs:List (Key×V)}{ms:List Int}{g:Int→Int}(d:Dg kvs ms g){t:Int}:∃ ms',Dg (putK kvs (Sum.inl t) (.int (g t))) ms' g∧(∀ u,u∈ms'↔u∈ms∨u=t)∧ms'.length≤ms.length+1:=by
 by_cases c:t∈ms
 ·refine⟨ms,⟨uM d.k c,d.n,λu m=>?_⟩,λu=>⟨.inl,λz=>z.elim id λe=>by rw[e];exact c⟩,F7 _⟩
  by_cases e:u=t
  ·subst e;rw[df,if_pos rfl]
  ·rw[df,if_neg (λz=>e (Sum.inl.inj z))];exact d.v u m
 ·refine⟨ms++[t],⟨?_,?_,λu m=>?_⟩,λu=>by rw[Fc,ET],by rw[E5];exact EV _⟩
  ·rw[i9 _ (d.k.non c)]
   have:=d.k
   unfold Kys at this ⊢;rw[Fd,Fd,this];rfl
  ·rw[FN]
   exact⟨d.n,by simp,λa ha b hb=>by rw[ET.mp hb];exact λe=>c (by rw[←e];exact ha)⟩
  ·by_cases e:u=t
   ·subst e;rw[df,if_pos rfl]
   ·rw[df,if_neg (λz=>e (Sum.inl.inj z))];exact d.v u ((Fc.mp m).resolve_right λz=>e (ET.mp z))
theorem wN{X:Cx}{st:Stmt}:PS X st (λ_ _ _=>False):=λ_ _ _ _ _ _ h=>h.elim
def Mw.adr:Mw→Option Int
 | .ad a=>some a
 | _=>none
theorem qT{w:Mw}{a:Int}(h:w.adr=some a):w=.ad a:=by
 cases w with
 | ad b=>cases h;rfl
 | _=>cases h
def iX(acc:List Int)(w:Mw):List Int:=match w.adr with
 | some a=>if a∈acc then acc else acc++[a]
 | none=>acc
def addW:List Int→List Mw→List Int
 | acc,[]=>acc
 | acc,w::r=>addW (iX acc w) r
theorem lB{acc:List Int}{a:Int}(h:a∉acc):iX acc (.ad a)=acc++[a]:=if_neg h
theorem lC{acc:List Int}{a:Int}(h:a∈acc):iX acc (.ad a)=acc:=if_pos h
theorem tS{acc:List Int}{w:Mw}(h:w.adr=none):iX acc w=acc:=by unfold iX;rw[h]
theorem eN(acc:List Int)(u v:List Mw):addW acc (u++v)=addW (addW acc u) v:=by
 induction u generalizing acc with
 | nil=>rfl
 | cons w r ih=>exact ih _
theorem ib(acc:List Int)(w:Mw):addW acc [w]=iX acc w:=rfl
theorem vM(acc:List Int)(w:Mw):acc <+: iX acc w:=by
 unfold iX;cases w.adr with
 | none=>exact Gy _
 | some a =>
  show acc <+: if a∈acc then acc else acc++[a];split
  ·exact Gy _
  ·exact List.prefix_append _ _
theorem lD(acc:List Int)(u:List Mw):acc <+: addW acc u:=by
 induction u generalizing acc with
 | nil=>exact Gy _
 | cons w r ih=>exact(vM acc w).trans (ih _)
theorem yc{acc:List Int}{w:Mw}(h:acc.Nodup):(iX acc w).Nodup:=by
 unfold iX;cases w.adr with
 | none=>exact h
 | some a =>
  show(if a∈acc then acc else acc++[a]).Nodup;split
  ·exact h
  ·rename_i n
   rw[FN];exact⟨h,by simp,λx hx y hy=>by rw[ET.mp hy];exact λe=>n (by rw[←e];exact hx)⟩
theorem tT{acc:List Int}{u:List Mw}(h:acc.Nodup):(addW acc u).Nodup:=by
 induction u generalizing acc with
 | nil=>exact h
 | cons w r ih=>exact ih (yc h)
theorem vN{acc:List Int}{w:Mw}{a:Int}:a∈iX acc w↔a∈acc∨w=.ad a:=by
 cases w with
 | ad b =>
  by_cases c:b∈acc
  ·rw[lC c]
   exact⟨.inl,λz=>z.elim id λe=>by cases e;exact c⟩
  ·rw[lB c,Fc,ET]
   exact⟨λz=>z.elim .inl λe=>.inr (by rw[e]),λz=>z.elim .inl λe=>by cases e;exact .inr rfl⟩
 | _=>exact⟨.inl,λz=>z.elim id λe=>by cases e⟩
theorem qU{acc:List Int}{u:List Mw}{a:Int}:a∈addW acc u↔a∈acc∨Mw.ad a∈u:=by
 induction u generalizing acc with
 | nil=>exact⟨.inl,λz=>z.elim id λe=>nomatch e⟩
 | cons w r ih =>
  show a∈addW (iX acc w) r↔_;rw[ih,vN,E8];constructor
  ·rintro((h|h)|h)
   ·exact .inl h
   ·exact .inr (.inl h.symm)
   ·exact .inr (.inr h)
  ·rintro(h|h|h)
   ·exact .inl (.inl h)
   ·exact .inl (.inr h.symm)
   ·exact .inr h
def Wl(rs:List Mw)(f:Int→List Mw)(R:List Int):List Mw:=rs++R.flatMap f
theorem kW{rs:List Mw}{f:Int→List Mw}{R:List Int}{a:Int}:Wl rs f (R++[a])=Wl rs f R++f a:=by unfold Wl;rw[List.flatMap_append,Ge];simp
structure Bfs(rs:List Mw)(f:Int→List Mw)(R:List Int):Prop where
 fx:R=addW [] (Wl rs f R)
 wf:∀ k,k<R.length→k<(addW [] (Wl rs f (R.take k))).length
theorem Bfs.pre{rs:List Mw}{f:Int→List Mw}{R:List Int}(h:Bfs rs f R)(k:Nat):addW [] (Wl rs f (R.take k)) <+: R:=by
 have e:Wl rs f R=Wl rs f (R.take k)++(R.drop k).flatMap f:=by
  unfold Wl;rw[Ge,←List.flatMap_append,FQ]
 have:=lD (addW [] (Wl rs f (R.take k))) ((R.drop k).flatMap f)
 rw[←eN,←e,←h.fx]at this;exact this
theorem Bfs.at{rs:List Mw}{f:Int→List Mw}{R:List Int}(h:Bfs rs f R){k:Nat}(hk:k<R.length):R[k]?=(addW [] (Wl rs f (R.take k)))[k]?:=by
 obtain⟨t,ht⟩:=h.pre k
 conv=>lhs;rw[←ht]
 rw[Fi (h.wf k hk)]
theorem Bfs.uniq{rs:List Mw}{f:Int→List Mw}{R S:List Int}(h:Bfs rs f R)(g:Bfs rs f S):R=S:=by
 have tk:∀ k,k≤R.length→k≤S.length→R.take k=S.take k:=by
  intro k;induction k with
  | zero=>intro _ _;rfl
  | succ k ih =>
   intro h1 h2;have e:=ih (by omega) (by omega);rw[List.take_succ,List.take_succ,h.at (by omega),g.at (by omega),e]
 have le:∀ {R S:List Int},Bfs rs f R→Bfs rs f S→(∀ k,k≤R.length→k≤S.length→R.take k=S.take k)→¬R.length<S.length:=λ{R S} h g t c=>by
  have e:=t R.length (EV _) (by omega);rw[E1 (EV _)]at e
  have:=g.wf R.length c
  rw[←e,←h.fx]at this;omega
 have l1:=le h g tk;have l2:=le g h λk a b=>(tk k b a).symm;have e:=tk R.length (EV _) (by omega);rw[E1 (EV _),E1 (by omega)]at e;exact e
theorem Bfs.nd{rs:List Mw}{f:Int→List Mw}{R:List Int}(h:Bfs rs f R):R.Nodup:=by
 rw[h.fx];exact tT Gv
theorem Bfs.mem{rs:List Mw}{f:Int→List Mw}{R:List Int}(h:Bfs rs f R){a:Int}(m:Mw.ad a∈Wl rs f R):a∈R:=by
 rw[h.fx];exact qU.mpr (.inr m)
structure Pg(rs:List Mw)(f:Int→List Mw)(th:List Int)(d:Nat):Prop where
 e:th=addW [] ((Wl rs f th).take d)
 le:d≤(Wl rs f th).length
 wf:∀ k,k<th.length→k<(addW [] (Wl rs f (th.take k))).length
theorem Pg.nil{rs:List Mw}{f:Int→List Mw}:Pg rs f [] 0:=⟨rfl,Fj _,λk h=>nomatch h⟩
theorem aN{α:Type}{gs:List α}{i:Nat}{t:α}(e:gs[i]?=some t):gs.take (i+1)=gs.take i++[t]:=by rw[FR (ER.mp e).1,(ER.mp e).2]
theorem Pg.old{rs:List Mw}{f:Int→List Mw}{th:List Int}{d:Nat}{w:Mw}(h:Pg rs f th d)(hw:(Wl rs f th)[d]?=some w)(o:iX th w=th):Pg rs f th (d+1):=by
 refine⟨?_,(ER.mp hw).1,h.wf⟩;rw[aN hw,eN,←h.e,ib,o]
theorem Pg.new{rs:List Mw}{f:Int→List Mw}{th:List Int}{d:Nat}{a:Int}(h:Pg rs f th d)(hw:(Wl rs f th)[d]?=some (.ad a))(n:a∉th):Pg rs f (th++[a]) (d+1):=by
 have hd:=(ER.mp hw).1;have e1:addW [] ((Wl rs f th).take (d+1))=th++[a]:=by rw[aN hw,eN,←h.e,ib,lB n]
 refine⟨?_,by rw[kW,E5];omega,λk hk=>?_⟩
 ·rw[kW,FJ hd,e1]
 ·rw[E5,FE]at hk
  by_cases c:k<th.length
  ·rw[FJ (by omega)]
   exact h.wf k c
  ·have ek:k=th.length:=by omega
   subst ek;rw[FJ (EV _),E1 (EV _)];have p:=lD (addW [] ((Wl rs f th).take (d+1))) ((Wl rs f th).drop (d+1));rw[←eN,FQ,e1]at p
   have:=p.length_le
   rw[E5,FE]at this;omega
theorem Pg.done{rs:List Mw}{f:Int→List Mw}{th:List Int}{d:Nat}(h:Pg rs f th d)(e:(Wl rs f th).length≤d):Bfs rs f th:=by
 refine⟨?_,h.wf⟩
 have:=h.e
 rw[E1 e]at this;exact this
structure Lw(rs:List Mw)(f:Int→List Mw)(row:List Int)(p:Nat):Prop where
 e:row=addW [] (Wl rs f (row.take p))
 le:p≤row.length
 wf:∀ k,k<p→k<(addW [] (Wl rs f (row.take k))).length
theorem Lw.start{rs:List Mw}{f:Int→List Mw}:Lw rs f (addW [] rs) 0:=⟨by unfold Wl;simp,Fj _,λk h=>nomatch h⟩
theorem Lw.step{rs:List Mw}{f:Int→List Mw}{row:List Int}{p:Nat}{a:Int}(h:Lw rs f row p)(hp:row[p]?=some a):Lw rs f (addW row (f a)) (p+1):=by
 have hl:=(ER.mp hp).1;obtain⟨t,ht⟩:=lD row (f a);have tk:∀ k,k≤p+1→(addW row (f a)).take k=row.take k:=λk hk=>by rw[←ht,FJ (by omega)]
 refine⟨?_,by rw[←ht,E5];omega,λk hk=>?_⟩
 ·rw[tk _ (EV _),aN hp,kW,eN,←h.e]
 ·rw[tk k (by omega)]
  by_cases c:k<p
  ·exact h.wf k c
  ·have ek:k=p:=by omega
   subst ek;rw[←h.e];exact hl
theorem Lw.done{rs:List Mw}{f:Int→List Mw}{row:List Int}{p:Nat}(h:Lw rs f row p)(e:row.length≤p):Bfs rs f row:=by
 have hp:p=row.length:=Nat.le_antisymm h.le e;subst hp;refine⟨?_,h.wf⟩
 have:=h.e
 rw[E1 (EV _)]at this;exact this
def tot(f:Int→List Mw):List Int→Nat
 | []=>0
 | a::r=>(f a).length+1+tot f r
theorem pw(f:Int→List Mw)(u v:List Int):tot f (u++v)=tot f u+tot f v:=by
 induction u with
 | nil=>simp[tot]
 | cons a r ih=>show(f a).length+1+tot f (r++v)=(f a).length+1+tot f r+tot f v;rw[ih];omega
theorem jc(f:Int→List Mw)(u:List Int)(a:Int):tot f (u++[a])=tot f u+((f a).length+1):=by rw[pw];rfl
def plA(f:Int→List Mw):Int→List Int→Int→Int
 | p,[],_=>p
 | p,b::r,a=>if a=b then p else plA f (p+(f b).length+1) r a
theorem zT{f:Int→List Mw}{u v:List Int}{a:Int}{p:Int}(h:a∉u):plA f p (u++a::v) a=p+tot f u:=by
 induction u generalizing p with
 | nil=>show(if a=a then p else _)=_;rw[if_pos rfl];simp[tot]
 | cons b r ih =>
  show(if a=b then p else plA f (p+(f b).length+1) (r++a::v) a)=_;rw[if_neg (λe=>h (by rw[e];exact E0)),ih λm=>h (EX _ m)];show _=p+(((f b).length+1+tot f r:Nat):Int)
  push_cast
  omega
theorem lE{R:List Int}{i:Nat}{a:Int}(h:R[i]?=some a):R=R.take i++a::R.drop (i+1):=by
 have hi:=(ER.mp h).1;have e:=(ER.mp h).2;rw[←e,←List.drop_eq_getElem_cons hi,FQ]
theorem tU{R:List Int}{i:Nat}{a:Int}(nd:R.Nodup)(h:R[i]?=some a):a∉R.take i:=λm=>by
 rw[lE h,FN]at nd;exact nd.2.2 a m a E0 rfl
theorem i4{f:Int→List Mw}{R:List Int}{i:Nat}{a p:Int}(nd:R.Nodup)(h:R[i]?=some a):plA f p R a=p+tot f (R.take i):=by
 conv=>lhs;rw[lE h]
 exact zT (tU nd h)
theorem lF{f:Int→List Mw}{R:List Int}{i:Nat}{a:Int}(h:R[i]?=some a):tot f (R.take i)+((f a).length+1)≤tot f R:=by
 have e:=congrArg (tot f) (lE h);rw[pw]at e
 have:tot f (a::R.drop (i+1))=(f a).length+1+tot f (R.drop (i+1)):=rfl
 omega
def anew(g:Int→Int):Mw→Mw
 | .ad a=>.ad (g a)
 | w=>w
def Okw(w:Mw):Prop:=w=.no∨(∃ n,w=.num n)∨∃ a,w=.ad a∧Sm a
def vh(f:Int→List Mw)(g:Int→Int):List Mw→List Int→List Mw
 | ws,[]=>ws
 | ws,a::r=>vh f g (ws.set a.toNat (.mv (g a) (f a).length)) r
def rV(f:Int→List Mw)(g tt:Int→Int):List Mw→List Int→List Mw
 | ws,[]=>ws
 | ws,a::r=>rV f g tt (layW ws (g a).toNat (tt a) ((f a).map (anew g))) r
theorem uN(f:Int→List Mw)(g:Int→Int)(ws:List Mw)(u:List Int)(a:Int):vh f g ws (u++[a])=(vh f g ws u).set a.toNat (.mv (g a) (f a).length):=by
 induction u generalizing ws with
 | nil=>rfl
 | cons b r ih=>exact ih _
theorem uO(f:Int→List Mw)(g tt:Int→Int)(ws:List Mw)(u:List Int)(a:Int):rV f g tt ws (u++[a])=layW (rV f g tt ws u) (g a).toNat (tt a) ((f a).map (anew g)):=by
 induction u generalizing ws with
 | nil=>rfl
 | cons b r ih=>exact ih _
theorem vO(f:Int→List Mw)(g:Int→Int)(ws:List Mw)(u:List Int):(vh f g ws u).length=ws.length:=by
 induction u generalizing ws with
 | nil=>rfl
 | cons b r ih=>show(vh f g _ r).length=_;rw[ih,Fw]
theorem qV(f:Int→List Mw)(g tt:Int→Int)(ws:List Mw)(u:List Int):(rV f g tt ws u).length=ws.length:=by
 induction u generalizing ws with
 | nil=>rfl
 | cons b r ih=>show(rV f g tt _ r).length=_;rw[ih,ia]
theorem i6:∀ {R B:List Int},R.Nodup→(∀ a∈R,a∈B)→R.length≤B.length
 | [],_,_,_=>Fj _
 | a::r,B,nd,h=>by
  rw[FO]at nd;have ha:=h a E0;have e:=i6 (R:=r) (B:=B.erase a) nd.2 λb m=>(List.mem_erase_of_ne (λz=>nd.1 (by rw[←z];exact m))).mpr (h b (EX _ m));rw[List.length_erase_of_mem ha]at e
  have:=List.length_pos_of_mem ha
  rw[Fs];omega
theorem zU{rs:List Mw}{f:Int→List Mw}{R:List Int}(h:∀ a∈R,(f a).length≤6):(Wl rs f R).length≤rs.length+6*R.length:=by
 unfold Wl;rw[E5]
 have:(R.flatMap f).length≤6*R.length:=by
  induction R with
  | nil=>simp
  | cons a r ih =>
   have h1:=h a E0;have h2:=ih λb m=>h b (EX _ m);rw[List.flatMap_cons,E5,Fs];omega
 omega
theorem tV{f:Int→List Mw}{R:List Int}(h:∀ a∈R,(f a).length≤6):tot f R≤7*R.length:=by
 induction R with
 | nil=>exact Fj _
 | cons a r ih =>
  have h1:=h a E0;have h2:=ih λb m=>h b (EX _ m);rw[Fs];show(f a).length+1+tot f r≤_;omega
structure Src(ws rs:List Mw)(f:Int→List Mw)(tt:Int→Int)(B:List Int):Prop where
 rl:rs.length≤9
 ro:∀ w∈rs,Okw w
 rb:∀ a,Mw.ad a∈rs→a∈B
 bl:B.length≤10
 th:∀ a∈B,thg ws a=some (tt a,((f a).length:Int))∧jX ws a.toNat (f a).length=f a
 fl:∀ a∈B,(f a).length≤6
 fo:∀ a∈B,∀ w∈f a,Okw w
 fb:∀ a∈B,∀ b,Mw.ad b∈f a→b∈B
theorem Src.ok{ws rs:List Mw}{f:Int→List Mw}{tt:Int→Int}{B R:List Int}(S:Src ws rs f tt B)(h:∀ a∈R,a∈B){w:Mw}(m:w∈Wl rs f R):Okw w∧∀ a,w=.ad a→a∈B:=by
 rcases Fc.mp m with m|m
 ·exact⟨S.ro w m,λa e=>S.rb a (by rw[←e];exact m)⟩
 ·obtain⟨b,mb,m⟩:=Gz.mp m
  exact⟨S.fo b (h b mb) w m,λa e=>S.fb b (h b mb) a (by rw[←e];exact m)⟩
structure Dth(H0 H:Hp)(kvs:List (Key×V))(R:List Int)(f:Int→List Mw)(tt:Int→Int):Prop where
 k:Kys kvs R
 n:R.Nodup
 v:∀ a∈R,∃ p l ys,fO kvs (Sum.inl a)=some (.ref p)∧H p=some (.tup [.int (tt a),.ref l])∧H0 l=none∧H l=some (.lst ys)∧MR H ys (f a)
theorem Dth.nil{H0 H:Hp}{f:Int→List Mw}{tt:Int→Int}:Dth H0 H [] [] f tt:=⟨rfl,Gv,λa m=>nomatch m⟩
def Kp(H0 H H':Hp):Prop:=(∀ b xs,H0 b=none→H b=some (.lst xs)→H' b=some (.lst xs))∧∀ b us,H b=some (.tup us)→H' b=some (.tup us)
theorem Kp.of{H0 H H':Hp}(s:ao H H'):Kp H0 H H':=⟨λb u _ q=>s b _ q,λb us q=>s b _ q⟩
theorem Kp.frz{H0 H:Hp}{d:Addr}{kvs:List (Key×V)}{o:HO}(h:H d=some (.dK kvs)):Kp H0 H (upd H d o):=⟨λb u _ q=>by rw[ah (bB q h (by intro z;cases z))];exact q,λb us q=>by rw[ah (bB q h (by intro z;cases z))];exact q⟩
theorem Kp.set{H0 H:Hp}{c:Addr}{o o0 o1:HO}(h0:H0 c=some o0)(h1:H c=some o1)(n:∀ us,o1≠.tup us):Kp H0 H (upd H c o) :=
 ⟨λb u e q=>by rw[ah (λz=>by rw[z,h0]at e;cases e)];exact q,λb us q=>by rw[ah (λz=>by rw[z,h1]at q;exact n us (Fg q))];exact q⟩
theorem Dth.keep{H0 H H':Hp}{kvs:List (Key×V)}{R:List Int}{f:Int→List Mw}{tt:Int→Int}(d:Dth H0 H kvs R f tt)(s:Kp H0 H H'):Dth H0 H' kvs R f tt :=
 ⟨d.k,d.n,λa m=>by obtain⟨p,l,ys,h1,h2,h3,h4,h5⟩:=d.v a m;exact⟨p,l,ys,h1,s.2 _ _ h2,h3,s.1 _ _ h3 h4,h5.keep s.2⟩⟩
theorem Dth.low{H0 H1 H:Hp}{kvs:List (Key×V)}{R:List Int}{f:Int→List Mw}{tt:Int→Int}(d:Dth H1 H kvs R f tt)(s:ao H0 H1):Dth H0 H kvs R f tt :=
 ⟨d.k,d.n,λa m=>by obtain⟨p,l,ys,h1,h2,h3,h4,h5⟩:=d.v a m;exact⟨p,l,ys,h1,h2,ao.none s h3,h4,h5⟩⟩
theorem Dth.put{H0 H:Hp}{kvs:List (Key×V)}{R:List Int}{f:Int→List Mw}{tt:Int→Int}{a:Int}{p l:Addr}{ys:List V}(d:Dth H0 H kvs R f tt)(n:a∉R)(h2:H p=some (.tup [.int (tt a),.ref l]))(h3:H0 l=none)(h4:H l=some (.lst ys))(h5:MR H ys (f a)):Dth H0 H (putK kvs (Sum.inl a) (.ref p)) (R++[a]) f tt:=by
 refine⟨?_,?_,λb m=>?_⟩
 ·rw[i9 _ (d.k.non n)]
  have:=d.k
  unfold Kys at this ⊢;rw[Fd,Fd,this];rfl
 ·rw[FN]
  exact⟨d.n,by simp,λx hx y hy=>by rw[ET.mp hy];exact λe=>n (by rw[←e];exact hx)⟩
 ·by_cases e:b=a
  ·subst e
   exact⟨p,l,ys,by rw[df,if_pos rfl],h2,h3,h4,h5⟩
  ·obtain⟨p',l',ys',g1,g⟩:=d.v b ((Fc.mp m).resolve_right λz=>e (ET.mp z))
   exact⟨p',l',ys',by rw[df,if_neg (λz=>e (Sum.inl.inj z))];exact g1,g⟩
theorem MR.app{H:Hp}{xs ys:List V}{us ws:List Mw}(a:MR H xs us)(b:MR H ys ws):MR H (xs++ys) (us++ws):=by
 refine⟨by rw[E5,E5,a.1,b.1],λi v w h1 h2=>?_⟩;by_cases c:i<xs.length
 ·rw[Fi c]at h1
  rw[Fi (by rw[←a.1];exact c)]at h2;exact a.2 i v w h1 h2
 ·rw[Fm (by omega)]at h1
  rw[Fm (by rw[←a.1];omega),←a.1]at h2;exact b.2 _ v w h1 h2
theorem MR.snoc{H:Hp}{xs:List V}{us:List Mw}{v:V}{w:Mw}(a:MR H xs us)(b:MV H v w):MR H (xs++[v]) (us++[w]):=a.app ⟨rfl,λi x y h1 h2=>by
 cases i with
 | zero=>cases h1;cases h2;exact b
 | succ i=>cases h1⟩
def adV(w:Mw):V:=match w.adr with|some a=>.int a|none=>.non
def sU:Sp:=λvs H Q _=>∃ v w,vs=[v]∧MV H v w∧Okw w∧∀ H',ao H H'→Q (adV w) H'
abbrev j8:List Str:=["word"]
theorem jN:aG j8 ["word"] (aj fc):=⟨rfl,rfl,rfl,by decide +kernel,rfl,by decide +kernel,by decide +kernel⟩
theorem jO(F:Fun K "address_told" "address_told" fc D.aT D.cw)(T:Txt K mg D)
  (cO:Ok P w K mg base 1 D.cN D.fg ["value"] (sT)):Ok P w K mg base 2 D.aT D.cw ["word"] (sU):=by
 refine⟨?_,F.binds (ps:=["word"]) λ_ _ _ _ _ _ us hl=>match us,hl with|[_],_=>rfl⟩
 refine F.okE jN (λvs H Q E h=>?_) (λcdv A' outer s' H vs Q E hr h=>?_)
 ·obtain⟨v,w,rfl,_⟩:=h
  rfl
 ·obtain⟨v,w,rfl,hv,ok,k⟩:=h
  refine⟨_,(PSs.nox (af (eR (aM uo (aD cO.g (hr.mono (by decide)) rfl T.jv T.gp cO.b .nil bD (aa (pv 0) ag)) (cB (aa di (aa di ag))) (by with_unfolding_all rfl))
    (ak (aW gR))
    cu)
   (af (eR (aM u0 (aD cO.g (hr.mono (by decide)) rfl T.jv T.gp cO.b .nil bD (aa (pv 0) ag)) di (bg _))
    (ak wN)
    cu)
   (ak (aW (cn c6 (pv 0) ai (λ_ _=>rfl))))))),?_⟩
  refine⟨_,rfl,v,w,rfl,hv,by show 2≤sizeLine;decide,λp hp=>?_⟩;have s1:=ao.upd (o:=.tup [V.str "none",V.str "number"]) hp;refine⟨p,_,rfl,.inr (SqT.of ab),rfl,rfl,_,rfl,?_⟩;rcases ok with rfl|⟨n,rfl⟩|⟨a,rfl,sa⟩
  ·exact d0 (by kernel_rfl) (k _ s1)
  ·exact d0 (by kernel_rfl) (k _ s1)
  ·obtain⟨_,q,rfl,hq⟩:=hv.resolve_left (λz=>by cases z.1)
   refine cA (by kernel_rfl) ⟨_,rfl,_,.ad a,rfl,.inr ⟨(by intro z;cases z),q,rfl,s1 _ _ hq⟩,rfl,_,rfl,cA (by kernel_rfl) ?_⟩;exact⟨_,rfl,q,_,1,.int a,rfl,rfl,SqT.of (s1 _ _ hq),rfl,k _ s1⟩
def sV(D:Ad):Sp:=λvs H Q _=>∃ m mx c xs ws,∃(l:Addr) (ys:List V) (rs:List Mw) (f:Int→List Mw) (tt:Int→Int) (B:List Int),vs=[.ref m,.ref l]∧Mm D H m mx c xs ws∧Gm ws∧H l=some (.lst ys)∧MR H ys rs∧Src ws rs f tt B∧∀ d kvs R H',Bfs rs f R→(∀ a∈R,a∈B)→ao H H'→H d=none→H' d=some (.dK kvs)→Dth H H' kvs R f tt→Q (.ref d) H'
abbrev og:List Str:=["source", "roots", "things", "words", "done", "a"]
theorem cL:aG og ["source", "roots"] (aj gy):=⟨rfl,rfl,rfl,by decide +kernel,rfl,by decide +kernel,by decide +kernel⟩
theorem l5(F:Fun K "things_met" "things_met" gy D.bu D.c7)(T:Txt K mg D)
  (bA:Ok P w K mg base 2 D.aT D.cw ["word"] (sU))
  (gJ:Ok P w K mg base 7 D.cG D.fk ["memory", "a"] (wL D)):Ok P w K mg base 8 D.bu D.c7 ["source", "roots"] (sV D):=by
 refine⟨?_,F.binds (ps:=["source", "roots"]) λ_ _ _ _ _ _ us hl=>match us,hl with|[_,_],_=>rfl⟩
 refine F.okE cL (λvs H Q E h=>?_) (λcdv A' outer s' H vs Q E hr h=>?_)
 ·obtain⟨m,mx,c,xs,ws,l,ys,rs,f,tt,B,rfl,_⟩:=h
  rfl
 ·obtain⟨m,mx,c,xs,ws,l,ys,rs,f,tt,B,rfl,M,gm,hl,ry,S,k⟩:=h
  have hu:=iH hr;refine⟨_,(PSs.nox (af (aA (i:=2) cL.nd rfl (Or.inl rfl) ja)
   (af (aA (i:=3) cL.nd rfl (Or.inl rfl) (dE eS rfl T.jW PyProof.Rows.Boot.«list» (aa (pv 1) ag)))
   (af (aA (i:=4) cL.nd rfl (Or.inl rfl) ai)
   (af (qB Fn (aM pB (pv 4) (aV aJ rfl T.eW PyProof.Rows.Boot.«len» (aa (pv 3) ag)) (bg _))
    (af (aA (i:=5) cL.nd rfl (Or.inl rfl) (aD bA.g (hr.mono (by decide)) rfl T.gY T.dO bA.b .nil bD (aa (cn cX (pv 3) (pv 4) (λ_ _=>rfl)) ag)))
    (af (eR (PW.pt (pw_and (aM tF (pv 5) gR (bg _)) (pw_and1 (sG (ux hu (pv 5) (pv 2)) (by with_unfolding_all rfl)))))
     (af (kI hu (pv 2) (pv 5) (aD gJ.g (hr.mono (by decide)) rfl T.rQ T.iM gJ.b .nil bD (aa (pv 0) (aa (pv 5) ag))) rfl)
     (ak (bH (kG PySem.F.plainAttrs_list PySem.F.slot_list_extend PySem.F.type_list_extend uq (pv 3) (aa (cn c6 (cY hu (pv 2) (pv 5) (λ_ _=>rfl)) ai (λ_ _=>rfl)) ag)))))
     cu)
    (ak (wa (i:=4) cL.nd rfl (Or.inl rfl) ai wc)))))
   (ak (aW (pv 2)))))))),?_⟩
  have z:=M.z;intro d hd;have s1:=ao.upd (o:=.dK []) hd;refine⟨_,rfl,l,ys,rfl,.inl (SqL.of (s1 _ _ hl)),λq hq=>?_⟩;have s2:=ao.upd (o:=.lst ys) hq;obtain⟨Hs,eHs⟩:∃ Hs,upd (upd H d (.dK [])) q (.lst ys)=Hs:=⟨_,rfl⟩;have ss:ao H Hs:=by rw[←eHs];exact s1.trans s2
  have hds:Hs d=some (.dK []):=by rw[←eHs];exact s2 _ _ ab
  have hqs:Hs q=some (.lst ys):=by rw[←eHs];exact ab
  rw[eHs];refine⟨λn σ Hx=>∃(v5:Option V) (kvs:List (Key×V)) (th:List Int) (dn:Nat) (zs:List V),σ=[some (.ref m),some (.ref l),some (.ref d),some (.ref q),some (.int dn),v5]∧n=100-dn∧Pg rs f th dn∧(∀ a∈th,a∈B)∧ao H Hx∧Hx d=some (.dK kvs)∧Dth Hs Hx kvs th f tt∧Hx q=some (.lst zs)∧MR Hx zs (Wl rs f th),⟨100,none,[],[],0,ys,rfl,rfl,Pg.nil,(λa m=>nomatch m),ss,hds,Dth.nil,hqs,?_⟩,?_⟩
  ·have:Wl rs f []=rs:=by unfold Wl;simp
   rw[this];exact ry.keep (aX.of ss)
  rintro n σ Hx ⟨v5,kvs,th,dn,zs,rfl,rfl,pg,hB,sx,hdx,dt,hqx,rz⟩;have lth:th.length≤10:=Fo (i6 dt.n hB) S.bl;have lW:=zU (rs:=rs) λa m=>S.fl a (hB a m);have rl:=S.rl;have ez:=rz.1;refine⟨_,rfl,_,rfl,q,_,rfl,.inl (SqL.of hqx),dn,_,rfl,rfl,_,rfl,?_⟩;by_cases hlt:dn<zs.length
  ·refine d0 (decide_eq_true (by omega)) ?_
   have hw:(Wl rs f th)[dn]?=some ((Wl rs f th)[dn]'(by omega)):=EO _;obtain⟨w,ew⟩:∃ w,(Wl rs f th)[dn]'(by omega)=w:=⟨_,rfl⟩;rw[ew]at hw;have mw:=E6 hw;obtain⟨okw,inB⟩:=S.ok hB mw;obtain⟨v,hv,mv⟩:=rz.get hw;refine⟨λσ' H'=>∃ m',m'<100-dn∧∃(v5:Option V) (kvs:List (Key×V)) (th:List Int) (dn:Nat) (zs:List V),σ'=[some (.ref m),some (.ref l),some (.ref d),some (.ref q),some (.int dn),v5]∧m'=100-dn∧Pg rs f th dn∧(∀ a∈th,a∈B)∧ao H H'∧H' d=some (.dK kvs)∧Dth Hs H' kvs th f tt∧H' q=some (.lst zs)∧MR H' zs (Wl rs f th),λ_ _ h=>h,?_⟩;refine⟨_,rfl,_,rfl,q,zs,dn,v,rfl,rfl,SqL.of hqx,fh (by omega) (by rw[Int.toNat_natCast];exact hv),v,w,rfl,mv,okw,λH1 s3=>?_⟩;have hd1:=s3 _ _ hdx;have hq1:=s3 _ _ hqx;have dt1:=dt.keep (Kp.of (H0:=Hs) s3);have rz1:=rz.keep (aX.of s3);have sx1:=sx.trans s3;have old:iX th w=th→∃ m',m'<100-dn∧∃(v5:Option V) (kvs:List (Key×V)) (th:List Int) (dn':Nat) (zs:List V),[some (.ref m),some (.ref l),some (.ref d),some (.ref q),some (.int ((dn:Int)+1)),some (adV w)]=[some (.ref m),some (.ref l),some (.ref d),some (.ref q),some (.int dn'),v5]∧m'=100-dn'∧Pg rs f th dn'∧(∀ a∈th,a∈B)∧ao H H1∧H1 d=some (.dK kvs)∧Dth Hs H1 kvs th f tt∧H1 q=some (.lst zs)∧MR H1 zs (Wl rs f th):=λh =>
    ⟨100-(dn+1),by omega,some (adV w),kvs,th,dn+1,zs,rfl,rfl,pg.old hw h,hB,sx1,hd1,dt1,hq1,rz1⟩
   refine⟨_,rfl,rfl,_,rfl,?_⟩;cases ea:w.adr with
   | none =>
    have ev:adV w=.non:=(by unfold adV;rw[ea]);refine cA (by rw[ev];rfl) ⟨_,rfl,_,_,rfl,rfl,old (tS ea)⟩
   | some a =>
    have ev:adV w=.int a:=(by unfold adV;rw[ea]);obtain rfl:=qT ea;have aB:=inB a rfl;refine d0 (by rw[ev];rfl) ⟨_,rfl,_,rfl,d,_,rfl,.inl ⟨kvs,Sum.inl a,.inl hd1,rfl,rfl⟩,_,rfl,?_⟩;by_cases ha:a∈th
    ·obtain⟨p,_,_,hp,_⟩:=dt.v a ha
     refine cA (by rw[hp];rfl) ⟨_,rfl,_,_,rfl,rfl,old (lC ha)⟩
    ·refine d0 (by rw[dt.k.non ha];rfl) ?_
     obtain⟨tg,sl⟩:=S.th a aB;obtain⟨a0,hwa,al⟩:=lj tg;refine⟨_,rfl,_,rfl,m,mx,c,xs,ws,a,rfl,M.same sx1,gm,Sm.of (by omega) (by omega),?_⟩;rw[tg];intro p l2 ys2 H2 s4 hl0 hp hl2 ry2;rw[Int.toNat_natCast,sl]at ry2;have hd2:=s4 _ _ hd1;have hq2:=s4 _ _ hq1;have Et:Hs l2=none:=by
      cases e:Hs l2 with
      | none=>rfl
      | some u =>
       exfalso;by_cases c1:l2=d
       ·rw[c1,hd1]at hl0;cases hl0
       ·by_cases c2:l2=q
        ·rw[c2,hq1]at hl0;cases hl0
        ·have:H l2=some u:=by rw[←e,←eHs,ah c2,ah c1]
         rw[sx1 _ _ this]at hl0;cases hl0
     have dt2:=(dt1.keep (Kp.of (H0:=Hs) s4)).put ha hp Et hl2 ry2;have lk:=dt.k.len;refine⟨_,rfl,_,rfl,d,_,rfl,tN.k (k:=Sum.inl a) hd2 (by rw[lk];exact gx (by omega)),?_⟩;obtain⟨j1,ek2⟩:∃ j1,putK kvs (Sum.inl a) (.ref p)=j1:=⟨_,rfl⟩;have vp:fO j1 (Sum.inl a)=some (.ref p):=(by rw[←ek2,df,if_pos rfl]);rw[ek2]at dt2 ⊢;have ndq:q≠d:=bB hq2 hd2 (by intro z;cases z);have hp3:upd H2 d (.dK j1) p=some (.tup [.int (tt a),.ref l2]):=(by rw[ah (bB hp hd2 (by intro z;cases z))];exact hp);have hl3:upd H2 d (.dK j1) l2=some (.lst ys2):=(by rw[ah (bB hl2 hd2 (by intro z;cases z))];exact hl2);have hq3:upd H2 d (.dK j1) q=some (.lst zs):=(by rw[ah ndq];exact hq2);have kp3:Kp Hs H2 (upd H2 d (.dK j1)):=Kp.set hds hd2 (by intro us z;cases z);have e2:=ry2.1;have fl:=S.fl a aB;refine⟨_,rfl,.inl ⟨rfl,_,SqL.of hq3⟩,_,rfl,_,rfl,d,_,rfl,.inl ⟨j1,Sum.inl a,.inl ab,rfl,vp.symm⟩,p,_,1,.ref l2,rfl,rfl,SqT.of hp3,rfl,q,l2,zs,ys2,rfl,rfl,hq3,hl3,eP (by omega),?_⟩;have kp4:Kp Hs (upd H2 d (.dK j1)) (upd (upd H2 d (.dK j1)) q (.lst (zs++ys2))):=Kp.set hqs hq3 (by intro us z;cases z);have tp:aX H1 (upd (upd H2 d (.dK j1)) q (.lst (zs++ys2))):=λt us y=>kp4.2 _ _ (kp3.2 _ _ (s4 _ _ y));refine⟨_,rfl,_,_,rfl,rfl,100-(dn+1),by omega,some (adV (.ad a)),j1,th++[a],dn+1,zs++ys2,rfl,rfl,pg.new hw ha,λb mb=>?_,λb u y=>?_,by rw[ah (FC ndq)];exact ab,(dt2.keep kp3).keep kp4,ab,?_⟩
     ·rcases Fc.mp mb with mb|mb
      ·exact hB b mb
      ·rw[ET.mp mb];exact aB
     ·have nbd:b≠d:=ae y hd
      have nbq:b≠q:=ae y (by have:=hq;rw[ah (λz=>by rw[z]at hq;rw[ab]at hq;cases hq)]at this;exact this);rw[ah nbq,ah nbd];exact s4 _ _ (sx1 _ _ y)
     ·rw[kW]
      exact(rz1.keep tp).app (ry2.keep λt us y=>kp4.2 _ _ (kp3.2 _ _ y))
  ·refine cA (decide_eq_false (by omega)) ⟨_,rfl,?_⟩
   exact k d kvs th Hx (pg.done (by omega)) hB sx hd hdx (dt.low ss)
end
end K40
end
section
namespace L2
open PySem PySem.Spec PyProof.Rows LX
section
variable{X:Cx}
theorem Co{n:Option Int}{zs:List Int}{f:Option Int→V}(hf:f none=.non)(hs:∀ t,f (some t)=.int t):inV (f n) (zs.map V.int)=(match n with|none=>false|some t=>decide (t∈zs)):=by
 unfold inV;cases n with
 | none =>
  rw[hf];show _=false;rw[List.any_map];refine List.any_eq_false.mpr λz _=>?_;simp[eqV]
 | some t =>
  rw[hs,List.any_map];show _=decide (t∈zs);induction zs with
  | nil=>rfl
  | cons a r ih =>
   rw[F9,ih];by_cases e:a=t
   ·subst e
    simp[eqV]
   ·have:(t∈a::r)↔t∈r:=by
     rw[E8];exact⟨λh=>h.elim (λz=>absurd z.symm e) id,.inr⟩
    simp[eqV,e,this]
end
end L2
end
section
namespace K40
open PySem L2 LX
section
variable{P:Program}{w:World}{K:W.Frag}{mg:Str→Option Value}{base:Heap}{D:Ad}
def wO(D:Ad):Sp:=λvs H Q _=>∃ m mx c xs ws,∃(a t:Int) (l:Addr) (ys:List V) (us:List Mw),vs=[.ref m,.int a,.int t,.ref l]∧Mm D H m mx c xs ws∧H l=some (.lst ys)∧MR H ys us∧l≠c∧0≤a∧a+us.length<ws.length∧∀ xs' H',But c H H'→Mm D H' m mx c xs' (layW ws a.toNat t us)→Q .non H'
abbrev Cp:List Str:=["memory", "a", "t", "values", "k", "value"]
theorem sW:aG Cp ["memory", "a", "t", "values"] (aj xm):=⟨rfl,rfl,rfl,by decide +kernel,rfl,by decide +kernel,by decide +kernel⟩
theorem zV(F:Fun K "lay" "lay" xm D.jK D.rO)(T:Txt K mg D)
  (bw:Ok P w K mg base 3 D.aS D.cv ["memory", "a", "fields"] (pk D))
  (ax:Ok P w K mg base 4 D.a9 D.bY ["self", "a", "word"] (jk D)):Ok P w K mg base 6 D.jK D.rO ["memory", "a", "t", "values"] (wO D):=by
 refine⟨?_,F.binds (ps:=["memory", "a", "t", "values"]) λ_ _ _ _ _ _ us hl=>match us,hl with|[_,_,_,_],_=>rfl⟩
 refine F.okE sW (λvs H Q E h=>?_) (λcdv A' outer s' H vs Q E hr h=>?_)
 ·obtain⟨m,mx,c,xs,ws,a,t,l,ys,us,rfl,_⟩:=h
  rfl
 ·obtain⟨m,mx,c,xs,ws,a,t,l,ys,us,rfl,M,hl,ru,nlc,a0,al,k⟩:=h
  refine⟨_,(PSs.nox (af (bH (aD bw.g (hr.mono (by decide)) rfl T.gX T.dN bw.b .nil bD (aa (pv 0) (aa (pv 1) (aa (aV aJ rfl T.eW PyProof.Rows.Boot.«len» (aa (pv 3) ag)) ag)))))
   (af (bH (dH (pv 0) T.az T.cK ax.g (hr.mono (by decide)) ax.b .nil bD (aa (pv 1) (aa (cB (aa di (aa (pv 2) (aa (aV aJ rfl T.eW PyProof.Rows.Boot.«len» (aa (pv 3) ag)) ag)))) ag))))
   (ak (dk Fn rfl (ji rfl T.cW (aa (pv 3) ag)) (fM rfl (aH (aC (i:=4) sW.nd rfl (Or.inl rfl)) (aH (aC (i:=5) sW.nd rfl (Or.inl rfl)) d4)))
    (ak (bH (dH (pv 0) T.az T.cK ax.g (hr.mono (by decide)) ax.b .nil bD (aa (av aP (av aP (pv 1) ai) (pv 4)) (aa (pv 5) ag)))))))))),?_⟩
  have z:=M.z;have eu:=ru.1;refine⟨_,rfl,_,rfl,_,rfl,l,ys,rfl,.inl (SqL.of hl),m,mx,c,xs,ws,a,ys.length,rfl,M,Sm.of (by omega) (by omega),Sm.of (by omega) (by omega),?_⟩;rw[if_pos ⟨a0,by omega⟩];refine⟨_,rfl,m,_,_,rfl,M.i,(by kernel_rfl),_,rfl,_,rfl,_,rfl,l,ys,rfl,.inl (SqL.of hl),by show 3≤sizeLine;decide,λp hp=>?_⟩;have s1:=ao.upd (o:=.tup [V.str "head",V.int t,V.int ys.length]) hp;refine⟨m,mx,c,xs,ws,a,.ref p,.hd t us.length,rfl,M.same s1,Sm.of (by omega) (by omega),.inr ⟨(by intro z;cases z),p,rfl,by rw[ab,eu];rfl⟩,?_⟩;rw[if_pos ⟨a0,by omega⟩];intro M2;have b2:But c H (upd (upd H p (.tup [V.str "head",V.int t,V.int ys.length])) c (.lst (xs.set a.toNat (.ref p)))):=(But.same s1).trans But.self;refine⟨_,rfl,l,rfl,⟨_,SqL.of (b2 l _ nlc hl)⟩,hZ (K:=K) (a:=l) (xs:=ys) (λi σ Hx=>∃ v4 v5 xs',σ=[some (.ref m),some (.int a),some (.int t),some (.ref l),v4,v5]∧But c H Hx∧Mm D Hx m mx c xs' (gi (ws.set a.toNat (.hd t us.length)) (a.toNat+1) (us.take i)))
   ⟨none,none,_,rfl,b2,M2⟩ (λi σ Hx _ ⟨_,_,_,_,b,_⟩=>SqL.of (b l _ nlc hl)) ?_ ?_⟩
  ·rintro i v σ Hx tp hi ⟨v4,v5,xs',rfl,bx,Mx⟩ htp
   have s3:=ao.upd (o:=.tup [.int (i:Int),v]) htp;refine⟨tp,_,rfl,SqT.of ab,rfl,_,_,rfl,_,_,rfl,rfl,?_⟩;have hil:i<us.length:=(by rw[←eu];exact(ER.mp hi).1);have hu':us[i]?=some us[i]:=EO hil;have ll:(gi (ws.set a.toNat (.hd t us.length)) (a.toNat+1) (us.take i)).length=ws.length:=(by rw[ip,Fw]);have M3:=Mx.same s3;have tv:aX H (upd Hx tp (.tup [.int (i:Int),v])):=λb us q=>s3 _ _ (bx b _ (bB q M.l (by intro z;cases z)) q);refine⟨_,rfl,m,_,_,rfl,M3.i,(by kernel_rfl),_,rfl,a,1,rfl,rfl,_,rfl,_,_,rfl,rfl,_,rfl,m,mx,c,xs',_,a+1+(i:Int),v,us[i],rfl,M3,Sm.of (by omega) (by omega),(ru.2 i v _ hi hu').keep tv,?_⟩;rw[ll,if_pos ⟨by omega,by omega⟩];intro M4;refine⟨_,_,xs'.set (a+1+(i:Int)).toNat v,rfl,(bx.trans (But.same s3)).trans But.self,?_⟩;rw[take_snoc hu',iP,Fb,show a.toNat+1+min i us.length=(a+1+(i:Int)).toNat by omega];exact M4
  ·rintro σ Hx ⟨v4,v5,xs',rfl,bx,Mx⟩
   rw[eu,E1 (EV _)]at Mx;exact k xs' Hx bx Mx
def xp:Sp:=λvs H Q _=>∃(d:Addr) (ob:Obj) (kvs:List (Key×V)) (H0:Hp) (R:List Int) (f:Int→List Mw) (tt:Int→Int),vs=[.ref d]∧H d=some (.frz ob (.dK kvs))∧Dth H0 H kvs R f tt∧R.length≤10∧(∀ a∈R,(f a).length≤6)∧∀ H',ao H H'→Q (.int (tot f R)) H'
abbrev iB:List Str:=["things"]
theorem j9:aG iB ["things"] (aj d9):=⟨rfl,rfl,rfl,by decide +kernel,rfl,by decide +kernel,by decide +kernel⟩
theorem ka(F:Fun K "words_among" "words_among" d9 D.aZ D.cJ)(T:Txt K mg D):Ok P w K mg base 1 D.aZ D.cJ ["things"] (xp):=by
 refine⟨?_,F.binds (ps:=["things"]) λ_ _ _ _ _ _ us hl=>match us,hl with|[_],_=>rfl⟩
 refine F.okE j9 (λvs H Q E h=>?_) (λcdv A' outer s' H vs Q E hr h=>?_)
 ·obtain⟨d,ob,kvs,H0,R,f,tt,rfl,_⟩:=h
  rfl
 ·obtain⟨d,ob,kvs,H0,R,f,tt,rfl,hd,dt,lR,lf,k⟩:=h
  have hu:=iH hr;refine⟨_,(PSs.nox (ak (aW (aV (nJ rfl) rfl T.u3 PyProof.Rows.Boot.«sum» (aa (gh (cl:=[("things",s'.heap.objs.size+1)]) (x := "a") (idx:=[0]) (NC:=["a", "things"]) (by exact dm (sc:=aj d9) (N:=iB) (ns:=["things"]) rfl rfl rfl (by decide +kernel) rfl rfl (by intro q hq;rw[ET.mp hq];rfl)) rfl (kN (pv 0)) (λC fp s₀ H₀=>(av aP (aV (nL rfl) rfl T.eW PyProof.Rows.Boot.«len» (aa (cn (r:=CK K) c6 (cY hu (pv 1) (pv 0) (λ_ _=>rfl)) ai (λ_ _=>rfl)) ag)) ai))) ag))))),?_⟩;have lk:=dt.k.len;have ek:=dt.k;unfold Kys at ek;refine⟨_,rfl,d,ob,kvs,rfl,hd,λL hL=>?_⟩;refine nK (d:=d) (o:=ob) (kvs:=kvs) (λi ys Hc=>ys=((R.take i).map λa=>((f a).length:Int)+1).map V.int∧ao H Hc∧Hc L=some (.lst ys)) ⟨rfl,ao.upd hL,ab⟩ (λi ys Hc hi ⟨e,_,z⟩=>⟨z,by rw[e,EU,EU,Fb];omega⟩) (λi ys Hc _ ⟨_,sc,_⟩=>sc _ _ hd) (eP (by omega)) (λi p ys Hc hp ⟨e,sc,z⟩=>?_) (λys Hc ⟨e,sc,z⟩=>?_)
  ·have hk:(kvs.map (·.1))[i]?=some p.1:=by rw[E3,hp];rfl
   rw[ek,E3]at hk;obtain⟨a,ha,ep⟩:=Fh.mp hk;have ma:=E6 ha;obtain⟨q,l,zs,h1,h2,h3,h4,h5⟩:=dt.v a ma;rw[←ep];refine⟨_,rfl,_,rfl,d,_,rfl,.inl ⟨kvs,Sum.inl a,.inr ⟨ob,sc _ _ hd⟩,rfl,h1.symm⟩,q,_,1,.ref l,rfl,rfl,SqT.of (sc _ _ h2),rfl,l,zs,rfl,.inl (SqL.of (sc _ _ h4)),_,_,rfl,rfl,z,?_,λb u y=>by rw[ah (ae y hL)];exact sc b u y,ab⟩;rw[e,aN ha,Fd,Fd,h5.1];rfl
  ·refine⟨L,_,rfl,SqL.of (by rw[z,e]),?_⟩
   rw[lk,E1 (EV _)];have es:∀ R:List Int,(R.map λa=>((f a).length:Int)+1).sum=(tot f R:Int):=λR=>by
    induction R with
    | nil=>rfl
    | cons a r ih=>rw[Fl,List.sum_cons,ih];show _=(((f a).length+1+tot f r:Nat):Int);push_cast;omega
   rw[es];exact k _ sc
def yQ:Sp:=λvs H Q _=>∃(fs:Int) (d:Addr) (ob:Obj) (kvs:List (Key×V)) (H0:Hp) (R:List Int) (f:Int→List Mw) (tt:Int→Int),vs=[.int fs,.ref d]∧H d=some (.frz ob (.dK kvs))∧Dth H0 H kvs R f tt∧R.length≤10∧∀ p j1 H',ao H H'→H p=none→H' p=some (.dK j1)→Dg j1 R (plA f fs R)→Q (.ref p) H'
abbrev l7:List Str:=["first", "things", "places", "place", "a"]
theorem cU:aG l7 ["first", "things"] (aj fQ):=⟨rfl,rfl,rfl,by decide +kernel,rfl,by decide +kernel,by decide +kernel⟩
theorem kb(F:Fun K "places_from" "places_from" fQ D.bj D.dr)(T:Txt K mg D):Ok P w K mg base 1 D.bj D.dr ["first", "things"] (yQ):=by
 refine⟨?_,F.binds (ps:=["first", "things"]) λ_ _ _ _ _ _ us hl=>match us,hl with|[_,_],_=>rfl⟩
 refine F.okE cU (λvs H Q E h=>?_) (λcdv A' outer s' H vs Q E hr h=>?_)
 ·obtain⟨fs,d,ob,kvs,H0,R,f,tt,rfl,_⟩:=h
  rfl
 ·obtain⟨fs,d,ob,kvs,H0,R,f,tt,rfl,hd,dt,lR,k⟩:=h
  have hu:=iH hr;refine⟨_,(PSs.nox (af (aA (i:=2) cU.nd rfl (Or.inl rfl) ja)
   (af (aA (i:=3) cU.nd rfl (Or.inl rfl) (pv 0))
   (af (dk Fn rfl (kN (pv 1)) (aC (i:=4) cU.nd rfl (Or.inl rfl))
    (af (kI hu (pv 2) (pv 4) (pv 3) rfl)
    (ak (wa (i:=3) cU.nd rfl (Or.inl rfl) (av aP (aV aJ rfl T.eW PyProof.Rows.Boot.«len» (aa (cn c6 (cY hu (pv 1) (pv 4) (λ_ _=>rfl)) ai (λ_ _=>rfl)) ag)) ai) wc))))
   (ak (aW (pv 2))))))),?_⟩
  have lk:=dt.k.len;have ek:=dt.k;unfold Kys at ek;intro p hp;have s1:=ao.upd (o:=.dK []) hp;refine⟨_,rfl,_,rfl,d,ob,kvs,rfl,s1 _ _ hd,qM (d:=d) (o:=ob) (kvs:=kvs) (λi σ Hx=>∃(v4:Option V) (kv2:List (Key×V)),σ=[some (.int fs),some (.ref d),some (.ref p),some (.int (fs+tot f (R.take i))),v4]∧ao H Hx∧Hx p=some (.dK kv2)∧Dg kv2 (R.take i) (plA f fs R)) ⟨none,[],(by rw[List.take_zero];show _=[some (V.int fs),some (V.ref d),some (V.ref p),some (V.int (fs+0)),none];rw[Int.add_zero];rfl),s1,ab,Dg.nil⟩ (λi σ Hx _ ⟨_,_,_,sx,_⟩=>sx _ _ hd) ?_ ?_⟩
  ·rintro i pr σ Hx hpr ⟨v4,kv2,rfl,sx,zp,dg⟩
   have hk:(kvs.map (·.1))[i]?=some pr.1:=(by rw[E3,hpr];rfl);rw[ek,E3]at hk;obtain⟨a,ha,ep⟩:=Fh.mp hk;have ma:=E6 ha;obtain⟨q,l,zs,h1,h2,h3,h4,h5⟩:=dt.v a ma;rw[←ep];have na:=tU dt.n ha;have pl:=i4 (f:=f) (p:=fs) dt.n ha;have lk2:=dg.k.len;refine⟨_,rfl,_,rfl,_,rfl,p,_,rfl,tN.k (k:=Sum.inl a) zp (by rw[lk2,Fb];exact gx (by omega)),?_⟩;have npd:d≠p:=ae hd hp;have hd2:∀ o,upd Hx p o d=some (.frz ob (.dK kvs)):=λo=>by rw[ah npd];exact sx _ _ hd
   have up:∀ b u o,H b=some u→upd Hx p o b=some u:=λb u o y=>by rw[ah (ae y hp)];exact sx _ _ y
   refine⟨_,rfl,_,rfl,_,rfl,d,_,rfl,.inl ⟨kvs,Sum.inl a,.inr ⟨ob,hd2 _⟩,rfl,h1.symm⟩,q,_,1,.ref l,rfl,rfl,SqT.of (up _ _ _ h2),rfl,l,zs,rfl,.inl (SqL.of (up _ _ _ h4)),_,_,rfl,rfl,_,_,rfl,rfl,some (.int a),putK kv2 (Sum.inl a) (.int (fs+tot f (R.take i))),?_,λb u y=>up b u _ y,ab,?_⟩
   ·rw[aN ha,jc,h5.1]
    show[_,_,_,some (V.int (fs+(tot f (R.take i):Int)+(((f a).length:Int)+1))),_]=_;rw[show fs+(tot f (R.take i):Int)+(((f a).length:Int)+1)=fs+((tot f (R.take i)+((f a).length+1):Nat):Int) by push_cast;omega];rfl
   ·rw[←pl,aN ha]
    refine⟨?_,?_,λu m=>?_⟩
    ·rw[i9 _ (dg.k.non na)]
     have:=dg.k
     unfold Kys at this ⊢;rw[Fd,Fd,this];rfl
    ·rw[FN]
     exact⟨dg.n,by simp,λx hx y hy=>by rw[ET.mp hy];exact λe=>na (by rw[←e];exact hx)⟩
    ·by_cases e:u=a
     ·subst e;rw[df,if_pos rfl]
     ·rw[df,if_neg (λz=>e (Sum.inl.inj z))];exact dg.v u ((Fc.mp m).resolve_right λz=>e (ET.mp z))
  ·rintro σ Hx ⟨v4,kv2,rfl,sx,zp,dg⟩
   rw[lk,E1 (EV _)]at dg;exact⟨_,rfl,k p kv2 Hx sx hp zp dg⟩
def yR:Sp:=λvs H Q _=>∃(v:V) (w:Mw) (d:Addr) (kvs:List (Key×V)) (R:List Int) (g:Int→Int),vs=[v,.ref d]∧MV H v w∧Okw w∧Rd H d (.dK kvs)∧Dg kvs R g∧(∀ a,w=.ad a→a∈R)∧∀ v' H',ao H H'→MV H' v' (anew g w)→Q v' H'
abbrev p7:List Str:=["word", "places", "a"]
theorem iY:aG p7 ["word", "places"] (aj g6):=⟨rfl,rfl,rfl,by decide +kernel,rfl,by decide +kernel,by decide +kernel⟩
theorem oh(F:Fun K "told_anew" "told_anew" g6 D.cg D.eJ)(T:Txt K mg D)
  (bA:Ok P w K mg base 2 D.aT D.cw ["word"] (sU)):Ok P w K mg base 3 D.cg D.eJ ["word", "places"] (yR):=by
 refine⟨?_,F.binds (ps:=["word", "places"]) λ_ _ _ _ _ _ us hl=>match us,hl with|[_,_],_=>rfl⟩
 refine F.okE iY (λvs H Q E h=>?_) (λcdv A' outer s' H vs Q E hr h=>?_)
 ·obtain⟨v,w,d,kvs,R,g,rfl,_⟩:=h
  rfl
 ·obtain⟨v,w,d,kvs,R,g,rfl,hv,ok,hd,dg,hR,k⟩:=h
  have hu:=iH hr;refine⟨_,(PSs.nox (af (aA (i:=2) iY.nd rfl (Or.inl rfl) (aD bA.g (hr.mono (by decide)) rfl T.gY T.dO bA.b .nil bD (aa (pv 0) ag)))
   (ak (aW (qy (aM sJ (pv 2) gR (bg _)) (pv 0) (cB (aa di (aa (cY hu (pv 1) (pv 2) (λ_ _=>rfl)) ag)))))))),?_⟩
  refine⟨_,rfl,v,w,rfl,hv,ok,λH1 s1=>⟨_,rfl,rfl,_,rfl,?_⟩⟩;have hd1:Rd H1 d (.dK kvs):=by
   rcases hd with h|⟨o,h⟩
   ·exact .inl (s1 _ _ h)
   ·exact .inr ⟨o,s1 _ _ h⟩
  cases ea:w.adr with
  | none =>
   have ev:adV w=.non:=(by unfold adV;rw[ea]);have en:anew g w=w:=by
    cases w with
    | ad a=>cases ea
    | _=>rfl
   refine kH (λ_=>⟨_,rfl,k v H1 s1 (by rw[en];exact hv.keep (aX.of s1))⟩) (λh=>absurd (by rw[ev];rfl) h)
  | some a =>
   have ev:adV w=.int a:=(by unfold adV;rw[ea]);obtain rfl:=qT ea;refine kH (λh=>absurd h (by rw[ev];exact λz=>by cases z)) (λ_=>⟨_,rfl,_,rfl,d,.int (g a),rfl,.inl ⟨kvs,Sum.inl a,hd1,by rw[ev];rfl,(dg.v a (hR a rfl)).symm⟩,by show 2≤sizeLine;decide,λp hp=>?_⟩);exact k _ _ (s1.trans (ao.upd hp)) (.inr ⟨(by intro z;cases z),p,rfl,ab⟩)
def gP(c1 c2:Addr)(H H':Hp):Prop:=∀ b u,b≠c1→b≠c2→H b=some u→H' b=some u
theorem gP.same{c1 c2:Addr}{H H':Hp}(s:ao H H'):gP c1 c2 H H':=λb u _ _ q=>s b u q
theorem gP.l{c1 c2:Addr}{H H':Hp}(s:But c1 H H'):gP c1 c2 H H':=λb u n _ q=>s b u n q
theorem gP.r{c1 c2:Addr}{H H':Hp}(s:But c2 H H'):gP c1 c2 H H':=λb u _ n q=>s b u n q
theorem gP.trans{c1 c2:Addr}{H H1 H2:Hp}(a:gP c1 c2 H H1)(b:gP c1 c2 H1 H2):gP c1 c2 H H2:=λc u n m q=>b c u n m (a c u n m q)
theorem gP.kC{c1 c2:Addr}{H H':Hp}{xs ys:List V}(s:gP c1 c2 H H')(h1:H c1=some (.lst xs))(h2:H c2=some (.lst ys)):aX H H':=λt us q=>s t _ (bB q h1 (by intro z;cases z)) (bB q h2 (by intro z;cases z)) q
theorem Mm.but{D:Ad}{H H':Hp}{m mx c c':Addr}{xs zs:List V}{ws:List Mw}(M:Mm D H m mx c xs ws)(b:But c' H H')(n:c≠c')(h:H c'=some (.lst zs)):Mm D H' m mx c xs ws :=
 ⟨b _ _ (bB M.i h (by intro z;cases z)) M.i,b _ _ n M.l,M.r.keep (λt us q=>b _ _ (bB q h (by intro z;cases z)) q),M.z⟩
def Prs(H:Hp)(ps:List V)(R:List Int)(g:Int→Int):Prop:=ps.length=R.length∧∀(i:Nat) (u:V) (t:Int),ps[i]?=some u→R[i]?=some t→∃ q,u=.ref q∧H q=some (.tup [.int t,.int (g t)])
theorem Prs.keep{H H':Hp}{ps:List V}{ks:List Int}{g:Int→Int}(p:Prs H ps ks g)(s:aX H H'):Prs H' ps ks g:=⟨p.1,λi u t a b=>by obtain⟨q,e,h⟩:=p.2 i u t a b;exact⟨q,e,s _ _ h⟩⟩
theorem Prs.snoc{H:Hp}{ps:List V}{R:List Int}{g:Int→Int}{a:Int}{q:Addr}(p:Prs H ps R g)(h:H q=some (.tup [.int a,.int (g a)])):Prs H (ps++[.ref q]) (R++[a]) g:=by
 refine⟨by rw[E5,E5,p.1];rfl,λi u t h1 h2=>?_⟩;by_cases c:i<ps.length
 ·rw[Fi c]at h1
  rw[Fi (by rw[←p.1];exact c)]at h2;exact p.2 i u t h1 h2
 ·have e:i=ps.length:=by have:=(ER.mp h1).1;rw[E5,FE]at this;omega
  subst e;rw[Fm (EV _),F2]at h1;rw[p.1,Fm (EV _),F2]at h2;cases h1;cases h2;exact⟨q,rfl,h⟩
def yS(D:Ad):Sp:=λvs H Q _=>∃ m mx c xs ws,∃(l:Addr) (ys:List V) (rs:List Mw) (f:Int→List Mw) (tt:Int→Int) (B:List Int),vs=[.ref m,.ref l]∧Mm D H m mx c xs ws∧Gm ws∧H l=some (.lst ys)∧MR H ys rs∧Src ws rs f tt B∧∀ R H',Bfs rs f R→(∀ a∈R,a∈B)→ao H H'→Q (.int (tot f R)) H'
abbrev kc:List Str:=["source", "roots"]
theorem jP:aG kc ["source", "roots"] (aj e7):=⟨rfl,rfl,rfl,by decide +kernel,rfl,by decide +kernel,by decide +kernel⟩
theorem jQ(F:Fun K "copied_words" "copied_words" e7 D.a7 D.cQ)(T:Txt K mg D)
  (bZ:Ok P w K mg base 8 D.bu D.c7 ["source", "roots"] (sV D))
  (bK:Ok P w K mg base 1 D.aZ D.cJ ["things"] (xp)):Ok P w K mg base 9 D.a7 D.cQ ["source", "roots"] (yS D):=by
 refine⟨?_,F.binds (ps:=["source", "roots"]) λ_ _ _ _ _ _ us hl=>match us,hl with|[_,_],_=>rfl⟩
 refine F.okE jP (λvs H Q E h=>?_) (λcdv A' outer s' H vs Q E hr h=>?_)
 ·obtain⟨m,mx,c,xs,ws,l,ys,rs,f,tt,B,rfl,_⟩:=h
  rfl
 ·obtain⟨m,mx,c,xs,ws,l,ys,rs,f,tt,B,rfl,M,gm,hl,ry,S,k⟩:=h
  refine⟨_,(PSs.nox (ak (aW (aD bK.g (hr.mono (by decide)) rfl T.iA T.eh bK.b .nil bD (aa (sO (aD bZ.g (hr.mono (by decide)) rfl T.iW T.eV bZ.b .nil bD (aa (pv 0) (aa (pv 1) ag)))) ag))))),?_⟩;refine⟨_,rfl,_,rfl,m,mx,c,xs,ws,l,ys,rs,f,tt,B,rfl,M,gm,hl,ry,S,λd kvs R H1 bf hB s1 hd0 hd dt=>⟨d,kvs,hd,λob=>?_⟩⟩;have lR:R.length≤10:=Fo (i6 dt.n hB) S.bl;exact⟨d,ob,kvs,H,R,f,tt,rfl,ab,dt.keep (Kp.frz hd),lR,λa m=>S.fl a (hB a m),λH2 s2=>k R H2 bf hB (λb u q=>s2 _ _ (by rw[ah (ae q hd0)];exact s1 _ _ q))⟩
def yT(D:Ad):Sp:=λvs H Q _=>∃ m mx c xs ws m2 mx2 c2 xs2 ws2,∃(fs:Int) (l:Addr) (ys:List V) (rs:List Mw) (f:Int→List Mw) (tt:Int→Int) (B:List Int),vs=[.ref m,.ref m2,.int fs,.ref l]∧Mm D H m mx c xs ws∧Mm D H m2 mx2 c2 xs2 ws2∧c≠c2∧l≠c∧l≠c2∧Gm ws∧H l=some (.lst ys)∧MR H ys rs∧Src ws rs f tt B∧0≤fs∧(∀ R,Bfs rs f R→(∀ a∈R,a∈B)→fs+tot f R≤ws2.length)∧∀ R p l1 ys1 l2 ps xs' vi H',Bfs rs f R→(∀ a∈R,a∈B)→gP c c2 H H'→Mm D H' m mx c xs' (vh f (plA f fs R) ws R)→Mm D H' m2 mx2 c2 vi (rV f (plA f fs R) tt ws2 R)→H l1=none→H l2=none→H' p=some (.tup [.ref l1,.ref l2])→H' l1=some (.lst ys1)→MR H' ys1 (rs.map (anew (plA f fs R)))→H' l2=some (.lst ps)→Prs H' ps R (plA f fs R)→Q (.ref p) H'
abbrev jd:List Str:=["source", "target", "first", "roots", "things", "words", "places", "a", "fields"]
theorem fi:aG jd ["source", "target", "first", "roots"] (aj gw):=⟨rfl,rfl,rfl,by decide +kernel,rfl,by decide +kernel,by decide +kernel⟩
theorem uP(F:Fun K "copied" "copied" gw D.dZ D.h7)(T:Txt K mg D)
  (bZ:Ok P w K mg base 8 D.bu D.c7 ["source", "roots"] (sV D))
  (bK:Ok P w K mg base 1 D.aZ D.cJ ["things"] (xp))
  (aw:Ok P w K mg base 1 D.aU D.bJ ["self"] (h8 D))
  (eB:Ok P w K mg base 1 D.bj D.dr ["first", "things"] (yQ))
  (u7:Ok P w K mg base 6 D.jK D.rO ["memory", "a", "t", "values"] (wO D))
  (dD:Ok P w K mg base 3 D.cg D.eJ ["word", "places"] (yR))
  (ax:Ok P w K mg base 4 D.a9 D.bY ["self", "a", "word"] (jk D)):Ok P w K mg base 10 D.dZ D.h7 ["source", "target", "first", "roots"] (yT D):=by
 refine⟨?_,F.binds (ps:=["source", "target", "first", "roots"]) λ_ _ _ _ _ _ us hl=>match us,hl with|[_,_,_,_],_=>rfl⟩
 refine F.okE fi (λvs H Q E h=>?_) (λcdv A' outer s' H vs Q E hr h=>?_)
 ·obtain⟨m,mx,c,xs,ws,m2,mx2,c2,xs2,ws2,fs,l,ys,rs,f,tt,B,rfl,_⟩:=h
  rfl
 ·obtain⟨m,mx,c,xs,ws,m2,mx2,c2,xs2,ws2,fs,l,ys,rs,f,tt,B,rfl,M,M2,ncc,nlc,Eu,gm,hl,ry,S,fs0,room,k⟩:=h
  have hu:=iH hr;refine⟨_,(PSs.nox (af (aA (i:=4) fi.nd rfl (Or.inl rfl) (sO (aD bZ.g (hr.mono (by decide)) rfl T.iW T.eV bZ.b .nil bD (aa (pv 0) (aa (pv 3) ag)))))
   (af (aA (i:=5) fi.nd rfl (Or.inl rfl) (aD bK.g (hr.mono (by decide)) rfl T.iA T.eh bK.b .nil bD (aa (pv 4) ag)))
   (af (eR (PW.pt (pw_and (aM xf (pv 5) ai (bg _)) (pw_and1 (aM xf (av aP (pv 2) (pv 5)) (hX (pv 1) T.az T.cT aw.g (hr.mono (by decide)) aw.b .nil bD) (bg _)))))
    (ak wN)
    cu)
   (af (aA (i:=6) fi.nd rfl (Or.inr rfl) (sO (aD eB.g (hr.mono (by decide)) rfl T.lQ T.fX eB.b .nil bD (aa (pv 2) (aa (pv 4) ag)))))
   (af (dk Fn rfl (kN (pv 4)) (aC (i:=7) fi.nd rfl (Or.inl rfl))
    (af (aA (i:=8) fi.nd rfl (Or.inl rfl) (cn c6 (cY hu (pv 4) (pv 7) (λ_ _=>rfl)) ai (λ_ _=>rfl)))
    (af (bH (aD u7.g (hr.mono (by decide)) rfl T.Cn T.xn u7.b .nil bD (aa (pv 1) (aa (cY hu (pv 6) (pv 7) (λ_ _=>rfl)) (aa (cn c6 (cY hu (pv 4) (pv 7) (λ_ _=>rfl)) ai (λ_ _=>rfl)) (aa (gh (cl:=[("places",s'.heap.objs.size+1)]) (x := "word") (idx:=[6]) (NC:=["word", "places"]) (by exact dm (sc:=aj gw) (N:=jd) (ns:=["places"]) rfl rfl rfl (by decide +kernel) rfl rfl (by intro q hq;rw[ET.mp hq];rfl)) rfl (dj (pv 8)) (λC fp s₀ H₀=>(aD dD.g (hr.mono (by decide)) rfl T.jD T.fJ dD.b .nil m4 (aa (pv 0) (aa (pv 1) ag))))) ag))))))
    (ak (bH (dH (pv 0) T.az T.cK ax.g (hr.mono (by decide)) ax.b .nil bD (aa (pv 7) (aa (cB (aa di (aa (cY hu (pv 6) (pv 7) (λ_ _=>rfl)) (aa (aV aJ rfl T.eW PyProof.Rows.Boot.«len» (aa (pv 8) ag)) ag)))) ag))))))))
   (ak (aW (cB (aa (gh (cl:=[("places",s'.heap.objs.size+1)]) (x := "word") (idx:=[6]) (NC:=["word", "places"]) (by exact dm (sc:=aj gw) (N:=jd) (ns:=["places"]) rfl rfl rfl (by decide +kernel) rfl rfl (by intro q hq;rw[ET.mp hq];rfl)) rfl (dj (pv 3)) (λC fp s₀ H₀=>(aD dD.g (hr.mono (by decide)) rfl T.jD T.fJ dD.b .nil m4 (aa (pv 0) (aa (pv 1) ag))))) (aa (gh (cl:=[("places",s'.heap.objs.size+1)]) (x := "a") (idx:=[6]) (NC:=["a", "places"]) (by exact dm (sc:=aj gw) (N:=jd) (ns:=["places"]) rfl rfl rfl (by decide +kernel) rfl rfl (by intro q hq;rw[ET.mp hq];rfl)) rfl (kN (pv 6)) (λC fp s₀ H₀=>(cB (aa (pv 0) (aa (cY hu (pv 1) (pv 0) (λ_ _=>rfl)) ag))))) ag))))))))))),?_⟩
  have z:=M.z;have z2:=M2.z;refine⟨_,rfl,_,rfl,m,mx,c,xs,ws,l,ys,rs,f,tt,B,rfl,M,gm,hl,ry,S,λd kvs R H1 bf hB s1 hd0 hd dt=>⟨d,kvs,hd,λob=>?_⟩⟩;have lR:R.length≤10:=Fo (i6 dt.n hB) S.bl;have fl:∀ a∈R,(f a).length≤6:=λa m=>S.fl a (hB a m);have rm:=room R bf hB;have lt:=tV fl;have dt:=dt.keep (Kp.frz (o:=.frz ob (.dK kvs)) hd);have s2:ao H (upd H1 d (.frz ob (.dK kvs))):=λb u q=>by rw[ah (ae q hd0)];exact s1 _ _ q
  have hd2:upd H1 d (.frz ob (.dK kvs)) d=some (.frz ob (.dK kvs)):=ab;generalize upd H1 d (.frz ob (.dK kvs))=H2 at *;refine⟨_,rfl,d,ob,kvs,H,R,f,tt,rfl,hd2,dt,lR,fl,λH3 s3=>?_⟩;have M3:=M2.same (s2.trans s3);simp only[i8];refine tR λN hN=>?_;have kk:=k R;clear k;have tk0:(0:Int)≤tot f R:=Int.natCast_nonneg _;have nd:=dt.n;have pix:∀ {i:Nat} {a:Int},R[i]?=some a→plA f fs R a=fs+tot f (R.take i):=λh=>i4 nd h;obtain⟨g,eg⟩:∃ g,plA f fs R=g:=⟨_,rfl⟩;rw[eg]at kk pix;have wR:∀ w∈Wl rs f R,Okw w∧∀ a,w=.ad a→a∈R:=λw mw=>⟨(S.ok hB mw).1,λa e=>bf.mem (by rw[←e];exact mw)⟩;suffices hq:N [some (.ref m),some (.ref m2),some (.int fs),some (.ref l),some (.ref d),some (.int (tot f R)),none,none,none] H3 by
   refine⟨_,rfl,_,0,rfl,rfl,_,rfl,?_⟩;by_cases h0:(0:Int)<tot f R
   ·refine d0 (decide_eq_true h0) ⟨_,rfl,_,rfl,_,_,rfl,rfl,_,rfl,m2,_,_,rfl,M3.i,(by kernel_rfl),m2,mx2,c2,xs2,ws2,rfl,M3,_,_,rfl,rfl,_,rfl,cA (decide_eq_false (by omega)) hq⟩
   ·exact cA (decide_eq_false h0) hq
  refine hN _ _ ?_;refine⟨_,rfl,_,rfl,fs,d,ob,kvs,H,R,f,tt,rfl,s3 _ _ hd2,dt.keep (Kp.of s3),lR,λp kvp H4 s4 hp0 hp dg=>⟨p,kvp,hp,λop=>?_⟩⟩;rw[eg]at dg;have s5:ao H3 (upd H4 p (.frz op (.dK kvp))):=λb u q=>by rw[ah (ae q hp0)];exact s4 _ _ q
  have hp5:upd H4 p (.frz op (.dK kvp)) p=some (.frz op (.dK kvp)):=ab;generalize upd H4 p (.frz op (.dK kvp))=H5 at *;have sA:ao H H5:=(s2.trans s3).trans s5;have dt5:=dt.keep (Kp.of (H0:=H) (s3.trans s5));have hd5:=s5 _ _ (s3 _ _ hd2);have ek:=dt.k;unfold Kys at ek;have lk:=dt.k.len;have M5:=M.same sA;have M25:=M2.same sA;have kpt:∀ {b:Addr} {u:HO} {Hx:Hp},gP c c2 H5 Hx→(∀ xs,u≠.lst xs)→H5 b=some u→Hx b=some u:=λ{b u Hx} bx n q=>bx b u (λz=>by rw[z,M5.l]at q;exact n _ (Fg q).symm) (λz=>by rw[z,M25.l]at q;exact n _ (Fg q).symm) q;have tpx:∀ {Hx:Hp},gP c c2 H5 Hx→aX H5 Hx:=λbx=>bx.kC M5.l M25.l;refine⟨_,rfl,d,ob,kvs,rfl,hd5,qM (d:=d) (o:=ob) (kvs:=kvs) (λi σ Hx=>∃(v7 v8:Option V) (xs' vi:List V),σ=[some (.ref m),some (.ref m2),some (.int fs),some (.ref l),some (.ref d),some (.int (tot f R)),some (.ref p),v7,v8]∧gP c c2 H5 Hx∧Mm D Hx m mx c xs' (vh f g ws (R.take i))∧Mm D Hx m2 mx2 c2 vi (rV f g tt ws2 (R.take i))) ⟨none,none,xs,xs2,rfl,gP.same (ao.refl _),M5,M25⟩ (λi σ Hx _ ⟨_,_,_,_,_,bx,_⟩=>kpt bx (by intro xs z;cases z) hd5) ?_ ?_⟩
  ·rintro i pr σ Hx hpr ⟨v7,v8,xs',vi,rfl,bx,Mx,M2x⟩
   have hk:(kvs.map (·.1))[i]?=some pr.1:=(by rw[E3,hpr];rfl);rw[ek,E3]at hk;obtain⟨a,ha,ep⟩:=Fh.mp hk;have ma:=E6 ha;obtain⟨q,lf,zs,h1,h2,h3,h4,h5⟩:=dt5.v a ma;rw[←ep];have pl:=pix ha;have tt1:=lF (f:=f) ha;have fla:=fl a ma;obtain⟨tg,_⟩:=S.th a (hB a ma);obtain⟨a0,hwa,al⟩:=lj tg;have nf1:lf≠c:=λz=>by rw[z,M.l]at h3;cases h3
   have nf2:lf≠c2:=λz=>by rw[z,M2.l]at h3;cases h3
   have hdx:=kpt bx (by intro xs z;cases z) hd5;have hpx:=kpt bx (by intro xs z;cases z) hp5;have h2x:=tpx bx _ _ h2;have h4x:=bx _ _ nf1 nf2 h4;have h5x:=h5.keep (tpx bx);have e5:=h5.1;refine⟨_,rfl,_,rfl,d,_,rfl,.inl ⟨kvs,Sum.inl a,.inr ⟨ob,hdx⟩,rfl,h1.symm⟩,q,_,1,.ref lf,rfl,rfl,SqT.of h2x,rfl,?_⟩;refine⟨_,rfl,_,rfl,_,rfl,p,_,rfl,.inl ⟨kvp,Sum.inl a,.inr ⟨op,hpx⟩,rfl,(dg.v a ma).symm⟩,_,rfl,_,rfl,d,_,rfl,.inl ⟨kvs,Sum.inl a,.inr ⟨ob,hdx⟩,rfl,h1.symm⟩,q,_,0,.int (tt a),rfl,rfl,SqT.of h2x,rfl,_,rfl,lf,rfl,⟨_,SqL.of h4x⟩,λL hL=>?_⟩;refine gn (K:=K) (a:=lf) (xs:=zs) (λj ys Hc=>ao Hx Hc∧Hc L=some (.lst ys)∧MR Hc ys (((f a).take j).map (anew g))) ⟨ao.upd hL,ab,rfl,(λj v w h=>by cases h)⟩ (λj ys Hc hj ⟨_,y,r⟩=>⟨y,by rw[r.1,EU,Fb];omega⟩) (λj ys Hc _ ⟨sc,_⟩=>SqL.of (sc _ _ h4x)) (eP (by omega)) (λj v ys Hc hj ⟨sc,y,r⟩=>?_) (λys Hc ⟨sc,y,r⟩=>?_)
   ·have hjl:j<(f a).length:=by rw[←e5];exact(ER.mp hj).1
    have hw:(f a)[j]?=some (f a)[j]:=EO hjl;obtain⟨w,ew⟩:∃ w,(f a)[j]=w:=⟨_,rfl⟩;rw[ew]at hw;have mw:w∈Wl rs f R:=EW _ (Gz.mpr ⟨a,ma,E6 hw⟩);refine⟨_,rfl,_,rfl,v,w,p,kvp,R,g,rfl,(h5x.2 j v w hj hw).keep (aX.of sc),(wR w mw).1,.inr ⟨op,sc _ _ hpx⟩,dg,(wR w mw).2,λv' H' s' mv'=>⟨s' _ _ y,λb u z=>by rw[ah (ae z hL)];exact s' _ _ (sc b u z),ab,?_⟩⟩;have tu:aX H' (upd H' L (.lst (ys++[v']))):=λb us z=>by rw[ah (bB z (s' _ _ y) (by intro z;cases z))];exact z
    rw[aN hw,Fd];exact((r.keep (aX.of s')).snoc mv').keep tu
   ·rw[e5,E1 (EV _)]at r
    have M2c:=M2x.same sc;have Ew:L≠c2:=FC (ae M2x.l hL);have nLc:L≠c:=FC (ae Mx.l hL);refine⟨m2,mx2,c2,vi,_,g a,tt a,L,ys,_,rfl,M2c,y,r,Ew,by omega,by rw[qV,EU];omega,λxs3 H6 b6 M26=>?_⟩;have Mc:=(Mx.same sc).but b6 ncc M2c.l;have hp6:=b6 _ _ (bB (sc _ _ hpx) M2c.l (by intro z;cases z)) (sc _ _ hpx);have h46:=b6 _ _ nf2 (sc _ _ h4x);refine⟨_,rfl,m,_,_,rfl,Mc.i,(by kernel_rfl),_,rfl,_,rfl,_,rfl,p,_,rfl,.inl ⟨kvp,Sum.inl a,.inr ⟨op,hp6⟩,rfl,(dg.v a ma).symm⟩,_,rfl,lf,_,rfl,.inl (SqL.of h46),by show 3≤sizeLine;decide,λt7 ht7=>?_⟩;have s7:=ao.upd (o:=.tup [V.str "moved",V.int (g a),V.int zs.length]) ht7;have M7:=Mc.same s7;refine⟨m,mx,c,xs',_,a,.ref t7,.mv (g a) (f a).length,rfl,M7,Sm.of (by omega) (by omega),.inr ⟨(by intro z;cases z),t7,rfl,by rw[ab,e5];rfl⟩,?_⟩;rw[vO,if_pos ⟨a0,by omega⟩];intro M8;have bz:But c (upd H6 t7 (.tup [V.str "moved",V.int (g a),V.int zs.length])) _:=But.self (o:=.lst (xs'.set a.toNat (.ref t7)));refine⟨some (.int a),some (.ref lf),xs'.set a.toNat (.ref t7),xs3,rfl,((bx.trans (gP.same sc)).trans (gP.r b6)).trans ((gP.same s7).trans (gP.l bz)),?_,?_⟩
    ·rw[aN ha,uN]
     exact M8
    ·rw[aN ha,uO]
     exact(M26.same s7).but bz (FC ncc) M7.l
  ·rintro σ Hx ⟨v7,v8,xs',vi,rfl,bx,Mx,M2x⟩
   rw[lk,E1 (EV _)]at Mx M2x;have hpx:=kpt bx (by intro xs z;cases z) hp5;have hlx:=bx _ _ nlc Eu (sA _ _ hl);have ryx:=(ry.keep (aX.of sA)).keep (tpx bx);have er:=ry.1;have rl:=S.rl;refine⟨_,rfl,l,rfl,⟨_,SqL.of hlx⟩,λL1 hL1=>?_⟩;refine gn (K:=K) (a:=l) (xs:=ys) (λj zs Hc=>ao Hx Hc∧Hc L1=some (.lst zs)∧MR Hc zs ((rs.take j).map (anew g))) ⟨ao.upd hL1,ab,rfl,(λj v w h=>by cases h)⟩ (λj zs Hc hj ⟨_,y,r⟩=>⟨y,by rw[r.1,EU,Fb];omega⟩) (λj zs Hc _ ⟨sc,_⟩=>SqL.of (sc _ _ hlx)) (eP (by omega)) (λj v zs Hc hj ⟨sc,y,r⟩=>?_) (λzs Hc ⟨sc,y,r⟩=>?_)
   ·have hjl:j<rs.length:=by rw[←er];exact(ER.mp hj).1
    have hw:rs[j]?=some rs[j]:=EO hjl;obtain⟨w,ew⟩:∃ w,rs[j]=w:=⟨_,rfl⟩;rw[ew]at hw;have mw:w∈Wl rs f R:=FK _ (E6 hw);refine⟨_,rfl,_,rfl,v,w,p,kvp,R,g,rfl,(ryx.2 j v w hj hw).keep (aX.of sc),(wR w mw).1,.inr ⟨op,sc _ _ hpx⟩,dg,(wR w mw).2,λv' H' s' mv'=>⟨s' _ _ y,λb u z=>by rw[ah (ae z hL1)];exact s' _ _ (sc b u z),ab,?_⟩⟩;have tu:aX H' (upd H' L1 (.lst (zs++[v']))):=λb us z=>by rw[ah (bB z (s' _ _ y) (by intro z;cases z))];exact z
    rw[aN hw,Fd];exact((r.keep (aX.of s')).snoc mv').keep tu
   ·rw[er,E1 (EV _)]at r
    have lp:=dg.k.len;have eg2:=dg.k;unfold Kys at eg2;have hpc:=sc _ _ hpx;refine⟨_,rfl,p,op,kvp,rfl,hpc,λL2 hL2=>?_⟩;refine nK (d:=p) (o:=op) (kvs:=kvp) (λj ps Hd=>ao Hc Hd∧Hd L2=some (.lst ps)∧Prs Hd ps (R.take j) g) ⟨ao.upd hL2,ab,rfl,(λj v w h=>by cases h)⟩ (λj ps Hd hj ⟨_,y,r⟩=>⟨y,by rw[r.1,Fb];omega⟩) (λj ps Hd _ ⟨sd,_⟩=>sd _ _ hpc) (eP (by omega)) (λj pr ps Hd hj ⟨sd,y2,r2⟩=>?_) (λps Hd ⟨sd,y2,r2⟩=>?_)
    ·have hk:(kvp.map (·.1))[j]?=some pr.1:=by rw[E3,hj];rfl
     rw[eg2,E3]at hk;obtain⟨a,ha,ep⟩:=Fh.mp hk;have ma:=E6 ha;rw[←ep];refine⟨_,rfl,_,rfl,_,rfl,p,_,rfl,.inl ⟨kvp,Sum.inl a,.inr ⟨op,sd _ _ hpc⟩,rfl,(dg.v a ma).symm⟩,by show 2≤sizeLine;decide,λt9 h9=>?_⟩;have s9:=ao.upd (o:=.tup [V.int a,V.int (g a)]) h9;have z9:=s9 _ _ y2;refine⟨z9,λb u z=>by rw[ah (ae z hL2)];exact s9 _ _ (sd b u z),ab,?_⟩;rw[aN ha];exact((r2.keep (aX.of s9)).snoc ab).keep λb us z=>by rw[ah (bB z z9 (by intro z;cases z))];exact z
    ·rw[lp,E1 (EV _)]at r2
     refine⟨by show 2≤sizeLine;decide,λpp hpp=>?_⟩;have s10:=ao.upd (o:=.tup [V.ref L1,V.ref L2]) hpp;have sF:=(sc.trans sd).trans s10;have n1:H L1=none:=by
      cases e:H L1 with
      | none=>rfl
      | some u =>
       exfalso;by_cases c1:L1=c
       ·rw[c1,Mx.l]at hL1;cases hL1
       ·by_cases c2':L1=c2
        ·rw[c2',M2x.l]at hL1;cases hL1
        ·rw[bx _ _ c1 c2' (sA _ _ e)]at hL1;cases hL1
     have n2:H L2=none:=by
      cases e:H L2 with
      | none=>rfl
      | some u =>
       exfalso;have wQ:=ao.none sc hL2;by_cases c1:L2=c
       ·rw[c1,Mx.l]at wQ;cases wQ
       ·by_cases c2':L2=c2
        ·rw[c2',M2x.l]at wQ;cases wQ
        ·rw[bx _ _ c1 c2' (sA _ _ e)]at wQ;cases wQ
     exact kk pp L1 zs L2 ps xs' vi _ bf hB (((gP.same sA).trans bx).trans (gP.same sF)) (Mx.same sF) (M2x.same sF) n1 n2 ab ((sd.trans s10) _ _ y) (r.keep (aX.of (sd.trans s10))) (s10 _ _ y2) (r2.keep (aX.of s10))
end
end K40
end
section
namespace L2
open PySem PySem.Spec PyProof.Rows LX
def Ex:List V→Hp→VK→Prop:=λvs H Q=>∃ n:Int,vs=[.int n]∧∀ r,H r=none→Q (.ref r) (upd H r (.rng 0 n))
section
variable{X:Cx}
theorem vP:jH X (.type "range") Ex:=by
 rintro pins s σ H xs us Q I r ⟨n,rfl,q⟩;obtain⟨u,rfl,t,rfl⟩:=r.one;refine call_range_1 ⟨.ref s.heap.objs.size,_,I.laid (a:=s.heap.objs.size) (o:=.rng 0 n) (t':=s.toks+1+1) (λb o e=>ES _ e) (EV _) ⟨_,_,_,Ff _ rfl⟩,rfl,q _ (I.hok.fresh (EV _))⟩
end
end L2
end
section
namespace K40
open PySem L2 LX
section
variable{P:Program}{w:World}{K:W.Frag}{mg:Str→Option Value}{base:Heap}{D:Ad}
theorem pz{H H':Hp}{a:Addr}{xs:List V}(h:SqL K H a xs)(s:ao H H'):SqL K H' a xs:=Or.imp (λr=>Or.elim r (λe=>.inl (s _ _ e)) λ⟨o,e⟩=>.inr ⟨o,s _ _ e⟩) id h
def pA(K:W.Frag):Sp:=λvs H Q _=>∃(a:Addr) (ns:List Int) (j:Int),vs=[.ref a,.int j]∧SqL K H a (ns.map V.int)∧0≤j∧Q (.int (ns.getD j.toNat 0)) H
abbrev p8:List Str:=["script", "k"]
theorem oi:aG p8 ["script", "k"] (aj g8):=⟨rfl,rfl,rfl,by decide +kernel,rfl,by decide +kernel,by decide +kernel⟩
theorem oj(F:Fun K "_law_cell" "_law_cell" g8 D.bP D.dB)(T:Txt K mg D):Ok P w K mg base 1 D.bP D.dB ["script", "k"] (pA K):=by
 refine⟨?_,F.binds (ps:=["script", "k"]) λ_ _ _ _ _ _ us hl=>match us,hl with|[_,_],_=>rfl⟩
 refine F.okE oi (λvs H Q E h=>?_) (λcdv A' outer s' H vs Q E hr h=>?_)
 ·obtain⟨a,ns,j,rfl,_⟩:=h
  rfl
 ·obtain⟨a,ns,j,rfl,hS,j0,k⟩:=h
  refine⟨_,(PSs.nox (af (eR (aM pB (pv 1) (aV aJ rfl T.eW PyProof.Rows.Boot.«len» (aa (pv 0) ag)) (bg _))
    (ak (aW (cn cX (pv 0) (pv 1) (λ_ _=>rfl))))
    cu)
   (ak (aW ai)))),?_⟩
  refine⟨_,rfl,_,rfl,a,_,rfl,.inl hS,j,_,rfl,rfl,_,rfl,kH (λh=>?_) (λh=>?_)⟩
  case refine_2 =>
   have hl:ns.length≤j.toNat:=by
    have h:=of_decide_eq_false (Bool.eq_false_iff.mpr h);rw[EU]at h;omega
   rw[Fe,List.getElem?_eq_none_iff.mpr hl]at k;exact k
  have hl:j.toNat<ns.length:=by
   have:=of_decide_eq_true h
   rw[EU]at this;omega
  exact⟨_,rfl,_,rfl,a,_,j,.int ns[j.toNat],rfl,rfl,hS,fh j0 (by rw[E3,EO hl];rfl),by rw[Fe,EO hl]at k;exact k⟩
def nN:Sp:=λvs H Q _=>∃ c:Int,vs=[.int c]∧∀(p:Addr) (ds:List Int) (H':Hp),ao H H'→H' p=some (.lst (ds.map V.int))→H p=none→ds.length=6→Q (.ref p) H'
abbrev md:List Str:=["cell", "rest", "told", "k", "near"]
theorem bS:aG md ["cell"] (aj fS):=⟨rfl,rfl,rfl,by decide +kernel,rfl,by decide +kernel,by decide +kernel⟩
theorem ke(F:Fun K "_law_digits" "_law_digits" fS D.bo D.du)(T:Txt K mg D):Ok P w K mg base 1 D.bo D.du ["cell"] (nN):=by
 refine⟨?_,F.binds (ps:=["cell"]) λ_ _ _ _ _ _ us hl=>match us,hl with|[_],_=>rfl⟩
 refine F.okE bS (λvs H Q E h=>?_) (λcdv A' outer s' H vs Q E hr h=>?_)
 ·obtain⟨c,rfl,_⟩:=h
  rfl
 ·obtain⟨c,rfl,k⟩:=h
  refine⟨_,(PSs.nox (af (aA (i:=1) bS.nd rfl (Or.inl rfl) (av d5 (pv 0) ai))
   (af (aA (i:=2) bS.nd rfl (Or.inl rfl) (gv ag))
   (af (dk Fn rfl (dh rfl T.dI (aa ai ag)) (aC (i:=3) bS.nd rfl (Or.inl rfl))
    (ak (eR (aM uZ (av cm (pv 0) ai) ai (bg _))
     (af (bH (kG PySem.F.plainAttrs_list PySem.F.slot_list_append PySem.F.type_list_append dF (pv 2) (aa (av cm (pv 1) ai) ag)))
     (ak (aA (i:=1) bS.nd rfl (Or.inl rfl) (av d5 (pv 1) ai))))
     (af (aA (i:=4) bS.nd rfl (Or.inl rfl) (av cm (av aP (av aP (pv 1) (av gu ai (pv 3))) ai) ai))
     (af (aA (i:=4) bS.nd rfl (Or.inl rfl) (av aP (av cm (av gu (pv 4) (pv 4)) ai) (av gu ai (pv 3))))
     (ak (bH (kG PySem.F.plainAttrs_list PySem.F.slot_list_append PySem.F.type_list_append dF (pv 2) (aa (av cm (av d5 (av cm (av gu (pv 4) (pv 4)) ai) ai) ai) ag)))))))))
   (ak (aW (pv 2))))))),?_⟩
  refine⟨_,rfl,c,2,rfl,rfl,⟨by decide,by decide⟩,by show 0≤sizeLine;exact Fj _,λp hp=>?_⟩;refine⟨6,rfl,by decide,by decide,jq (lo:=0) (n:=6) (λi σ H2=>∃(r:Int) (v3 v4:Option V) (ds:List Int),σ=[some (.int c),some (.int r),some (.ref p),v3,v4]∧ao H H2∧H2 p=some (.lst (ds.map V.int))∧ds.length=i)
   ⟨_,none,none,[],rfl,ao.upd hp,ab,rfl⟩ ?_ ?_⟩
  ·rintro i σ H2 hi ⟨r,v3,v4,ds,rfl,s2,z,hl⟩
   have fin:∀ d:Int,ao H (upd H2 p (.lst (ds.map V.int++[V.int d])))∧upd H2 p (.lst (ds.map V.int++[V.int d])) p=some (.lst ((ds++[d]).map V.int))∧(ds++[d]).length=i+1:=λd =>
    ⟨λb u q=>by rw[ah (ae q hp)];exact s2 b u q,by rw[ab,Fd];rfl,by rw[E5,hl];rfl⟩
   have hz:(ds.map V.int).length<sizeLine:=(by rw[EU,hl];exact Nat.lt_trans hi (by decide));refine⟨_,rfl,c,2,rfl,rfl,(by show(0:Int)<2;decide),rfl,_,rfl,kH (λ_=>?_) (λ_=>?_)⟩
   ·refine⟨_,rfl,.inl ⟨rfl,_,SqL.of z⟩,_,rfl,r,60,rfl,rfl,(by show(0:Int)<60;decide),p,_,_,rfl,rfl,z,hz,?_⟩
    refine⟨_,rfl,r,60,rfl,rfl,⟨by decide,by decide⟩,?_⟩;exact⟨_,_,_,_,rfl,fin _⟩
   ·refine⟨_,rfl,_,rfl,7919,_,rfl,rfl,.inl ⟨by decide,by decide⟩,r,_,rfl,rfl,_,11,rfl,rfl,_,2305843009213693951,rfl,rfl,(by show(0:Int)<2305843009213693951;decide),?_⟩
    have b0:=Fu (r+7919*(0+(i:Int))+11) (show(2305843009213693951:Int)≠0 by decide);have b1:=Fp (r+7919*(0+(i:Int))+11) (show(0:Int)<2305843009213693951 by decide);obtain⟨n1,e1⟩:∃ n1,(r+7919*(0+(i:Int))+11)%2305843009213693951=n1:=⟨_,rfl⟩;rw[e1]at b0 b1;have c0:=Fu (n1*n1) (show(1000000007:Int)≠0 by decide);have c1:=Fp (n1*n1) (show(0:Int)<1000000007 by decide);refine⟨_,rfl,_,rfl,_,_,rfl,rfl,.inl ?_,_,1000000007,rfl,rfl,(by show(0:Int)<1000000007;decide),_,rfl,31,_,rfl,rfl,.inl ⟨by decide,by decide⟩,_,_,rfl,rfl,?_⟩
    ·show _<(r+7919*(0+(i:Int))+11)%2305843009213693951∧(r+7919*(0+(i:Int))+11)%2305843009213693951<_
     rw[e1];omega
    ·refine⟨_,rfl,.inl ⟨rfl,_,SqL.of z⟩,_,rfl,_,rfl,_,_,rfl,rfl,.inl ?_,_,998244353,rfl,rfl,(by show(0:Int)<998244353;decide),_,8,rfl,rfl,⟨by decide,by decide⟩,_,60,rfl,rfl,(by show(0:Int)<60;decide),p,_,_,rfl,rfl,z,hz,?_⟩
     ·show _<(r+7919*(0+(i:Int))+11)%2305843009213693951*((r+7919*(0+(i:Int))+11)%2305843009213693951)%1000000007+31*(0+(i:Int))∧(r+7919*(0+(i:Int))+11)%2305843009213693951*((r+7919*(0+(i:Int))+11)%2305843009213693951)%1000000007+31*(0+(i:Int))<_
      rw[e1];omega
     ·exact⟨_,_,_,_,rfl,fin _⟩
  ·rintro σ H2 ⟨r,v3,v4,ds,rfl,s2,z,hl⟩
   exact⟨_,rfl,k p ds H2 s2 z hp hl⟩
def nO(K:W.Frag):Sp:=λvs H Q _=>∃(a:Addr) (ns:List Int),vs=[.ref a,.int 130]∧SqL K H a (ns.map V.int)∧ns.length≤1000∧∀(p:Addr) (ds:List Int) (H':Hp),ao H H'→H' p=some (.lst (ds.map V.int))→H p=none→ds.length=130→Q (.ref p) H'
abbrev iC:List Str:=["script", "many", "told", "k", "cell", "place", "digit", "at"]
theorem bT:aG iC ["script", "many"] (aj ed):=⟨rfl,rfl,rfl,by decide +kernel,rfl,by decide +kernel,by decide +kernel⟩
theorem kf(F:Fun K "_law_stream" "_law_stream" ed D.bq D.dw)(T:Txt K mg D)
  (eC:Ok P w K mg base 1 D.bo D.du ["cell"] (nN)):Ok P w K mg base 2 D.bq D.dw ["script", "many"] (nO K):=by
 refine⟨?_,F.binds (ps:=["script", "many"]) λ_ _ _ _ _ _ us hl=>match us,hl with|[_,_],_=>rfl⟩
 refine F.okE bT (λvs H Q E h=>?_) (λcdv A' outer s' H vs Q E hr h=>?_)
 ·obtain⟨a,ns,rfl,_⟩:=h
  rfl
 ·obtain⟨a,ns,rfl,hS,hz,k⟩:=h
  refine⟨_,(PSs.nox (af (jj (cl:=[]) (x := "k") (idx:=[]) (NC:=["k"]) (i:=2) bT.nd rfl rfl (by exact dm (sc:=aj ed) (N:=iC) (ns:=[]) rfl rfl rfl (by decide +kernel) rfl rfl (by intro q hq;cases hq)) rfl (dh rfl T.dI (aa (pv 1) ag)) (λC fp s₀ H₀=>(av cm (av aP (av aP (av gu (av gu (pv 0) (pv 0)) ai) (av gu ai (pv 0))) ai) ai)))
   (af (dk Fn rfl (ji rfl T.cW (aa (pv 0) ag)) (fM rfl (aH (aC (i:=3) bT.nd rfl (Or.inl rfl)) (aH (aC (i:=4) bT.nd rfl (Or.inl rfl)) d4)))
    (ak (dk Fn rfl (ji rfl T.cW (aa (aD eC.g (hr.mono (by decide)) rfl T.lS T.fY eC.b .nil bD (aa (pv 4) ag)) ag)) (fM rfl (aH (aC (i:=5) bT.nd rfl (Or.inl rfl)) (aH (aC (i:=6) bT.nd rfl (Or.inl rfl)) d4)))
     (af (aA (i:=7) bT.nd rfl (Or.inl rfl) (av cm (av aP (av gu ai (pv 3)) (pv 5)) (pv 1)))
     (ak (jU (av cm (av aP (av gu (cn cX (pv 2) (pv 7) (λ_ _=>rfl)) ai) (pv 6)) ai) (lJ (pv 2) (pv 7) set_list)))))))
   (ak (aW (pv 2)))))),?_⟩
  refine⟨_,rfl,130,rfl,by decide,by decide,λDd hD=>?_⟩;refine d6 (lo:=0) (n:=130) (λi zs H2=>∃ ds:List Int,zs=ds.map V.int∧ds.length=i∧ao H H2∧H2 Dd=some (.lst zs)) ⟨[],rfl,rfl,ao.upd hD,ab⟩ (λi zs H2 hi ⟨ds,e,l,_,z⟩=>⟨z,by rw[e,EU];exact l⟩)
   (by decide) (λi zs H2 hi ⟨ds,e,l,s2,z⟩=>?_) (λzs H2 ⟨ds,e,l,s2,z⟩=>?_)
  ·refine⟨_,rfl,_,rfl,0+(i:Int),0+(i:Int),rfl,rfl,.inl ⟨by omega,by omega⟩,_,7,rfl,rfl,.inr ⟨by decide,by decide⟩,_,rfl,13,_,rfl,rfl,.inl ⟨by decide,by decide⟩,_,_,rfl,rfl,_,5,rfl,rfl,_,61,rfl,rfl,(by show(0:Int)<61;decide),z,ds++[((0+(i:Int))*(0+(i:Int))*7+13*(0+(i:Int))+5)%61],?_,?_,?_,ab⟩
   ·rw[Fd,e];rfl
   ·rw[E5,l];rfl
   ·exact λb u q=>by rw[ah (ae q hD)];exact s2 b u q
  ·have fin:∀ {H3:Hp} {zs:List V},ao H H3→ao H (upd H3 Dd (.lst zs)):=λs3 b u q=>by rw[ah (ae q hD)];exact s3 b u q
   refine⟨_,rfl,a,rfl,⟨_,pz hS s2⟩,hZ (K:=K) (a:=a) (xs:=ns.map V.int) (λi σ H3=>∃(v3 v4 v5 v6 v7:Option V) (ds:List Int),σ=[some (.ref a),some (.int 130),some (.ref Dd),v3,v4,v5,v6,v7]∧ao H H3∧H3 Dd=some (.lst (ds.map V.int))∧ds.length=130)
    ⟨none,none,none,none,none,ds,rfl,s2,by rw[←e];exact z,l⟩ (λi σ H3 _ ⟨_,_,_,_,_,_,_,s3,_⟩=>pz hS s3) ?_ ?_⟩
   ·rintro i x σ H3 t hi ⟨v3,v4,v5,v6,v7,ds3,rfl,s3,z3,l3⟩ ht
    have hlt:i<ns.length:=(by have:=(ER.mp hi).1;rwa[EU]at this);rw[E3]at hi;obtain⟨n,hn,rfl⟩:=Fh.mp hi;have s4:ao H (upd H3 t (.tup [.int (i:Int),.int n])):=s3.trans (ao.upd ht);have z4:upd H3 t (.tup [.int (i:Int),.int n]) Dd=some (.lst (ds3.map V.int)):=(by rw[ah (ae z3 ht)];exact z3);refine⟨t,_,rfl,SqT.of ab,rfl,_,_,rfl,_,_,rfl,rfl,?_⟩;refine⟨_,rfl,n,rfl,λp2 ds2 H5 s5 z5 hp2 l2=>?_⟩;have nD:Dd≠p2:=ae z4 hp2;refine⟨p2,rfl,⟨_,SqL.of z5⟩,hZ (K:=K) (a:=p2) (xs:=ds2.map V.int) (λj σ H6=>∃(v5 v6 v7:Option V) (ds:List Int),σ=[some (.ref a),some (.int 130),some (.ref Dd),some (.int (i:Int)),some (.int n),v5,v6,v7]∧ao H H6∧H6 Dd=some (.lst (ds.map V.int))∧ds.length=130∧H6 p2=some (.lst (ds2.map V.int)))
     ⟨_,_,_,ds3,rfl,s4.trans s5,s5 _ _ z4,l3,z5⟩ (λj σ H6 _ ⟨_,_,_,_,_,_,_,_,q⟩=>SqL.of q) ?_ ?_⟩
    ·rintro j y σ H6 t2 hj ⟨v5,v6,v7,ds6,rfl,s6,z6,l6,q6⟩ ht2
     have hjt:j<ds2.length:=(by have:=(ER.mp hj).1;rwa[EU]at this);rw[E3]at hj;obtain⟨d,hd,rfl⟩:=Fh.mp hj;have s7:ao H (upd H6 t2 (.tup [.int (j:Int),.int d])):=s6.trans (ao.upd ht2);have z7:upd H6 t2 (.tup [.int (j:Int),.int d]) Dd=some (.lst (ds6.map V.int)):=(by rw[ah (ae z6 ht2)];exact z6);have q7:upd H6 t2 (.tup [.int (j:Int),.int d]) p2=some (.lst (ds2.map V.int)):=(by rw[ah (ae q6 ht2)];exact q6);refine⟨t2,_,rfl,SqT.of ab,rfl,_,_,rfl,_,_,rfl,rfl,?_⟩;refine⟨_,rfl,6,_,rfl,rfl,.inl ⟨by decide,by decide⟩,_,rfl,_,_,rfl,rfl,_,rfl,_,130,rfl,rfl,(by show(0:Int)<130;decide),?_⟩;have b0:=Fu (6*(i:Int)+(j:Int)) (show(130:Int)≠0 by decide);have b1:=Fp (6*(i:Int)+(j:Int)) (show(0:Int)<130 by decide);obtain⟨m,em⟩:∃ m:Nat,(6*(i:Int)+(j:Int))%130=(m:Int):=⟨((6*(i:Int)+(j:Int))%130).toNat,by omega⟩;have hm:m<ds6.length:=(by omega);have hat:atI (ds6.map V.int) ((6*(i:Int)+(j:Int))%130)=some (.int (ds6[m]'hm)):=by
      rw[em];exact tL (by rw[E3,EO hm];rfl)
     have hix:ixN (ds6.map V.int).length ((6*(i:Int)+(j:Int))%130)=some m:=by
      rw[em];unfold ixN;rw[if_pos (by omega),if_pos (by rw[EU];omega)];rfl
     refine⟨_,rfl,_,rfl,Dd,_,_,.int (ds6[m]'hm),rfl,rfl,SqL.of z7,hat,_,7,rfl,rfl,.inr ⟨by decide,by decide⟩,_,rfl,_,_,rfl,rfl,_,100003,rfl,rfl,(by show(0:Int)<100003;decide),?_⟩;refine⟨_,rfl,_,rfl,Dd,_,_,m,rfl,rfl,z7,hix,?_⟩;refine⟨_,_,_,ds6.set m ((ds6[m]'hm*7+d)%100003),rfl,fin s7,?_,by rw[Fw];exact l6,?_⟩
     ·rw[ab,List.map_set]
     ·rw[ah (FC nD)]
      exact q7
    ·rintro σ H6 ⟨v5,v6,v7,ds6,rfl,s6,z6,l6,_⟩
     exact⟨_,_,_,_,_,ds6,rfl,s6,z6,l6⟩
   ·rintro σ H3 ⟨v3,v4,v5,v6,v7,ds3,rfl,s3,z3,l3⟩
    exact⟨_,rfl,k Dd ds3 H3 s3 z3 hD l3⟩
def Wby(ps:List Int)(w:Mw):Prop:=w=.no∨(∃ z,w=.num z)∨∃ a∈ps,w=.ad a
def yU:Sp:=λvs H Q _=>∃(n:Int) (lp:Addr) (ps:List Int),vs=[.int n,.ref lp]∧H lp=some (.lst (ps.map V.int))∧∀ v w H',ao H H'→MV H' v w→Wby ps w→Q v H'
abbrev kg:List Str:=["number", "places"]
theorem jR:aG kg ["number", "places"] (aj fe):=⟨rfl,rfl,rfl,by decide +kernel,rfl,by decide +kernel,by decide +kernel⟩
theorem jS(F:Fun K "_law_word_by" "_law_word_by" fe D.a8 D.cS)(T:Txt K mg D):Ok P w K mg base 1 D.a8 D.cS ["number", "places"] (yU):=by
 refine⟨?_,F.binds (ps:=["number", "places"]) λ_ _ _ _ _ _ us hl=>match us,hl with|[_,_],_=>rfl⟩
 refine F.okE jR (λvs H Q E h=>?_) (λcdv A' outer s' H vs Q E hr h=>?_)
 ·obtain⟨n,lp,ps,rfl,_⟩:=h
  rfl
 ·obtain⟨n,lp,ps,rfl,hl,k⟩:=h
  have hu:=Nat.lt_of_succ_lt (iH hr);refine⟨_,(PSs.nox (af (eR (PW.pt (pw_or (aM uZ (av cm (pv 0) ai) ai (bg _)) (pw_or1 (PW.pt (pw_and (aM xf (av cm (pv 0) ai) ai (bg _)) (pw_and1 (aM (zQ hu) (pv 1) (gv ag) (bg _))))))))
    (ak (aW (cB (aa di (aa (av zu (av d5 (pv 0) ai) ai) ag)))))
    cu)
   (af (eR (aM uZ (av cm (pv 0) ai) ai (bg _))
    (ak (aW gR))
    cu)
   (ak (aW (cB (aa di (aa (cn cX (pv 1) (av cm (av d5 (pv 0) ai) (aV aJ rfl T.eW PyProof.Rows.Boot.«len» (aa (pv 1) ag))) (λ_ _=>rfl)) ag)))))))),?_⟩
  refine⟨_,rfl,n,4,rfl,rfl,(by show(0:Int)<4;decide),rfl,_,rfl,kH (λ_=>vf ⟨_,rfl,n,4,rfl,rfl,⟨by decide,by decide⟩,_,5000,rfl,rfl,by show 2≤sizeLine;decide,λq hq=>k _ (.num (n/4-5000)) _ (ao.upd hq) (.inr ⟨(by intro z;cases z),q,rfl,ab⟩) (.inr (.inl ⟨_,rfl⟩))⟩) (λh1=>?_)⟩;have m0:=Fu n (show(4:Int)≠0 by decide);have m1:=Fp n (show(0:Int)<4 by decide);have r1:n%4≠1:=λe=>h1 (by show decide (V.int (n%4)=V.int 1)=true;rw[e];rfl);refine⟨_,rfl,n,4,rfl,rfl,(by show(0:Int)<4;decide),_,1,rfl,rfl,_,rfl,?_⟩;by_cases c2:1<n%4
  ·refine d0 (decide_eq_true c2) ⟨_,rfl,by show 0≤sizeLine;exact Fj _,λe he=>?_⟩
   have s1:=ao.upd (o:=.lst []) he;refine⟨lp,e,ps,[],rfl,rfl,SqL.of (s1 _ _ hl),SqL.of ab,_,rfl,?_⟩;by_cases cp:ps=[]
   ·exact d0 (decide_eq_true cp) ⟨_,rfl,n,4,rfl,rfl,⟨by decide,by decide⟩,_,5000,rfl,rfl,by show 2≤sizeLine;decide,λq hq=>k _ (.num (n/4-5000)) _ (s1.trans (ao.upd hq)) (.inr ⟨(by intro z;cases z),q,rfl,ab⟩) (.inr (.inl ⟨_,rfl⟩))⟩
   ·have lz:0<ps.length:=List.length_pos_iff.mpr cp
    have q0:=Fu (n/4) (show(ps.length:Int)≠0 by omega);have q1:=Fp (n/4) (show(0:Int)<ps.length by omega);have hx:ps[(n/4%(ps.length:Int)).toNat]?=some (ps[(n/4%(ps.length:Int)).toNat]'(by omega)):=EO _;refine cA (decide_eq_false cp) ⟨_,rfl,n,4,rfl,rfl,(by show(0:Int)<4;decide),rfl,_,rfl,cA (by simp;omega) ⟨_,rfl,_,rfl,n,4,rfl,rfl,⟨by decide,by decide⟩,_,rfl,lp,_,rfl,.inl (SqL.of (s1 _ _ hl)),_,_,rfl,rfl,?_,lp,_,_,.int _,rfl,rfl,SqL.of (s1 _ _ hl),fh ?_ (by rw[EU,E3,hx];rfl),by show 2≤sizeLine;decide,λq hq=>k _ (.ad _) _ (s1.trans (ao.upd hq)) (.inr ⟨(by intro z;cases z),q,rfl,ab⟩) (.inr (.inr ⟨_,E6 hx,rfl⟩))⟩⟩
    ·rw[EU];omega
    ·rw[EU];exact q0
  ·refine cA (decide_eq_false c2) (yB ⟨_,rfl,n,4,rfl,rfl,(by show(0:Int)<4;decide),rfl,_,rfl,d0 (by simp;omega) ?_⟩)
   exact k .non .no H (ao.refl _) (.inl ⟨rfl,rfl⟩) (.inl rfl)
theorem Ds(ns:List Int)(lo hi:Option Int):ve (ns.map V.int) lo hi=((ns.drop (HT.sIx ns.length 0 lo)).take (HT.sIx ns.length ns.length hi-HT.sIx ns.length 0 lo)).map V.int:=by
 unfold ve;rw[EU,List.map_take,List.map_drop]
theorem Dt(ds:List Int)(u s:Nat)(h:u+s≤ds.length){lo hi:Int}(e1:lo=u)(e2:hi=((u+s:Nat):Int)):∃ cs:List Int,ve (ds.map V.int) (some lo) (some hi)=cs.map V.int∧cs.length=s:=by
 subst e1 e2;refine⟨_,Ds ds _ _,?_⟩;rw[HT.tI,HT.tI,Fb,FV];omega
def BP(Pt:Addr)(H H':Hp):Prop:=But Pt H H'∧∃ ps,H' Pt=some (.tbl ps)
theorem BP.same{Pt:Addr}{H H1 H2:Hp}(b:BP Pt H H1)(s:ao H1 H2):BP Pt H H2:=⟨b.1.trans (But.same s),let ⟨ps,e⟩:=b.2;⟨ps,s _ _ e⟩⟩
theorem BP.low{Pt:Addr}{H H1 H2:Hp}(b:BP Pt H1 H2)(s:ao H H1):BP Pt H H2:=⟨(But.same s).trans b.1,b.2⟩
theorem BP.non{Pt:Addr}{H H':Hp}(b:BP Pt H H'){x:Addr}(h:H' x=none):H x=none:=by
 cases e:H x with
 | none=>rfl
 | some u =>
  by_cases c:x=Pt
  ·obtain⟨ps,q⟩:=b.2
   rw[c,q]at h;cases h
  ·rw[b.1 _ _ c e]at h;cases h
theorem BP.put{Pt:Addr}{H H':Hp}(b:BP Pt H H'){x:Addr}{o:HO}(h:H x=none)(n:x≠Pt):BP Pt H (upd H' x o) :=
 ⟨λy u ny q=>by rw[ah (ae q h)];exact b.1 y u ny q,let ⟨ps,e⟩:=b.2;⟨ps,by rw[ah (FC n)];exact e⟩⟩
structure yV(zs pl:List Int)(dn:List Nat)(at':Int):Prop where
 lo:∀ j∈dn,0≤pl.getD j 0∧pl.getD j 0+zs.getD j 0<at'
 ap:∀ j∈dn,∀ k∈dn,j≠k→pl.getD j 0+zs.getD j 0<pl.getD k 0∨pl.getD k 0+zs.getD k 0<pl.getD j 0
theorem qW{l:List Int}{k j:Nat}{v:Int}(h:k<l.length):(l.set k v).getD j 0=if j=k then v else l.getD j 0:=by
 rw[Fe,List.getElem?_set,Fe];by_cases c:k=j
 ·rw[if_pos c,if_pos (by omega),if_pos c.symm];rfl
 ·rw[if_neg c,if_neg (FC c)]
theorem yV.put{zs pl:List Int}{dn:List Nat}{at' at2:Int}{k:Nat}(h:yV zs pl dn at')(n:k∉dn)(hk:k<pl.length)(a0:0≤at')(hz:0≤zs.getD k 0)(h2:at'+zs.getD k 0<at2):yV zs (pl.set k at') (dn++[k]) at2:=by
 have ot:∀ j∈dn,(pl.set k at').getD j 0=pl.getD j 0:=λj m=>by rw[qW hk,if_neg (λe=>n (by rw[←e];exact m))]
 have me:(pl.set k at').getD k 0=at':=by rw[qW hk,if_pos rfl]
 refine⟨λj m=>?_,λi mi j mj ne=>?_⟩
 ·rcases Fc.mp m with m|m
  ·have:=h.lo j m
   rw[ot j m];omega
  ·rw[ET.mp m,me]
   omega
 ·rcases Fc.mp mi with mi|mi
  ·rcases Fc.mp mj with mj|mj
   ·rw[ot i mi,ot j mj];exact h.ap i mi j mj ne
   ·rw[ET.mp mj,ot i mi,me]
    have:=h.lo i mi
    omega
  ·rcases Fc.mp mj with mj|mj
   ·rw[ET.mp mi,ot j mj,me]
    have:=h.lo j mj
    omega
   ·exact absurd ((ET.mp mi).trans (ET.mp mj).symm) ne
abbrev Tg:=Int×Int×List Mw
structure Bt(ts:List Tg)(rs:List Mw)(sz:Int):Prop where
 n:ts.length≤10
 rl:rs.length≤9
 fl:∀ x∈ts,x.2.2.length≤6
 lo:∀ x∈ts,0≤x.2.1
 hi:∀ x∈ts,x.2.1+x.2.2.length<sz
 ap:∀(i j:Nat) (x y:Tg),i≠j→ts[i]?=some x→ts[j]?=some y→x.2.1+x.2.2.length<y.2.1∨y.2.1+y.2.2.length<x.2.1
 rw:∀ w∈rs,Wby (ts.map (·.2.1)) w
 fw:∀ x∈ts,∀ w∈x.2.2,Wby (ts.map (·.2.1)) w
 z0:0≤sz
 z1:sz≤1000
 t0:∀ x∈ts,0≤x.1
 t1:∀ x∈ts,x.1≤1000
def ThV(H:Hp)(v:V)(x:Tg):Prop:=∃ q lf zs,v=.ref q∧H q=some (.tup [.int x.1,.int x.2.1,.ref lf])∧H lf=some (.lst zs)∧MR H zs x.2.2
def ThL(H:Hp)(tv:List V)(ts:List Tg):Prop:=tv.length=ts.length∧∀(i:Nat) (v:V) (x:Tg),tv[i]?=some v→ts[i]?=some x→ThV H v x
theorem ThV.keep{H H':Hp}{v:V}{x:Tg}(h:ThV H v x)(s:∀ b u,H b=some u→(∀ kvs,u≠.dK kvs)→H' b=some u):ThV H' v x:=by
 obtain⟨q,lf,zs,e,h1,h2,h3⟩:=h;exact⟨q,lf,zs,e,s _ _ h1 (by intro k z;cases z),s _ _ h2 (by intro k z;cases z),h3.keep λt us y=>s _ _ y (by intro k z;cases z)⟩
theorem ThL.same{H H':Hp}{tv:List V}{ts:List Tg}(h:ThL H tv ts)(s:ao H H'):ThL H' tv ts:=⟨h.1,λi v x a b=>(h.2 i v x a b).keep λb u y _=>s b u y⟩
def qX(K:W.Frag)(Pt:Addr):Sp:=λvs H Q _=>∃(a:Addr) (ns:List Int),vs=[.ref a]∧SqL K H a (ns.map V.int)∧ns.length≤63∧H Pt=some (.tbl #[])∧∀ p lt tv lr rv sz ts rs H',But Pt H H'→H' p=some (.tup [.ref lt,.ref lr,.int sz])→H' lt=some (.lst tv)→H' lr=some (.lst rv)→ThL H' tv ts→MR H' rv rs→Bt ts rs sz→H lt=none→H lr=none→Q (.ref p) H'
abbrev de:List Str:=["script", "cell", "stream", "many", "sizes", "places", "at", "k", "things", "used", "fields", "roots"]
theorem aF:aG de ["script"] (aj bX):=⟨rfl,rfl,rfl,by decide +kernel,rfl,by decide +kernel,by decide +kernel⟩
theorem mf(F:Fun K "_law_built" "_law_built" bX D.bE D.c9)(T:Txt K mg D){cc Pt:Addr}(m5:D.c9.code=.ref cc)(TB:kR K mg base cc Pt)
  (bR:Ok P w K mg base 1 D.bP D.dB ["script", "k"] (pA K))
  (eD:Ok P w K mg base 2 D.bq D.dw ["script", "many"] (nO K))
  (cy:Ok P w K mg base 1 D.a8 D.cS ["number", "places"] (yU)):Ok P w K mg base 6 D.bE D.c9 ["script"] (qX K Pt):=by
 refine⟨?_,F.binds (ps:=["script"]) λ_ _ _ _ _ _ us hl=>match us,hl with|[_],_=>rfl⟩
 refine F.okC m5 aF (λvs H Q E h=>?_) (λA' outer s' H vs Q E hr h=>?_)
 ·obtain⟨a,ns,rfl,_⟩:=h
  rfl
 ·obtain⟨a,ns,rfl,hS,hl,hPt,k⟩:=h
  refine⟨_,(PSs.nox (af (aA (i:=1) aF.nd rfl (Or.inl rfl) (aD bR.g (hr.mono (by decide)) rfl T.hU T.eK bR.b .nil bD (aa (pv 0) (aa ai ag))))
   (af (aA (i:=2) aF.nd rfl (Or.inr rfl) (aD eD.g (hr.mono (by decide)) rfl T.lT T.fZ eD.b .nil bD (aa (k4 oY (pv 0) (jg ai) xG) (aa ai ag))))
   (af (aA (i:=3) aF.nd rfl (Or.inl rfl) (cn cX (gv (aa ai (aa ai (aa ai (aa ai (aa ai (aa ai ag))))))) (av cm (pv 1) ai) (λ_ _=>rfl)))
   (af (jj (cl:=[("stream",s'.heap.objs.size+2)]) (x := "k") (idx:=[2]) (NC:=["k", "stream"]) (i:=4) aF.nd rfl rfl (by exact dm (sc:=aj bX) (N:=de) (ns:=["stream"]) rfl rfl rfl (by decide +kernel) rfl rfl (by intro q hq;rw[ET.mp hq];rfl)) rfl (dh rfl T.dI (aa (pv 3) ag)) (λC fp s₀ H₀=>(av cm (cn (r:=Al K) cX (pv 1) (pv 0) (λ_ _=>rfl)) ai)))
   (af (aA (i:=5) aF.nd rfl (Or.inr rfl) (gh (cl:=[]) (x := "k") (idx:=[]) (NC:=["k"]) (by exact dm (sc:=aj bX) (N:=de) (ns:=[]) rfl rfl rfl (by decide +kernel) rfl rfl (by intro q hq;cases hq)) rfl (dh rfl T.dI (aa (pv 3) ag)) (λC fp s₀ H₀=>ai)))
   (af (aA (i:=6) aF.nd rfl (Or.inl rfl) (av cm (av d5 (pv 1) ai) ai))
   (af (dk Fn rfl (dj (rM (cc:=cc) (Pt:=Pt) (k:=1) (cl:=[("stream",s'.heap.objs.size+2)]) (x := "k") (idx:=[2]) (NC:=["k", "stream"]) (hr.mono (by decide)) rfl rfl T.lh (aa (dE vP rfl T.dI PyProof.Rows.Boot.«range» (aa (pv 3) ag)) ag) (by exact zS (sc:=aj bX) (N:=de) (ns:=["stream"]) rfl rfl rfl rfl rfl (by decide +kernel) rfl rfl (by intro q hq;rw[ET.mp hq];rfl)) rfl TB rfl (λ_ _ _ _=>rfl) (λA L f cd s₀ H₀=>(cB (aa (cn (r:=Al K) cX (pv 1) (av aP ai (pv 0)) (λ_ _=>rfl)) (aa (pv 0) ag)))))) (aC (i:=7) aF.nd rfl (Or.inl rfl))
    (af (jU (pv 6) (lJ (pv 5) (pv 7) set_list))
    (ak (aA (i:=6) aF.nd rfl (Or.inl rfl) (av aP (av aP (av aP (pv 6) (cn cX (pv 4) (pv 7) (λ_ _=>rfl))) ai) (av cm (cn cX (pv 2) (av aP ai (pv 7)) (λ_ _=>rfl)) ai))))))
   (af (aA (i:=8) aF.nd rfl (Or.inl rfl) (gv ag))
   (af (aA (i:=9) aF.nd rfl (Or.inl rfl) ai)
   (af (dk Fn rfl (dh rfl T.dI (aa (pv 3) ag)) (aC (i:=7) aF.nd rfl (Or.inl rfl))
    (af (jj (cl:=[("places",s'.heap.objs.size+1)]) (x := "number") (idx:=[5]) (NC:=["number", "places"]) (i:=10) aF.nd rfl rfl (by exact dm (sc:=aj bX) (N:=de) (ns:=["places"]) rfl rfl rfl (by decide +kernel) rfl rfl (by intro q hq;rw[ET.mp hq];rfl)) rfl (dj (k4 oY (pv 2) (jg (pv 9)) (jg (av aP (pv 9) (cn cX (pv 4) (pv 7) (λ_ _=>rfl)))))) (λC fp s₀ H₀=>(aD cy.g (hr.mono (by decide)) rfl T.gZ T.dP cy.b .nil m4 (aa (pv 0) (aa (pv 1) ag)))))
    (af (aA (i:=9) aF.nd rfl (Or.inl rfl) (av aP (pv 9) (cn cX (pv 4) (pv 7) (λ_ _=>rfl))))
    (ak (bH (kG PySem.F.plainAttrs_list PySem.F.slot_list_append PySem.F.type_list_append dF (pv 8) (aa (cB (aa (av aP (av gu (pv 7) (av aP ai (av cm (av d5 (pv 1) ai) ai))) (av cm (av d5 (pv 1) ai) ai)) (aa (cn cX (pv 5) (pv 7) (λ_ _=>rfl)) (aa (pv 10) ag)))) ag)))))))
   (af (jj (cl:=[("places",s'.heap.objs.size+1)]) (x := "number") (idx:=[5]) (NC:=["number", "places"]) (i:=11) aF.nd rfl rfl (by exact dm (sc:=aj bX) (N:=de) (ns:=["places"]) rfl rfl rfl (by decide +kernel) rfl rfl (by intro q hq;rw[ET.mp hq];rfl)) rfl (dj (k4 oY (pv 2) (jg ai) (jg (av aP ai (av cm (av d5 (pv 1) ai) ai))))) (λC fp s₀ H₀=>(aD cy.g (hr.mono (by decide)) rfl T.gZ T.dP cy.b .nil m4 (aa (pv 0) (aa (pv 1) ag)))))
   (ak (aW (cB (aa (pv 8) (aa (pv 11) (aa (av aP (pv 6) (av cm (av d5 (pv 1) ai) ai)) ag)))))))))))))))))),?_⟩
  refine⟨_,rfl,a,ns,0,rfl,hS,by decide,?_⟩;obtain⟨c,ec⟩:∃ c,ns.getD (0:Int).toNat 0=c:=⟨_,rfl⟩;rw[ec];refine⟨_,rfl,1,rfl,a,_,rfl,hS,λp1 h1=>?_⟩;rw[Ds];have s1:=ao.upd (o:=.lst (((ns.drop (HT.sIx ns.length 0 (some 1))).take (HT.sIx ns.length ns.length none-HT.sIx ns.length 0 (some 1))).map V.int)) h1;refine⟨p1,_,rfl,SqL.of ab,by rw[Fb,FV];omega,λp2 ds H2 s2 z2 hp2 l2=>?_⟩;have sA:=s1.trans s2;have q0:=Fu c (show(6:Int)≠0 by decide);have q1:=Fp c (show(0:Int)<6 by decide);obtain⟨n,n10,en⟩:∃ n:Nat,n≤10∧([.int 3,.int 1,.int 6,.int 9,.int 10,.int 0]:List V)[(c%6).toNat]?=some (.int (n:Int)):=by
   rcases(show(c%6).toNat=0∨(c%6).toNat=1∨(c%6).toNat=2∨(c%6).toNat=3∨(c%6).toNat=4∨(c%6).toNat=5 by omega) with e|e|e|e|e|e<;>rw[e]
   ·exact⟨3,by decide,rfl⟩
   ·exact⟨1,by decide,rfl⟩
   ·exact⟨6,by decide,rfl⟩
   ·exact⟨9,by decide,rfl⟩
   ·exact⟨10,by decide,rfl⟩
   ·exact⟨0,by decide,rfl⟩
  refine⟨by show 6≤sizeLine;decide,λp3 h3=>?_⟩;have s3:=ao.upd (o:=.lst [V.int 3,V.int 1,V.int 6,V.int 9,V.int 10,V.int 0]) h3;refine⟨_,rfl,c,6,rfl,rfl,(by show(0:Int)<6;decide),p3,_,_,.int n,rfl,rfl,SqL.of ab,fh q0 en,?_⟩;have sB:=sA.trans s3;have z2:=s3 _ _ z2;generalize upd H2 p3 (.lst [V.int 3,V.int 1,V.int 6,V.int 9,V.int 10,V.int 0])=H3 at *;refine⟨_,rfl,n,rfl,by omega,by omega,λL4 hL4=>?_⟩;refine d6 (lo:=0) (n:=n) (λi ys Hc=>∃ zs:List Int,ys=zs.map V.int∧zs.length=i∧(∀ z∈zs,0≤z∧z≤6)∧ao H3 Hc∧Hc L4=some (.lst ys)) ⟨[],rfl,rfl,(λz m=>nomatch m),ao.upd hL4,ab⟩ (λi ys Hc hi ⟨zs,e,l,_,_,y⟩=>⟨y,by rw[e,EU];exact l⟩) (eP (by omega)) (λi ys Hc hi ⟨zs,e,l,hz,sc,y⟩=>?_) (λys Hc ⟨zs,e,lz,hz,sc,z4⟩=>?_)
  ·have hx:ds[(0+(i:Int)).toNat]?=some (ds[(0+(i:Int)).toNat]'(by omega)):=EO _
   obtain⟨x,ex⟩:∃ x,ds[(0+(i:Int)).toNat]'(by omega)=x:=⟨_,rfl⟩;rw[ex]at hx;refine⟨_,rfl,_,rfl,p2,_,_,.int x,rfl,rfl,SqL.of (sc _ _ z2),fh (by omega) (by rw[E3,hx];rfl),_,7,rfl,rfl,(by show(0:Int)<7;decide),y,zs++[x%7],by rw[e,Fd];rfl,by rw[E5,l];rfl,λz m=>?_,λb u q=>by rw[ah (ae q hL4)];exact sc b u q,ab⟩;rcases Fc.mp m with m|m
   ·exact hz z m
   ·rw[ET.mp m]
    have:=Fu x (show(7:Int)≠0 by decide)
    have:=Fp x (show(0:Int)<7 by decide)
    omega
  rw[e]at z4;clear e;have sC:=sB.trans sc;have z2:=sc _ _ z2;have n24:p2≠L4:=ae (show H3 p2=_ by assumption) hL4;refine⟨_,rfl,n,rfl,by omega,by omega,λL5 hL5=>?_⟩;have n25:p2≠L5:=ae z2 hL5;have n45:L4≠L5:=ae z4 hL5;refine d6 (lo:=0) (n:=n) (λi ys Hd=>ys=(List.replicate i (0:Int)).map V.int∧ao Hc Hd∧Hd L5=some (.lst ys)) ⟨rfl,ao.upd hL5,ab⟩ (λi ys Hd hi ⟨e,_,y⟩=>⟨y,by rw[e,EU,Ft]⟩) (eP (by omega)) (λi ys Hd hi ⟨e,sd,y⟩=>?_) (λys Hd ⟨e,sd,z5⟩=>?_)
  ·refine⟨y,?_,λb u q=>by rw[ah (ae q hL5)];exact sd b u q,ab⟩
   rw[e,List.replicate_succ',Fd];rfl
  rw[e]at z5;clear e;have sD:=sC.trans sd;have Ey:H L5=none:=ao.none sC hL5;have hPd:=sD _ _ hPt;have z2:=sd _ _ z2;have z4:=sd _ _ z4;refine⟨_,rfl,c,6,rfl,rfl,⟨by decide,by decide⟩,_,3,rfl,rfl,(by show(0:Int)<3;decide),?_⟩;have a0:=Fu (c/6) (show(3:Int)≠0 by decide);have a1:=Fp (c/6) (show(0:Int)<3 by decide);obtain⟨at0,ea⟩:∃ at0,c/6%3=at0:=⟨_,rfl⟩;rw[ea]at a0 a1;simp only[ea,i8];have zD:∀ j,0≤zs.getD j 0∧zs.getD j 0≤6:=λj=>by
   rw[Fe];cases e:zs[j]? with
   | none=>exact⟨Int.le_refl _,by decide⟩
   | some x=>exact hz x (E6 e)
  have zat:∀(j:Nat),j<n→zs[j]?=some (zs.getD j 0):=λj hj=>by rw[Fe,EO (by omega)];rfl
  have dat:∀(j:Nat),j<130→∃ x,ds[j]?=some x:=λj hj=>⟨_,EO (by omega)⟩;refine⟨_,rfl,n,rfl,λr hr'=>⟨r,n,rfl,ab,by omega,by rw[ah (ae hPd hr')];exact hPd,λHx=>BP Pt Hd Hx,?_,?_,?_⟩⟩
  ·refine λps=>⟨λb u nb q=>?_,ps,ab⟩
   rw[ah nb,ah (ae q hr')];exact q
  ·intro Hx k' wx hk'
   obtain⟨x,hx⟩:=dat (20+(k':Int)).toNat (by omega);have n2P:p2≠Pt:=bB z2 hPd (by intro z;cases z);refine⟨_,rfl,_,rfl,20,_,rfl,rfl,p2,_,_,.int x,rfl,rfl,SqL.of (wx.1 _ _ n2P z2),fh (by omega) (by rw[E3,hx];rfl),_,rfl,by show 2≤sizeLine;decide,λq hq=>⟨wx.same (ao.upd hq),q,x,k',rfl,ab⟩⟩
  intro H7 l ks w7 hl0 pm;have lks:ks.length=n:=by rw[pm.length_eq,Gf]
  have ndk:ks.Nodup:=pm.nodup_iff.mpr List.nodup_range;have kin:∀ j,j∈ks↔j<n:=λj=>by rw[pm.mem_iff,F5]
  have n2P:p2≠Pt:=bB z2 hPd (by intro z;cases z);have n4P:L4≠Pt:=bB z4 hPd (by intro z;cases z);have n5P:L5≠Pt:=bB z5 hPd (by intro z;cases z);have y2:=w7.1 _ _ n2P z2;have y4:=w7.1 _ _ n4P z4;have y5:=w7.1 _ _ n5P z5;have sl:=ao.upd (o:=.lst (ks.map λi:Nat=>V.int (i:Int))) hl0;have nl5:l≠L5:=FC (ae y5 hl0);have b7:BP Pt H (upd H7 l (.lst (ks.map λi:Nat=>V.int (i:Int)))):=(w7.low sD).same sl;refine⟨l,rfl,⟨_,SqL.of ab⟩,fA (K:=K) (a:=l) (xs:=ks.map λi:Nat=>V.int (i:Int)) (λi σ Hx=>∃(v7:Option V) (pl:List Int) (at':Int),σ=[some (.ref a),some (.int c),some (.ref p2),some (.int n),some (.ref L4),some (.ref L5),some (.int at'),v7,none,none,none,none]∧BP Pt H Hx∧Hx p2=some (.lst (ds.map V.int))∧Hx L4=some (.lst (zs.map V.int))∧Hx l=some (.lst (ks.map λi:Nat=>V.int (i:Int)))∧Hx L5=some (.lst (pl.map V.int))∧pl.length=n∧yV zs pl (ks.take i) at'∧0≤at'∧at'≤2+8*i)
   ⟨none,List.replicate n 0,at0,rfl,b7,sl _ _ y2,sl _ _ y4,ab,sl _ _ y5,Ft,⟨(λj m=>nomatch m),(λj m=>nomatch m)⟩,a0,by omega⟩ (λi σ Hx _ ⟨_,_,_,_,_,_,_,y,_⟩=>SqL.of y) ?_ ?_⟩
  ·rintro i v σ Hx hi ⟨v7,pl,at',rfl,bx,x2,x4,xl,x5,lp,po,p0,p9⟩
   rw[E3]at hi;obtain⟨j,hj,rfl⟩:=Fh.mp hi;have jn:j<n:=(kin j).mp (E6 hj);have iln:i<n:=(by rw[←lks];exact(ER.mp hj).1);have nj:j∉ks.take i:=λm=>by
    have e:ks=ks.take i++j::ks.drop (i+1):=(by rw[←(ER.mp hj).2,←List.drop_eq_getElem_cons (ER.mp hj).1,FQ]);rw[e,FN]at ndk;exact ndk.2.2 j m j E0 rfl
   have zj:=zD j;obtain⟨x,hx⟩:=dat (40+(j:Int)).toNat (by omega);refine⟨_,rfl,_,rfl,_,rfl,L5,_,_,(j:Int).toNat,rfl,rfl,x5,u6 (by omega) (by rw[EU];omega),?_⟩;have x2':upd Hx L5 (.lst ((pl.map V.int).set (j:Int).toNat (.int at'))) p2=some (.lst (ds.map V.int)):=(by rw[ah n25];exact x2);have x4':upd Hx L5 (.lst ((pl.map V.int).set (j:Int).toNat (.int at'))) L4=some (.lst (zs.map V.int)):=(by rw[ah n45];exact x4);refine⟨_,rfl,_,rfl,_,rfl,L4,_,_,.int (zs.getD j 0),rfl,rfl,SqL.of x4',fh (by omega) (by rw[Int.toNat_natCast,E3,zat j jn];rfl),_,_,rfl,rfl,_,1,rfl,rfl,_,rfl,_,rfl,40,_,rfl,rfl,p2,_,_,.int x,rfl,rfl,SqL.of x2',fh (by omega) (by rw[E3,hx];rfl),_,2,rfl,rfl,(by show(0:Int)<2;decide),_,_,rfl,rfl,?_⟩;have r0:=Fu x (show(2:Int)≠0 by decide);have r1:=Fp x (show(0:Int)<2 by decide);refine⟨some (.int j),pl.set j at',at'+zs.getD j 0+1+x%2,rfl,bx.put Ey n5P,x2',x4',?_,?_,by rw[Fw];exact lp,?_,by omega,by push_cast;omega⟩
   ·rw[ah nl5];exact xl
   ·rw[ab,List.map_set,Int.toNat_natCast]
   ·rw[aN hj]
    exact po.put nj (by omega) p0 zj.1 (by omega)
  rintro σ Hx ⟨v7,pl,at',rfl,bx,x2,x4,xl,x5,lp,po,p0,p9⟩;rw[EU,lks]at po p9;rw[E1 (by omega)]at po;refine⟨by show 0≤sizeLine;exact Fj _,λL8 hL8=>?_⟩;have Du:H L8=none:=bx.non hL8;have s8:=ao.upd (o:=.lst []) hL8;have n28:p2≠L8:=ae x2 hL8;have n48:L4≠L8:=ae x4 hL8;have n58:L5≠L8:=ae x5 hL8;have n8P:L8≠Pt:=λz=>by obtain⟨ps,q⟩:=bx.2;rw[z,q]at hL8;cases hL8
  have pat:∀(j:Nat),j<n→pl[j]?=some (pl.getD j 0):=λj hj=>by rw[Fe,EO (by omega)];rfl
  refine⟨_,rfl,n,rfl,by omega,by omega,jq (lo:=0) (n:=n) (λi σ Hy=>∃(v7 v10:Option V) (us:Nat) (tv:List V) (ts:List Tg),σ=[some (.ref a),some (.int c),some (.ref p2),some (.int n),some (.ref L4),some (.ref L5),some (.int at'),v7,some (.ref L8),some (.int us),v10,none]∧BP Pt H Hy∧Hy p2=some (.lst (ds.map V.int))∧Hy L4=some (.lst (zs.map V.int))∧Hy L5=some (.lst (pl.map V.int))∧Hy L8=some (.lst tv)∧ThL Hy tv ts∧(∀ q t' a' lf,V.ref q∈tv→Hy q=some (.tup [t',a',.ref lf])→lf≠L8)∧ts.length=i∧us≤55+6*i∧∀(j:Nat) (x:Tg),ts[j]?=some x→x.2.1=pl.getD j 0∧(x.2.2.length:Int)=zs.getD j 0∧(∀ w∈x.2.2,Wby pl w)∧0≤x.1∧x.1≤1000)
   ⟨v7,none,55,[],[],rfl,bx.same s8,s8 _ _ x2,s8 _ _ x4,s8 _ _ x5,ab,⟨rfl,(λi v x h=>by cases h)⟩,(λq t' a' lf m=>nomatch m),rfl,by omega,(λj x h=>by cases h)⟩ ?_ ?_⟩
  ·rintro i σ Hy hi ⟨w7,w10,us,tv,ts,rfl,by',y2,y4,y5,y8,tl,nf,lts,ub,hts⟩
   have zi:=zD i;obtain⟨si,esi⟩:∃ si:Nat,zs.getD i 0=(si:Int):=⟨(zs.getD i 0).toNat,by omega⟩;have Dv:atI (zs.map V.int) (0+(i:Int))=some (.int (si:Int)):=fh (by omega) (by rw[show(0+(i:Int)).toNat=i by omega,E3,zat i hi,esi];rfl);obtain⟨cs,ecs,lcs⟩:=Dt ds us si (by omega) (lo:=us) (hi:=(us:Int)+si) rfl (by push_cast;rfl);refine⟨_,rfl,_,rfl,_,rfl,_,rfl,_,rfl,_,rfl,L4,_,_,.int (si:Int),rfl,rfl,SqL.of y4,Dv,_,_,rfl,rfl,_,rfl,p2,_,rfl,SqL.of y2,λps hps=>?_⟩;rw[ecs];have sp:=ao.upd (o:=.lst (cs.map V.int)) hps;have u2:=sp _ _ y2;have u4:=sp _ _ y4;have u5:=sp _ _ y5;have u8:=sp _ _ y8;have tl1:=tl.same sp;have nf1:∀ q t' a' lf,V.ref q∈tv→upd Hy ps (.lst (cs.map V.int)) q=some (.tup [t',a',.ref lf])→lf≠L8:=λq t' a' lf m h=>nf q t' a' lf m (by
    by_cases e:q=ps
    ·rw[e,ab]at h;cases h
    ·rw[ah e]at h;exact h)
   have bp:=by'.same sp;have zp:upd Hy ps (.lst (cs.map V.int)) ps=some (.lst (cs.map V.int)):=ab;generalize upd Hy ps (.lst (cs.map V.int))=Hz at *;refine⟨ps,rfl,⟨_,SqL.of zp⟩,λLf hLf=>?_⟩;refine gn (K:=K) (a:=ps) (xs:=cs.map V.int) (λj ys Hc=>∃ ws:List Mw,ao Hz Hc∧Hc Lf=some (.lst ys)∧MR Hc ys ws∧ws.length=j∧∀ w∈ws,Wby pl w) ⟨[],ao.upd hLf,ab,⟨rfl,(λj v w h=>by cases h)⟩,rfl,(λw m=>nomatch m)⟩ (λj ys Hc _ ⟨ws,_,y,r,l,_⟩=>⟨y,by rw[r.1];exact l⟩) (λj ys Hc _ ⟨_,sc,_⟩=>SqL.of (sc _ _ zp)) (by rw[EU];exact eP (by omega)) (λj v ys Hc hj ⟨ws,sc,y,r,l,hw⟩=>?_) (λys Hc ⟨ws,sc,y,r,l,hw⟩=>?_)
   ·rw[E3]at hj
    obtain⟨x,hx,rfl⟩:=Fh.mp hj;refine⟨_,rfl,_,rfl,x,L5,pl,rfl,sc _ _ u5,λv w H' s' mv wb=>⟨s' _ _ y,ws++[w],λb u z=>by rw[ah (ae z hLf)];exact s' _ _ (sc b u z),ab,?_,by rw[E5,l];rfl,λw' m=>?_⟩⟩
    ·exact((r.keep (aX.of s')).snoc mv).keep λb us z=>by rw[ah (bB z (s' _ _ y) (by intro z;cases z))];exact z
    ·rcases Fc.mp m with m|m
     ·exact hw w' m
     ·rw[ET.mp m];exact wb
   rw[EU,lcs]at l;have c2:=sc _ _ u2;have c4:=sc _ _ u4;have c5:=sc _ _ u5;have c8:=sc _ _ u8;refine⟨_,rfl,_,rfl,_,rfl,L4,_,_,.int (si:Int),rfl,rfl,SqL.of c4,Dv,_,_,rfl,rfl,?_⟩;have m0:=Fu (c/18) (show(3:Int)≠0 by decide);have m1:=Fp (c/18) (show(0:Int)<3 by decide);have m2:=Fu (c/54) (show(4:Int)≠0 by decide);have m3:=Fp (c/54) (show(0:Int)<4 by decide);obtain⟨e1,ee1⟩:∃ e1,c/18%3=e1:=⟨_,rfl⟩;obtain⟨e2,ee2⟩:∃ e2,c/54%4=e2:=⟨_,rfl⟩;rw[ee1]at m0 m1;rw[ee2]at m2 m3;refine⟨_,rfl,.inl ⟨rfl,_,SqL.of c8⟩,_,rfl,_,rfl,c,18,rfl,rfl,⟨by decide,by decide⟩,_,3,rfl,rfl,(by show(0:Int)<3;decide),1,_,rfl,rfl,_,_,rfl,rfl,.inl ⟨by omega,by omega⟩,_,rfl,c,54,rfl,rfl,⟨by decide,by decide⟩,_,4,rfl,rfl,(by show(0:Int)<4;decide),_,_,rfl,rfl,_,rfl,_,rfl,L5,_,_,.int (pl.getD i 0),rfl,rfl,SqL.of c5,fh (by omega) (by rw[show(0+(i:Int)).toNat=i by omega,E3,pat i hi];rfl),_,rfl,by show 3≤sizeLine;decide,λq hq=>?_⟩;have sq:=ao.upd (o:=.tup [V.int ((0+(i:Int))*(1+c/18%3)+c/54%4),V.int (pl.getD i 0),V.ref Lf]) hq;have d8:=sq _ _ c8;have lt1:=tl1.1;refine⟨L8,_,_,rfl,rfl,d8,gx (by omega),?_⟩;have nq8:q≠L8:=λz=>by rw[z,c8]at hq;cases hq
   have nf8:Lf≠L8:=FC (ae u8 hLf);have tp:0≤(0+(i:Int))*(1+c/18%3)∧(0+(i:Int))*(1+c/18%3)≤30:=by
    rw[ee1];constructor
    ·exact Int.mul_nonneg (by omega) (by omega)
    ·have h1:(0+(i:Int))*(1+e1)≤(0+(i:Int))*3:=Int.mul_le_mul_of_nonneg_left (by omega) (by omega)
     omega
   have kp8:∀ b u,b≠L8→Hc b=some u→upd (upd Hc q (.tup [V.int ((0+(i:Int))*(1+c/18%3)+c/54%4),V.int (pl.getD i 0),V.ref Lf])) L8 (.lst (tv++[.ref q])) b=some u:=λb u nb z=>by rw[ah nb];exact sq _ _ z
   have u9:aX Hc _:=λb us z=>kp8 b _ (bB z c8 (by intro z;cases z)) z;refine⟨some (.int (0+(i:Int))),some (.ref Lf),us+si,tv++[.ref q],ts++[((0+(i:Int))*(1+c/18%3)+c/54%4,pl.getD i 0,ws)],rfl,(((bp.same sc).same sq).put Du n8P),kp8 _ _ n28 c2,kp8 _ _ n48 c4,kp8 _ _ n58 c5,ab,⟨by rw[E5,E5,lt1];rfl,λj v x h1 h2=>?_⟩,λq2 t' a' lf m h=>?_,by rw[E5,lts];rfl,by omega,λj x h=>?_⟩
   ·by_cases cj:j<tv.length
    ·rw[Fi cj]at h1
     rw[Fi (by rw[←lt1];exact cj)]at h2;obtain⟨q',lf,zz,ev,g1,g2,g3⟩:=tl1.2 j v x h1 h2;refine⟨q',lf,zz,ev,u9 _ _ (sc _ _ g1),kp8 _ _ ?_ (sc _ _ g2),(g3.keep (aX.of sc)).keep u9⟩;exact nf1 q' _ _ lf (by rw[←ev];exact E6 h1) g1
    ·have ej:j=tv.length:=by have:=(ER.mp h1).1;rw[E5,FE]at this;omega
     subst ej;rw[Fm (EV _),F2]at h1;rw[lt1,Fm (EV _),F2]at h2;cases h1;cases h2;exact⟨q,Lf,ys,rfl,by rw[ah nq8];exact ab,kp8 _ _ nf8 y,r.keep u9⟩
   ·rcases Fc.mp m with m|m
    ·obtain⟨j,hj⟩:=Fv m
     have hj2:ts[j]?=some (ts[j]'(by rw[←lt1];exact(ER.mp hj).1)):=EO _;obtain⟨q',lf',zz,ev,g1,g2,g3⟩:=tl1.2 j _ _ hj hj2;cases ev;rw[u9 _ _ (sc _ _ g1)]at h;cases h;exact nf1 _ _ _ _ m g1
    ·cases ET.mp m
     rw[ah nq8,ab]at h;cases h;exact nf8
   ·by_cases cj:j<ts.length
    ·rw[Fi cj]at h
     exact hts j x h
    ·have ej:j=ts.length:=by have:=(ER.mp h).1;rw[E5,FE]at this;omega
     subst ej;rw[Fm (EV _),F2]at h;cases h;rw[lts];refine⟨rfl,by rw[esi];exact_mod_cast l,hw,by omega,?_⟩;show(0+(i:Int))*(1+c/18%3)+c/54%4≤1000;omega
  rintro σ Hy ⟨w7,w10,us,tv,ts,rfl,by',y2,y4,y5,y8,tl,nf,lts,ub,hts⟩;have m0:=Fu (c/216) (show(9:Int)≠0 by decide);have m1:=Fp (c/216) (show(0:Int)<9 by decide);obtain⟨e1,ee1⟩:∃ e1:Nat,c/216%9=(e1:Int):=⟨(c/216%9).toNat,by omega⟩;rw[ee1]at m0 m1;obtain⟨cs,ecs,lcs⟩:=Dt ds 120 (1+e1) (by omega) (lo:=120) (hi:=121+c/216%9) rfl (by rw[ee1];push_cast;omega);refine⟨_,rfl,120,rfl,_,rfl,c,216,rfl,rfl,⟨by decide,by decide⟩,_,9,rfl,rfl,(by show(0:Int)<9;decide),121,_,rfl,rfl,_,rfl,p2,_,rfl,SqL.of y2,λps hps=>?_⟩;rw[ecs];have sp:=ao.upd (o:=.lst (cs.map V.int)) hps;have u5:=sp _ _ y5;have u8:=sp _ _ y8;have tl1:=tl.same sp;have bp:=by'.same sp;have zp:upd Hy ps (.lst (cs.map V.int)) ps=some (.lst (cs.map V.int)):=ab;generalize upd Hy ps (.lst (cs.map V.int))=Hz at *;refine⟨ps,rfl,⟨_,SqL.of zp⟩,λLf hLf=>?_⟩;refine gn (K:=K) (a:=ps) (xs:=cs.map V.int) (λj ys Hc=>∃ ws:List Mw,ao Hz Hc∧Hc Lf=some (.lst ys)∧MR Hc ys ws∧ws.length=j∧∀ w∈ws,Wby pl w) ⟨[],ao.upd hLf,ab,⟨rfl,(λj v w h=>by cases h)⟩,rfl,(λw m=>nomatch m)⟩ (λj ys Hc _ ⟨ws,_,y,r,l,_⟩=>⟨y,by rw[r.1];exact l⟩) (λj ys Hc _ ⟨_,sc,_⟩=>SqL.of (sc _ _ zp)) (by rw[EU];exact eP (by omega)) (λj v ys Hc hj ⟨ws,sc,y,r,l,hw⟩=>?_) (λys Hc ⟨ws,sc,y,r,l,hw⟩=>?_)
  ·rw[E3]at hj
   obtain⟨x,hx,rfl⟩:=Fh.mp hj;refine⟨_,rfl,_,rfl,x,L5,pl,rfl,sc _ _ u5,λv w H' s' mv wb=>⟨s' _ _ y,ws++[w],λb u z=>by rw[ah (ae z hLf)];exact s' _ _ (sc b u z),ab,?_,by rw[E5,l];rfl,λw' m=>?_⟩⟩
   ·exact((r.keep (aX.of s')).snoc mv).keep λb us z=>by rw[ah (bB z (s' _ _ y) (by intro z;cases z))];exact z
   ·rcases Fc.mp m with m|m
    ·exact hw w' m
    ·rw[ET.mp m];exact wb
  rw[EU,lcs]at l;have b0:=Fu (c/2160) (show(3:Int)≠0 by decide);have b1:=Fp (c/2160) (show(0:Int)<3 by decide);refine⟨_,rfl,_,rfl,_,rfl,_,rfl,c,2160,rfl,rfl,⟨by decide,by decide⟩,_,3,rfl,rfl,(by show(0:Int)<3;decide),_,_,rfl,rfl,by show 3≤sizeLine;decide,λq hq=>?_⟩;have sq:=ao.upd (o:=.tup [V.ref L8,V.ref Lf,V.int (at'+c/2160%3)]) hq;have epl:ts.map (·.2.1)=pl:=by
   apply Gg
   intro j;rw[E3];by_cases cj:j<n
   ·have h:ts[j]?=some (ts[j]'(by omega)):=EO _
    rw[h,pat j cj,←(hts j _ h).1];rfl
   ·rw[FG (by omega),FG (by omega)]
    rfl
  have hx:∀ x∈ts,∃ j,j<n∧x.2.1=pl.getD j 0∧(x.2.2.length:Int)=zs.getD j 0∧(∀ w∈x.2.2,Wby pl w)∧0≤x.1∧x.1≤1000:=λx m=>by
   obtain⟨j,hj⟩:=Fv m;exact⟨j,by have:=(ER.mp hj).1;omega,hts j x hj⟩
  have mk:∀ j,j<n→j∈ks:=λj h=>(kin j).mpr h;refine k q L8 tv Lf ys (at'+c/2160%3) ts ws _ ((bp.same sc).same sq).1 ab (sq _ _ (sc _ _ u8)) (sq _ _ y) ((tl1.same sc).same sq) (r.keep (aX.of sq)) ⟨by omega,by omega,λx m=>?_,λx m=>?_,λx m=>?_,λi j x y ne hi hj=>?_,by rw[epl];exact hw,λx m=>?_,by omega,by omega,λx m=>?_,λx m=>?_⟩ Du (bp.non (by exact hLf))
  ·obtain⟨j,cj,e1,e2,_⟩:=hx x m
   have:=zD j
   omega
  ·obtain⟨j,cj,e1,e2,_⟩:=hx x m
   rw[e1];exact(po.lo j (mk j cj)).1
  ·obtain⟨j,cj,e1,e2,_⟩:=hx x m
   have:=(po.lo j (mk j cj)).2
   rw[e1,e2];omega
  ·obtain⟨f1,f2,_⟩:=hts i x hi
   obtain⟨g1,g2,_⟩:=hts j y hj;rw[f1,f2,g1,g2];exact po.ap i (mk i (by have:=(ER.mp hi).1;omega)) j (mk j (by have:=(ER.mp hj).1;omega)) ne
  ·obtain⟨j,cj,e1,e2,e3,_⟩:=hx x m
   rw[epl];exact e3
  ·obtain⟨j,cj,e1,e2,e3,e4,e5⟩:=hx x m
   exact e4
  ·obtain⟨j,cj,e1,e2,e3,e4,e5⟩:=hx x m
   exact e5
def ic:List Mw→List Tg→List Mw
 | ws,[]=>ws
 | ws,x::r=>ic (layW ws x.2.1.toNat x.1 x.2.2) r
theorem nQ(ws:List Mw)(ts:List Tg)(x:Tg):ic ws (ts++[x])=layW (ic ws ts) x.2.1.toNat x.1 x.2.2:=by
 induction ts generalizing ws with
 | nil=>rfl
 | cons y r ih=>exact ih _
theorem lG(ws:List Mw)(ts:List Tg):(ic ws ts).length=ws.length:=by
 induction ts generalizing ws with
 | nil=>rfl
 | cons y r ih=>show(ic _ r).length=_;rw[ih,ia]
theorem iD{ws:List Mw}{a:Nat}{t:Int}{us:List Mw}(h:a+us.length<ws.length)(j:Nat):(layW ws a t us)[j]?=if j=a then some (.hd t us.length) else if a<j∧j≤a+us.length then us[j-(a+1)]? else ws[j]?:=by
 unfold layW;rw[vL _ _ _ _ (by rw[Fw];omega)];by_cases c:j=a
 ·subst c
  rw[if_neg (by omega),if_pos rfl,FZ (by omega)]
 ·rw[if_neg c]
  by_cases d:a<j∧j≤a+us.length
  ·rw[if_pos (by omega),if_pos d]
  ·rw[if_neg (by omega),if_neg d,FT (FC c)]
def Lies(ws:List Mw)(a t:Int)(us:List Mw):Prop:=ws[a.toNat]?=some (.hd t us.length)∧∀(j:Nat) (w:Mw),us[j]?=some w→ws[a.toNat+1+j]?=some w
theorem Lies.new{ws:List Mw}{a t:Int}{us:List Mw}(h:a.toNat+us.length<ws.length):Lies (layW ws a.toNat t us) a t us:=by
 refine⟨by rw[iD h,if_pos rfl],λj w hj=>?_⟩;have hl:=(ER.mp hj).1;rw[iD h,if_neg (by omega),if_pos (by omega),show a.toNat+1+j-(a.toNat+1)=j by omega];exact hj
theorem Lies.other{ws:List Mw}{a t b s:Int}{us vs:List Mw}(h:Lies ws a t us)(hb:b.toNat+vs.length<ws.length)(a0:0≤a)(b0:0≤b)(ap:a+us.length<b∨b+vs.length<a):Lies (layW ws b.toNat s vs) a t us:=by
 refine⟨?_,λj w hj=>?_⟩
 ·rw[iD hb,if_neg (by omega),if_neg (by omega)]
  exact h.1
 ·have hl:=(ER.mp hj).1
  rw[iD hb,if_neg (by omega),if_neg (by omega)];exact h.2 j w hj
theorem Lies.thg{ws:List Mw}{a t:Int}{us:List Mw}(h:Lies ws a t us)(a0:0≤a)(hl:a+us.length<ws.length):thg ws a=some (t,(us.length:Int))∧jX ws a.toNat us.length=us:=by
 constructor
 ·unfold K40.thg
  rw[if_pos a0,h.1];exact if_pos hl
 ·apply Gg
  intro j;unfold jX;rw[Gd];by_cases c:j<us.length
  ·rw[if_pos c,Gb,EO c,h.2 j _ (EO c)]
  ·rw[if_neg c,FG (by omega)]
theorem vQ{ws us:List Mw}{i:Nat}{w:Mw}(h:w∈gi ws i us):w∈ws∨w∈us:=by
 induction us generalizing ws i with
 | nil=>exact .inl h
 | cons u r ih =>
  rcases ih h with h|h
  ·rcases List.mem_or_eq_of_mem_set h with h|h
   ·exact .inl h
   ·exact .inr (by rw[h];exact E0)
  ·exact .inr (EX _ h)
theorem ye{ws us:List Mw}{a:Nat}{t:Int}{w:Mw}(h:w∈layW ws a t us):w∈ws∨w=.hd t us.length∨w∈us:=by
 rcases vQ h with h|h
 ·rcases List.mem_or_eq_of_mem_set h with h|h
  ·exact .inl h
  ·exact .inr (.inl h)
 ·exact .inr (.inr h)
def fOf(ts:List Tg)(a:Int):List Mw:=match ts.find? λx=>decide (x.2.1=a) with|some x=>x.2.2|none=>[]
def tOf(ts:List Tg)(a:Int):Int:=match ts.find? λx=>decide (x.2.1=a) with|some x=>x.1|none=>0
section
variable{ts:List Tg}{rs:List Mw}{sz:Int}
theorem Bt.find(b:Bt ts rs sz){x:Tg}(m:x∈ts):ts.find? (λy=>decide (y.2.1=x.2.1))=some x:=by
 cases e:ts.find? (λy=>decide (y.2.1=x.2.1)) with
 | none=>exact absurd (List.find?_eq_none.mp e x m) (by simp)
 | some y =>
  have h1:=of_decide_eq_true (List.find?_some (p:=λy:Tg=>decide (y.2.1=x.2.1)) e);obtain⟨i,hi⟩:=Fv (List.mem_of_find?_eq_some e);obtain⟨j,hj⟩:=Fv m;by_cases c:i=j
  ·subst c;rw[hi]at hj;exact hj
  ·rcases b.ap i j y x c hi hj with z|z<;>omega
theorem Bt.f(b:Bt ts rs sz){x:Tg}(m:x∈ts):fOf ts x.2.1=x.2.2:=by unfold fOf;rw[b.find m]
theorem Bt.t(b:Bt ts rs sz){x:Tg}(m:x∈ts):tOf ts x.2.1=x.1:=by unfold tOf;rw[b.find m]
theorem Bt.lies(b:Bt ts rs sz):∀ i,i≤ts.length→∀ x∈ts.take i,Lies (ic (List.replicate sz.toNat .no) (ts.take i)) x.2.1 x.1 x.2.2:=by
 intro i;induction i with
 | zero=>intro _ x m;cases m
 | succ i ih =>
  intro hi x m;have hy:ts[i]?=some (ts[i]'(by omega)):=EO _;obtain⟨y,ey⟩:∃ y,ts[i]'(by omega)=y:=⟨_,rfl⟩;rw[ey]at hy;have my:=E6 hy;have y0:=b.lo y my;have y1:=b.hi y my;rw[aN hy]at m ⊢;rw[nQ];have hb:y.2.1.toNat+y.2.2.length<(ic (List.replicate sz.toNat Mw.no) (ts.take i)).length:=by rw[lG,Ft];omega
  rcases Fc.mp m with m|m
  ·obtain⟨j,hj⟩:=Fv m
   have jl:=(ER.mp hj).1;rw[Fb]at jl;rw[Gd,if_pos (by omega)]at hj;exact(ih (by omega) x m).other hb (b.lo x (List.mem_of_mem_take m)) y0 (b.ap j i x y (by omega) hj hy)
  ·rw[ET.mp m]
   exact Lies.new hb
theorem qY{w:Mw}{ws:List Mw}(h:w∈ic ws ts):w∈ws∨(∃ x∈ts,w=.hd x.1 x.2.2.length)∨∃ x∈ts,w∈x.2.2:=by
 induction ts generalizing ws with
 | nil=>exact .inl h
 | cons y r ih =>
  rcases ih h with h|⟨x,m,e⟩|⟨x,m,e⟩
  ·rcases ye h with h|h|h
   ·exact .inl h
   ·exact .inr (.inl ⟨y,E0,h⟩)
   ·exact .inr (.inr ⟨y,E0,h⟩)
  ·exact .inr (.inl ⟨x,EX _ m,e⟩)
  ·exact .inr (.inr ⟨x,EX _ m,e⟩)
abbrev Bz(ts:List Tg)(sz:Int):List Mw:=ic (List.replicate sz.toNat .no) ts
theorem i7(b:Bt ts rs sz){w:Mw}(h:Wby (ts.map (·.2.1)) w):Okw w∧∀ a,w=.ad a→a∈ts.map (·.2.1):=by
 rcases h with rfl|⟨z,rfl⟩|⟨a,m,rfl⟩
 ·exact⟨.inl rfl,λa e=>by cases e⟩
 ·exact⟨.inr (.inl ⟨z,rfl⟩),λa e=>by cases e⟩
 ·refine⟨.inr (.inr ⟨a,rfl,?_⟩),λc e=>by cases e;exact m⟩
  obtain⟨x,mx,rfl⟩:=Fx.mp m
  have:=b.lo x mx
  have:=b.hi x mx
  have:=b.z1
  exact Sm.of (by omega) (by omega)
theorem Bt.src(b:Bt ts rs sz):Src (Bz ts sz) rs (fOf ts) (tOf ts) (ts.map (·.2.1)):=by
 have ex:∀ a∈ts.map (·.2.1),∃ x∈ts,x.2.1=a:=λa m=>by obtain⟨x,m,e⟩:=Fx.mp m;exact⟨x,m,e⟩
 have z0:=b.z0;refine⟨b.rl,λw m=>(i7 b (b.rw w m)).1,λa m=>(i7 b (b.rw _ m)).2 a rfl,by rw[EU];exact b.n,λa m=>?_,λa m=>?_,λa m w mw=>?_,λa m c mc=>?_⟩
 ·obtain⟨x,mx,rfl⟩:=ex a m
  have l:=b.lies ts.length (EV _);rw[E1 (EV _)]at l;rw[b.f mx,b.t mx]
  have:=b.hi x mx
  exact(l x mx).thg (b.lo x mx) (by rw[lG,Ft];omega)
 ·obtain⟨x,mx,rfl⟩:=ex a m
  rw[b.f mx];exact b.fl x mx
 ·obtain⟨x,mx,rfl⟩:=ex a m
  rw[b.f mx]at mw;exact(i7 b (b.fw x mx w mw)).1
 ·obtain⟨x,mx,rfl⟩:=ex a m
  rw[b.f mx]at mc;exact(i7 b (b.fw x mx _ mc)).2 c rfl
theorem Bt.gm(b:Bt ts rs sz):Gm (Bz ts sz):=by
 refine⟨λt n m=>?_,λa n m=>?_⟩
 ·rcases qY m with h|⟨x,mx,e⟩|⟨x,mx,h⟩
  ·exact absurd (List.eq_of_mem_replicate h) (by intro z;cases z)
  ·cases e
   have:=b.fl x mx
   omega
  ·rcases b.fw x mx _ h with e|⟨z,e⟩|⟨a,_,e⟩<;>cases e
 ·rcases qY m with h|⟨x,mx,e⟩|⟨x,mx,h⟩
  ·exact absurd (List.eq_of_mem_replicate h) (by intro z;cases z)
  ·cases e
  ·rcases b.fw x mx _ h with e|⟨z,e⟩|⟨a,_,e⟩<;>cases e
end
def Mw.vl:Mw→Vl
 | .no=>.a .non
 | w=>.t (w.its.map .a)
theorem wU{H:Hp}{t:Addr}{us:List V}{k:Nat}(ht:H t=some (.tup us))(hf:∀ u∈us,dX u=true):Rp H (k+1) (.ref t) (.t (us.map .a)):=⟨t,us,rfl,ht,(by rw[EU]),λj u x h1 h2=>by
 rw[E3,h1]at h2;cases h2;cases k<;>exact⟨rfl,hf u (E6 h1)⟩⟩
theorem Cq{H:Hp}{y:V}{w:Mw}{k:Nat}(h:MV H y w):Rp H (k+1) y w.vl:=by
 cases w with
 | no =>
  rcases h with⟨_,rfl⟩|⟨n,_⟩
  ·exact⟨rfl,rfl⟩
  ·exact absurd rfl n
 | _ =>
  obtain⟨_,t,rfl,ht⟩:=h.resolve_left (λz=>by cases z.1);exact wU ht (λu m=>by simp only[Mw.its,E8,List.mem_nil_iff,or_false]at m;rcases m with rfl|rfl|rfl<;>rfl)
theorem iq{H:Hp}{l:Addr}{ys:List V}{ws:List Mw}{k:Nat}(hl:H l=some (.lst ys))(r:MR H ys ws):Rp H (k+2) (.ref l) (.l (ws.map Mw.vl)):=⟨l,ys,rfl,hl,by rw[EU];exact r.1,λj u x h1 h2=>by
 rw[E3]at h2;obtain⟨w,hw,rfl⟩:=Fh.mp h2;exact Cq (r.2 j u w h1 hw)⟩
theorem yW{H:Hp}{l:Addr}{ps:List V}{ks:List Int}{g:Int→Int}{k:Nat}(hl:H l=some (.lst ps))(r:Prs H ps ks g):Rp H (k+2) (.ref l) (.l (ks.map λt=>.t ([V.int t,V.int (g t)].map .a))):=⟨l,ps,rfl,hl,by rw[EU];exact r.1,λj u x h1 h2=>by
 rw[E3]at h2;obtain⟨t,ht,rfl⟩:=Fh.mp h2;obtain⟨q,rfl,hq⟩:=r.2 j u t h1 ht;exact wU hq (λu m=>by simp only[E8,List.mem_nil_iff,or_false]at m;rcases m with rfl|rfl<;>rfl)⟩
def tW(D:Ad):Sp:=λvs H Q _=>∃(lt:Addr) (tv:List V) (ts:List Tg) (sz:Int),vs=[.ref lt,.int sz]∧H lt=some (.lst tv)∧ThL H tv ts∧0≤sz∧sz≤1000∧ts.length≤10∧(∀ x∈ts,0≤x.2.1∧x.2.1+x.2.2.length<sz∧x.2.2.length≤6)∧∀ m mx c xs H',ao H H'→H m=none→H c=none→Mm D H' m mx c xs (Bz ts sz)→Q (.ref m) H'
abbrev mh:List Str:=["things", "size", "memory", "t", "a", "fields", "k", "word"]
theorem bU:aG mh ["things", "size"] (aj fT):=⟨rfl,rfl,rfl,by decide +kernel,rfl,by decide +kernel,by decide +kernel⟩
theorem kh(F:Fun K "_law_memory" "_law_memory" fT D.br D.dy)(T:Txt K mg D)
  (aQ:Ok P w K mg base 1 D.aL D.bC ["self", "size"] (lq D))
  (ax:Ok P w K mg base 4 D.a9 D.bY ["self", "a", "word"] (jk D)):Ok P w K mg base 5 D.br D.dy ["things", "size"] (tW D):=by
 refine⟨?_,F.binds (ps:=["things", "size"]) λ_ _ _ _ _ _ us hl=>match us,hl with|[_,_],_=>rfl⟩
 refine F.okE bU (λvs H Q E h=>?_) (λcdv A' outer s' H vs Q E hr h=>?_)
 ·obtain⟨lt,tv,ts,sz,rfl,_⟩:=h
  rfl
 ·obtain⟨lt,tv,ts,sz,rfl,ht,tl,z0,z1,n10,hts,k⟩:=h
  refine⟨_,(PSs.nox (af (aA (i:=2) bU.nd rfl (Or.inl rfl) (tH T.ik aQ.g (hr.mono (by decide)) rfl T.nM aQ.b .nil wJ (aa (pv 1) ag)))
   (af (dk Fn rfl (dj (pv 0)) (fM rfl (aH (aC (i:=3) bU.nd rfl (Or.inl rfl)) (aH (aC (i:=4) bU.nd rfl (Or.inl rfl)) (aH (aC (i:=5) bU.nd rfl (Or.inl rfl)) d4))))
    (af (bH (dH (pv 2) T.az T.cK ax.g (hr.mono (by decide)) ax.b .nil bD (aa (pv 4) (aa (cB (aa di (aa (pv 3) (aa (aV aJ rfl T.eW PyProof.Rows.Boot.«len» (aa (pv 5) ag)) ag)))) ag))))
    (ak (dk Fn rfl (ji rfl T.cW (aa (pv 5) ag)) (fM rfl (aH (aC (i:=6) bU.nd rfl (Or.inl rfl)) (aH (aC (i:=7) bU.nd rfl (Or.inl rfl)) d4)))
     (ak (bH (dH (pv 2) T.az T.cK ax.g (hr.mono (by decide)) ax.b .nil bD (aa (av aP (av aP (pv 4) ai) (pv 6)) (aa (pv 7) ag)))))))))
   (ak (aW (pv 2)))))),?_⟩
  refine⟨_,rfl,?_⟩;intro m mx hm hmx nd;refine⟨m,mx,sz,rfl,ab,by omega,by omega,λc H1 B1 hc M1=>⟨rfl,?_⟩⟩;have s1:ao H H1:=λb u q=>B1 b u (ae q hm) (by rw[ah (ae q hm),ah (ae q hmx)];exact q);have hHc:H c=none:=by
   by_cases e:c=m
   ·rw[e];exact hm
   ·by_cases e2:c=mx
    ·rw[e2];exact hmx
    ·rw[ah e,ah e2]at hc;exact hc
  have lt1:=tl.1;refine⟨_,rfl,lt,rfl,⟨_,SqL.of (s1 _ _ ht)⟩,fA (K:=K) (a:=lt) (xs:=tv) (λi σ Hx=>∃(v3 v4 v5 v6 v7:Option V) (xs:List V),σ=[some (.ref lt),some (.int sz),some (.ref m),v3,v4,v5,v6,v7]∧ao H Hx∧Mm D Hx m mx c xs (ic (List.replicate sz.toNat .no) (ts.take i))) ⟨none,none,none,none,none,_,rfl,s1,M1⟩ (λi σ Hx _ ⟨_,_,_,_,_,_,_,sx,_⟩=>SqL.of (sx _ _ ht)) ?_ ?_⟩
  ·rintro i v σ Hx hi ⟨v3,v4,v5,v6,v7,xs,rfl,sx,Mx⟩
   have il:i<ts.length:=(by rw[←lt1];exact(ER.mp hi).1);have hx:ts[i]?=some ts[i]:=EO il;obtain⟨x,ex⟩:∃ x,ts[i]=x:=⟨_,rfl⟩;rw[ex]at hx;obtain⟨q,lf,zs,rfl,h1,h2,h3⟩:=tl.2 i v x hi hx;obtain⟨a0,a1,a6⟩:=hts x (E6 hx);have e3:=h3.1;have lw:(ic (List.replicate sz.toNat Mw.no) (ts.take i)).length=sz.toNat:=(by rw[lG,Ft]);refine⟨q,_,rfl,SqT.of (sx _ _ h1),rfl,_,_,rfl,_,_,rfl,_,_,rfl,rfl,?_⟩;refine⟨_,rfl,m,_,_,rfl,Mx.i,(by kernel_rfl),_,rfl,_,rfl,_,rfl,lf,_,rfl,.inl (SqL.of (sx _ _ h2)),by show 3≤sizeLine;decide,λp hp=>?_⟩;have sp:=ao.upd (o:=.tup [V.str "head",V.int x.1,V.int zs.length]) hp;refine⟨m,mx,c,xs,_,x.2.1,.ref p,.hd x.1 x.2.2.length,rfl,Mx.same sp,Sm.of (by omega) (by omega),.inr ⟨(by intro z;cases z),p,rfl,by rw[ab,e3];rfl⟩,?_⟩;rw[lw,if_pos ⟨a0,by omega⟩];intro M2;obtain⟨H2,eH2⟩:∃ H2,upd (upd Hx p (.tup [V.str "head",V.int x.1,V.int zs.length])) c (.lst (xs.set x.2.1.toNat (.ref p)))=H2:=⟨_,rfl⟩;have s2:ao H H2:=λb u y=>by rw[←eH2,ah (ae y hHc)];exact sp _ _ (sx _ _ y)
   rw[eH2]at M2 ⊢;refine⟨_,rfl,lf,rfl,⟨_,SqL.of (s2 _ _ h2)⟩,hZ (K:=K) (a:=lf) (xs:=zs) (λj σ Hy=>∃(v6 v7:Option V) (xs:List V),σ=[some (.ref lt),some (.int sz),some (.ref m),some (.int x.1),some (.int x.2.1),some (.ref lf),v6,v7]∧ao H Hy∧Mm D Hy m mx c xs (gi ((ic (List.replicate sz.toNat .no) (ts.take i)).set x.2.1.toNat (.hd x.1 x.2.2.length)) (x.2.1.toNat+1) (x.2.2.take j))) ⟨v6,v7,_,rfl,s2,M2⟩ (λj σ Hy _ ⟨_,_,_,_,sy,_⟩=>SqL.of (sy _ _ h2)) ?_ ?_⟩
   ·rintro j v σ Hy tp hj ⟨v6,v7,xs,rfl,sy,My⟩ htp
    have s3:=ao.upd (o:=.tup [.int (j:Int),v]) htp;refine⟨tp,_,rfl,SqT.of ab,rfl,_,_,rfl,_,_,rfl,rfl,?_⟩;have jl:j<x.2.2.length:=(by rw[←e3];exact(ER.mp hj).1);have hw:x.2.2[j]?=some x.2.2[j]:=EO jl;have M3:=My.same s3;refine⟨_,rfl,m,_,_,rfl,M3.i,(by kernel_rfl),_,rfl,_,1,rfl,rfl,_,rfl,_,_,rfl,rfl,_,rfl,m,mx,c,xs,_,x.2.1+1+(j:Int),v,x.2.2[j],rfl,M3,Sm.of (by omega) (by omega),(h3.2 j v _ hj hw).keep (aX.of (sy.trans s3)),?_⟩;rw[ip,Fw,lw,if_pos ⟨by omega,by omega⟩];intro M4;refine⟨_,_,xs.set (x.2.1+1+(j:Int)).toNat v,rfl,λb u y=>by rw[ah (ae y hHc)];exact s3 _ _ (sy _ _ y),?_⟩;rw[aN hw,iP,Fb,show x.2.1.toNat+1+min j x.2.2.length=(x.2.1+1+(j:Int)).toNat by omega];exact M4
   ·rintro σ Hy ⟨v6,v7,xs,rfl,sy,My⟩
    rw[e3,E1 (EV _)]at My;refine⟨_,_,_,_,_,xs,rfl,sy,?_⟩;rw[aN hx,nQ];exact My
  ·rintro σ Hx ⟨v3,v4,v5,v6,v7,xs,rfl,sx,Mx⟩
   rw[lt1,E1 (EV _)]at Mx;exact⟨_,rfl,k m mx c xs Hx sx hm hHc Mx⟩
def yX(D:Ad):Sp:=λvs H Q _=>∃ m mx c xs ws,vs=[.ref m]∧Mm D H m mx c xs ws∧∀ p H',ao H H'→H p=none→H' p=some (.lst xs)→Q (.ref p) H'
abbrev iZ:List Str:=["memory"]
theorem mm:aG iZ ["memory"] (aj eT):=⟨rfl,rfl,rfl,by decide +kernel,rfl,by decide +kernel,by decide +kernel⟩
theorem mn(F:Fun K "_law_words" "_law_words" eT D.bF D.dR)(T:Txt K mg D)
  (aw:Ok P w K mg base 1 D.aU D.bJ ["self"] (h8 D))
  (aR:Ok P w K mg base 4 D.bO D.cV ["self", "a"] (pN D)):Ok P w K mg base 5 D.bF D.dR ["memory"] (yX D):=by
 refine⟨?_,F.binds (ps:=["memory"]) λ_ _ _ _ _ _ us hl=>match us,hl with|[_],_=>rfl⟩
 refine F.okE mm (λvs H Q E h=>?_) (λcdv A' outer s' H vs Q E hr h=>?_)
 ·obtain⟨m,mx,c,xs,ws,rfl,_⟩:=h
  rfl
 ·obtain⟨m,mx,c,xs,ws,rfl,M,k⟩:=h
  refine⟨_,(PSs.nox (ak (aW (gh (cl:=[("memory",s'.heap.objs.size+1)]) (x := "a") (idx:=[0]) (NC:=["a", "memory"]) (by exact dm (sc:=aj eT) (N:=iZ) (ns:=["memory"]) rfl rfl rfl (by decide +kernel) rfl rfl (by intro q hq;rw[ET.mp hq];rfl)) rfl (dh rfl T.dI (aa (hX (pv 0) T.az T.cT aw.g (hr.mono (by decide)) aw.b .nil bD) ag)) (λC fp s₀ H₀=>(dH (pv 1) T.az T.eU aR.g (hr.mono (by decide)) aR.b .nil m4 (aa (pv 0) ag))))))),?_⟩;have el:=M.r.1;have z:=M.z;refine⟨_,rfl,m,_,_,rfl,M.i,(by kernel_rfl),m,mx,c,xs,ws,rfl,M,ws.length,rfl,by omega,by omega,λL hL=>?_⟩;refine d6 (lo:=0) (n:=ws.length) (λi ys Hc=>ys=xs.take i∧ao H Hc∧Hc L=some (.lst ys)) ⟨rfl,ao.upd hL,ab⟩ (λi ys Hc hi ⟨e,_,y⟩=>⟨y,by rw[e,Fb];omega⟩) (eP (by omega)) (λi ys Hc hi ⟨e,sc,y⟩=>?_) (λys Hc ⟨e,sc,y⟩=>?_)
  ·have Mc:=M.same sc
   refine⟨_,rfl,m,_,_,rfl,Mc.i,(by kernel_rfl),_,rfl,m,mx,c,xs,ws,_,rfl,Mc,Sm.of (by omega) (by omega),?_⟩;rw[if_pos ⟨by omega,by omega⟩];intro v w hv _ _;rw[show(0+(i:Int)).toNat=i by omega]at hv;exact⟨y,by rw[e,aN hv],λb u q=>by rw[ah (ae q hL)];exact sc b u q,ab⟩
  ·rw[e,←el,E1 (EV _)]at y
   exact k L Hc sc hL y
theorem tX{k:Nat}{xs:List Vl}:eqD (k+1) (.l xs) (.l [])=decide (xs=[]):=by
 cases xs with
 | nil=>rfl
 | cons x r =>
  show(_&&((x::r).length == ([]:List Vl).length))=_;rw[show((x::r).length == ([]:List Vl).length)=false from rfl,FY,decide_eq_false (by intro z;cases z)]
theorem sX{ws:List Mw}:(ws.map Mw.vl=[])↔ws=[]:=by simp
theorem wV{H:Hp}{e:Addr}{k:Nat}(h:H e=some (.lst [])):Rp H (k+1) (.ref e) (.l []):=⟨e,[],rfl,h,rfl,λi u x h=>by cases h⟩
theorem yf{a:Int}{ns:List Int}:inV (.int a) (ns.map V.int)=decide (a∈ns):=Co (n:=some a) (f:=λo=>match o with|none=>.non|some t=>.int t) rfl (λ_=>rfl)
theorem vR(acc:List Int)(u:List Mw):(addW acc u).length≤acc.length+u.length:=by
 induction u generalizing acc with
 | nil=>exact EV _
 | cons w r ih =>
  have h1:(iX acc w).length≤acc.length+1:=by
   unfold iX;cases w.adr with
   | none=>exact F7 _
   | some a =>
    show(if a∈acc then acc else acc++[a]).length≤_;split
    ·exact F7 _
    ·rw[E5];exact EV _
  have h2:=ih (iX acc w);rw[Fs];show(addW (iX acc w) r).length≤_;omega
structure Dat(H:Hp)(kvs:List (Key×V))(ts:List Tg):Prop where
 k:Kys kvs (ts.map (·.2.1))
 v:∀ x∈ts,∃ lf zs,fO kvs (Sum.inl x.2.1)=some (.ref lf)∧H lf=some (.lst zs)∧MR H zs x.2.2
def tY:Sp:=λvs H Q _=>∃(lt:Addr) (tv:List V) (ts:List Tg) (lr:Addr) (rv:List V) (rs:List Mw) (sz:Int),vs=[.ref lt,.ref lr]∧H lt=some (.lst tv)∧ThL H tv ts∧H lr=some (.lst rv)∧MR H rv rs∧Bt ts rs sz∧∀ p R H',ao H H'→H p=none→H' p=some (.lst (R.map V.int))→Bfs rs (fOf ts) R→(∀ a∈R,a∈ts.map (·.2.1))→Q (.ref p) H'
abbrev rW:List Str:=["things", "roots", "at", "t", "a", "fields", "row", "left", "place", "word"]
theorem bc:aG rW ["things", "roots"] (aj iL):=⟨rfl,rfl,rfl,by decide +kernel,rfl,by decide +kernel,by decide +kernel⟩
theorem qa(F:Fun K "_law_met" "_law_met" iL D.cH D.fm)(T:Txt K mg D):Ok P w K mg base 1 D.cH D.fm ["things", "roots"] (tY):=by
 refine⟨?_,F.binds (ps:=["things", "roots"]) λ_ _ _ _ _ _ us hl=>match us,hl with|[_,_],_=>rfl⟩
 refine F.okE bc (λvs H Q E h=>?_) (λcdv A' outer s' H vs Q E hr h=>?_)
 ·obtain⟨lt,tv,ts,lr,rv,rs,sz,rfl,_⟩:=h
  rfl
 ·obtain⟨lt,tv,ts,lr,rv,rs,sz,rfl,ht,tl,hlr,rr,b,k⟩:=h
  have hu:=iH hr;have hu4:=Ga (Gr (by decide:2≤64) _) hr.units;refine⟨_,(PSs.nox (af (aA (i:=2) bc.nd rfl (Or.inl rfl) ja)
   (af (dk Fn rfl (dj (pv 0)) (fM rfl (aH (aC (i:=3) bc.nd rfl (Or.inl rfl)) (aH (aC (i:=4) bc.nd rfl (Or.inl rfl)) (aH (aC (i:=5) bc.nd rfl (Or.inl rfl)) d4))))
    (ak (kI hu (pv 2) (pv 4) (pv 5) rfl)))
   (af (aA (i:=6) bc.nd rfl (Or.inl rfl) (gv ag))
   (af (aA (i:=7) bc.nd rfl (Or.inl rfl) (dE eS rfl T.jW PyProof.Rows.Boot.«list» (aa (pv 1) ag)))
   (af (aA (i:=8) bc.nd rfl (Or.inl rfl) ai)
   (af (qB Fn (PW.pt (pw_or (aM (pM (n:=2) hu4) (pv 7) (gv ag) (bg _)) (pw_or1 (aM pB (pv 8) (aV aJ rfl T.eW PyProof.Rows.Boot.«len» (aa (pv 6) ag)) (bg _)))))
    (af (eR (aM (sR (n:=2) hu4) (pv 7) (gv ag) (bg _))
     (af (aA (i:=7) bc.nd rfl (Or.inl rfl) (dE eS rfl T.jW PyProof.Rows.Boot.«list» (aa (cY hu (pv 2) (cn cX (pv 6) (pv 8) (λ_ _=>rfl)) (λ_ _=>rfl)) ag)))
     (ak (aA (i:=8) bc.nd rfl (Or.inl rfl) (av aP (pv 8) ai))))
     cu)
    (af (dk Fn rfl (dj (pv 7)) (aC (i:=9) bc.nd rfl (Or.inl rfl))
     (ak (eR (PW.pt (pw_and (aM tF (pv 9) gR (bg _)) (pw_and (aM uZ (cn c6 (pv 9) ai (λ_ _=>rfl)) di (bg _)) (pw_and1 (aM iU (cn c6 (pv 9) ai (λ_ _=>rfl)) (pv 6) (by with_unfolding_all rfl))))))
      (ak (bH (kG PySem.F.plainAttrs_list PySem.F.slot_list_append PySem.F.type_list_append dF (pv 6) (aa (cn c6 (pv 9) ai (λ_ _=>rfl)) ag))))
      cu)))
    (ak (aA (i:=7) bc.nd rfl (Or.inl rfl) (gv ag))))))
   (ak (aW (pv 6)))))))))),?_⟩
  have lt1:=tl.1;have n10:=b.n;have S:=b.src;intro d hd;have s1:=ao.upd (o:=.dK []) hd;refine⟨_,rfl,lt,rfl,⟨_,SqL.of (s1 _ _ ht)⟩,fA (K:=K) (a:=lt) (xs:=tv) (λi σ Hx=>∃(v3 v4 v5:Option V) (kvs:List (Key×V)),σ=[some (.ref lt),some (.ref lr),some (.ref d),v3,v4,v5,none,none,none,none]∧ao H Hx∧Hx d=some (.dK kvs)∧Dat H kvs (ts.take i)) ⟨none,none,none,[],rfl,s1,ab,rfl,(λx m=>nomatch m)⟩ (λi σ Hx _ ⟨_,_,_,_,_,sx,_⟩=>SqL.of (sx _ _ ht)) ?_ ?_⟩
  ·rintro i v σ Hx hi ⟨v3,v4,v5,kvs,rfl,sx,zd,da⟩
   have il:i<ts.length:=(by rw[←lt1];exact(ER.mp hi).1);have hx:ts[i]?=some ts[i]:=EO il;obtain⟨x,ex⟩:∃ x,ts[i]=x:=⟨_,rfl⟩;rw[ex]at hx;obtain⟨q,lf,zs,rfl,h1,h2,h3⟩:=tl.2 i v x hi hx;have nx:x.2.1∉(ts.take i).map (·.2.1):=λm=>by
    obtain⟨y,my,ey⟩:=Fx.mp m;obtain⟨j,hj⟩:=Fv my;have jl:=(ER.mp hj).1;rw[Fb]at jl;rw[Gd,if_pos (by omega)]at hj;rcases b.ap j i y x (by omega) hj hx with z|z<;>omega
   have lk:=da.k.len;rw[EU,Fb]at lk;refine⟨q,_,rfl,SqT.of (sx _ _ h1),rfl,_,_,rfl,_,_,rfl,_,_,rfl,rfl,?_⟩;refine⟨_,rfl,_,rfl,_,rfl,d,_,rfl,tN.k (k:=Sum.inl x.2.1) zd (by rw[lk];exact gx (by omega)),?_⟩;refine⟨_,_,_,putK kvs (Sum.inl x.2.1) (.ref lf),rfl,λb u y=>by rw[ah (ae y hd)];exact sx b u y,ab,?_⟩;rw[aN hx];refine⟨?_,λy m=>?_⟩
   ·rw[i9 _ (da.k.non nx)]
    have:=da.k
    unfold Kys at this ⊢;rw[Fd,Fd,Fd,this];rfl
   ·by_cases e:y.2.1=x.2.1
    ·have ey:y=x:=by
      rcases Fc.mp m with m|m
      ·exact absurd (Fx.mpr ⟨y,m,e⟩) nx
      ·exact ET.mp m
     rw[ey];exact⟨lf,zs,by rw[df,if_pos rfl],h2,h3⟩
    ·obtain⟨l',z',g1,g⟩:=da.v y ((Fc.mp m).resolve_right λz=>e (by rw[ET.mp z]))
     exact⟨l',z',by rw[df,if_neg (λz=>e (Sum.inl.inj z))];exact g1,g⟩
  rintro σ H1 ⟨v3,v4,v5,kvs,rfl,s1',zd,da⟩;rw[lt1,E1 (EV _)]at da;refine⟨by show 0≤sizeLine;exact Fj _,λrw' hrw=>?_⟩;have s2:=ao.upd (o:=.lst []) hrw;have sA:=s1'.trans s2;refine⟨_,rfl,lr,rv,rfl,.inl (SqL.of (sA _ _ hlr)),λl0 hl0=>?_⟩;have s3:=ao.upd (o:=.lst rv) hl0;have sB:=sA.trans s3;have zd2:=s3 _ _ (s2 _ _ zd);have zr2:upd (upd H1 rw' (.lst [])) l0 (.lst rv) rw'=some (.lst []):=s3 _ _ ab;have zl2:upd (upd H1 rw' (.lst [])) l0 (.lst rv) l0=some (.lst rv):=ab;have Dw:H rw'=none:=ao.none s1' hrw;generalize upd (upd H1 rw' (.lst [])) l0 (.lst rv)=H3 at *;have er:=rr.1;have rl:=b.rl;refine⟨λn σ Hx=>∃(v3 v4 v5 v9:Option V) (ll:Addr) (lv:List V) (lws:List Mw) (row:List Int) (p:Nat),σ=[some (.ref lt),some (.ref lr),some (.ref d),v3,v4,v5,some (.ref rw'),some (.ref ll),some (.int p),v9]∧ao H Hx∧Hx d=some (.dK kvs)∧Hx rw'=some (.lst (row.map V.int))∧Hx ll=some (.lst lv)∧MR Hx lv lws∧ll≠rw'∧(∀ a∈row,a∈ts.map (·.2.1))∧row.Nodup∧((lws=rs∧row=[]∧p=0∧n=200)∨(lws=[]∧Lw rs (fOf ts) row p∧n=100-p)),⟨200,v3,v4,v5,none,l0,rv,rs,[],0,rfl,sB,zd2,zr2,zl2,rr.keep (aX.of sB),(λe=>by rw[e,ab]at hl0;cases hl0),(λa m=>nomatch m),Gv,.inl ⟨rfl,rfl,rfl,rfl⟩⟩,?_⟩;rintro n σ Hx ⟨v3,v4,v5,v9,ll,lv,lws,row,p,rfl,sx,zdx,zrx,zlx,rl',nlr,hB,nd,ph⟩;have EM:row.length≤10:=Fo (i6 nd hB) S.bl;refine⟨_,rfl,by show 0≤sizeLine;exact Fj _,λe he=>?_⟩;have se:=ao.upd (o:=.lst []) he;have R1:Rp (upd Hx e (.lst [])) 2 (V.ref ll) _:=iq (k:=0) (se _ _ zlx) (rl'.keep (aX.of se));have R2:Rp (upd Hx e (.lst [])) 2 (V.ref e) _:=wV ab;refine⟨_,_,R1,R2,_,rfl,?_⟩;rw[tX];have zd3:=se _ _ zdx;have zr3:=se _ _ zrx;have zl3:=se _ _ zlx;have rl3:=rl'.keep (aX.of se);have sx3:=sx.trans se;generalize upd Hx e (.lst [])=H4 at *;have fin:lws=[]→row.length≤p→Bfs rs (fOf ts) row:=λe h=>by
   rcases ph with⟨e1,e2,e3,_⟩|⟨_,lw,_⟩
   ·have l0:Lw rs (fOf ts) row p:=by rw[e2,e3,←e1,e];exact Lw.start (rs:=[])
    exact l0.done h
   ·exact lw.done h
  refine kH (λh=>vf ?x) (λh=>⟨_,rfl,_,rfl,rw',_,rfl,.inl (SqL.of zr3),_,_,rfl,rfl,_,rfl,kH (λh2=>?x2) (λh2=>?z)⟩)
  case z =>
   have e1:lws=[]:=by
    by_cases c:lws=[]
    ·exact c
    ·exact absurd (by rw[decide_eq_false (λz=>c (sX.mp z))];rfl) h
   have hp2:row.length≤p:=by
    by_cases c:p<row.length
    ·exact absurd (decide_eq_true (by rw[EU];omega)) h2
    ·omega
   exact⟨_,rfl,k rw' row _ sx3 Dw zr3 (fin e1 hp2) hB⟩
  case' x =>
   have hp:lws≠[]∨(lws=[]∧p<row.length):=.inl λe=>by rw[e]at h;exact absurd h (by decide)
  case' x2 =>
   have hp:lws≠[]∨(lws=[]∧p<row.length):=by
    by_cases c:lws=[]
    ·refine .inr ⟨c,?_⟩
     have:=of_decide_eq_true h2
     rw[EU]at this;omega
    ·exact .inl c
  all_goals
   refine⟨λσ' H'=>∃ m',m'<n∧∃(v3 v4 v5 v9:Option V) (ll:Addr) (lv:List V) (lws:List Mw) (row:List Int) (p:Nat),σ'=[some (.ref lt),some (.ref lr),some (.ref d),v3,v4,v5,some (.ref rw'),some (.ref ll),some (.int p),v9]∧ao H H'∧H' d=some (.dK kvs)∧H' rw'=some (.lst (row.map V.int))∧H' ll=some (.lst lv)∧MR H' lv lws∧ll≠rw'∧(∀ a∈row,a∈ts.map (·.2.1))∧row.Nodup∧((lws=rs∧row=[]∧p=0∧m'=200)∨(lws=[]∧Lw rs (fOf ts) row p∧m'=100-p)),λ_ _ h=>h,?_⟩;refine tR λN hN=>?_;have rest:∀(H5:Hp) (ll5:Addr) (lv5:List V) (ws5:List Mw) (p5:Nat),ao H H5→H5 d=some (.dK kvs)→H5 rw'=some (.lst (row.map V.int))→H5 ll5=some (.lst lv5)→MR H5 lv5 ws5→ll5≠rw'→ws5.length≤9→(∀ w∈ws5,Okw w∧∀ a,w=.ad a→a∈ts.map (·.2.1))→Lw rs (fOf ts) (addW row ws5) p5→100-p5<n→N [some (.ref lt),some (.ref lr),some (.ref d),v3,v4,v5,some (.ref rw'),some (.ref ll5),some (.int p5),v9] H5:=by
    intro H5 ll5 lv5 ws5 p5 s5 zd5 zr5 zl5 r5 n5 l9 hw5 lw5 lt5;have e5:=r5.1;refine hN _ _ ?_;refine⟨_,rfl,ll5,rfl,⟨_,SqL.of zl5⟩,fA (K:=K) (a:=ll5) (xs:=lv5) (λi σ Hy=>∃(v9:Option V),σ=[some (.ref lt),some (.ref lr),some (.ref d),v3,v4,v5,some (.ref rw'),some (.ref ll5),some (.int p5),v9]∧ao H Hy∧Hy d=some (.dK kvs)∧Hy rw'=some (.lst ((addW row (ws5.take i)).map V.int))∧Hy ll5=some (.lst lv5)∧MR Hy lv5 ws5) ⟨v9,rfl,s5,zd5,zr5,zl5,r5⟩ (λi σ Hy _ ⟨_,_,_,_,_,y,_⟩=>SqL.of y) ?_ ?_⟩
    ·rintro i v σ Hy hi ⟨v9',rfl,sy,zdy,zry,zly,ry⟩
     have il:i<ws5.length:=(by rw[←e5];exact(ER.mp hi).1);have hw:ws5[i]?=some ws5[i]:=EO il;obtain⟨w,ew⟩:∃ w,ws5[i]=w:=⟨_,rfl⟩;rw[ew]at hw;have mv:=ry.2 i v w hi hw;obtain⟨okw,_⟩:=hw5 w (E6 hw);have no:w.adr=none→Hy rw'=some (.lst ((addW row (ws5.take (i+1))).map V.int)):=λh=>by rw[aN hw,eN,ib,tS h];exact zry
     refine⟨_,rfl,rfl,_,rfl,?_⟩;rcases okw with rfl|⟨z,rfl⟩|⟨a,rfl,_⟩
     ·have ev:v=.non:=by
       rcases mv with⟨_,e⟩|⟨n,_⟩
       ·exact e
       ·exact absurd rfl n
      exact cA (by rw[ev];rfl) (yB ⟨_,rfl,sy,zdy,no rfl,zly,ry⟩)
     ·obtain⟨_,q,rfl,hq⟩:=mv.resolve_left (λz=>by cases z.1)
      exact d0 rfl ⟨_,rfl,q,_,0,.str "number",rfl,rfl,SqT.of hq,rfl,rfl,_,rfl,cA (by kernel_rfl) (yB ⟨_,rfl,sy,zdy,no rfl,zly,ry⟩)⟩
     ·obtain⟨_,q,rfl,hq⟩:=mv.resolve_left (λz=>by cases z.1)
      refine d0 rfl ⟨_,rfl,q,_,0,.str "at",rfl,rfl,SqT.of hq,rfl,rfl,_,rfl,d0 (by kernel_rfl) ⟨_,rfl,q,_,1,.int a,rfl,rfl,SqT.of hq,rfl,_,rfl,rw',_,rfl,.inl (SqL.of zry),rfl,jt _,_,rfl,?_⟩⟩;rw[yf];by_cases ca:a∈addW row (ws5.take i)
      ·refine cA (by rw[decide_eq_true ca];rfl) ⟨_,rfl,sy,zdy,?_,zly,ry⟩
       rw[aN hw,eN,ib,lC ca];exact zry
      ·have la:(addW row (ws5.take i)).length≤19:=by
        have:=vR row (ws5.take i)
        rw[Fb]at this;omega
       refine d0 (by rw[decide_eq_false ca];rfl) ⟨_,rfl,.inl ⟨rfl,_,SqL.of zry⟩,_,rfl,q,_,1,.int a,rfl,rfl,SqT.of hq,rfl,rw',_,_,rfl,rfl,zry,by rw[EU];exact gx (by omega),?_⟩;refine⟨_,rfl,λb u y=>by rw[ah (ae y Dw)];exact sy b u y,by rw[ah (bB zdy zry (by intro z;cases z))];exact zdy,?_,by rw[ah n5];exact zly,ry.keep (aX.set zry)⟩;rw[ab,aN hw,eN,ib,lB ca,Fd];rfl
    ·rintro σ Hy ⟨v9',rfl,sy,zdy,zry,zly,ry⟩
     rw[e5,E1 (EV _)]at zry;refine⟨by show 0≤sizeLine;exact Fj _,λe6 he6=>?_⟩;have s6:=ao.upd (o:=.lst []) he6;exact⟨100-p5,lt5,v3,v4,v5,v9',e6,[],[],addW row ws5,p5,rfl,sy.trans s6,s6 _ _ zdy,s6 _ _ zry,ab,⟨rfl,(λi v w h=>by cases h)⟩,(λz=>by rw[z,zry]at he6;cases he6),λa m=>(qU.mp m).elim (hB a) λm=>(hw5 _ m).2 a rfl,tT nd,.inr ⟨rfl,lw5,rfl⟩⟩
   refine⟨_,rfl,by show 0≤sizeLine;exact Fj _,λe2 he2=>?_⟩;have s7:=ao.upd (o:=.lst []) he2;have Q1:Rp (upd H4 e2 (.lst [])) 2 (V.ref ll) _:=iq (k:=0) (s7 _ _ zl3) (rl3.keep (aX.of s7));have Q2:Rp (upd H4 e2 (.lst [])) 2 (V.ref e2) _:=wV ab;refine⟨_,_,Q1,Q2,_,rfl,?_⟩;rw[tX];have zd7:=s7 _ _ zd3;have zr7:=s7 _ _ zr3;have zl7:=s7 _ _ zl3;have rl7:=rl3.keep (aX.of s7);have sx7:=sx3.trans s7;generalize upd H4 e2 (.lst [])=H7 at *;by_cases cl:lws=[]
   ·have hp2:p<row.length:=hp.elim (λh=>absurd cl h) (·.2)
    have lw:Lw rs (fOf ts) row p∧(n=200∨n=100-p):=by
     rcases ph with⟨e1,e2,e3,e4⟩|⟨_,lw,e4⟩
     ·rw[e2]at hp2;cases hp2
     ·exact⟨lw,.inr e4⟩
    have ha:row[p]?=some row[p]:=EO hp2;obtain⟨a,ea⟩:∃ a,row[p]=a:=⟨_,rfl⟩;rw[ea]at ha;have aB:=hB a (E6 ha);obtain⟨x,mx,ex⟩:=Fx.mp aB;obtain⟨lf,zs,hv,hlf,rlf⟩:=da.v x mx;have ex':x.2.1=a:=ex;rw[ex']at hv;have ef:=b.f mx;rw[ex']at ef;refine d0 (decide_eq_true (sX.mpr cl)) ⟨_,rfl,_,rfl,_,rfl,rw',_,_,.int a,rfl,rfl,SqL.of zr7,fh (by omega) (by rw[Int.toNat_natCast,E3,ha];rfl),d,_,rfl,.inl ⟨kvs,Sum.inl a,.inl zd7,rfl,hv.symm⟩,lf,zs,rfl,.inl (SqL.of (sx7 _ _ hlf)),λl8 hl8=>?_⟩;have s8:=ao.upd (o:=.lst zs) hl8;refine⟨_,rfl,_,1,rfl,rfl,?_⟩;have fl:=b.fl x mx;exact rest _ l8 zs (fOf ts a) (p+1) (sx7.trans s8) (s8 _ _ zd7) (s8 _ _ zr7) ab (by rw[ef];exact rlf.keep (aX.of (sx7.trans s8))) (λz=>by rw[z,zr7]at hl8;cases hl8) (by rw[ef];omega) (λw m=>by rw[ef]at m;exact i7 b (b.fw x mx w m)) (lw.1.step ha) (by omega)
   ·obtain⟨e1,e2,e3,e4⟩:lws=rs∧row=[]∧p=0∧n=200:=ph.resolve_right λz=>cl z.1
    refine cA (decide_eq_false (λz=>cl (sX.mp z))) ?_;refine rest H7 ll lv lws p sx7 zd7 zr7 zl7 rl7 nlr (by rw[e1];exact rl) (λw m=>by rw[e1]at m;exact i7 b (b.rw w m)) (by rw[e1,e2,e3];exact Lw.start) (by omega)
def nR:Sp:=λvs H Q _=>∃(lt:Addr) (tv:List V) (ts:List Tg) (lr:Addr) (rv:List V) (rs:List Mw) (sz fs:Int),vs=[.ref lt,.ref lr,.int fs]∧H lt=some (.lst tv)∧ThL H tv ts∧H lr=some (.lst rv)∧MR H rv rs∧Bt ts rs sz∧∀ p ps R H',ao H H'→H p=none→H' p=some (.lst ps)→Prs H' ps R (plA (fOf ts) fs R)→Bfs rs (fOf ts) R→(∀ a∈R,a∈ts.map (·.2.1))→Q (.ref p) H'
abbrev om:List Str:=["things", "roots", "first", "at", "t", "a", "fields", "pairs"]
theorem bL:aG om ["things", "roots", "first"] (aj gA):=⟨rfl,rfl,rfl,by decide +kernel,rfl,by decide +kernel,by decide +kernel⟩
theorem mq(F:Fun K "_law_pairs" "_law_pairs" gA D.bG D.dS)(T:Txt K mg D)
  (gK:Ok P w K mg base 1 D.cH D.fm ["things", "roots"] (tY)):Ok P w K mg base 2 D.bG D.dS ["things", "roots", "first"] (nR):=by
 refine⟨?_,F.binds (ps:=["things", "roots", "first"]) λ_ _ _ _ _ _ us hl=>match us,hl with|[_,_,_],_=>rfl⟩
 refine F.okE bL (λvs H Q E h=>?_) (λcdv A' outer s' H vs Q E hr h=>?_)
 ·obtain⟨lt,tv,ts,lr,rv,rs,sz,fs,rfl,_⟩:=h
  rfl
 ·obtain⟨lt,tv,ts,lr,rv,rs,sz,fs,rfl,ht,tl,hlr,rr,b,k⟩:=h
  have hu:=iH hr;refine⟨_,(PSs.nox (af (aA (i:=3) bL.nd rfl (Or.inl rfl) ja)
   (af (dk Fn rfl (dj (pv 0)) (fM rfl (aH (aC (i:=4) bL.nd rfl (Or.inl rfl)) (aH (aC (i:=5) bL.nd rfl (Or.inl rfl)) (aH (aC (i:=6) bL.nd rfl (Or.inl rfl)) d4))))
    (ak (kI hu (pv 3) (pv 5) (aV aJ rfl T.eW PyProof.Rows.Boot.«len» (aa (pv 6) ag)) rfl)))
   (af (aA (i:=7) bL.nd rfl (Or.inl rfl) (gv ag))
   (af (dk Fn rfl (dj (aD gK.g (hr.mono (by decide)) rfl T.rR T.iN gK.b .nil bD (aa (pv 0) (aa (pv 1) ag)))) (aC (i:=5) bL.nd rfl (Or.inl rfl))
    (af (bH (kG PySem.F.plainAttrs_list PySem.F.slot_list_append PySem.F.type_list_append dF (pv 7) (aa (cB (aa (pv 5) (aa (pv 2) ag))) ag)))
    (ak (aA (i:=2) bL.nd rfl (Or.inl rfl) (av aP (av aP (pv 2) (cY hu (pv 3) (pv 5) (λ_ _=>rfl))) ai)))))
   (ak (aW (pv 7)))))))),?_⟩
  have lt1:=tl.1;have n10:=b.n;intro d hd;have s1:=ao.upd (o:=.dK []) hd;refine⟨_,rfl,lt,rfl,⟨_,SqL.of (s1 _ _ ht)⟩,fA (K:=K) (a:=lt) (xs:=tv) (λi σ Hx=>∃(v4 v5 v6:Option V) (kvs:List (Key×V)) (ms:List Int),σ=[some (.ref lt),some (.ref lr),some (.int fs),some (.ref d),v4,v5,v6,none]∧ao H Hx∧Hx d=some (.dK kvs)∧Dg kvs ms (λa=>((fOf ts a).length:Int))∧ms.length≤i∧∀ x∈ts.take i,x.2.1∈ms) ⟨none,none,none,[],[],rfl,s1,ab,Dg.nil,EV _,(λx m=>nomatch m)⟩ (λi σ Hx _ ⟨_,_,_,_,_,_,sx,_⟩=>SqL.of (sx _ _ ht)) ?_ ?_⟩
  ·rintro i v σ Hx hi ⟨v4,v5,v6,kvs,ms,rfl,sx,zd,dg,lm,hm⟩
   have il:i<ts.length:=(by rw[←lt1];exact(ER.mp hi).1);have hx:ts[i]?=some ts[i]:=EO il;obtain⟨x,ex⟩:∃ x,ts[i]=x:=⟨_,rfl⟩;rw[ex]at hx;obtain⟨q,lf,zs,rfl,h1,h2,h3⟩:=tl.2 i v x hi hx;have ef:=b.f (E6 hx);have lk:=dg.k.len;obtain⟨ms',dg',hm',lm'⟩:=dg.put (t:=x.2.1);refine⟨q,_,rfl,SqT.of (sx _ _ h1),rfl,_,_,rfl,_,_,rfl,_,_,rfl,rfl,?_⟩;refine⟨_,rfl,lf,_,rfl,.inl (SqL.of (sx _ _ h2)),_,rfl,_,rfl,d,_,rfl,tN.k (k:=Sum.inl x.2.1) zd (by rw[lk];exact gx (by omega)),?_⟩;have ev:(zs.length:Int)=((fOf ts x.2.1).length:Int):=(by rw[ef,h3.1]);rw[ev];refine⟨_,_,_,_,ms',rfl,λb u y=>by rw[ah (ae y hd)];exact sx b u y,ab,dg',by omega,λy m=>?_⟩;rw[aN hx]at m;rcases Fc.mp m with m|m
   ·exact(hm' _).mpr (.inl (hm y m))
   ·rw[ET.mp m];exact(hm' _).mpr (.inr rfl)
  rintro σ H1 ⟨v4,v5,v6,kvs,ms,rfl,s1',zd,dg,lm,hm⟩;rw[lt1,E1 (EV _)]at hm;refine⟨by show 0≤sizeLine;exact Fj _,λpp hpp=>?_⟩;have s2:=ao.upd (o:=.lst []) hpp;have sA:=s1'.trans s2;have Dx:H pp=none:=ao.none s1' hpp;refine⟨_,rfl,_,rfl,lt,tv,ts,lr,rv,rs,sz,rfl,sA _ _ ht,tl.same sA,sA _ _ hlr,rr.keep (aX.of sA),b,λr R H2 s3 hr0 zr bf hB=>?_⟩;have nd:=bf.nd;have lR:R.length≤10:=Fo (i6 nd hB) (by rw[EU];exact n10);have zd2:=s3 _ _ (s2 _ _ zd);have zp2:=s3 _ _ (ab (H:=H1) (a:=pp) (o:=.lst []));have sB:=sA.trans s3;have nrp:r≠pp:=λz=>by rw[z,ab]at hr0;cases hr0
  refine⟨r,rfl,⟨_,SqL.of zr⟩,fA (K:=K) (a:=r) (xs:=R.map V.int) (λi σ Hx=>∃(v5:Option V) (ps:List V),σ=[some (.ref lt),some (.ref lr),some (.int (fs+tot (fOf ts) (R.take i))),some (.ref d),v4,v5,v6,some (.ref pp)]∧ao H Hx∧Hx d=some (.dK kvs)∧Hx r=some (.lst (R.map V.int))∧Hx pp=some (.lst ps)∧Prs Hx ps (R.take i) (plA (fOf ts) fs R)) ⟨v5,[],(by rw[List.take_zero];show _=[_,_,some (V.int (fs+0)),_,_,_,_,_];rw[Int.add_zero];rfl),sB,zd2,zr,zp2,rfl,(λi u t h=>by cases h)⟩ (λi σ Hx _ ⟨_,_,_,_,_,y,_⟩=>SqL.of y) ?_ ?_⟩
  ·rintro i v σ Hx hi ⟨v5,ps,rfl,sx,zdx,zrx,zpx,pr⟩
   rw[E3]at hi;obtain⟨a,ha,rfl⟩:=Fh.mp hi;have pl:=i4 (f:=fOf ts) (p:=fs) nd ha;have lp:=pr.1;rw[Fb]at lp;obtain⟨x,mx,ex⟩:=Fx.mp (hB a (E6 ha));have am:a∈ms:=(by rw[←ex];exact hm x mx);refine⟨_,rfl,.inl ⟨rfl,_,SqL.of zpx⟩,_,rfl,_,rfl,by show 2≤sizeLine;decide,λq hq=>?_⟩;have sq:=ao.upd (o:=.tup [V.int a,V.int (fs+tot (fOf ts) (R.take i))]) hq;refine⟨pp,_,_,rfl,rfl,sq _ _ zpx,gx (by omega),?_⟩;have npq:q≠pp:=λz=>by rw[z,zpx]at hq;cases hq
   have zd3:∀ o,upd (upd Hx q (.tup [V.int a,V.int (fs+tot (fOf ts) (R.take i))])) pp o d=some (.dK kvs):=λo=>by rw[ah (bB zdx zpx (by intro z;cases z))];exact sq _ _ zdx
   refine⟨_,rfl,_,rfl,_,rfl,d,_,rfl,.inl ⟨kvs,Sum.inl a,.inl (zd3 _),rfl,(dg.v a am).symm⟩,_,_,rfl,rfl,_,1,rfl,rfl,some (.int a),ps++[.ref q],?_,λb u y=>by rw[ah (ae y Dx)];exact sq _ _ (sx b u y),zd3 _,by rw[ah nrp];exact sq _ _ zrx,ab,?_⟩
   ·rw[aN ha,jc]
    show[_,_,some (V.int (fs+(tot (fOf ts) (R.take i):Int)+((fOf ts a).length:Int)+1)),_,_,_,_,_]=_;rw[show fs+(tot (fOf ts) (R.take i):Int)+((fOf ts a).length:Int)+1=fs+((tot (fOf ts) (R.take i)+((fOf ts a).length+1):Nat):Int) by push_cast;omega]
   ·rw[aN ha]
    exact((pr.keep (aX.of sq)).snoc (by rw[pl];exact ab)).keep (aX.set (sq _ _ zpx))
  ·rintro σ Hx ⟨v5,ps,rfl,sx,zdx,zrx,zpx,pr⟩
   rw[EU,E1 (EV _)]at pr;exact⟨_,rfl,k pp ps R Hx sx Dx zpx pr bf hB⟩
end
end K40
end
section
namespace L2
open PySem PySem.Spec PyProof.Rows LX
structure jm(X:Cx)(scope:Scope)(cl:List (Str×Addr))(xs:List Str)(idx:List Nat)(NC:List Str):Prop where
 wC:closureFor scope X.env=pure cl
 sub:∀ y c,cl.lookup y=some c→X.env.cells.lookup y=some c
 has:∀ y,((relabel scope X.env).names.lookup y=some .cell∨(relabel scope X.env).names.lookup y=some .free)→∃ c,cl.lookup y=some c
 jV:∀ y∈scope.names,y.2≠.cell
 kind:scope.kind=.function
 loc:∀ y∈scope.names,y.2=.local→scope.names.lookup y.1=some .local
 xl:∀ x∈xs,scope.names.lookup x=some .local
 nc:NC=xs++idx.map λi=>X.N.getD i ""
 nd:NC.Nodup
 cap:∀ i∈idx,i<X.N.length∧((X.env.scope.names.lookup (X.N.getD i "")=some .cell∨X.env.scope.names.lookup (X.N.getD i "")=some .free)∧((relabel scope X.env).names.lookup (X.N.getD i "")=some .cell∨(relabel scope X.env).names.lookup (X.N.getD i "")=some .free))
section
variable{X:Cx}{scope:Scope}{cl:List (Str×Addr)}{xs:List Str}{idx:List Nat}{NC:List Str}{C:Addr}{fp:List Addr}{pins:List (Addr×Obj)}{σ:St}{H:Hp}{s:Shared}
theorem uQ{h1:Heap}{t':Nat}(c:jm X scope cl xs idx NC)(I:Inv X pins σ H s)(hf:∀ b∈fp,jY X pins H b)(hlt:∀ b∈fp,b<s.heap.objs.size)(ns:h1.Ns s.heap.objs.size (λ_=>none))
  (k:∀ b o,s.heap.get? b=some o→h1.get? b=some o):Inv (cxC X scope cl NC s.heap.objs.size fp s H) [] (xs.map (λ_=>none)++gb σ idx) H {s with heap:=h1,toks:=t'}:=by
 have sub:∀ b,b∈frs X.stack→b∈X.env.locals::X.fs:=I.ir;refine⟨⟨I.ok.mod,c.kind,I.ok.glob,I.ok.blt,EV _,λy z a h1 h2=>I.ok.inj y z a (c.sub _ _ h1) (c.sub _ _ h2),c.has,λy a z=>(by cases z),I.ok.hd,I.ok.frames,.inl rfl,λb hb=>⟨E9 (hlt b hb),λy a q=>(hf b hb).2.2.2.2.1 y a (c.sub _ _ q)⟩,
  λb o q=>I.bs b o q,Fo I.ok.bsz I.sz,λb o q hb=>?_,λb hb z=>?_,I.stack,I.gO⟩,rfl,I.bare,Un.kept k,⟨_,ns,λi y v e1 e2 e3=>?_⟩,λy a q=>?_,I.hok.fresh (EV _),λy a q=>I.gQ _ _ (c.sub _ _ q),λp hp=>(by cases hp),I.hok.keeps λb u o _ q=>k b o q,?_⟩
 ·rcases(hf b hb).2.2.2.1 with z|z
  ·exact I.ok.vZ b o q z
  ·exact absurd (E7 (E4 (I.ok.bs b o q).1) z) (FF _)
 ·rcases E8.mp (sub b z) with r|r
  ·exact(hf b hb).2.1 r
  ·exact(hf b hb).2.2.1 r
 ·rcases Nat.lt_or_ge i xs.length with ci|ci
  ·rw[Fi (by rw[EU];exact ci),E3,EO ci]at e2
   cases e2
  ·obtain⟨j,rfl⟩:∃ j,i=xs.length+j:=⟨i-xs.length,by omega⟩
   have e1':(idx.map λi=>X.N.getD i "")[j]?=some y:=by
    have:(cxC X scope cl NC s.heap.objs.size fp s H).N=NC:=rfl
    rw[this,c.nc,Fm (Nat.le_add_right _ _),Nat.add_sub_cancel_left]at e1;exact e1
   have e2':(gb σ idx)[j]?=some (some v):=by
    rw[Fm (by rw[EU];exact Nat.le_add_right _ _),EU,Nat.add_sub_cancel_left]at e2;exact e2
   rw[E3]at e1';unfold gb at e2';rw[E3]at e2';cases ei:idx[j]? with
   | none=>rw[ei]at e1';cases e1'
   | some i =>
    rw[ei]at e1' e2';simp only[FP,Option.some.injEq]at e1' e2';obtain⟨hi,h2,h3⟩:=c.cap i (E6 ei);rw[e1']at h2 h3;have hN:X.N[i]?=some y:=by
     rw[←e1'];simp[List.getD,EO hi]
    have hσ:σ[i]?=some (some v):=by
     cases q:σ[i]? with
     | none=>rw[q]at e2';cases e2'
     | some o=>rw[q]at e2';simp only[FX]at e2';rw[e2']
    obtain⟨m,hn,hl⟩:=I.loc;obtain⟨u,r,l⟩:=hl i y v hN hσ (h2.elim (λz=>.inr (.inl z)) λz=>.inr (.inr z));refine⟨u,r,.inr ⟨h3,?_⟩⟩;rcases l with⟨l,_⟩|⟨_,a,ha,hc⟩
    ·exfalso
     have l':X.env.scope.names.lookup y=some .local:=l;rcases h2 with z|z<;>(rw[l']at z;cases z)
    ·obtain⟨a',ha'⟩:=c.has y h3
     have:=c.sub _ _ ha'
     rw[ha]at this;cases this;exact⟨a,ha',hc.keeps k⟩
 ·obtain⟨v,z⟩:=I.cell _ _ (c.sub _ _ q)
  exact⟨v,z.keeps k⟩
 ·show _=NC.length
  rw[c.nc];simp[gb]
theorem sY(c:jm X scope cl xs idx NC){C:Addr}{fp:List Addr}{s₀:Shared}{H₀:Hp}{i:Nat}{x:Str}{p:Pos}(h:xs[i]?=some x):PG (cxC X scope cl NC C fp s₀ H₀) (.Name x p) (i8 i):=by
 have hnl:(relabel scope X.env).names.lookup x=some .local:=lookup_relabel_local (c.xl x (E6 h));exact aC (X:=cxC X scope cl NC C fp s₀ H₀) (i:=i) (x:=x) (pos:=p) c.nd (by show NC[i]?=some x;rw[c.nc,Fi (ER.mp h).1];exact h) (.inl hnl) (.inr hnl)
def tZ(J:It)(D:Addr)(k:Nat)(τ:St)(g:TG)(tc:TT)(te:TE)(Q:VK)(H:Hp):Prop:=∃ W:Nat→Nat→List V→Hp→Prop,(∃ m,W 0 m [] H)∧∀ i m ys H2,W i m ys H2→H2 D=some (.lst ys) ∧
 ((J.stop i H2∧Q (.ref D) H2)∨(J.go i H2∧ys.length<sizeLine∧∃ N:List V→Hp→Prop,(∀ zs H',N zs H'→∃ m',m'<m∧W (i+1) m' zs H')∧∀ y H3,J.yld i H2 y H3→∀ vs:St,vs.length=k→g y (vs++τ) H3 λσ2 H4=>∃ ws:St,ws.length=k∧σ2=ws++τ∧tc (ws++τ) H4 λb H5=>if b=true then te (ws++τ) H5 λv H6=>H6 D=some (.lst ys)∧N (ys++[v]) (upd H6 D (.lst (ys++[v])))
  else N ys H5))
def zW(k:Nat)(wi:TI)(idx:List Nat)(g:TG)(tc:TT)(te:TE):TE:=λσ H Q=>wi σ H λJ H1=>∀ D,H1 D=none→tZ J D k (gb σ idx) g tc te Q (upd H1 D (.lst []))
end
def sZ(sc scope:Scope)(xs:List Str)(ns N:List Str)(idx:List Nat):Prop :=
 (∀ y∈scope.names,y.2≠.cell)∧(∀ y∈scope.names,y.2=.local→scope.names.lookup y.1=some .local)∧(∀ x∈xs,scope.names.lookup x=some .local)∧(∀ p∈tQ sc scope.names,p.2=.cell∨p.2=.free→p.1∈ns)∧(xs++idx.map λi=>N.getD i "").Nodup ∧
 ∀ i∈idx,i<N.length∧((sc.names.lookup (N.getD i "")=some .cell∨sc.names.lookup (N.getD i "")=some .free)∧((tQ sc scope.names).lookup (N.getD i "")=some .cell∨(tQ sc scope.names).lookup (N.getD i "")=some .free))
instance (sc scope:Scope) (xs:List Str) (ns N:List Str) (idx:List Nat):Decidable (sZ sc scope xs ns N idx):=by unfold sZ;infer_instance
theorem vS{X:Cx}{sc scope:Scope}{cl:List (Str×Addr)}{xs:List Str}{ns N:List Str}{idx:List Nat}(hsc:X.env.scope=sc)(hN:X.N=N)(hk:scope.kind=.function)(p:sZ sc scope xs ns N idx)(hn:cl.map (·.1)=ns)
  (rD:closureFor scope X.env=pure cl) (xZ:∀ q∈cl,X.env.cells.lookup q.1=some q.2):jm X scope cl xs idx (xs++idx.map λi=>N.getD i ""):=by
 obtain⟨p1,p2,p3,p4,p5,p6⟩:=p;have re:(relabel scope X.env).names=tQ sc scope.names:=by subst hsc;rfl
 subst hsc hN hn;refine⟨rD,λy c q=>xZ (y,c) (Fq q),λy h=>?_,p1,hk,p2,p3,rfl,p5,λi hi=>?_⟩
 ·rw[re]at h
  refine fI ?_;rcases h with h|h
  ·exact p4 (y,.cell) (Fq h) (.inl rfl)
  ·exact p4 (y,.free) (Fq h) (.inr rfl)
 ·rw[re]
  exact p6 i hi
theorem rX{K:W.Frag}{a:Addr}{xs:List V}{k:Nat}{g:TG}{tc:TT}{te:TE}{Q:VK}{D:Addr}{τ:St}{H:Hp}(Pv:Nat→List V→Hp→Prop)(h0:Pv 0 [] H)(hD:∀ i ys H,i≤xs.length→Pv i ys H→H D=some (.lst ys)∧ys.length≤i)(hl:∀ i ys H,i≤xs.length→Pv i ys H→SqL K H a xs)(hn:xs.length≤sizeLine)
  (hs:∀ i x ys H,xs[i]?=some x→Pv i ys H→∀ vs:St,vs.length=k→g x (vs++τ) H λσ2 H4=>∃ ws:St,ws.length=k∧σ2=ws++τ∧tc (ws++τ) H4 λb H5=>if b=true then te (ws++τ) H5 λv H6=>H6 D=some (.lst ys)∧Pv (i+1) (ys++[v]) (upd H6 D (.lst (ys++[v]))) else Pv (i+1) ys H5)
  (hd:∀ ys H,Pv xs.length ys H→Q (.ref D) H):tZ (Itl K a) D k τ g tc te Q H:=by
 refine⟨λi m ys H=>m=xs.length-i∧i≤xs.length∧Pv i ys H,⟨xs.length,by simp,Fj _,h0⟩,?_⟩;rintro i m ys H2 ⟨rfl,hi,p⟩;obtain⟨d1,d2⟩:=hD i ys H2 hi p;refine⟨d1,?_⟩;have hS:=hl i ys H2 hi p;by_cases hlt:i<xs.length
 ·refine .inr ⟨⟨xs,xs[i],hS,EO hlt⟩,by omega,Pv (i+1),λzs H' p'=>⟨xs.length-(i+1),by omega,rfl,hlt,p'⟩,λy H3 q=>?_⟩
  obtain⟨e1,e2⟩:=q;subst e1;exact hs i y ys _ (e2 xs (hl i ys _ hi p)) p
 ·have e:i=xs.length:=by omega
  subst e;exact .inl ⟨⟨xs,hS,EV _⟩,hd ys H2 p⟩
end L2
end
section
namespace L2
open PySem PySem.Spec PyProof.Rows LX PySem.Builtin.Str
section
variable{X:Cx}
end
end L2
end
section
namespace L2
open PySem PySem.Spec PyProof.Rows LX
section
variable{X:Cx}{scope:Scope}{cl:List (Str×Addr)}{x x2:Str}{idx:List Nat}{NC:List Str}{C:Addr}{fp:List Addr}{pins:List (Addr×Obj)}{σ:St}{H:Hp}{s:Shared}
end
end L2
end
section
namespace L2
open PySem PySem.Spec PyProof.Rows LX
section
variable{X:Cx}{scope:Scope}{cl:List (Str×Addr)}{xs:List Str}{idx:List Nat}{NC:List Str}{C:Addr}{fp:List Addr}{pins:List (Addr×Obj)}{σ:St}{H:Hp}{s:Shared}
theorem vT{elt iter ct tgt:Expr}{pos:Pos}{g:TG}{wi:TI}{tc:TT}{te:TE}(c:jm X scope cl xs idx NC)(hc:X.calm=true)(hi:PI X tgt iter wi)(hg:jm X scope cl xs idx NC→∀ C fp s₀ H₀,PG (cxC X scope cl NC C fp s₀ H₀) tgt g)
  (ht:∀ C fp s₀ H₀,PT (cxC X scope cl NC C fp s₀ H₀) ct tc) (he:∀ C fp s₀ H₀,PE (cxC X scope cl NC C fp s₀ H₀) elt te)
  (hs:∀ x,foldedSetIterable iter X.env x=pure x:=by intro _;rfl):PE X (.ListComp elt [⟨tgt,iter,[ct],0⟩] scope pos) (zW xs.length wi idx g tc te):=by
 intro pins s σ H Q I h;rw[eval_ListComp];refine wpAny_comprehension_free (use:=none) rfl hs c.wC c.kind c.loc (thn (hi pins s σ H _ I h) λv s1 h1=>thn h1 λitv s2 h2=>?_);obtain⟨it,fp,tn,J,H2,rfl,I2,T,st2,f2,q⟩:=h2;refine wpAny_newObj_type (wpAny_newFunctionEnv c.jV (by intro y hy;simp at hy) (λh₁ hns₁ hsb₁=>?_) c.kind);dsimp only at hns₁ hsb₁ ⊢;have I3:Inv X pins σ (upd H2 s2.heap.objs.size (.lst [])) {s2 with heap:=s2.heap.push {cls:=.type "list",data:=.seq ([]:List Value).toArray},toks:=s2.toks}:=I2.yw (ys:=[]) (its:=[]) .nil (Fj _);obtain⟨W,⟨m0,w0⟩,turn⟩:=q s2.heap.objs.size I2.fresh;generalize hD:s2.heap.objs.size=D at *;generalize hH:s2.heap.push {cls:=.type "list",data:=.seq ([]:List Value).toArray}=h3 at *;have tP:∀ b∈fp,b<D:=λb hb=>by
  obtain⟨o,e,_⟩:=T.obj _ _ st2 b hb;rw[←hD];exact E4 e
 have hlt:∀ b∈fp,b<h3.objs.size:=λb hb=>by
  rw[←hH,F6,hD];exact Gx (tP b hb)
 have hf:∀ b∈fp,jY X pins (upd H2 D (.lst [])) b:=λb hb=>⟨by rw[ah (E9 (tP b hb))];exact(f2 b hb).1,(f2 b hb).2⟩;have kp:∀ b o,h3.get? b=some o→h₁.get? b=some o:=λb o e=>hsb₁.extBut b o (E9 (E4 e)) (ES _ e);have I4:Inv (cxC X scope cl NC h3.objs.size fp {s2 with heap:=h3,toks:=s2.toks} (upd H2 D (.lst []))) [] (xs.map (λ_=>none)++gb σ idx) (upd H2 D (.lst [])) {s2 with heap:=h₁,toks:=s2.toks+([]:List (Str×Value)).length} :=
  uQ (s:={s2 with heap:=h3,toks:=s2.toks}) c I3 hf hlt hns₁ kp
 have jZ:∀ {H':Hp},(∀ b∈fp,H' b=none)→∀ b∈fp,jY (cxC X scope cl NC h3.objs.size fp {s2 with heap:=h3,toks:=s2.toks} (upd H2 D (.lst []))) [] H' b:=λhn b hb =>
  ⟨hn b hb,E9 (hlt b hb),λz=>(E8.mp (I3.ir b z)).elim (hf b hb).2.1 (hf b hb).2.2.1,.inl hb,λy a q=>(hf b hb).2.2.2.2.1 y a (c.sub _ _ q),λp hp=>(by cases hp)⟩
 have st1:tn 0 h₁:=T.keep 0 _ _ st2 λb hb o e=>kp b o (by rw[←hH];exact ES _ e);have loop:∀ s4:Shared,s4={s2 with heap:=h₁,toks:=s2.toks+([]:List (Str×Value)).length} →
   codeAny (model X.prog X.w) X.A (.compLoop (.ListComp elt [⟨tgt,iter,[ct],0⟩] scope pos) 0 (.ref it) (.ref D) (compEnvC scope cl h3.objs.size X.env)) (compPost (model X.prog X.w) X.A X.xe none (EP X pins σ Q) (.ref D) h3.objs.size) s4:=by
  rintro s4 rfl;refine lO (λn s'=>∃ i ys H' vs,vs.length=xs.length∧Inv (cxC X scope cl NC h3.objs.size fp {s2 with heap:=h3,toks:=s2.toks} (upd H2 D (.lst []))) [] (vs++gb σ idx) H' s'∧tn i s'.heap∧(∀ b∈fp,H' b=none)∧W i n ys H')
   ?_ m0 ⟨0,[],_,xs.map (λ_=>none),EU _,I4,st1,λb hb=>(hf b hb).1,w0⟩
  rintro n s5 ⟨i5,ys,H5,vs,lvs,I5,st5,fr5,w5⟩;obtain⟨hDl,alt⟩:=turn i5 n ys H5 w5;rcases alt with⟨stop,qn⟩|⟨go,hz,N,hN',step⟩
  ·refine thn (T.done (cxC X scope cl NC h3.objs.size fp {s2 with heap:=h3,toks:=s2.toks} (upd H2 D (.lst []))) rfl rfl rfl hc i5 [] s5 _ H5 _ I5 (jZ fr5) st5 stop) λr s6 ⟨hr,I6⟩=>?_
   subst hr;obtain⟨m,ns6,_⟩:=id I6.loc;refine⟨m,ns6,λh' hs'=>⟨.ref D,H5,?_,rfl,qn⟩⟩;have J6:Inv X pins σ H5 s6:=I3.ra (ch:=fp) I6.os I6.base I6.hok I6.bare λb hb=>⟨(hf b hb).2.2.2.1,(hf b hb).2.1,(hf b hb).2.2.2.2.1,(hf b hb).2.2.2.2.2⟩;refine J6.turned (t':=s6.toks) (it:=h3.objs.size) (λb o hb e=>hs'.extBut b o hb e) I6.free (FL I3.lt) (.inr I3.sz) (λy a q z=>?_) (λp hp z=>?_)
   ·obtain⟨v,q'⟩:=I3.cell y a q
    exact absurd q'.lt (by rw[z];exact FF _)
   ·exact absurd (E4 (I3.pin p hp).1) (by rw[z];exact FF _)
  ·refine thn (T.item (cxC X scope cl NC h3.objs.size fp {s2 with heap:=h3,toks:=s2.toks} (upd H2 D (.lst []))) rfl rfl rfl hc i5 [] s5 _ H5 _ I5 (jZ fr5) st5 go) λr s6 ⟨u,hr,h6⟩=>?_
   subst hr;refine thn h6 λ_ s7 ⟨y,H7,I7,r7,y7,st7,fr7⟩=>?_;have I7':=I7.pinned (jZ fr7) (T.obj _ _ st7);refine wpAny_mono (hg c h3.objs.size fp {s2 with heap:=h3,toks:=s2.toks} (upd H2 D (.lst [])) _ s7 _ H7 y u _ I7' r7 (step y H7 y7 vs lvs)) (λ_ s8 ⟨σ8,H8,I8,ws,lws,e8,st8⟩=>?_) λ_ _ z=>z.elim;subst e8;refine wpAny_mono (ht _ _ _ _ _ s8 _ H8 _ I8 st8) (λbb s11 ⟨H11,I11,q11⟩=>?_) λ_ _ z=>z.elim;have fin:∀ {H12:Hp} {s12:Shared} {zs:List V} {m':Nat},Inv (cxC X scope cl NC h3.objs.size fp {s2 with heap:=h3,toks:=s2.toks} (upd H2 D (.lst []))) ([]++lK fp s7.heap) (ws++gb σ idx) H12 s12→m'<n→W (i5+1) m' zs H12 →
     ∃ m,m<n∧∃ i ys H' vs,vs.length=xs.length∧Inv (cxC X scope cl NC h3.objs.size fp {s2 with heap:=h3,toks:=s2.toks} (upd H2 D (.lst []))) [] (vs++gb σ idx) H' s12∧tn i s12.heap∧(∀ b∈fp,H' b=none)∧W i m ys H':=λ{H12 s12 zs m'} I12 hm w12=>by
    refine⟨m',hm,i5+1,zs,_,ws,lws,I12.fz,T.keep _ _ _ st7 λb hb o e=>(I12.pin (b,o) (EW _ (EW _ (cF hb e)))).1,λb hb=>?_,w12⟩;obtain⟨o,e,d⟩:=T.obj _ _ st7 b hb;exact(I12.pin (b,o) (EW _ (EW _ (cF hb e)))).2.1
   cases bb with
   | false =>
    obtain⟨m',hm,w9⟩:=hN' _ _ q11;exact fin I11 hm w9
   | true =>
    refine wpAny_mono (he _ _ _ _ _ s11 _ H11 _ I11 q11) (λw s9 ⟨v,H9,I9,r9,hD9,n9⟩=>?_) λ_ _ z=>z.elim;obtain⟨m',hm,w9⟩:=hN' _ _ n9;refine wpAny_mono (k8 (X:=(cxC X scope cl NC h3.objs.size fp {s2 with heap:=h3,toks:=s2.toks} (upd H2 D (.lst [])))) I9 hD9 hz r9) (λ_ s10 I10=>?_) λ_ _ z=>z.elim;exact fin I10 hm w9
 exact codeAny_compStart_list (loop _ rfl) (T.self _ 0 _ _ _ st1 (loop _ rfl))
end
end L2
end
section
namespace K40
open PySem L2 LX
section
variable{P:Program}{w:World}{K:W.Frag}{mg:Str→Option Value}{base:Heap}{D:Ad}
theorem qZ(f:Int→List Mw)(R:List Int){i j:Nat}(h:i≤j):tot f (R.take i)≤tot f (R.take j):=by
 have e:R.take j=R.take i++(R.take j).drop i:=by
  conv=>lhs;rw[←FQ i (R.take j)]
  rw[List.take_take,Nat.min_eq_left h]
 rw[e,pw];omega
def cov(x:Tg)(j:Nat):Prop:=x.2.1≤j∧(j:Int)≤x.2.1+x.2.2.length
def valAt(x:Tg)(j:Nat):Option Mw:=if(j:Int)=x.2.1 then some (.hd x.1 x.2.2.length) else x.2.2[j-(x.2.1.toNat+1)]?
theorem yg{ws:List Mw}{x:Tg}{j:Nat}(h0:0≤x.2.1)(hl:x.2.1.toNat+x.2.2.length<ws.length)(c:cov x j):(layW ws x.2.1.toNat x.1 x.2.2)[j]?=valAt x j:=by
 obtain⟨c1,c2⟩:=c;unfold valAt;rw[iD hl];by_cases d:(j:Int)=x.2.1
 ·rw[if_pos d,if_pos (by omega)]
 ·rw[if_neg d,if_neg (by omega),if_pos (by omega)]
theorem yh{ws:List Mw}{x:Tg}{j:Nat}(h0:0≤x.2.1)(hl:x.2.1.toNat+x.2.2.length<ws.length)(c:¬cov x j):(layW ws x.2.1.toNat x.1 x.2.2)[j]?=ws[j]?:=by
 have c':¬(x.2.1≤j∧(j:Int)≤x.2.1+x.2.2.length):=c;rw[iD hl,if_neg (by omega),if_neg (by omega)]
theorem lH{L:List Tg}{ws:List Mw}{j:Nat}(h0:∀ x∈L,0≤x.2.1∧x.2.1.toNat+x.2.2.length<ws.length)(c:∀ x∈L,¬cov x j):(ic ws L)[j]?=ws[j]?:=by
 induction L generalizing ws with
 | nil=>rfl
 | cons x r ih =>
  have hx:=h0 x E0;show(ic (layW ws x.2.1.toNat x.1 x.2.2) r)[j]?=_;rw[ih (λy m=>by rw[ia];exact h0 y (EX _ m)) (λy m=>c y (EX _ m)),yh hx.1 hx.2 (c x E0)]
theorem q8{L:List Tg}{ws:List Mw}{j:Nat}(h0:∀ x∈L,0≤x.2.1∧x.2.1.toNat+x.2.2.length<ws.length)(ap:∀ x∈L,∀ y∈L,x=y∨x.2.1+x.2.2.length<y.2.1∨y.2.1+y.2.2.length<x.2.1){x:Tg}(m:x∈L)(c:cov x j):(ic ws L)[j]?=valAt x j:=by
 induction L generalizing ws x with
 | nil=>cases m
 | cons y r ih =>
  have hy:=h0 y E0;have h0':∀ z∈r,0≤z.2.1∧z.2.1.toNat+z.2.2.length<(layW ws y.2.1.toNat y.1 y.2.2).length:=λz m=>by rw[ia];exact h0 z (EX _ m)
  have ap':∀ x∈r,∀ y∈r,x=y∨x.2.1+x.2.2.length<y.2.1∨y.2.1+y.2.2.length<x.2.1:=λu mu v mv=>ap u (EX _ mu) v (EX _ mv);show(ic (layW ws y.2.1.toNat y.1 y.2.2) r)[j]?=_;by_cases e:∃ z∈r,cov z j
  ·obtain⟨z,mz,cz⟩:=e
   have ez:z=x:=by
    rcases ap z (EX _ mz) x m with e|e|e
    ·exact e
    ·obtain⟨c1,c2⟩:=c;obtain⟨d1,d2⟩:=cz;omega
    ·obtain⟨c1,c2⟩:=c;obtain⟨d1,d2⟩:=cz;omega
   rw[ih h0' ap' mz cz,ez]
  ·have n:∀ z∈r,¬cov z j:=λz mz cz=>e ⟨z,mz,cz⟩
   rw[lH h0' n];rcases E8.mp m with e|m
   ·rw[e]at c ⊢;exact yg hy.1 hy.2 c
   ·exact absurd c (n x m)
theorem vU{L L':List Tg}{ws:List Mw}(h0:∀ x∈L,0≤x.2.1∧x.2.1.toNat+x.2.2.length<ws.length)(ap:∀ x∈L,∀ y∈L,x=y∨x.2.1+x.2.2.length<y.2.1∨y.2.1+y.2.2.length<x.2.1)(hm:∀ x,x∈L↔x∈L'):ic ws L=ic ws L':=by
 apply Gg
 intro j;by_cases e:∃ z∈L,cov z j
 ·obtain⟨z,mz,cz⟩:=e
  rw[q8 h0 ap mz cz,q8 (λx m=>h0 x ((hm x).mpr m)) (λx mx y my=>ap x ((hm x).mpr mx) y ((hm y).mpr my)) ((hm z).mp mz) cz]
 ·rw[lH h0 (λz mz cz=>e ⟨z,mz,cz⟩),lH (λx m=>h0 x ((hm x).mpr m)) (λz mz cz=>e ⟨z,(hm z).mpr mz,cz⟩)]
def duW(R:List Int)(g:Int→Int):List Mw→List Tg→List Mw
 | ws,[]=>ws
 | ws,x::r=>duW R g (if x.2.1∈R then layW ws (g x.2.1).toNat x.1 (x.2.2.map (anew g)) else ws) r
theorem q9(R:List Int)(g:Int→Int)(ws:List Mw)(ts:List Tg)(x:Tg):duW R g ws (ts++[x])=if x.2.1∈R then layW (duW R g ws ts) (g x.2.1).toNat x.1 (x.2.2.map (anew g)) else duW R g ws ts:=by
 induction ts generalizing ws with
 | nil=>rfl
 | cons y r ih=>exact ih _
theorem t4(R:List Int)(g:Int→Int)(ws:List Mw)(ts:List Tg):(duW R g ws ts).length=ws.length:=by
 induction ts generalizing ws with
 | nil=>rfl
 | cons y r ih =>
  show(duW R g _ r).length=_;rw[ih];split
  ·rw[ia]
  ·rfl
def cpT(f:Int→List Mw)(tt g:Int→Int)(a:Int):Tg:=(tt a,g a,(f a).map (anew g))
theorem yi(f:Int→List Mw)(g tt:Int→Int)(ws:List Mw)(R:List Int):rV f g tt ws R=ic ws (R.map (cpT f tt g)):=by
 induction R generalizing ws with
 | nil=>rfl
 | cons a r ih=>exact ih _
theorem zX(f:Int→List Mw)(tt g:Int→Int)(R:List Int)(ts:List Tg)(ws:List Mw)(hf:∀ x∈ts,f x.2.1=x.2.2∧tt x.2.1=x.1):duW R g ws ts=ic ws (((ts.filter λx=>decide (x.2.1∈R)).map (·.2.1)).map (cpT f tt g)):=by
 induction ts generalizing ws with
 | nil=>rfl
 | cons x r ih =>
  have hx:=hf x E0;have hr:=λy m=>hf y (EX _ m);show duW R g (if x.2.1∈R then _ else ws) r=_;by_cases c:x.2.1∈R
  ·rw[if_pos c,List.filter_cons_of_pos (by simpa using c),Fl,Fl,ih _ hr]
   show _=ic (layW ws (g x.2.1).toNat (tt x.2.1) ((f x.2.1).map (anew g))) _;rw[hx.1,hx.2]
  ·rw[if_neg c,List.filter_cons_of_neg (by simpa using c),ih _ hr]
theorem Cr{ts:List Tg}{rs:List Mw}{sz fs:Int}{R:List Int}{ws:List Mw}(bt:Bt ts rs sz)(nd:R.Nodup)(hB:∀ a∈R,a∈ts.map (·.2.1))(f0:0≤fs)(hl:fs+tot (fOf ts) R≤ws.length):rV (fOf ts) (plA (fOf ts) fs R) (tOf ts) ws R=duW R (plA (fOf ts) fs R) ws ts:=by
 rw[yi,zX (fOf ts) (tOf ts) _ _ _ _ λx m=>⟨bt.f m,bt.t m⟩];refine vU (λx m=>?_) (λx mx y my=>?_) λx=>?_
 ·obtain⟨a,ma,rfl⟩:=Fx.mp m
  obtain⟨i,hi⟩:=Fv ma;have p1:=i4 (f:=fOf ts) (p:=fs) nd hi;have p2:=lF (f:=fOf ts) hi;show 0≤plA (fOf ts) fs R a∧(plA (fOf ts) fs R a).toNat+((fOf ts a).map _).length<_;rw[EU];omega
 ·obtain⟨a,ma,rfl⟩:=Fx.mp mx
  obtain⟨b,mb,rfl⟩:=Fx.mp my;obtain⟨i,hi⟩:=Fv ma;obtain⟨j,hj⟩:=Fv mb;have pi:=i4 (f:=fOf ts) (p:=fs) nd hi;have pj:=i4 (f:=fOf ts) (p:=fs) nd hj;show cpT _ _ _ a=cpT _ _ _ b∨plA (fOf ts) fs R a+((fOf ts a).map _).length<plA (fOf ts) fs R b∨plA (fOf ts) fs R b+((fOf ts b).map _).length<plA (fOf ts) fs R a;rw[EU,EU];rcases Nat.lt_trichotomy i j with c|c|c
  ·have t1:=qZ (fOf ts) R (show i+1≤j by omega)
   rw[aN hi,jc]at t1;omega
  ·subst c;rw[hi]at hj;cases hj;exact .inl rfl
  ·have t1:=qZ (fOf ts) R (show j+1≤i by omega)
   rw[aN hj,jc]at t1;omega
 ·have:∀ a,a∈R↔a∈(ts.filter λx=>decide (x.2.1∈R)).map (·.2.1):=λa=>by
   constructor
   ·intro m
    obtain⟨x,mx,e⟩:=Fx.mp (hB a m);have e':x.2.1=a:=e;exact Fx.mpr ⟨x,Gn.mpr ⟨mx,by rw[e'];exact decide_eq_true m⟩,e'⟩
   ·intro m
    obtain⟨x,mx,e⟩:=Fx.mp m;have e':x.2.1=a:=e;rw[←e'];exact of_decide_eq_true (Gn.mp mx).2
  constructor
  ·intro m
   obtain⟨a,ma,rfl⟩:=Fx.mp m;exact List.mem_map_of_mem ((this a).mp ma)
  ·intro m
   obtain⟨a,ma,rfl⟩:=Fx.mp m;exact List.mem_map_of_mem ((this a).mpr ma)
def jo(R:List Int):List Tg→Int
 | []=>0
 | x::r=>(if x.2.1∈R then(x.2.2.length:Int)+1 else 0)+jo R r
theorem nS(R:List Int)(ts:List Tg)(x:Tg):jo R (ts++[x])=jo R ts+if x.2.1∈R then(x.2.2.length:Int)+1 else 0:=by
 induction ts with
 | nil=>show(_:Int)+0=0+_;omega
 | cons y r ih=>show _+jo R (r++[x])=_+jo R r+_;rw[ih];omega
theorem nU{R:List Int}{a:Int}(n:a∉R):∀(ts:List Tg),(ts.map (·.2.1)).Nodup→(∀ x∈ts,x.2.1=a→∃ k:Int,True)→∀(l:Int),(∀ x∈ts,x.2.1=a→(x.2.2.length:Int)+1=l)→a∈ts.map (·.2.1)→jo (a::R) ts=l+jo R ts
 | [],_,_,_,_,m=>by cases m
 | x::r,nd,hk,l,hl,m=>by
  rw[Fl,FO]at nd;have none:∀(r:List Tg),a∉r.map (·.2.1)→jo (a::R) r=jo R r:=λr=>by
   induction r with
   | nil=>intro _;rfl
   | cons y r ih =>
    intro h;rw[Fl]at h;have h1:¬y.2.1=a:=λe=>h (by rw[←e];exact E0);show(if y.2.1∈a::R then _ else _)+jo (a::R) r=(if y.2.1∈R then _ else _)+jo R r;rw[ih λm=>h (EX _ m)];congr 1
    by_cases c:y.2.1∈R
    ·rw[if_pos (EX _ c),if_pos c]
    ·rw[if_neg (λm=>(E8.mp m).elim h1 c),if_neg c]
  show(if x.2.1∈a::R then _ else _)+jo (a::R) r=l+((if x.2.1∈R then _ else _)+jo R r);by_cases e:x.2.1=a
  ·rw[if_pos (by rw[e];exact E0),if_neg (by rw[e];exact n),none r (by rw[←e];exact nd.1),hl x E0 e]
   omega
  ·have ih:=nU n r nd.2 (λy m=>hk y (EX _ m)) l (λy m=>hl y (EX _ m)) (by
    rw[Fl]at m;exact(E8.mp m).resolve_left (λz=>e z.symm))
   rw[ih];by_cases c:x.2.1∈R
   ·rw[if_pos (EX _ c),if_pos c];omega
   ·rw[if_neg (λm=>(E8.mp m).elim e c),if_neg c];omega
theorem t5{ts:List Tg}{rs:List Mw}{sz:Int}(bt:Bt ts rs sz):∀ {R:List Int},R.Nodup→(∀ a∈R,a∈ts.map (·.2.1))→jo R ts=(tot (fOf ts) R:Int)
 | [],_,_=>by
  have:∀ r:List Tg,jo [] r=0:=λr=>by
   induction r with
   | nil=>rfl
   | cons x r ih=>show(if x.2.1∈[] then _ else _)+jo [] r=0;rw[if_neg (by simp),ih];rfl
  exact this ts
 | a::R,nd,h=>by
  rw[FO]at nd;have ndt:(ts.map (·.2.1)).Nodup:=by
   rw[List.nodup_iff_pairwise_ne,List.pairwise_iff_getElem];intro i j hi hj hij e;rw[EU]at hi hj;rw[List.getElem_map,List.getElem_map]at e;rcases bt.ap i j _ _ (by omega) (EO hi) (EO hj) with z|z<;>omega
  rw[nU nd.1 ts ndt (λ_ _ _=>⟨0,trivial⟩) ((fOf ts a).length+1) (λx m e=>by rw[←e,bt.f m]) (h a E0),t5 bt nd.2 λb m=>h b (EX _ m)];show _=(((fOf ts a).length+1+tot (fOf ts) R:Nat):Int)
  push_cast
  rfl
theorem sqB{H H':Hp}{Pt a:Addr}{xs:List V}{ps:Array Value}(h:SqL K H a xs)(b:But Pt H H')(hP:H Pt=some (.tbl ps)):SqL K H' a xs:=by
 rcases h with(e|⟨o,e⟩)|e
 ·exact .inl (.inl (b _ _ (bB e hP (by intro z;cases z)) e))
 ·exact .inl (.inr ⟨o,b _ _ (bB e hP (by intro z;cases z)) e⟩)
 ·exact .inr e
theorem zY{R:List Int}(nd:R.Nodup):(R.map (Sum.inl:Int→Key)).Nodup:=List.Pairwise.map _ (λ_ _ h z=>h (Sum.inl.inj z)) nd
def kvsOf(g:Int→Int)(R:List Int):List (Key×V):=R.map λa=>(Sum.inl a,.int (g a))
theorem je{H:Hp}{g:Int→Int}:∀ {R:List Int} {ps:List V},Prs H ps R g→∃ xs:List Addr,ps=xs.map V.ref∧Paired (λx (p:Key×V)=>H x=some (.tup [kV p.1,p.2])) xs (kvsOf g R)
 | [],[],_=>⟨[],rfl,.nil⟩
 | [],_::_,h=>by cases h.1
 | _::_,[],h=>by cases h.1
 | a::R,v::ps,h=>by
  obtain⟨q,rfl,hq⟩:=h.2 0 v a rfl rfl;obtain⟨xs,e,p⟩:=je (R:=R) (ps:=ps) (g:=g) ⟨by have:=h.1;simpa using this,λi u t h1 h2=>h.2 (i+1) u t h1 h2⟩;exact⟨q::xs,by rw[e];rfl,.cons hq p⟩
theorem tj{g:Int→Int}{R:List Int}(nd:R.Nodup):Dg (kvsOf g R) R g:=by
 refine⟨?_,nd,λa m=>?_⟩
 ·unfold Kys kvsOf
  rw[List.map_map];rfl
 ·induction R with
  | nil=>cases m
  | cons b r ih =>
   rw[FO]at nd;by_cases e:b=a
   ·subst e
    show fO ((Sum.inl b,V.int (g b))::kvsOf g r) (Sum.inl b)=_;rw[cM rfl]
   ·show fO ((Sum.inl b,V.int (g b))::kvsOf g r) (Sum.inl a)=_
    rw[cC (λz=>e (Sum.inl.inj z))];exact ih nd.2 ((E8.mp m).resolve_left (FC e))
theorem yj{D:Ad}{Hx H6:Hp}{m2 mx2 c2:Addr}{o:HO}{o2:HO}(hm2:Hx m2=none)(yY:Hx mx2=none)(B6:But m2 (upd (upd Hx mx2 o) m2 o2) H6)(hc2:upd (upd Hx mx2 o) m2 o2 c2=none):ao Hx H6∧Hx c2=none:=by
 refine⟨λb u q=>B6 b u (ae q hm2) (by rw[ah (ae q hm2),ah (ae q yY)];exact q),?_⟩;by_cases e:c2=m2
 ·rw[e];exact hm2
 ·by_cases e2:c2=mx2
  ·rw[e2];exact yY
  ·rw[ah e,ah e2]at hc2;exact hc2
theorem wW{H:Hp}{p:Addr}{u v:V}{a b:Vl}{k:Nat}(h:H p=some (.tup [u,v]))(h1:Rp H k u a)(h2:Rp H k v b):Rp H (k+1) (.ref p) (.t [a,b]):=⟨p,_,rfl,h,rfl,λi x y e1 e2=>by
 match i,e1,e2 with
 | 0,e1,e2=>cases e1;cases e2;exact h1
 | 1,e1,e2=>cases e1;cases e2;exact h2⟩
def va(K:W.Frag)(Pt:Addr):Sp:=λvs H Q _=>∃(a:Addr) (ns:List Int),vs=[.ref a]∧SqL K H a (ns.map V.int)∧ns.length≤63∧H Pt=some (.tbl #[])∧∀ H',Q (.bl true) H'
theorem xq{g:Int→Int}{R:List Int}(nd:R.Nodup):((kvsOf g R).map (·.1)).Nodup:=by
 rw[show(kvsOf g R).map (·.1)=R.map Sum.inl from by unfold kvsOf;rw[List.map_map];rfl];exact zY nd
theorem kX{H H':Hp}{g:Int→Int}{R:List Int}{xs:List Addr}(p:Paired (λx (p:Key×V)=>H x=some (.tup [kV p.1,p.2])) xs (kvsOf g R))(s:aX H H'):Paired (λx (p:Key×V)=>H' x=some (.tup [kV p.1,p.2])) xs (kvsOf g R):=Paired.yo p λ_ _ h=>s _ _ h
def tm:Sp:=λvs H Q _=>∃(v:V) (w:Mw) (pp:Addr) (ps:List V) (R:List Int) (g:Int→Int),vs=[v,.ref pp]∧MV H v w∧Okw w∧H pp=some (.lst ps)∧Prs H ps R g∧R.Nodup∧(∀ a,w=.ad a→a∈R)∧∀ v' H',ao H H'→MV H' v' (anew g w)→Q v' H'
abbrev qb:List Str:=["word", "pairs"]
theorem oq:aG qb ["word", "pairs"] (aj g9):=⟨rfl,rfl,rfl,by decide +kernel,rfl,by decide +kernel,by decide +kernel⟩
theorem ou(F:Fun K "_law_anew" "_law_anew" g9 D.bQ D.dC)(T:Txt K mg D):Ok P w K mg base 1 D.bQ D.dC ["word", "pairs"] (tm):=by
 refine⟨?_,F.binds (ps:=["word", "pairs"]) λ_ _ _ _ _ _ us hl=>match us,hl with|[_,_],_=>rfl⟩
 refine F.okE oq (λvs H Q E h=>?_) (λcdv A' outer s' H vs Q E hr h=>?_)
 ·obtain⟨v,w,pp,ps,R,g,rfl,_⟩:=h
  rfl
 ·obtain⟨v,w,pp,ps,R,g,rfl,hv,ok,hp,pr,nd,hR,k⟩:=h
  have hu:=iH hr;refine⟨_,(PSs.nox (af (eR (PW.pt (pw_or (aM sJ (pv 0) gR (bg _)) (pw_or1 (aM u0 (cn c6 (pv 0) ai (λ_ _=>rfl)) di (bg _)))))
    (ak (aW (pv 0)))
    cu)
   (ak (aW (cB (aa di (aa (cY hu (dE (iI rfl) rfl T.lV PyProof.Rows.Boot.«dict» (aa (pv 1) ag)) (cn c6 (pv 0) ai (λ_ _=>rfl)) (λ_ _=>rfl)) ag))))))),?_⟩
  obtain⟨qs,eqs,pq⟩:=je pr;rcases ok with rfl|⟨z,rfl⟩|⟨a,rfl,_⟩
  ·have ev:v=.non:=by
    rcases hv with⟨_,e⟩|⟨n,_⟩
    ·exact e
    ·exact absurd rfl n
   subst ev;exact⟨_,rfl,rfl,_,rfl,d0 rfl (vf ⟨_,rfl,k _ H (ao.refl _) hv⟩)⟩
  ·obtain⟨_,q,rfl,hq⟩:=hv.resolve_left (λz=>by cases z.1)
   exact⟨_,rfl,rfl,_,rfl,cA rfl ⟨_,rfl,q,_,0,.str "number",rfl,rfl,SqT.of hq,rfl,rfl,_,rfl,d0 (by kernel_rfl) ⟨_,rfl,k _ H (ao.refl _) (.inr ⟨(by intro z;cases z),q,rfl,hq⟩)⟩⟩⟩
  ·obtain⟨_,q,rfl,hq⟩:=hv.resolve_left (λz=>by cases z.1)
   refine⟨_,rfl,rfl,_,rfl,cA rfl ⟨_,rfl,q,_,0,.str "at",rfl,rfl,SqT.of hq,rfl,rfl,_,rfl,cA (by kernel_rfl) ?_⟩⟩;refine⟨_,rfl,pp,qs,kvsOf g R,rfl,by rw[←eqs];exact hp,pq,xq nd,λdd hdd=>?_⟩;have s1:=ao.upd (o:=.dK (kvsOf g R)) hdd;refine⟨_,rfl,q,_,1,.int a,rfl,rfl,SqT.of (s1 _ _ hq),rfl,dd,.int (g a),rfl,.inl ⟨kvsOf g R,Sum.inl a,.inl ab,rfl,((tj (g:=g) nd).v a (hR a rfl)).symm⟩,by show 2≤sizeLine;decide,λt ht=>?_⟩;exact k _ _ (s1.trans (ao.upd ht)) (.inr ⟨(by intro z;cases z),t,rfl,ab⟩)
def jG(n:Nat):List Mw:=(List.range n).map λa:Nat=>Mw.num (700+(a:Int))
theorem eO(n:Nat):(jG n).length=n:=by unfold jG;rw[EU,Gf]
theorem nV(n:Nat):jG (n+1)=jG n++[.num (700+(n:Int))]:=by unfold jG;rw[List.range_succ,Fd];rfl
def t8:Sp:=λvs H Q _=>∃(lt:Addr) (tv:List V) (ts:List Tg) (rs:List Mw) (sz:Int) (pp:Addr) (ps:List V) (R:List Int) (g:Int→Int) (n:Nat),vs=[.ref lt,.ref pp,.int n]∧H lt=some (.lst tv)∧ThL H tv ts∧Bt ts rs sz∧H pp=some (.lst ps)∧Prs H ps R g∧R.Nodup∧(∀ c∈R,∀ a,Mw.ad a∈fOf ts c→a∈R)∧(∀ a∈R,0≤g a∧g a+(fOf ts a).length<n)∧n≤200∧∀ p ys H',ao H H'→H' p=some (.lst ys)→MR H' ys (duW R g (jG n) ts)→Q (.ref p) H'
abbrev kY:List Str:=["things", "pairs", "size", "due", "at", "t", "a", "fields", "k", "word"]
theorem cD:aG kY ["things", "pairs", "size"] (aj gI):=⟨rfl,rfl,rfl,by decide +kernel,rfl,by decide +kernel,by decide +kernel⟩
theorem qc(F:Fun K "_law_due" "_law_due" gI D.cI D.fq)(T:Txt K mg D)
  (cE:Ok P w K mg base 1 D.bQ D.dC ["word", "pairs"] (tm)):Ok P w K mg base 2 D.cI D.fq ["things", "pairs", "size"] (t8):=by
 refine⟨?_,F.binds (ps:=["things", "pairs", "size"]) λ_ _ _ _ _ _ us hl=>match us,hl with|[_,_,_],_=>rfl⟩
 refine F.okE cD (λvs H Q E h=>?_) (λcdv A' outer s' H vs Q E hr h=>?_)
 ·obtain⟨lt,tv,ts,rs,sz,pp,ps,R,g,n,rfl,_⟩:=h
  rfl
 ·obtain⟨lt,tv,ts,rs,sz,pp,ps,R,g,n,rfl,ht,tl,bt,hp,pr,nd,hR,hg,n2,k⟩:=h
  have hu:=iH hr;refine⟨_,(PSs.nox (af (jj (cl:=[]) (x := "a") (idx:=[]) (NC:=["a"]) (i:=3) cD.nd rfl rfl (by exact dm (sc:=aj gI) (N:=kY) (ns:=[]) rfl rfl rfl (by decide +kernel) rfl rfl (by intro q hq;cases hq)) rfl (dh rfl T.dI (aa (pv 2) ag)) (λC fp s₀ H₀=>(cB (aa di (aa (av aP ai (pv 0)) ag)))))
   (af (aA (i:=4) cD.nd rfl (Or.inl rfl) (dE (iI rfl) rfl T.lV PyProof.Rows.Boot.«dict» (aa (pv 1) ag)))
   (af (dk Fn rfl (dj (pv 0)) (fM rfl (aH (aC (i:=5) cD.nd rfl (Or.inl rfl)) (aH (aC (i:=6) cD.nd rfl (Or.inl rfl)) (aH (aC (i:=7) cD.nd rfl (Or.inl rfl)) d4))))
    (ak (eR (sG (wu hu (pv 6) (pv 4)) (by with_unfolding_all rfl))
     (af (jU (cB (aa di (aa (pv 5) (aa (aV aJ rfl T.eW PyProof.Rows.Boot.«len» (aa (pv 7) ag)) ag)))) (lJ (pv 3) (cY hu (pv 4) (pv 6) (λ_ _=>rfl)) set_list))
     (ak (dk Fn rfl (ji rfl T.cW (aa (pv 7) ag)) (fM rfl (aH (aC (i:=8) cD.nd rfl (Or.inl rfl)) (aH (aC (i:=9) cD.nd rfl (Or.inl rfl)) d4)))
      (ak (jU (aD cE.g (hr.mono (by decide)) rfl T.jE T.fK cE.b .nil bD (aa (pv 9) (aa (pv 1) ag))) (lJ (pv 3) (av aP (av aP (cY hu (pv 4) (pv 6) (λ_ _=>rfl)) ai) (pv 8)) set_list))))))
     cu)))
   (ak (aW (pv 3))))))),?_⟩
  have lt1:=tl.1;obtain⟨qs,eqs,pq⟩:=je pr;refine⟨_,rfl,n,rfl,by omega,by omega,λdl hdl=>?_⟩;refine d6 (lo:=0) (n:=n) (λi ys Hc=>ao H Hc∧Hc dl=some (.lst ys)∧MR Hc ys (jG i)) ⟨ao.upd hdl,ab,rfl,(λj v w h=>by cases h)⟩ (λi ys Hc hi ⟨_,y,r⟩=>⟨y,by rw[r.1,eO]⟩) (eP (by omega)) (λi ys Hc hi ⟨sc,y,r⟩=>?_) (λys H1 ⟨s1,y1,r1⟩=>?_)
  ·refine⟨_,rfl,700,_,rfl,rfl,by show 2≤sizeLine;decide,λt ht'=>?_⟩
   have s9:=ao.upd (o:=.tup [V.str "number",V.int (700+(0+(i:Int)))]) ht';have z9:=s9 _ _ y;refine⟨z9,λb u z=>by rw[ah (ae z hdl)];exact s9 _ _ (sc b u z),ab,?_⟩;rw[nV];exact((r.keep (aX.of s9)).snoc (.inr ⟨(by intro z;cases z),t,rfl,by rw[ab,Int.zero_add];rfl⟩)).keep λb us z=>by rw[ah (bB z z9 (by intro z;cases z))];exact z
  refine⟨_,rfl,pp,qs,kvsOf g R,rfl,by rw[←eqs];exact s1 _ _ hp,kX pq (aX.of s1),xq nd,λdd hdd=>?_⟩;have s2:=ao.upd (o:=.dK (kvsOf g R)) hdd;have dg:=tj (g:=g) nd;have sA:=s1.trans s2;have y2:=s2 _ _ y1;have z2:upd H1 dd (.dK (kvsOf g R)) dd=some (.dK (kvsOf g R)):=ab;have r2:=r1.keep (aX.of s2);have ndd:dd≠dl:=λz=>by rw[z,y1]at hdd;cases hdd
  generalize upd H1 dd (.dK (kvsOf g R))=H2 at *;refine⟨_,rfl,lt,rfl,⟨_,SqL.of (sA _ _ ht)⟩,fA (K:=K) (a:=lt) (xs:=tv) (λi σ Hx=>∃(v5 v6 v7 v8 v9:Option V) (dv:List V),σ=[some (.ref lt),some (.ref pp),some (.int n),some (.ref dl),some (.ref dd),v5,v6,v7,v8,v9]∧But dl H2 Hx∧Hx dl=some (.lst dv)∧MR Hx dv (duW R g (jG n) (ts.take i))) ⟨none,none,none,none,none,ys,rfl,But.same (ao.refl _),y2,r2⟩ (λi σ Hx _ ⟨_,_,_,_,_,_,_,bx,_⟩=>SqL.of (bx _ _ (ae ht hdl) (sA _ _ ht))) ?_ ?_⟩
  ·rintro i v σ Hx hi ⟨v5,v6,v7,v8,v9,dv,rfl,bx,zx,rx⟩
   have il:i<ts.length:=(by rw[←lt1];exact(ER.mp hi).1);have hx:ts[i]?=some ts[i]:=EO il;obtain⟨x,ex⟩:∃ x,ts[i]=x:=⟨_,rfl⟩;rw[ex]at hx;have mx':=E6 hx;obtain⟨q,lf,zs,rfl,h1,h2,h3⟩:=tl.2 i v x hi hx;have nf:lf≠dl:=ae h2 hdl;have h1x:=bx _ _ (ae h1 hdl) (sA _ _ h1);have h2x:=bx _ _ nf (sA _ _ h2);have zdx:=bx _ _ ndd z2;have efx:=bt.f mx';have e3:=h3.1;have lx:=rx.1;rw[t4,eO]at lx;refine⟨q,_,rfl,SqT.of h1x,rfl,_,_,rfl,_,_,rfl,_,_,rfl,rfl,?_⟩;refine⟨_,rfl,_,rfl,dd,_,rfl,.inl ⟨kvsOf g R,Sum.inl x.2.1,.inl zdx,rfl,rfl⟩,_,rfl,?_⟩;by_cases cR:x.2.1∈R
   ·have hv:=dg.v _ cR
    obtain⟨g0,g1⟩:=hg _ cR;rw[efx]at g1;refine d0 (by rw[hv];rfl) ⟨_,rfl,_,rfl,lf,_,rfl,.inl (SqL.of h2x),by show 3≤sizeLine;decide,λt7 ht7=>?_⟩;have s7:=ao.upd (o:=.tup [V.str "head",V.int x.1,V.int zs.length]) ht7;refine⟨_,rfl,_,rfl,_,rfl,dd,_,rfl,.inl ⟨kvsOf g R,Sum.inl x.2.1,.inl (s7 _ _ zdx),rfl,hv.symm⟩,dl,_,_,(g x.2.1).toNat,rfl,rfl,s7 _ _ zx,u6 g0 (by omega),?_⟩;have b7:But dl H2 (upd (upd Hx t7 (.tup [V.str "head",V.int x.1,V.int zs.length])) dl (.lst (dv.set (g x.2.1).toNat (.ref t7)))):=(bx.trans (But.same s7)).trans But.self;have r7:MR (upd (upd Hx t7 (.tup [V.str "head",V.int x.1,V.int zs.length])) dl (.lst (dv.set (g x.2.1).toNat (.ref t7)))) (dv.set (g x.2.1).toNat (.ref t7)) ((duW R g (jG n) (ts.take i)).set (g x.2.1).toNat (.hd x.1 (x.2.2.map (anew g)).length)):=((rx.keep (aX.of s7)).set (.inr ⟨(by intro z;cases z),t7,rfl,by rw[ab,e3,EU];rfl⟩)).keep (aX.set (s7 _ _ zx));have z7:upd (upd Hx t7 (.tup [V.str "head",V.int x.1,V.int zs.length])) dl (.lst (dv.set (g x.2.1).toNat (.ref t7))) dl=some (.lst (dv.set (g x.2.1).toNat (.ref t7))):=ab;generalize upd (upd Hx t7 (.tup [V.str "head",V.int x.1,V.int zs.length])) dl (.lst (dv.set (g x.2.1).toNat (.ref t7)))=H7 at *;have lu:((duW R g (jG n) (ts.take i)).set (g x.2.1).toNat (.hd x.1 (x.2.2.map (anew g)).length)).length=n:=(by rw[Fw,t4,eO]);refine⟨_,rfl,lf,rfl,⟨_,SqL.of (b7 _ _ nf (sA _ _ h2))⟩,hZ (K:=K) (a:=lf) (xs:=zs) (λj σ Hy=>∃(v8 v9:Option V) (dv:List V),σ=[some (.ref lt),some (.ref pp),some (.int n),some (.ref dl),some (.ref dd),some (.int x.1),some (.int x.2.1),some (.ref lf),v8,v9]∧But dl H2 Hy∧Hy dl=some (.lst dv)∧MR Hy dv (gi ((duW R g (jG n) (ts.take i)).set (g x.2.1).toNat (.hd x.1 (x.2.2.map (anew g)).length)) ((g x.2.1).toNat+1) ((x.2.2.take j).map (anew g)))) ⟨v8,v9,_,rfl,b7,z7,r7⟩ (λj σ Hy _ ⟨_,_,_,_,by',_⟩=>SqL.of (by' _ _ nf (sA _ _ h2))) ?_ ?_⟩
    ·rintro j v σ Hy tp hj ⟨v8,v9,dv,rfl,by',zy,ry⟩ htp
     have s8:=ao.upd (o:=.tup [.int (j:Int),v]) htp;refine⟨tp,_,rfl,SqT.of ab,rfl,_,_,rfl,_,_,rfl,rfl,?_⟩;have jl:j<x.2.2.length:=(by rw[←e3];exact(ER.mp hj).1);have hw:x.2.2[j]?=some x.2.2[j]:=EO jl;obtain⟨w,ew⟩:∃ w,x.2.2[j]=w:=⟨_,rfl⟩;rw[ew]at hw;have mw:=E6 hw;have b8:=by'.trans (But.same (m:=dl) s8);have npl:pp≠dl:=ae hp hdl;have tp8:aX H (upd Hy tp (.tup [.int (j:Int),v])):=λt us z=>b8 _ _ (bB (sA _ _ z) y2 (by intro z;cases z)) (sA _ _ z);refine⟨_,rfl,_,rfl,v,w,pp,ps,R,g,rfl,(h3.2 j v w hj hw).keep tp8,(i7 bt (bt.fw x mx' w mw)).1,b8 _ _ npl (sA _ _ hp),pr.keep tp8,nd,(λa e=>hR _ cR a (by rw[efx,←e];exact mw)),λv' H9 s9 mv'=>?_⟩;have b9:=b8.trans (But.same (m:=dl) s9);have z9:=s9 _ _ (s8 _ _ zy);have lv:=ry.1;rw[ip,lu]at lv;refine⟨_,rfl,_,rfl,_,rfl,dd,_,rfl,.inl ⟨kvsOf g R,Sum.inl x.2.1,.inl (b9 _ _ ndd z2),rfl,hv.symm⟩,_,1,rfl,rfl,_,rfl,_,_,rfl,rfl,dl,_,_,(g x.2.1+1+(j:Int)).toNat,rfl,rfl,z9,u6 (by omega) (by omega),?_⟩;refine⟨_,_,dv.set (g x.2.1+1+(j:Int)).toNat v',rfl,b9.trans But.self,ab,?_⟩;rw[aN hw,Fd,Fl,List.map_nil,iP,show((x.2.2.take j).map (anew g)).length=j by rw[EU,Fb];omega,show(g x.2.1).toNat+1+j=(g x.2.1+1+(j:Int)).toNat by omega];exact(((ry.keep (aX.of s8)).keep (aX.of s9)).set mv').keep (aX.set z9)
    ·rintro σ Hy ⟨v8,v9,dv,rfl,by',zy,ry⟩
     rw[e3,E1 (EV _)]at ry;refine⟨_,_,_,_,_,dv,rfl,by',zy,?_⟩;rw[aN hx,q9,if_pos cR];exact ry
   ·refine cA (by rw[dg.k.non cR];rfl) ⟨_,_,_,_,_,dv,rfl,bx,zx,?_⟩
    rw[aN hx,q9,if_neg cR];exact rx
  ·rintro σ Hx ⟨v5,v6,v7,v8,v9,dv,rfl,bx,zx,rx⟩
   rw[lt1,E1 (EV _)]at rx;exact⟨_,rfl,k dl dv Hx (λb u z=>bx _ _ (ae z hdl) (sA _ _ z)) zx rx⟩
end
end K40
end
section
namespace L2
open PySem PySem.Spec PyProof.Rows LX
section
variable{P:Program}{w:World}{A:Around}{E:Value→Shared→Prop}{s:Shared}
variable{z TI TO i1 i2 l1 l2:Addr}{k:Nat}{xs ys:Array Value}{a b:Value}{S1 S2:Nat→Heap→Prop}{L1 L2:Heap→Prop}
end
section
variable{X:Cx}{pins:List (Addr×Obj)}{σ:St}{H:Hp}{s:Shared}{a:Addr}{xs ys:List V}{b:Bool}
end
section
variable{X:Cx}{es:List Expr}{x1:Nat}{tp:Pos}
end
section
variable{X:Cx}
end
end L2
end
section
namespace L2
open PySem PySem.Spec PyProof.Rows LX PySem.W PySem.Builtin.Int PySem.Calls
end L2
end
section
namespace L2
open PySem PySem.Spec PyProof.Rows LX
section
variable{X:Cx}
end
end L2
end
section
namespace L2
open PySem PySem.Spec PyProof.Rows LX
section
variable{X:Cx}
end
end L2
end
section
namespace K40
open PySem L2 LX
section
variable{P:Program}{w:World}{K:W.Frag}{mg:Str→Option Value}{base:Heap}{D:Ad}
abbrev xr:List Str:=["script", "things", "roots", "size", "first", "pairs", "words", "source", "target", "a", "lent", "kept", "found"]
theorem eE:aG xr ["script"] (aj rN):=⟨rfl,rfl,rfl,by decide +kernel,rfl,by decide +kernel,by decide +kernel⟩
theorem zZ(F:Fun K "law" "law" rN D.m6 D.rP)(T:Txt K mg D)
  (eX:Ok P w K mg base 6 D.bE D.c9 ["script"] (qX K Pt))
  (bR:Ok P w K mg base 1 D.bP D.dB ["script", "k"] (pA K))
  (eY:Ok P w K mg base 2 D.bG D.dS ["things", "roots", "first"] (nR))
  (eF:Ok P w K mg base 5 D.br D.dy ["things", "size"] (tW D))
  (aQ:Ok P w K mg base 1 D.aL D.bC ["self", "size"] (lq D))
  (aw:Ok P w K mg base 1 D.aU D.bJ ["self"] (h8 D))
  (ax:Ok P w K mg base 4 D.a9 D.bY ["self", "a", "word"] (jk D))
  (cb:Ok P w K mg base 5 D.bF D.dR ["memory"] (yX D))
  (dQ:Ok P w K mg base 9 D.a7 D.cQ ["source", "roots"] (yS D))
  (jf:Ok P w K mg base 10 D.dZ D.h7 ["source", "target", "first", "roots"] (yT D))
  (cE:Ok P w K mg base 1 D.bQ D.dC ["word", "pairs"] (tm))
  (gL:Ok P w K mg base 2 D.cI D.fq ["things", "pairs", "size"] (t8)):Ok P w K mg base 12 D.m6 D.rP ["script"] (va K Pt):=by
 refine⟨?_,F.binds (ps:=["script"]) λ_ _ _ _ _ _ us hl=>match us,hl with|[_],_=>rfl⟩
 refine F.okE eE (λvs H Q E h=>?_) (λcdv A' outer s' H vs Q E hr h=>?_)
 ·obtain⟨a,ns,rfl,_⟩:=h
  rfl
 ·obtain⟨a,ns,rfl,hS,hl,hPt,k⟩:=h
  have hu:=iH hr;have hu4:=Ga (Gr (by decide:4≤64) _) hr.units;refine⟨_,(PSs.nox (af (jU (aD eX.g (hr.mono (by decide)) rfl T.nY T.gB eX.b .nil bD (aa (pv 0) ag)) (fM rfl (aH (aC (i:=1) eE.nd rfl (Or.inl rfl)) (aH (aC (i:=2) eE.nd rfl (Or.inl rfl)) (aH (aC (i:=3) eE.nd rfl (Or.inl rfl)) d4)))))
   (af (aA (i:=4) eE.nd rfl (Or.inl rfl) (av cm (aD bR.g (hr.mono (by decide)) rfl T.hU T.eK bR.b .nil bD (aa (pv 0) (aa ai ag))) ai))
   (af (aA (i:=5) eE.nd rfl (Or.inr rfl) (aD eY.g (hr.mono (by decide)) rfl T.nZ T.gE eY.b .nil bD (aa (pv 1) (aa (pv 2) (aa (pv 4) ag)))))
   (af (aA (i:=6) eE.nd rfl (Or.inl rfl) (aV (nJ rfl) rfl T.u3 PyProof.Rows.Boot.«sum» (aa (vT (cl:=[("pairs",s'.heap.objs.size+1)]) (xs:=["t", "a", "fields"]) (idx:=[5]) (NC:=["t", "a", "fields", "pairs"]) (g:=CF K 3 (uY (i8 0) (uY (i8 1) (uY (i8 2) CD)))) (by exact vS (sc:=aj rN) (N:=xr) (ns:=["pairs"]) rfl rfl rfl (by decide +kernel) rfl rfl (by intro q hq;rw[ET.mp hq];rfl)) rfl (dj (pv 1)) (λc C fp s₀ H₀=>fM rfl (aH (sY (i:=0) c rfl) (aH (sY (i:=1) c rfl) (aH (sY (i:=2) c rfl) d4)))) (λC fp s₀ H₀=>(sG (wu hu (pv 1) (dE (iI rfl) rfl T.lV PyProof.Rows.Boot.«dict» (aa (pv 3) ag))) (by with_unfolding_all rfl))) (λC fp s₀ H₀=>(av aP (aV (nL rfl) rfl T.eW PyProof.Rows.Boot.«len» (aa (pv 2) ag)) ai))) ag)))
   (af (aA (i:=7) eE.nd rfl (Or.inl rfl) (aD eF.g (hr.mono (by decide)) rfl T.lU T.f6 eF.b .nil bD (aa (pv 1) (aa (pv 3) ag))))
   (af (aA (i:=8) eE.nd rfl (Or.inl rfl) (tH T.ik aQ.g (hr.mono (by decide)) rfl T.nM aQ.b .nil wJ (aa (av aP (av aP (pv 4) (pv 6)) (av cm (av d5 (aD bR.g (hr.mono (by decide)) rfl T.hU T.eK bR.b .nil bD (aa (pv 0) (aa ai ag))) ai) ai)) ag)))
   (af (dk Fn rfl (dh rfl T.dI (aa (hX (pv 8) T.az T.cT aw.g (hr.mono (by decide)) aw.b .nil bD) ag)) (aC (i:=9) eE.nd rfl (Or.inl rfl))
    (ak (bH (dH (pv 8) T.az T.cK ax.g (hr.mono (by decide)) ax.b .nil bD (aa (pv 9) (aa (cB (aa di (aa (av aP ai (pv 9)) ag))) ag))))))
   (af (aA (i:=10) eE.nd rfl (Or.inl rfl) (dE eS rfl T.jW PyProof.Rows.Boot.«list» (aa (pv 2) ag)))
   (af (aA (i:=11) eE.nd rfl (Or.inl rfl) (aD cb.g (hr.mono (by decide)) rfl T.gC T.dU cb.b .nil bD (aa (pv 7) ag)))
   (af (aA (i:=12) eE.nd rfl (Or.inl rfl) (aD dQ.g (hr.mono (by decide)) rfl T.j3 T.ff dQ.b .nil bD (aa (pv 7) (aa (pv 10) ag))))
   (af (eR (PW.pt (pw_or (sI (sH (aV js rfl T.dW PyProof.Rows.Boot.«isinstance» (aa (pv 12) (aa (xh rfl T.xo PyProof.Rows.Boot.«int») ag))))) (pw_or (sH (aV js rfl T.dW PyProof.Rows.Boot.«isinstance» (aa (pv 12) (aa (xh rfl T.sS PyProof.Rows.Boot.«bool») ag)))) (pw_or (aM u0 (pv 12) (pv 6) (bg _)) (pw_or1 (aM (pM (n:=4) hu4) (aD cb.g (hr.mono (by decide)) rfl T.gC T.dU cb.b .nil bD (aa (pv 7) ag)) (pv 11) (bg _)))))))
    (ak (aW xb))
    cu)
   (af (aA (i:=12) eE.nd rfl (Or.inl rfl) (aD jf.g (hr.mono (by decide)) rfl T.vJ T.lg jf.b .nil bD (aa (pv 7) (aa (pv 8) (aa (pv 4) (aa (pv 10) ag))))))
   (af (eR (PW.pt (pw_or (sI (sH (aV js rfl T.dW PyProof.Rows.Boot.«isinstance» (aa (pv 12) (aa (xh rfl T.pf PyProof.Rows.Boot.«tuple») ag))))) (pw_or (aM u0 (aV aJ rfl T.eW PyProof.Rows.Boot.«len» (aa (pv 12) ag)) ai (bg _)) (pw_or1 (aM (pM (n:=4) hu4) (pv 10) (pv 2) (bg _))))))
    (ak (aW xb))
    cu)
   (af (eR (aM (pM (n:=4) hu4) (pv 12) (cB (aa (gh (cl:=[("pairs",s'.heap.objs.size+1)]) (x := "word") (idx:=[5]) (NC:=["word", "pairs"]) (by exact dm (sc:=aj rN) (N:=xr) (ns:=["pairs"]) rfl rfl rfl (by decide +kernel) rfl rfl (by intro q hq;rw[ET.mp hq];rfl)) rfl (dj (pv 2)) (λC fp s₀ H₀=>(aD cE.g (hr.mono (by decide)) rfl T.jE T.fK cE.b .nil m4 (aa (pv 0) (aa (pv 1) ag))))) (aa (pv 5) ag))) (bg _))
    (ak (aW xb))
    cu)
   (af (bH (kG PySem.F.plainAttrs_list PySem.F.slot_list_append PySem.F.type_list_append dF (cn c6 (pv 12) ai (λ_ _=>rfl)) (aa gR ag)))
   (af (bH (kG PySem.F.plainAttrs_list PySem.F.slot_list_append PySem.F.type_list_append dF (cn c6 (pv 12) ai (λ_ _=>rfl)) (aa (cB (aa ai (aa ai ag))) ag)))
   (ak (aW (zq (tG (sR (n:=4) hu4) (aD cb.g (hr.mono (by decide)) rfl T.gC T.dU cb.b .nil bD (aa (pv 8) ag)) (aD gL.g (hr.mono (by decide)) rfl T.rS T.iO gL.b .nil bD (aa (pv 1) (aa (pv 5) (aa (hX (pv 8) T.az T.cT aw.g (hr.mono (by decide)) aw.b .nil bD) ag)))) (bg _)) (zo (tG (sR (n:=4) hu4) (pv 10) (pv 2) (bg _))))))))))))))))))))))),?_⟩
  refine⟨_,rfl,a,ns,rfl,hS,hl,hPt,λp lt tv lr rv sz ts rs H1 b1 zp zlt zlr tl rr bt nlt nlr=>⟨p,_,rfl,SqT.of zp,rfl,_,_,rfl,_,_,rfl,_,_,rfl,rfl,?_⟩⟩;have hS1:=sqB hS b1 hPt;refine⟨_,rfl,a,ns,1,rfl,hS1,by decide,_,5,rfl,rfl,(by show(0:Int)<5;decide),?_⟩;have f0:=Fu (ns.getD (1:Int).toNat 0) (show(5:Int)≠0 by decide);have f1:=Fp (ns.getD (1:Int).toNat 0) (show(0:Int)<5 by decide);obtain⟨fs,ef⟩:∃ fs,ns.getD (1:Int).toNat 0%5=fs:=⟨_,rfl⟩;rw[ef]at f0 f1;simp only[ef,i8];have z0:=bt.z0;have z1:=bt.z1;have n10:=bt.n;have S:=bt.src;have lt1:=tl.1;refine⟨_,rfl,_,rfl,_,rfl,lt,tv,ts,lr,rv,rs,sz,fs,rfl,zlt,tl,zlr,rr,bt,λpp ps R H2 s2 hp0 zpp pr bf hB=>?_⟩;have nd:=bf.nd;have lt7:=tV (f:=fOf ts) λa m=>S.fl a (hB a m);have lR:R.length≤10:=Fo (i6 nd hB) S.bl;obtain⟨g,eg⟩:∃ g,plA (fOf ts) fs R=g:=⟨_,rfl⟩;rw[eg]at pr;obtain⟨qs,eqs,pq⟩:=je pr;have dg:=tj (g:=g) nd;refine⟨_,rfl,lt,rfl,⟨_,SqL.of (s2 _ _ zlt)⟩,λL hL=>?_⟩;refine rX (K:=K) (a:=lt) (xs:=tv) (λi ys Hc=>∃ zs:List Int,ys=zs.map V.int∧zs.length≤i∧zs.sum=jo R (ts.take i)∧ao H2 Hc∧Hc L=some (.lst ys)) ⟨[],rfl,EV _,rfl,ao.upd hL,ab⟩ (λi ys Hc _ ⟨zs,e,l,_,_,y⟩=>⟨y,by rw[e,EU];exact l⟩) (λi ys Hc _ ⟨_,_,_,_,sc,_⟩=>SqL.of (sc _ _ (s2 _ _ zlt))) (eP (by omega)) (λi v ys Hc hi ⟨zs,e,l,es,sc,y⟩=>?_) (λys H3 ⟨zs,e,l,es,s3,y⟩=>?_)
  ·have il:i<ts.length:=by rw[←lt1];exact(ER.mp hi).1
   have hx:ts[i]?=some ts[i]:=EO il;obtain⟨x,ex⟩:∃ x,ts[i]=x:=⟨_,rfl⟩;rw[ex]at hx;obtain⟨q,lf,ws,rfl,h1,h2,h3⟩:=tl.2 i v x hi hx;have sx:=s2.trans sc;intro vs lvs
   match vs,lvs with
   | [w0,w1,w2],_ =>
    refine⟨q,_,rfl,SqT.of (sx _ _ h1),rfl,_,_,rfl,_,_,rfl,_,_,rfl,rfl,[_,_,_],rfl,rfl,?_⟩;refine⟨_,rfl,_,rfl,pp,qs,kvsOf g R,rfl,by rw[←eqs];exact sc _ _ zpp,kX pq (aX.of sc),xq nd,λdd hdd=>?_⟩;have sd:=ao.upd (o:=.dK (kvsOf g R)) hdd;refine⟨dd,_,rfl,.inl ⟨kvsOf g R,Sum.inl x.2.1,.inl ab,rfl,rfl⟩,_,rfl,?_⟩;by_cases cR:x.2.1∈R
    ·refine d0 (by rw[dg.v _ cR];rfl) ⟨_,rfl,lf,_,rfl,.inl (SqL.of (sd _ _ (sx _ _ h2))),_,_,rfl,rfl,sd _ _ y,zs++[(ws.length:Int)+1],by rw[e,Fd];rfl,by rw[E5];exact Nat.succ_le_succ l,?_,λb u z=>by rw[ah (ae z hL)];exact sd _ _ (sc b u z),ab⟩
     rw[aN hx,nS,if_pos cR,List.sum_append,es,h3.1];simp
    ·refine cA (by rw[dg.k.non cR];rfl) ⟨zs,e,Nat.le_succ_of_le l,?_,sc.trans sd,sd _ _ y⟩
     rw[aN hx,nS,if_neg cR,es];omega
  rw[lt1,E1 (EV _),t5 bt nd hB]at es;refine⟨L,zs,rfl,SqL.of (by rw[y,e]),?_⟩;rw[es];have s13:=s2.trans s3;refine⟨_,rfl,_,rfl,lt,tv,ts,sz,rfl,s13 _ _ zlt,tl.same s13,z0,z1,n10,λx m=>⟨bt.lo x m,bt.hi x m,bt.fl x m⟩,λm mx c xs H4 s4 hm hc M4=>?_⟩;have s14:=s13.trans s4;refine⟨_,rfl,_,rfl,_,_,rfl,rfl,_,rfl,a,ns,1,rfl,pz hS1 s14,by decide,_,5,rfl,rfl,⟨by decide,by decide⟩,_,3,rfl,rfl,(by show(0:Int)<3;decide),_,_,rfl,rfl,?_⟩;have e0:=Fu (ns.getD (1:Int).toNat 0/5) (show(3:Int)≠0 by decide);have e1:=Fp (ns.getD (1:Int).toNat 0/5) (show(0:Int)<3 by decide);obtain⟨ev,eev⟩:∃ ev,ns.getD (1:Int).toNat 0/5%3=ev:=⟨_,rfl⟩;rw[eev]at e0 e1;obtain⟨n,en⟩:∃ n:Nat,fs+(tot (fOf ts) R:Int)+ev=(n:Int):=⟨(fs+(tot (fOf ts) R:Int)+ev).toNat,by omega⟩;intro m2 mx2 hm2 yY nd2;refine⟨m2,mx2,n,by rw[←en,←eev];rfl,ab,by omega,by omega,λc2 H5 B5 hc2 M5=>⟨rfl,?_⟩⟩;obtain⟨s5,BA⟩:=yj (D:=D) hm2 yY B5 hc2;have Dy:H1 c2=none:=ao.none s14 BA;have ncc:c≠c2:=ae M4.l BA;have M45:=M4.same s5;rw[Int.toNat_natCast]at M5;refine⟨_,rfl,m2,_,_,rfl,M5.i,(by kernel_rfl),m2,mx2,c2,_,_,rfl,M5,?_⟩;rw[Ft];refine⟨n,rfl,by omega,by omega,jq (lo:=0) (n:=n) (λi σ Hx=>∃(v9:Option V) (xs2:List V),σ=[some (.ref a),some (.ref lt),some (.ref lr),some (.int sz),some (.int fs),some (.ref pp),some (.int (tot (fOf ts) R)),some (.ref m),some (.ref m2),v9,none,none,none]∧But c2 H5 Hx∧Mm D Hx m2 mx2 c2 xs2 (jG i++List.replicate (n-i) .no)) ⟨none,_,rfl,But.same (ao.refl _),M5⟩ ?_ ?_⟩
  ·rintro i σ Hx hi ⟨v9,xs2,rfl,bx,Mx⟩
   refine⟨_,rfl,m2,_,_,rfl,Mx.i,(by kernel_rfl),_,rfl,_,rfl,700,_,rfl,rfl,by show 2≤sizeLine;decide,λt ht=>?_⟩;have st:=ao.upd (o:=.tup [V.str "number",V.int (700+(0+(i:Int)))]) ht;have lw:(jG i++List.replicate (n-i) Mw.no).length=n:=(by rw[E5,eO,Ft];omega);refine⟨m2,mx2,c2,xs2,_,0+(i:Int),.ref t,.num (700+(i:Int)),rfl,Mx.same st,Sm.of (by omega) (by omega),.inr ⟨(by intro z;cases z),t,rfl,by rw[ab,Int.zero_add];rfl⟩,?_⟩;rw[lw,if_pos ⟨by omega,by omega⟩];intro M6;refine⟨_,xs2.set (0+(i:Int)).toNat (.ref t),rfl,(bx.trans (But.same st)).trans But.self,?_⟩;have ew:jG (i+1)++List.replicate (n-(i+1)) Mw.no=(jG i++List.replicate (n-i) Mw.no).set (0+(i:Int)).toNat (.num (700+(i:Int))):=by
    rw[show(0+(i:Int)).toNat=(jG i).length by rw[eO];omega,nV,show n-i=(n-(i+1))+1 by omega,FD,List.set_append_right _ _ (EV _),F2,Ge];rfl
   rw[ew];exact M6
  rintro σ H6 ⟨v9,xs2,rfl,b6,M6⟩;rw[F2,List.replicate_zero,Gq]at M6;have M46:=M45.but b6 ncc M5.l;have k6:∀ b u,b≠c2→H4 b=some u→H6 b=some u:=λb u nb z=>b6 _ _ nb (s5 _ _ z);have q6:∀ b u,H1 b=some u→H6 b=some u:=λb u z=>k6 b u (ae z Dy) (s14 _ _ z);have t6:aX H1 H6:=λt us z=>q6 _ _ z;have BB:H2 c2=none:=ao.none s3 (ao.none s4 BA);have Dz:H6 pp=some (.lst ps):=k6 _ _ (ae zpp BB) (s4 _ _ (s3 _ _ zpp));have pr6:Prs H6 ps R g:=pr.keep λt us z=>k6 _ _ (ae z BB) (s4 _ _ (s3 _ _ z));have tl6:ThL H6 tv ts:=tl.same λb u z=>q6 b u z;have rr6:MR H6 rv rs:=rr.keep t6;have yZ:=q6 _ _ zlr;have DA:=q6 _ _ zlt;refine⟨_,rfl,lr,rv,rfl,.inl (SqL.of yZ),λle hle=>?_⟩;have s7:=ao.upd (o:=.lst rv) hle;have M47:=M46.same s7;refine⟨_,rfl,m,mx,c,_,_,rfl,M47,λlk H8 s8 hlk zlk=>?_⟩;have s68:=s7.trans s8;have M48:=M46.same s68;have M28:=M6.same s68;have DB:=s8 _ _ (ab (H:=H6) (a:=le) (o:=.lst rv));refine⟨_,rfl,_,rfl,m,mx,c,_,_,le,rv,rs,fOf ts,tOf ts,_,rfl,M48,bt.gm,DB,rr6.keep (aX.of s68),S,λR' H9 bf' hB' s9=>?_⟩;obtain rfl:=bf'.uniq bf;have s69:=s68.trans s9;have M49:=M46.same s69;have M29:=M6.same s69;have Ez:=s9 _ _ DB;have EN:=s69 _ _ yZ;refine⟨_,rfl,.int _,.ty "int",.type "int",true,rfl,.of (.int _),⟨_,rfl⟩,rfl,_,rfl,cA rfl ?_⟩;refine⟨_,rfl,.int _,.ty "bool",.type "int",false,rfl,.of (.int _),⟨_,rfl⟩,rfl,_,rfl,yB ?_⟩;refine⟨_,rfl,_,rfl,rfl,_,rfl,cA (by simp) ?_⟩;refine⟨_,rfl,m,mx,c,_,_,rfl,M49,λlw H10 s10 hlw zlw=>?_⟩;have ua:=s69.trans s10;have BC:=M46.same ua;have BD:=M6.same ua;have xt:=s10 _ _ Ez;have r1:Rp H10 4 (V.ref lw) _:=iq (k:=2) zlw BC.r;have r2:Rp H10 4 (V.ref lk) _:=iq (k:=2) (s10 _ _ (s9 _ _ zlk)) BC.r;refine⟨_,rfl,_,_,r1,r2,_,rfl,cA (by rw[fB r1 r1];rfl) ?_⟩;have DC:le≠c:=λz=>by rw[z,M46.l]at hle;cases hle
  have DD:le≠c2:=λz=>by rw[z,M6.l]at hle;cases hle
  have EA:=rr6.keep (aX.of ua);refine⟨_,rfl,_,rfl,_,rfl,_,rfl,m,mx,c,_,_,m2,mx2,c2,_,_,fs,le,rv,rs,fOf ts,tOf ts,_,rfl,BC,BD,ncc,DC,DD,bt.gm,xt,EA,S,f0,λR2 bf2 hB2=>?_,?_⟩
  ·obtain rfl:=bf2.uniq bf
   rw[eO];omega
  intro R2 p11 l1 ys1 l2 ps2 xs11 xs211 H11 bf2 hB2 b11 M11 M211 nl1 nl2 zp11 zl1 rl1 zl2 pr2;obtain rfl:=bf2.uniq bf;rw[eg]at M211 rl1 pr2;have k11:∀ b u,b≠c→b≠c2→H6 b=some u→H11 b=some u:=λb u n1 n2 z=>b11 _ _ n1 n2 (ua _ _ z);have Cs:∀ {b:Addr} {u:HO},(∀ xs,u≠.lst xs)→H6 b=some u→H11 b=some u:=λ{b u} h z=>k11 b u (λe=>by rw[e,M46.l]at z;exact h _ (Fg z).symm) (λe=>by rw[e,M6.l]at z;exact h _ (Fg z).symm) z;have BE:aX H6 H11:=λt us z=>Cs (by intro xs y;cases y) z;have q1:∀ b u,H1 b=some u→b≠c∧b≠c2:=λb u z=>⟨(λe=>by rw[e,ao.none s13 hc]at z;cases z),ae z Dy⟩;have vb:=k11 _ _ (q1 _ _ zlr).1 (q1 _ _ zlr).2 yZ;have Ct:=k11 _ _ (q1 _ _ zlt).1 (q1 _ _ zlt).2 DA;have npc:pp≠c:=λe=>by rw[e,ao.none s3 hc]at zpp;cases zpp
  have xu:=k11 _ _ npc (ae zpp BB) Dz;have DE:=pr6.keep BE;have y3:=b11 _ _ DC DD xt;have BF:=rr6.keep BE;refine⟨_,rfl,.ref p11,.ty "tuple",.type "tuple",true,rfl,.of (.tup zp11),⟨_,rfl⟩,rfl,_,rfl,cA rfl ?_⟩;refine⟨_,rfl,p11,_,rfl,.inr (SqT.of zp11),rfl,_,rfl,cA rfl ?_⟩;have r3:Rp H11 4 (V.ref le) _:=iq (k:=2) y3 BF;have r4:Rp H11 4 (V.ref lr) _:=iq (k:=2) vb BF;refine⟨_,rfl,_,rfl,_,_,r3,r4,_,rfl,cA (by rw[fB r3 r3];rfl) ?_⟩;have er:=rr.1;have rl:=bt.rl;refine⟨_,rfl,_,rfl,lr,rfl,⟨_,SqL.of vb⟩,λL13 hL13=>?_⟩;refine gn (K:=K) (a:=lr) (xs:=rv) (λj zs Hc=>ao H11 Hc∧Hc L13=some (.lst zs)∧MR Hc zs ((rs.take j).map (anew g))) ⟨ao.upd hL13,ab,rfl,(λj v w h=>by cases h)⟩ (λj zs Hc hj ⟨_,y,r⟩=>⟨y,by rw[r.1,EU,Fb];omega⟩) (λj zs Hc _ ⟨sc,_⟩=>SqL.of (sc _ _ vb)) (eP (by omega)) (λj v zs Hc hj ⟨sc,y,r⟩=>?_) (λzs Hc ⟨sc,y,r⟩=>?_)
  ·have hjl:j<rs.length:=by rw[←er];exact(ER.mp hj).1
   have hw:rs[j]?=some rs[j]:=EO hjl;obtain⟨w,ew⟩:∃ w,rs[j]=w:=⟨_,rfl⟩;rw[ew]at hw;have mw:=E6 hw;refine⟨_,rfl,_,rfl,v,w,pp,ps,_,g,rfl,(BF.2 j v w hj hw).keep (aX.of sc),S.ro w mw,sc _ _ xu,DE.keep (aX.of sc),nd,(λa e=>bf.mem (FK _ (by rw[←e];exact mw))),λv' H' s' mv'=>⟨s' _ _ y,λb u z=>by rw[ah (ae z hL13)];exact s' _ _ (sc b u z),ab,?_⟩⟩;have tu:aX H' (upd H' L13 (.lst (zs++[v']))):=λb us z=>by rw[ah (bB z (s' _ _ y) (by intro z;cases z))];exact z
   rw[aN hw,Fd];exact((r.keep (aX.of s')).snoc mv').keep tu
  rw[er,E1 (EV _)]at r;refine⟨_,rfl,by show 2≤sizeLine;decide,λtq htq=>?_⟩;have BG:=ao.upd (o:=.tup [V.ref L13,V.ref pp]) htq;have u14:=sc.trans BG;have r5:Rp (upd Hc tq (.tup [V.ref L13,V.ref pp])) 4 (V.ref p11) _:=wW (u14 _ _ zp11) (iq (k:=1) (u14 _ _ zl1) (rl1.keep (aX.of u14))) (yW (k:=1) (u14 _ _ zl2) (pr2.keep (aX.of u14)));have r6:Rp (upd Hc tq (.tup [V.ref L13,V.ref pp])) 4 (V.ref tq) _:=wW ab (iq (k:=1) (BG _ _ y) (r.keep (aX.of BG))) (yW (k:=1) (u14 _ _ xu) (DE.keep (aX.of u14)));refine⟨_,_,r5,r6,_,rfl,cA (by rw[fB r5 r5];rfl) ?_⟩;clear r5 r6;have wp:=u14 _ _ zp11;have w1:=u14 _ _ zl1;have w2:=u14 _ _ zl2;have wle:=u14 _ _ y3;have wlr:=u14 _ _ vb;have wlt:=u14 _ _ Ct;have wpp:=u14 _ _ xu;have wM:=M211.same u14;have wt:=aX.of u14;generalize upd Hc tq (.tup [V.ref L13,V.ref pp])=H14 at *;have ly:ys1.length≤9:=by rw[rl1.1,EU];exact rl
  have lp2:ps2.length≤10:=by rw[pr2.1];exact lR
  refine⟨_,rfl,p11,_,0,.ref l1,rfl,rfl,SqT.of wp,rfl,.inl ⟨rfl,_,SqL.of w1⟩,l1,_,_,rfl,rfl,w1,gx (by omega),?_⟩;obtain⟨zs2,v2,lz2⟩:∃ zs2,upd H14 l1 (.lst (ys1++[V.non])) l2=some (.lst zs2)∧zs2.length≤20:=by
   by_cases e:l2=l1
   ·exact⟨_,by rw[e];exact ab,by rw[E5,FE];omega⟩
   ·exact⟨_,by rw[ah e];exact w2,by omega⟩
  have vp:upd H14 l1 (.lst (ys1++[V.non])) p11=some (.tup [.ref l1,.ref l2]):=by rw[ah (bB wp w1 (by intro z;cases z))];exact wp
  refine⟨_,rfl,p11,_,1,.ref l2,rfl,rfl,SqT.of vp,rfl,.inl ⟨rfl,_,SqL.of v2⟩,by show 2≤sizeLine;decide,λt0 ht0=>?_⟩;have s15:=ao.upd (o:=.tup [V.int 0,V.int 0]) ht0;refine⟨l2,_,_,rfl,rfl,s15 _ _ v2,gx (by omega),?_⟩;obtain⟨H16,e16⟩:∃ H16,upd (upd (upd H14 l1 (.lst (ys1++[V.non]))) t0 (.tup [V.int 0,V.int 0])) l2 (.lst (zs2++[.ref t0]))=H16:=⟨_,rfl⟩;rw[e16];have k16:∀ b u,b≠l1→b≠l2→H14 b=some u→H16 b=some u:=λb u n1 n2 z=>by rw[←e16,ah n2];exact s15 _ _ (by rw[ah n1];exact z)
  have DF:∀ b u,H10 b=some u→b≠l1∧b≠l2:=λb u z=>⟨ae z nl1,ae z nl2⟩;have t16:aX H14 H16:=λt us z=>k16 _ _ (bB z w1 (by intro z;cases z)) (bB z w2 (by intro z;cases z)) z;have x16:∀ {b:Addr} {u u':HO},H10 b=some u'→H14 b=some u→H16 b=some u:=λz' z=>k16 _ _ (DF _ _ z').1 (DF _ _ z').2 z;have M16:Mm D H16 m2 mx2 c2 xs211 _:=⟨x16 BD.i wM.i,x16 BD.l wM.l,wM.r.keep t16,wM.z⟩;have EB:=x16 xt wle;have EC:=x16 (ua _ _ yZ) wlr;have ED:=x16 (ua _ _ DA) wlt;have EE:=x16 (ua _ _ Dz) wpp;have T16:aX H6 H16:=λt us z=>t16 _ _ (wt _ _ (BE _ _ z));have EF:ThL H16 tv ts:=⟨tl.1,λi v x h1 h2=>by
   obtain⟨q,lf,zf,e,g1,g2,g3⟩:=tl.2 i v x h1 h2;exact⟨q,lf,zf,e,T16 _ _ (t6 _ _ g1),x16 (ua _ _ (q6 _ _ g2)) (u14 _ _ (k11 _ _ (q1 _ _ g2).1 (q1 _ _ g2).2 (q6 _ _ g2))),(g3.keep t6).keep T16⟩⟩
  have EG:=pr6.keep T16;have DG:=rr6.keep T16;refine⟨_,rfl,m2,mx2,c2,_,_,rfl,M16,λlw2 H17 s17 hlw2 zlw2=>?_⟩;have M17:=M16.same s17;refine⟨_,rfl,_,rfl,_,rfl,m2,_,_,rfl,M17.i,(by kernel_rfl),m2,mx2,c2,_,_,rfl,M17,lt,tv,ts,rs,sz,pp,ps,_,g,n,(by rw[qV,eO];rfl),s17 _ _ ED,EF.same s17,bt,s17 _ _ EE,EG.keep (aX.of s17),nd,(λc mc a m=>bf.mem (EW _ (Gz.mpr ⟨c,mc,m⟩))),λa m=>?_,by omega,λpd yd H18 s18 zd rd=>?_⟩
  ·obtain⟨i,hi⟩:=Fv m
   have p1:=i4 (f:=fOf ts) (p:=fs) nd hi;have p2:=lF (f:=fOf ts) hi;rw[eg]at p1;omega
  rw[←eg,←Cr bt nd hB f0 (by rw[eO];omega),eg]at rd;have rY:=s17.trans s18;have r7:Rp H18 4 (V.ref lw2) _:=iq (k:=2) (s18 _ _ zlw2) (M16.same rY).r;have r8:Rp H18 4 (V.ref pd) _:=iq (k:=2) zd rd;refine⟨_,_,r7,r8,true,by rw[fB r7 r7],vf ?_⟩;have r9:Rp H18 4 (V.ref le) _:=iq (k:=2) (rY _ _ EB) (DG.keep (aX.of rY));have r10:Rp H18 4 (V.ref lr) _:=iq (k:=2) (rY _ _ EC) (DG.keep (aX.of rY));refine⟨_,rfl,_,rfl,_,_,r9,r10,?_⟩;rw[fB r9 r9];exact k _
end
open PySem.W
section
variable{K:Frag}
def LK(K:Frag)(n q:Str)(s:Stmt)(f:Addr):Prop:=(∃ d,Fun K n q s f d)∧keepIn K (.ref f)=true∧isFn K (.ref f)=true
theorem LK.mk{n q:Str}{s:Stmt}{f:Addr}{od an:Option Addr}{sl:Array (Option Value)}{oc kV dc pm cd ct:Value}(h1:K.lookup f=some ⟨oc,od,.func (fnOf n q (f7 s) (eL s) (aj s) .none kV dc pm an cd ct),sl⟩)(h2:codeIn K cd q=true)(h3:keepIn K (.ref f)=true)(h4:isFn K (.ref f)=true):LK K n q s f:=⟨⟨_,wm (st:=s) h1 h2 h3⟩,h3,h4⟩
def LC(K:Frag)(n q:Str)(s:Stmt)(f cc:Addr):Prop:=(∃ d,Fun K n q s f d∧d.code=.ref cc)∧keepIn K (.ref f)=true∧isFn K (.ref f)=true
theorem LC.mk{n q:Str}{s:Stmt}{f cc:Addr}{od an:Option Addr}{sl:Array (Option Value)}{oc kV dc pm ct:Value}(h1:K.lookup f=some ⟨oc,od,.func (fnOf n q (f7 s) (eL s) (aj s) .none kV dc pm an (.ref cc) ct),sl⟩)(h2:codeIn K (.ref cc) q=true)(h3:keepIn K (.ref f)=true)(h4:isFn K (.ref f)=true):LC K n q s f cc:=⟨⟨_,wm (st:=s) h1 h2 h3,rfl⟩,h3,h4⟩
def FI(K:Frag)(c:Addr)(n:Str)(f:Addr):Prop:=findIn K (.ref c) n=some (some (.ref f))
def NF(K:Frag)(c:Addr)(n:Str):Prop:=findIn K (.ref c) n=some none
structure PK(K:Frag)(c:Addr):Prop where
 g:plainGet K c Str.empty=true
 d:hasDictIn K c=true
 o:plainOver K c=true
 s:findIn K (.ref c) "__setattr__" = some (some (.builtin "object.__setattr__"))
 k:keepIn K (.ref c)=true
structure EK(K:Frag)(b e i:Addr):Prop where
 x:pH K e=true
 a:findIn K (.ref e) "__getattribute__" = some (some (.builtin "BaseException.__getattribute__"))
 t:findIn K (.ref e) "__getattr__" = some none
 c:findIn K (.ref e) "__class__" = some (some (.builtin "object.__class__"))
 i:findIn K (.ref e) "__init__" = some (some (.ref i))
 k:keepIn K (.ref e)=true
 v:kitOne K (.ref e) (.type "ValueError")=some true
 s:mroIn K e (.ref b)=some true
end
theorem all_mk{l:OpenLaw}{w:World}{K:Frag}{h:Heap}{mg:Str→Option Value}{cc Pt fa ba aE dY aI aq cN jK cG cf bh aS dZ a7 bu aT aZ bj cg aL aU bO a9 au bP bo bq a8 bE br bF cH bG bQ cI m6:Addr}(X:K.In h)(G:h.Ns mainGlobals mg)(hfa:mg "law" = some (.ref fa))
  (nH:nsIn K mainGlobals "HeapError" = some (some (.ref ba)))
  (xH:pH K ba=true)
  (uR:nsIn K mainGlobals "kind_of" = some (some (.ref cN)))
  (Cu:nsIn K mainGlobals "lay" = some (some (.ref jK)))
  (rZ:nsIn K mainGlobals "thing_at" = some (some (.ref cG)))
  (qd:nsIn K mainGlobals "fields_at" = some (some (.ref cf)))
  (mr:nsIn K mainGlobals "fields_told" = some (some (.ref bh)))
  (ki:nsIn K mainGlobals "look_at_room" = some (some (.ref aS)))
  (vV:nsIn K mainGlobals "copied" = some (some (.ref dZ)))
  (kj:nsIn K mainGlobals "copied_words" = some (some (.ref a7)))
  (oy:nsIn K mainGlobals "things_met" = some (some (.ref bu)))
  (kl:nsIn K mainGlobals "address_told" = some (some (.ref aT)))
  (mB:nsIn K mainGlobals "words_among" = some (some (.ref aZ)))
  (mC:nsIn K mainGlobals "places_from" = some (some (.ref bj)))
  (qe:nsIn K mainGlobals "told_anew" = some (some (.ref cg)))
  (qf:nsIn K mainGlobals "_law_cell" = some (some (.ref bP)))
  (mD:nsIn K mainGlobals "_law_digits" = some (some (.ref bo)))
  (mE:nsIn K mainGlobals "_law_stream" = some (some (.ref bq)))
  (km:nsIn K mainGlobals "_law_word_by" = some (some (.ref a8)))
  (oz:nsIn K mainGlobals "_law_built" = some (some (.ref bE)))
  (mF:nsIn K mainGlobals "_law_memory" = some (some (.ref br)))
  (oA:nsIn K mainGlobals "_law_words" = some (some (.ref bF)))
  (sf:nsIn K mainGlobals "_law_met" = some (some (.ref cH)))
  (oB:nsIn K mainGlobals "_law_pairs" = some (some (.ref bG)))
  (qg:nsIn K mainGlobals "_law_anew" = some (some (.ref bQ)))
  (sg:nsIn K mainGlobals "_law_due" = some (some (.ref cI)))
  (y6:nsIn K mainGlobals "law" = some (some (.ref m6)))
  (uS:nsIn K mainGlobals "Memory" = some (some (.ref aI)))
  (gr:PK K aI)
  (uT:FI K aI "__init__" aL)
  (ik:makesIn K aI=true)
  (jT:NF K aI "cells")
  (kn:FI K aI "size" aU)
  (oE:FI K aI "at" bO)
  (mG:FI K aI "put" a9)
  (fv:FI K aI "look_at_address" au)
  (oH:nsIn K mainGlobals "BadAddress" = some (some (.ref aE)))
  (fi0:FI K aE "__init__" aq)
  (bM:EK K ba aE aq)
  (vW:nsIn K mainGlobals "NoRoom" = some (some (.ref dY)))
  (dJ:EK K ba dY aq)
  (gT:LK K "__init__" "HeapError.__init__" cP aq)
  (uU:LK K "kind_of" "kind_of" ju cN)
  (Cv:LK K "lay" "lay" xm jK)
  (sh:LK K "thing_at" "thing_at" gH cG)
  (qh:LK K "fields_at" "fields_at" g5 cf)
  (mI:LK K "fields_told" "fields_told" fP bh)
  (ko:LK K "look_at_room" "look_at_room" eZ aS)
  (vX:LK K "copied" "copied" gw dZ)
  (kq:LK K "copied_words" "copied_words" e7 a7)
  (oI:LK K "things_met" "things_met" gy bu)
  (kr:LK K "address_told" "address_told" fc aT)
  (mJ:LK K "words_among" "words_among" d9 aZ)
  (mK:LK K "places_from" "places_from" fQ bj)
  (qi:LK K "told_anew" "told_anew" g6 cg)
  (iR:LK K "__init__" "Memory.__init__" dM aL)
  (mL:LK K "size" "Memory.size" fR aU)
  (qj:LK K "at" "Memory.at" g7 bO)
  (oJ:LK K "put" "Memory.put" gz a9)
  (fE:LK K "look_at_address" "Memory.look_at_address" bW au)
  (qk:LK K "_law_cell" "_law_cell" g8 bP)
  (mM:LK K "_law_digits" "_law_digits" fS bo)
  (mN:LK K "_law_stream" "_law_stream" ed bq)
  (ku:LK K "_law_word_by" "_law_word_by" fe a8)
  (oK:LC K "_law_built" "_law_built" bX bE cc)
  (mO:LK K "_law_memory" "_law_memory" fT br)
  (oM:LK K "_law_words" "_law_words" eT bF)
  (sj:LK K "_law_met" "_law_met" iL cH)
  (oN:LK K "_law_pairs" "_law_pairs" gA bG)
  (ql:LK K "_law_anew" "_law_anew" g9 bQ)
  (sk:LK K "_law_due" "_law_due" gI cI)
  (Cw:LK K "law" "law" rN m6)
  (eW:nsIn K mainGlobals "len" = some none)
  (dI:nsIn K mainGlobals "range" = some none)
  (jW:nsIn K mainGlobals "list" = some none)
  (lh:nsIn K mainGlobals "sorted" = some none)
  (u3:nsIn K mainGlobals "sum" = some none)
  (dW:nsIn K mainGlobals "isinstance" = some none)
  (xo:nsIn K mainGlobals "int" = some none)
  (sS:nsIn K mainGlobals "bool" = some none)
  (pf:nsIn K mainGlobals "tuple" = some none)
  (cW:nsIn K mainGlobals "enumerate" = some none)
  (gF:nsIn K mainGlobals "ValueError" = some none)
  (lV:nsIn K mainGlobals "dict" = some none) :
  ∃ fd:FuncData,(∀(s:Shared) (v:Value),BindsTo s fd ⟨[v],[]⟩ [("script",v)])∧∀ base:Heap,K.In base→base.Ns mainGlobals mg→kR K mg base cc Pt→jA l.prog w K mg base (CXE l.prog w) 12 fa fd ["script"] (va K Pt):=by
 have e:=(mg_of X G y6).symm.trans hfa;cases e;obtain⟨cdH,_,yH⟩:=oZ xH;obtain⟨iE,mP,gG⟩:=oZ bM.x;obtain⟨nW,uV,lI⟩:=oZ dJ.x;have su:∀ {D:Addr} {cd:ClassData},clsIn K D=some cd→dG K D cd→mroIn K D (.ref ba)=some true→∃ cd,dG K D cd∧cd.mro.contains (.ref ba)=true:=λ{D cd} hc y sb=>⟨cd,y,by
  unfold mroIn at sb;rw[hc,FW,if_neg (by rw[y.jb];decide)]at sb;exact Fg sb⟩
 have m:=λ{n:Str} {v:Value} (q:nsIn K mainGlobals n=some (some v))=>mg_of X G q;obtain⟨⟨aO,gU⟩,pO,eG⟩:=gT;obtain⟨⟨fg,uW⟩,gp,Ae⟩:=uU;obtain⟨⟨rO,Cy⟩,xn,EJ⟩:=Cv;obtain⟨⟨fk,so⟩,iM,y9⟩:=sh;obtain⟨⟨eI,qm⟩,hJ,yk⟩:=qh;obtain⟨⟨dq,mQ⟩,fW,wX⟩:=mI;obtain⟨⟨cv,ky⟩,dN,vk⟩:=ko;obtain⟨⟨h7,vY⟩,lg,BH⟩:=vX;obtain⟨⟨cQ,kz⟩,ff,vm⟩:=kq;obtain⟨⟨c7,oO⟩,eV,xv⟩:=oI;obtain⟨⟨cw,kA⟩,dO,vn⟩:=kr;obtain⟨⟨cJ,mR⟩,eh,wY⟩:=mJ;obtain⟨⟨dr,mS⟩,fX,wZ⟩:=mK;obtain⟨⟨eJ,qo⟩,fJ,yl⟩:=qi;obtain⟨⟨bC,iS⟩,sE,iT⟩:=iR;obtain⟨⟨bJ,mT⟩,mU,mV⟩:=mL;obtain⟨⟨cV,qq⟩,qr,qt⟩:=qj;obtain⟨⟨bY,oP⟩,oQ,oR⟩:=oJ;obtain⟨⟨aK,fF⟩,fG,fH⟩:=fE;obtain⟨⟨dB,qu⟩,eK,ym⟩:=qk;obtain⟨⟨du,mW⟩,fY,w4⟩:=mM;obtain⟨⟨dw,mX⟩,fZ,w6⟩:=mN;obtain⟨⟨cS,kB⟩,dP,vo⟩:=ku;obtain⟨⟨c9,oS,hcd⟩,gB,xw⟩:=oK;obtain⟨⟨dy,mY⟩,f6,w8⟩:=mO;obtain⟨⟨dR,oU⟩,dU,xx⟩:=oM;obtain⟨⟨fm,sr⟩,iN,za⟩:=sj;obtain⟨⟨dS,oV⟩,gE,xy⟩:=oN;obtain⟨⟨dC,qv⟩,fK,yn⟩:=ql;obtain⟨⟨fq,sv⟩,iO,zb⟩:=sk;obtain⟨⟨rP,zc⟩,yP,EL⟩:=Cw
 let D:Ad:=⟨ba,aE,dY,aI,aq,aO,cN,fg,jK,rO,cG,fk,cf,eI,bh,dq,aS,cv,dZ,h7,a7,cQ,bu,c7,aT,cw,aZ,cJ,bj,dr,cg,eJ,aL,bC,aU,bJ,bO,cV,a9,bY,au,aK,bP,dB,bo,du,bq,dw,a8,cS,bE,c9,br,dy,bF,dR,cH,fm,bG,dS,bQ,dC,cI,fq,fa,rP⟩
 have T:Txt K mg D:=⟨⟨cdH,yH⟩,m nH,m oH,⟨⟨iE,gG⟩,⟨bM.a,bM.t⟩,bM.c⟩,⟨⟨iE,gG⟩,bM.i,eG,bM.k⟩,bM.v,su mP gG bM.s,m vW,⟨⟨nW,lI⟩,⟨dJ.a,dJ.t⟩,dJ.c⟩,⟨⟨nW,lI⟩,dJ.i,eG,dJ.k⟩,dJ.v,su uV lI dJ.s,m uS,⟨gr.g,gr.d,gr.o,gr.s⟩,⟨ik,uT,iT,gr.k⟩,jT,⟨kn,mV,mU⟩,⟨oE,qt,qr⟩,⟨mG,oR,oQ⟩,⟨fv,fH,fG⟩,m uR,gp,m Cu,xn,m rZ,iM,m qd,hJ,m mr,fW,m ki,dN,m vV,lg,m kj,ff,m oy,eV,m kl,dO,m mB,eh,m mC,fX,m qe,fJ,m qf,eK,m mD,fY,m mE,fZ,m km,dP,m oz,gB,m mF,f6,m oA,dU,m sf,iN,m oB,gE,m qg,fK,m sg,iO,m y6,yP,mg_none_of X G eW,mg_none_of X G dI,mg_none_of X G jW,mg_none_of X G lh,mg_none_of X G u3,mg_none_of X G dW,mg_none_of X G xo,mg_none_of X G sS,mg_none_of X G pf,mg_none_of X G cW,mg_none_of X G gF,mg_none_of X G lV⟩;refine⟨rP,λs v=>?_,λbase _ _ TB=>?_⟩
 ·obtain⟨_,_,_,_,_,_,_,_,_,e,_⟩:=zc.ex
  rw[e];exact .of_eq rfl
 have ar:=gN (P:=l.prog) (w:=w) (mg:=mg) (base:=base) gU T;have aQ:=iG (P:=l.prog) (w:=w) (mg:=mg) (base:=base) iS T;have aw:=j5 (P:=l.prog) (w:=w) (mg:=mg) (base:=base) mT T;have ay:=fu (P:=l.prog) (w:=w) (mg:=mg) (base:=base) fF T ar;have aR:=n6 (P:=l.prog) (w:=w) (mg:=mg) (base:=base) qq T ay;have ax:=lZ (P:=l.prog) (w:=w) (mg:=mg) (base:=base) oP T ay;have cO:=rU (P:=l.prog) (w:=w) (mg:=mg) (base:=base) uW T;have bw:=jM (P:=l.prog) (w:=w) (mg:=mg) (base:=base) ky T aw ar;have eA:=j7 (P:=l.prog) (w:=w) (mg:=mg) (base:=base) mQ T aR cO bw ar;have fL:=oe (P:=l.prog) (w:=w) (mg:=mg) (base:=base) qm T eA;have gJ:=pZ (P:=l.prog) (w:=w) (mg:=mg) (base:=base) so T fL aR;have bA:=jO (P:=l.prog) (w:=w) (mg:=mg) (base:=base) kA T cO;have bZ:=l5 (P:=l.prog) (w:=w) (mg:=mg) (base:=base) oO T bA gJ;have u7:=zV (P:=l.prog) (w:=w) (mg:=mg) (base:=base) Cy T bw ax;have bK:=ka (P:=l.prog) (w:=w) (mg:=mg) (base:=base) mR T;have eB:=kb (P:=l.prog) (w:=w) (mg:=mg) (base:=base) mS T;have dD:=oh (P:=l.prog) (w:=w) (mg:=mg) (base:=base) qo T bA;have dQ:=jQ (P:=l.prog) (w:=w) (mg:=mg) (base:=base) kz T bZ bK;have jf:=uP (P:=l.prog) (w:=w) (mg:=mg) (base:=base) vY T bZ bK aw eB u7 dD ax;have bR:=oj (P:=l.prog) (w:=w) (mg:=mg) (base:=base) qu T;have eC:=ke (P:=l.prog) (w:=w) (mg:=mg) (base:=base) mW T;have eD:=kf (P:=l.prog) (w:=w) (mg:=mg) (base:=base) mX T eC;have cy:=jS (P:=l.prog) (w:=w) (mg:=mg) (base:=base) kB T;have eX:=mf (P:=l.prog) (w:=w) (mg:=mg) (base:=base) oS T hcd TB bR eD cy;have eF:=kh (P:=l.prog) (w:=w) (mg:=mg) (base:=base) mY T aQ ax;have cb:=mn (P:=l.prog) (w:=w) (mg:=mg) (base:=base) oU T aw aR;have gK:=qa (P:=l.prog) (w:=w) (mg:=mg) (base:=base) sr T;have eY:=mq (P:=l.prog) (w:=w) (mg:=mg) (base:=base) oV T gK;have cE:=ou (P:=l.prog) (w:=w) (mg:=mg) (base:=base) qv T;have gL:=qc (P:=l.prog) (w:=w) (mg:=mg) (base:=base) sv T cE;exact(zZ (P:=l.prog) (w:=w) (mg:=mg) (base:=base) zc T eX bR eY eF aQ aw ax cb dQ jf cE gL).g
theorem walk{l:OpenLaw}{q:Program}{loose:List Str}{XP:(Str→Option Value)→Heap→Prop}{YP:World→Heap→Prop}{d:DefRec}{K:Params→Frag}{cc Pt:Addr}(hn:l.most=some 63)(hdf:d.params.defaults=[])
  (hY:∀(w:World) (h:Heap),YP w h→(K w.params).In h∧h.get? Pt=some (tabObj #[])∧CodeHd h cc Pt) (kP:∀ w:World,(K w.params).lookup Pt=none) (F:∀(w:World) (mg:Str→Option Value) (fa:Addr) (h:Heap),(K w.params).In h→h.Ns mainGlobals mg→mg d.name=some (.ref fa) →
   ∃ fd:FuncData,(∀(s:Shared) (u:Value),BindsTo s fd ⟨[u],[]⟩ [("script",u)])∧∀ base:Heap,(K w.params).In base→base.Ns mainGlobals mg→kR (K w.params) mg base cc Pt→jA l.prog w (K w.params) mg base (CXE l.prog w) 12 fa fd ["script"] (va (K w.params) Pt)) :
  WalkO q loose XP YP l.row.toRowW d [] (λf vs=>PySem.call f vs) :=
 L2.vI (n:=63) (k:=12) (x := "script") (CX:=λw=>CXE l.prog w) (sp:=λw=>va (K w.params) Pt) hn (by decide) hdf ⟨rfl,by decide,by decide⟩ hY kP F (λ_ _ a ns hl hP hS=>⟨a,ns,rfl,hS,hl,hP,λ_=>rfl⟩) λ_ _ _ _ _ z=>Cd z
end K40
end
section
open PySem PySem.W PyProof.Rows
set_option maxRecDepth 100000 in
set_option maxHeartbeats 0 in
theorem PySem.Challenge.cw_stillheap_k40_copies_laid_holds : PySem.Challenge.rw_stillheap_k40_copies_laid.Holds := by
 w_on;o_law
 refine holds_open (q:=K40.hQ) (loose:=K40.hLo) (Xt:=λs=>xlAt K40.hQ [] s&&recOk (RowW.records (OpenRow.toRowW (OpenLaw.row PySem.Challenge.rw_stillheap_k40_copies_laid))) s)
  (XP:=XL K40.hQ []) (Yf:=Hook.obs (kHook K40.hK K40.hAs K40.fN)) (Ya:=Hook.val (kHook K40.hK K40.hAs K40.fN)) (YP:=Hook.says (kHook K40.hK K40.hAs K40.fN)) (N:=4030)
  ?hl (Hook.of (kHook K40.hK K40.hAs K40.fN)) (Hook.keeps (kHook K40.hK K40.hAs K40.fN))
  (λs e=>xl_of s (Bool.and_eq_true_iff.mp e).1) XL.keeps (by rfl) (by rfl) (by rfl)
  (λs e=>recFacts_of (Bool.and_eq_true_iff.mp e).2) (by rfl) (by first|assumption|decide +kernel)
  (by decide +kernel) ⟨rfl,rfl,rfl,rfl,rfl,by decide +kernel⟩ ?hw ?hc
 (case hl=>exact K40.B2)
 (case hw=>w_witness2)
 refine K40.walk (l:=PySem.Challenge.rw_stillheap_k40_copies_laid) (K:=K40.hK0) (cc:=257) (Pt:=255) rfl rfl (λw h Y=>K40.hY (PySem.W.kIn_of Y)) K40.hP0 ?F
 case F =>
  k_fill
  intro w mg fa h KX G hmg;refine' K40.all_mk (cc:=257) (Pt:=255) KX G hmg ?_ ?_ ?_ ?_ ?_ ?_ ?_ ?_ ?_ ?_ ?_ ?_ ?_ ?_ ?_ ?_ ?_ ?_ ?_ ?_ ?_ ?_ ?_ ?_ ?_ ?_ ?_ ?_ ?_ ?_ ?_ ?_ ?_ ?_ ?_ ?_ ?_ ?_ ?_ ?_ ?_ ?_ ?_ ?_ ?_ ?_ ?_ ?_ ?_ ?_ ?_ ?_ ?_ ?_ ?_ ?_ ?_ ?_ ?_ ?_ ?_ ?_ ?_ ?_ ?_ ?_ ?_ ?_ ?_ ?_ ?_ ?_ ?_ ?_ ?_ ?_ ?_ ?_ ?_ ?_ ?_ ?_ ?_ ?_
  all_goals first
   | k_is
   | (unfold K40.FI;k_is)
   | (unfold K40.NF;k_is)
   | (refine' K40.LK.mk ?la ?lb ?lc ?ld;(case la=>k_is);(case lb=>k_is);(case lc=>k_is);(case ld=>k_is))
   | (refine' K40.LC.mk ?la ?lb ?lc ?ld;(case la=>k_is);(case lb=>k_is);(case lc=>k_is);(case ld=>k_is))
   | kernel_rfl
   | (refine' K40.PK.mk ?_ ?_ ?_ ?_ ?_<;>k_is)
   | (refine' K40.EK.mk ?_ ?_ ?_ ?_ ?_ ?_ ?_ ?_<;>first|k_is|kernel_rfl)
   | skip
end
