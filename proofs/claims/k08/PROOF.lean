import PyProof.Rows.All
import Wide.All
import OpenK.AllK
import Wide.FinOn
import PyProof.EqAt
import PyProof.EqKinds
import PyProof.TupleCall
import OpenK.KCls
import PyProof.ExcClass2
import PyProof.ExcBaseAll.ValueError
import PyProof.ExcArgs
import PyProof.Rows.Exc
import KE.KIsAll
import PyProof.StationsW
import PyProof.EnumFor
import PyProof.EnumStmt
import PyProof.EnumMake
import PyProof.NeKinds
import PyProof.Rows.SumAny
import KE.KDictSum
import PyProof.Rows.SortWalk
import PyProof.Rows.Range3
import PyProof.Rows.SetFrom
import KE.KEqDict
import PyProof.Rows.DictUnroll
import KE.KRevSl
import PyProof.AutoListH
import PyProof.AttrMiss
import KE.KRevIter
import PyProof.SeqI3
import Wide.Seal
import PySem.Challenge.RW_stillheap_k08_whole_small_rounds
set_option Elab.async false
set_option linter.all false
set_option maxRecDepth 100000
set_option maxHeartbeats 4000000
set_option exponentiation.threshold 4000
section
open PySem PySem.W PySem.Spec PyProof.Rows
def aeV:=@List.length_map
def aeW:=@List.getElem?_eq_getElem
def aeX:=@List.mem_singleton
def aeY:=@List.getElem?_eq_some_iff
def aeZ:=@List.mem_append_right
def ae0:=@Heap.get?_push_of_some
def ae1:=@Nat.le_refl
def ae2:=@Bool.false_ne_true
def ae3:=@List.length_append
def ae4:=@Heap.lt_size
def ae5:=@List.size_toArray
def ae6:=@List.getElem?_map
def ae7:=@List.mem_of_getElem?
def ae8:=@List.map_append
def ae9:=@List.take_of_length_le
def afa:=@Option.map_eq_some_iff
def afb:=@Nat.lt_of_lt_of_le
def afc:=@Nat.ne_of_lt
def afd:=@List.mem_append
def afe:=@Nat.le_trans
def aff:=@List.mem_cons
def afg:=@List.mem_cons_self
def afi:=@Ne.symm
def afj:=@List.mem_append_left
def afk:=@List.mem_map
def afm:=@List.length_take
def afn:=@List.mem_cons_of_mem
def afo:=@Option.some.inj
def afp:=@List.length_singleton
def afq:=@List.map_cons
def afr:=@List.getElem?_append_right
def afs:=@List.take_succ_eq_append_getElem
def aft:=@Heap.get?_push_size
def afu:=@Array.getElem?_eq_some_iff
def afv:=@PassesOwn.never
def afw:=@Nat.zero_le
def afx:=@PySem.mem_of_lookup
def afy:=@List.getElem?_append_left
def afz:=@List.mem_filter
def afA:=@List.length_cons
def afB:=@Bool.eq_false_iff
def afC:=@Heap.get?_update_other
def afD:=@Bool.false_eq_true
def afE:=@List.map_map
def afF:=@List.append_nil
def afG:=@List.replicate_succ
def afH:=@Int.le_refl
def afI:=@List.filter_sublist
def afJ:=@List.length_filter_le
def afK:=@List.eq_of_mem_replicate
def afL:=@List.Pairwise.sublist
def afM:=@List.mem_filterMap
def afN:=@Int.emod_nonneg
def afO:=@Int.emod_lt_of_pos
def afP:=@List.map_congr_left
def afQ:=@Nat.lt_irrefl
def afR:=@Classical.byContradiction
def afS:=@Nat.lt_of_le_of_lt
def afT:=@List.filter_congr
def afU:=@List.nodup_cons
def afV:=@List.lookup_cons
def afW:=@List.getElem_mem
def afX:=@Nat.lt_or_ge
def afY:=@Heap.size_push
def afZ:=@List.length_set
def af0:=@Option.isSome_map
def af1:=@Nat.lt_succ_of_lt
def af2:=@List.not_mem_nil
def af3:=@List.take_zero
def af4:=@Calls.callWith_builtin
def af5:=@List.filter_append
def af6:=@List.find?_cons
def af7:=@List.flatten_cons
def af8:=@List.nodup_append
def af9:=@List.drop_eq_getElem_cons
def aga:=@Nat.le_succ
def agb:=@Nat.ne_of_gt
def agc:=@List.any_cons
def agd:=@Option.map_some
def age:=@List.pairwise_cons
def agf:=@List.pairwise_singleton
def agg:=@List.map_nil
def agh:=@List.filterMap_append
def agi:=@List.take_append_drop
def agj:=@Bool.and_eq_true
def agk:=@List.getElem?_set_ne
def agl:=@Calls.evalArgs_plain
def agm:=@List.pairwise_append
def agn:=@List.mem_of_mem_take
def ago:=@Array.length_toList
def agp:=@Bool.eq_iff_iff
def agq:=@List.of_mem_zip
def agr:=@List.filter_map
def ags:=@Calls.Name_function_global
def agt:=@Nat.le_of_lt
def agu:=@Calls.spliced_cons
def agv:=@Bool.and_false
def agw:=@Calls.spliced_nil
def agx:=@List.append_assoc
def agy:=@Paired.length
def agz:=@Nat.lt_succ_self
def agA:=@List.mem_flatMap
def agB:=@List.Sublist.map
def agC:=@Nat.not_lt_zero
end
section
namespace L2
open PySem PySem.Spec PyProof.Rows
abbrev Key:=Sum Int Str
def rq:Key→Value→Bool
  | .inl k,v=>Value.isInt k v
  | .inr x,v=>Value.isStrOf x v
def acA(w:World):Key→Int
  | .inl k=>hashInt k
  | .inr x=>hashStr w x
theorem cp:∀ {k:Key} {v:Value},rq k v=true→(∃ i t,k=Sum.inl i∧v=Value.int i t)∨(∃ x t,k=Sum.inr x∧v=Value.str x t)
  | .inl i,v,h=>by
    obtain⟨t,e⟩:=Value.isInt_shape (k:=i) (v:=v) h;exact .inl ⟨i,t,rfl,e⟩
  | .inr x,v,h=>by
    obtain⟨t,e⟩:=Value.isStrOf_shape (x:=x) (v:=v) h;exact .inr ⟨x,t,rfl,e⟩
theorem OF(i:Int)(t:Tok):rq (.inl i) (.int i t)=true:=by simp[rq,Value.isInt]
theorem OG(x:Str)(t:Tok):rq (.inr x) (.str x t)=true:=by simp[rq,Value.isStrOf]
theorem Yl(a b:Int):decide ((Sum.inl a:Key)=Sum.inl b)=(a == b):=by
  by_cases e:a=b
  · subst e;simp
  · have h:¬(Sum.inl a:Key)=Sum.inl b:=λq=>e (Sum.inl.inj q)
    rw[decide_eq_false h];exact(beq_eq_false_iff_ne.mpr e).symm
theorem Ym(a b:Str):decide ((Sum.inr a:Key)=Sum.inr b)=decide (a=b):=by
  by_cases e:a=b
  · subst e;simp
  · have h:¬(Sum.inr a:Key)=Sum.inr b:=λq=>e (Sum.inr.inj q)
    rw[decide_eq_false h,decide_eq_false e]
theorem Yn(a:Int)(b:Str):decide ((Sum.inl a:Key)=Sum.inr b)=false:=decide_eq_false (λq=>nomatch q)
theorem Yo(a:Str)(b:Int):decide ((Sum.inr a:Key)=Sum.inl b)=false:=decide_eq_false (λq=>nomatch q)
def cR(prog:Program)(w:World):PySem.KeyKind prog w Key where
  is:=rq
  hash:=acA w
  inj:=λv a b ha hb=>by
    rcases cp ha with⟨i,t,rfl,rfl⟩|⟨x,t,rfl,rfl⟩
    · rcases cp hb with⟨j,u,rfl,e⟩|⟨y,u,rfl,e⟩
      · injection e with e1 _;rw[e1]
      · exact nomatch e
    · rcases cp hb with⟨j,u,rfl,e⟩|⟨y,u,rfl,e⟩
      · exact nomatch e
      · injection e with e1 _;rw[e1]
  byValue:=λk v h=>by
    rcases cp h with⟨i,t,rfl,rfl⟩|⟨x,t,rfl,rfl⟩<;>rfl
  pyHash:=λhv h=>by
    rcases cp hv with⟨i,t,rfl,rfl⟩|⟨x,t,rfl,rfl⟩
    · exact wpAny_pyHash_int h
    · exact wpAny_pyHash_str h
  eqBool:=λhu hv h=>by
    rcases cp hu with⟨i,t,rfl,rfl⟩|⟨x,t,rfl,rfl⟩
    · rcases cp hv with⟨j,u,rfl,rfl⟩|⟨y,u,rfl,rfl⟩
      · rw[Yl]at h;exact wpAny_eqBool_int h
      · rw[Yn]at h;exact SeqAt.EqAt.int_str i t y u _ _ _ _ h
    · rcases cp hv with⟨j,u,rfl,rfl⟩|⟨y,u,rfl,rfl⟩
      · rw[Yo]at h;exact SeqAt.EqAt.str_int x t j u _ _ _ _ h
      · rw[Ym]at h;exact wpAny_eqBool_str h
  «strs» := λk x t v h=>by
    rcases cp h with⟨i,u,rfl,e⟩|⟨y,u,rfl,e⟩
    · exact nomatch e
    · injection e with e1 _
      subst e1;cases v<;>rfl
theorem Kk(prog:Program)(w:World)(i:Int)(t:Tok):(cR prog w).is (.inl i) (.int i t)=true:=OF i t
theorem Km(prog:Program)(w:World)(x:Str)(t:Tok):(cR prog w).is (.inr x) (.str x t)=true:=OG x t
end L2
namespace L2
open PySem PySem.Spec PyProof.Rows
inductive V where
  | non|bl (b:Bool)|int (i:Int)|str (x:Str)|byt (b:Array UInt8)|flt (b:UInt64)|ref (a:Addr)|ty (n:String)
  deriving DecidableEq
def RelV:V→Value→Prop
  | .non,u=>u=Value.none
  | .bl b,u=>u=Value.bool b
  | .int i,u=>∃ t,u=Value.int i t
  | .str x,u=>∃ t,u=Value.str x t
  | .byt b,u=>∃ t,u=Value.bytes b t
  | .flt b,u=>∃ t,u=Value.float b t
  | .ref a,u=>u=Value.ref a
  | .ty n,u=>u=Value.type n
abbrev Vals:List V→List Value→Prop:=Paired RelV
theorem Vals.length{xs:List V}{us:List Value}(r:Vals xs us):xs.length=us.length:=agy r
theorem Vals.get:∀ {xs:List V} {us:List Value} {i:Nat} {x:V},Vals xs us→xs[i]?=some x→∃ u,us[i]?=some u∧RelV x u
  | _,_,_,_,.nil,e=>by simp at e
  | _,_,0,_,.cons r _,e=>by simp at e;subst e;exact⟨_,rfl,r⟩
  | _,_,i+1,x,.cons _ t,e=>by
    obtain⟨u,h1,h2⟩:=Vals.get (i:=i) (x:=x) t (by simpa using e);exact⟨u,by simpa using h1,h2⟩
theorem Vals.set{x:V}{u:Value}(r:RelV x u):∀ {xs:List V} {us:List Value} (i:Nat),Vals xs us→Vals (xs.set i x) (us.set i u)
  | _,_,_,.nil=>.nil
  | _,_,0,.cons _ t=>.cons r t
  | _,_,i+1,.cons q t=>.cons q (Vals.set r i t)
theorem Vals.append:∀ {xs ys:List V} {us ws:List Value},Vals xs us→Vals ys ws→Vals (xs++ys) (us++ws)
  | _,_,_,_,.nil,s=>s
  | _,_,_,_,.cons r t,s=>.cons r (Vals.append t s)
theorem Vals.take:∀ {xs:List V} {us:List Value} (n:Nat),Vals xs us→Vals (xs.take n) (us.take n)
  | _,_,0,_=>.nil
  | _,_,_+1,.nil=>.nil
  | _,_,n+1,.cons r t=>.cons r (Vals.take n t)
theorem Vals.drop:∀ {xs:List V} {us:List Value} (n:Nat),Vals xs us→Vals (xs.drop n) (us.drop n)
  | _,_,0,r=>r
  | _,_,_+1,.nil=>.nil
  | _,_,n+1,.cons _ t=>Vals.drop n t
def xY:Option V→Option Value→Prop
  | some v,some u=>RelV v u
  | none,none=>True
  | _,_=>False
def KV{κ:Type}:List (κ×V)→List (κ×Value)→Prop:=Paired λ(p:κ×V) (q:κ×Value)=>p.1=q.1∧RelV p.2 q.2
def kV:Key→V
  | .inl i=>.int i
  | .inr x=>.str x
inductive HO where
  | lst (xs:List V)
  | tup (xs:List V)
  | dK (kvs:List (Key×V))|dT (kvs:List (List Key×V))
  | set (S:Int→Bool) (n:Nat)
  | ins (C dx:Addr) (fs:List (Str×V))
  | own (x:Addr)
  | xd (fs:List (Str×V))
  | met (f x:Addr)
  | rng (lo hi:Int)
  | frz (o:Obj) (u:HO)
  | tbl (ps:Array Value)
  | ext (φ:Heap→Prop)
abbrev Hp:=Addr→Option HO
def upd(H:Hp)(a:Addr)(o:HO):Hp:=λb=>if b=a then some o else H b
theorem ah{H:Hp}{a:Addr}{o:HO}:upd H a o a=some o:=by unfold upd;rw[if_pos rfl]
theorem af{H:Hp}{a b:Addr}{o:HO}(h:b≠a):upd H a o b=H b:=by unfold upd;rw[if_neg h]
theorem aw{H:Hp}{a b:Addr}{o u:HO}(h:H a=some o)(h':H b=some u)(d:o≠u):a≠b:=by
  intro e;subst e;rw[h]at h';exact d (afo h')
theorem aq{H:Hp}{a b:Addr}{o:HO}(h:H a=some o)(h':H b=none):a≠b:=by
  intro e;subst e;rw[h]at h';cases h'
section
variable(P:Program)(w:World)
def hJ(H:Hp)(h:Heap)(a:Addr):HO→Prop
  | .lst xs=>xs.length≤sizeLine∧∃(its:List Value) (n:Nat),Vals xs its∧h.get? a=some {cls:=.type "list",data:=.seq its.toArray n}
  | .tup xs=>xs.length≤sizeLine∧∃ its:List Value,Vals xs its∧IsTup h a its.toArray
  | .dK kvs=>kvs.length≤sizeLine∧(a == sysModules)=false∧∃ vs,KV kvs vs∧h.DictOf (cR P w) a vs
  | .dT kvs=>kvs.length≤sizeLine∧(a == sysModules)=false∧∃ xs:List (List Key×Addr×Value),
      Paired (λ(p:List Key×V) (q:List Key×Addr×Value)=>p.1=q.1∧H q.2.1=some (.tup (p.1.map kV))∧RelV p.2 q.2.2) kvs xs ∧
      ∃ o es ep,h.get? a=some o∧o.ExactDict∧o.data=.dict es ep∧es.toList=xs.map (entryOfKey (tupleKind (cR P w)))∧(xs.map (·.1)).Nodup
  | .set S n=>h.SetOf (intKind P w) a S n
  | .ins C dx fs=>H dx=some (.own a)∧fs.length≤1000∧dx≠a∧h.get? a=some (PySem.W.instObj C dx) ∧
      ∃ mA,h.Ns1 dx mA∧(∀ f,xY (fs.lookup f) (mA f))∧PySem.Within mA (fs.map (·.1))
  | .own _=>∃ o,h.get? a=some o
  | .xd fs=>∃ mA,h.Ns1 a mA∧∀ f,xY (fs.lookup f) (mA f)
  | .rng lo hi=>∃ t u v,h.get? a=some {cls:=.type "range",data:=.fields #[.int lo t,.int hi u,.int 1 v]}
  | .frz o u=>h.get? a=some o∧hJ H h a u
  | .tbl ps=>h.get? a=some {cls:=.none,data:=.fields ps}
  | .met f x=>h.get? a=some (PySem.W.methodObj (.ref f) (.ref x))
  | .ext φ=>φ h∧(∃ o,h.get? a=some o)∧∀ h1 h2:Heap,φ h1→(∀ o,h1.get? a=some o→h2.get? a=some o)→φ h2
def HOk(H:Hp)(h:Heap):Prop:=∀ a o,H a=some o→hJ P w H h a o
end
section
variable{P:Program}{w:World}{H H':Hp}{h h':Heap}{a:Addr}{o:HO}
theorem hJ.lt(x:hJ P w H h a o):a<h.objs.size:=by
  cases o with
  | lst xs=>obtain⟨_,_,_,_,e⟩:=x;exact ae4 e
  | tup xs=>obtain⟨_,_,_,p⟩:=x;exact p.lt
  | dK kvs=>obtain⟨_,_,_,_,o,_,_,e,_⟩:=x;exact ae4 e
  | dT kvs=>obtain⟨_,_,_,_,o,_,_,e,_⟩:=x;exact ae4 e
  | set S n=>obtain⟨o,_,_,_,e,_⟩:=x;exact ae4 e
  | ins C dx fs=>obtain⟨_,_,_,e,_⟩:=x;exact ae4 e
  | own y=>obtain⟨_,e⟩:=x;exact ae4 e
  | xd fs=>obtain⟨_,⟨_,_,_,e,_⟩,_⟩:=x;exact ae4 e
  | rng lo hi=>obtain⟨_,_,_,e⟩:=x;exact ae4 e
  | frz ob u=>obtain⟨e,_⟩:=x;exact ae4 e
  | tbl ps=>exact ae4 (show h.get? a=some _ from x)
  | met f y=>exact ae4 (show h.get? a=some _ from x)
  | ext φ=>obtain⟨_,⟨_,e⟩,_⟩:=x;exact ae4 e
theorem Paired.Ze{α β:Type}{F G:α→β→Prop}:∀ {l₁:List α} {l₂:List β},Paired F l₁ l₂→(∀ a b,F a b→G a b)→Paired G l₁ l₂
  | _,_,.nil,_=>.nil
  | _,_,.cons r t,f=>.cons (f _ _ r) (Paired.Ze t f)
theorem hJ.Jv(x:hJ P w H h a o)(k:∀ b u,(b=a∨H b=some (.own a))→h.get? b=some u→h'.get? b=some u)
    (ho:∀ b,H b=some (.own a)→H' b=some (.own a)) (ht:∀ b xs,H b=some (.tup xs)→H' b=some (.tup xs)):hJ P w H' h' a o:=by
  induction o with
  | lst xs=>obtain⟨z,its,n,r,e⟩:=x;exact⟨z,its,n,r,k _ _ (.inl rfl) e⟩
  | tup xs=>obtain⟨z,its,r,ob,e,c⟩:=x;exact⟨z,its,r,ob,k _ _ (.inl rfl) e,c⟩
  | dK kvs=>obtain⟨z,y,vs,r,ob,es,ep,e,c⟩:=x;exact⟨z,y,vs,r,ob,es,ep,k _ _ (.inl rfl) e,c⟩
  | dT kvs =>
    obtain⟨z,y,xs,r,ob,es,ep,e,c⟩:=x;exact⟨z,y,xs,Paired.Ze r λp q z=>⟨z.1,ht _ _ z.2.1,z.2.2⟩,ob,es,ep,k _ _ (.inl rfl) e,c⟩
  | set S n=>obtain⟨ob,es,ep,t,e,c⟩:=x;exact⟨ob,es,ep,t,k _ _ (.inl rfl) e,c⟩
  | ins C dx fs =>
    obtain⟨d,z,ne,e,mA,⟨od,es,ep,e2,c⟩,r⟩:=x;exact⟨ho _ d,z,ne,k _ _ (.inl rfl) e,mA,⟨od,es,ep,k _ _ (.inr d) e2,c⟩,r⟩
  | own y=>obtain⟨ob,e⟩:=x;exact⟨ob,k _ _ (.inl rfl) e⟩
  | xd fs=>obtain⟨mA,⟨od,es,ep,e,c⟩,r⟩:=x;exact⟨mA,⟨od,es,ep,k _ _ (.inl rfl) e,c⟩,r⟩
  | rng lo hi=>obtain⟨t,u,v,e⟩:=x;exact⟨t,u,v,k _ _ (.inl rfl) e⟩
  | frz ob u ih=>obtain⟨e,q⟩:=x;exact⟨k _ _ (.inl rfl) e,ih q⟩
  | tbl ps =>
    have e:h.get? a=some {cls:=.none,data:=.fields ps}:=x;show h'.get? a=some {cls:=.none,data:=.fields ps};exact k a _ (.inl rfl) e
  | met f y =>
    have e:h.get? a=some (PySem.W.methodObj (.ref f) (.ref y)):=x;show h'.get? a=some (PySem.W.methodObj (.ref f) (.ref y));exact k a _ (.inl rfl) e
  | ext φ=>obtain⟨p,⟨o,e⟩,st⟩:=x;exact⟨st _ _ p λo q=>k _ _ (.inl rfl) q,⟨o,k _ _ (.inl rfl) e⟩,st⟩
theorem HOk.lt(x:HOk P w H h)(e:H a=some o):a<h.objs.size:=(x a o e).lt
theorem HOk.fresh(x:HOk P w H h)(e:h.objs.size≤a):H a=none:=by
  cases q:H a with
  | none=>rfl
  | some u=>exact absurd (afb (x.lt q) e) (afQ _)
theorem HOk.kept(x:HOk P w H h)(k:∀ b u,h.get? b=some u→h'.get? b=some u):HOk P w H h':=λa o e =>
  (x a o e).Jv (λb u _ q=>k b u q) (λ_ q=>q) λ_ _ q=>q
theorem HOk.laid(x:HOk P w H h)(k:∀ b u,h.get? b=some u→h'.get? b=some u)(hp:h.objs.size≤a)(new:hJ P w (upd H a o) h' a o):HOk P w (upd H a o) h':=λb u e=>by
  have hn:=x.fresh hp;by_cases hb:b=a
  · subst hb;rw[ah]at e;cases e;exact new
  · rw[af hb]at e
    exact(x b u e).Jv (λc v _ q=>k c v q) (λc q=>by rw[af (aq q hn)];exact q) λc xs q=>by rw[af (aq q hn)];exact q
end
def Rd(H:Hp)(a:Addr)(u:HO):Prop:=H a=some u∨∃ o,H a=some (.frz o u)
theorem Rd.ok{P:Program}{w:World}{H:Hp}{h:Heap}{a:Addr}{u:HO}(r:Rd H a u)(x:HOk P w H h):hJ P w H h a u:=by
  rcases r with r|⟨o,r⟩
  · exact x a u r
  · obtain⟨_,q⟩:=x a _ r
    exact q
def Mut:Option HO→Prop
  | some (.lst _)=>True
  | some (.dK _)=>True
  | some (.dT _)=>True
  | some (.set _ _)=>True
  | some (.ins _ _ _)=>True
  | some (.ext _)=>True
  | _=>False
section
variable{P:Program}{w:World}{H:Hp}{h h':Heap}{x e:Addr}{o':HO}
theorem HOk.write(ok:HOk P w H h)(mu:Mut (H x))(he:e=x∨H e=some (.own x))(k:∀ b u,b≠e→h.get? b=some u→h'.get? b=some u)(heo:∃ u,h'.get? e=some u)
    (new:hJ P w (upd H x o') h' x o'):HOk P w (upd H x o') h':=λb u q=>by
  have acB:∀ c y,H c=some (.own y)→c≠x:=λc y r z=>by subst z;rw[r]at mu;exact mu
  have adF:∀ c xs,H c=some (.tup xs)→c≠x:=λc xs r z=>by subst z;rw[r]at mu;exact mu
  by_cases hb:b=x
  · subst hb;rw[ah]at q;cases q;exact new
  · rw[af hb]at q
    by_cases hbe:b=e
    · have q':H b=some (.own x):=by
        rcases he with z|z
        · exact absurd (hbe.trans z) hb
        · rw[hbe];exact z
      rw[q]at q';cases q';obtain⟨v,hv⟩:=heo;exact⟨v,by rw[hbe];exact hv⟩
    · refine(ok b u q).Jv (λc v hc r=>k c v ?_ r) (λc r=>by rw[af (acB c b r)];exact r) λc xs r=>by rw[af (adF c xs r)];exact r
      rcases hc with rfl|hc
      · exact hbe
      · rintro rfl
        rcases he with z|z
        · exact acB c b hc z
        · rw[hc]at z;cases z;exact hb rfl
end
structure Un(fs ex:List Addr)(H H':Hp)(h h':Heap):Prop where
  keep:∀ b o,h.get? b=some o→H b=none→b∉fs→b∉ex→h'.get? b=some o
  slot:∀ b o,h.get? b=some o→H b=none→b∈fs→b∉ex→∃ sl,h'.get? b=some {o with slots:=sl}
  free:∀ b o,h.get? b=some o→H b=none→b∉ex→H' b=none
  there:∀ b o,h.get? b=some o→b∉ex→∃ o',h'.get? b=some o'
  AW:∀ b xs,H b=some (.tup xs)→H' b=some (.tup xs)
  ER:∀ b o u,H b=some (.frz o u)→H' b=some (.frz o u)
  FC:∀ b ps,H b=some (.tbl ps)→∃ more,H' b=some (.tbl (ps++more))
section
variable{fs fs' ex ex':List Addr}{H H1 H2:Hp}{h h1 h2 h':Heap}{a x e:Addr}{o:HO}
theorem Un.any(u:Un fs ex H H1 h h1){b:Addr}{ob:Obj}(q:h.get? b=some ob)(n:H b=none)(hx:b∉ex):∃ sl,h1.get? b=some {ob with slots:=sl}:=by
  by_cases hb:b∈fs
  · exact u.slot b ob q n hb hx
  · exact⟨ob.slots,u.keep b ob q n hb hx⟩
theorem Un.kept(k:∀ b u,h.get? b=some u→h'.get? b=some u):Un fs ex H H h h' :=
  ⟨λb ob q _ _ _=>k b ob q,λb ob q _ _ _=>⟨ob.slots,k b ob q⟩,λ_ _ _ n _=>n,λb ob q _=>⟨ob,k b ob q⟩,λ_ _ q=>q,λ_ _ _ q=>q,λ_ ps q=>⟨#[],by rw[q];simp⟩⟩
theorem Un.refl:Un fs ex H H h h:=Un.kept λ_ _ q=>q
theorem Un.laid(k:∀ b u,h.get? b=some u→h'.get? b=some u)(hp:h.objs.size≤a)(hn:H a=none):Un fs ex H (upd H a o) h h' where
  keep:=λb u q _ _ _=>k b u q
  slot:=λb u q _ _ _=>⟨u.slots,k b u q⟩
  free:=λb u q n _=>by rw[af (afc (afb (ae4 q) hp))];exact n
  there:=λb u q _=>⟨u,k b u q⟩
  AW:=λb xs q=>by rw[af (aq q hn)];exact q
  ER:=λb u xs q=>by rw[af (aq q hn)];exact q
  FC:=λb ps q=>⟨#[],by rw[af (aq q hn),q];simp⟩
theorem Un.write(mu:Mut (H x))(he:e=x∨H e=some (.own x))(k:∀ b u,b≠e→h.get? b=some u→h'.get? b=some u)(heo:∃ u,h'.get? e=some u):Un fs ex H (upd H x o) h h':=by
  have hx:∀ b,H b=none→b≠x:=λb n z=>by subst z;rw[n]at mu;exact mu
  have hb:∀ b,H b=none→b≠e:=λb n z=>by
    subst z;rcases he with r|r
    · exact hx b n r
    · rw[n]at r;cases r
  have hm:∀ b u,H b=some u→¬Mut (some u)→b≠x:=λb u q nm z=>by subst z;rw[q]at mu;exact nm mu
  refine⟨λb u q n _ _=>k b u (hb b n) q,λb u q n _ _=>⟨u.slots,k b u (hb b n) q⟩,λb u q n _=>by rw[af (hx b n)];exact n,λb u q _=>?_,
    λb xs q=>by rw[af (hm b _ q λz=>z)];exact q,λb u xs q=>by rw[af (hm b _ q λz=>z)];exact q,λb ps q=>⟨#[],by rw[af (hm b _ q λz=>z),q];simp⟩⟩
  by_cases hbe:b=e
  · subst hbe;exact heo
  · exact⟨u,k b u hbe q⟩
end
def trk(h:Heap)(H:Hp):List Addr:=(List.range h.objs.size).filter λa=>(H a).isSome
def Mn(h:Heap)(H:Hp):Heap:=PySem.W.hideAll h (trk h H)
theorem OH(h:Heap)(H:Hp):(Mn h H).objs.size=h.objs.size:=PySem.W.hideAll_size _ _
theorem Qa{h:Heap}{H:Hp}{b:Addr}{o:Obj}(e:h.get? b=some o)(n:H b=none):(Mn h H).get? b=some o :=
  PySem.W.hideAll_get _ e λhm=>by
    have q:(H b).isSome=true:=(afz.mp hm).2;rw[n]at q;simp at q
theorem RV{h:Heap}{H:Hp}{b:Addr}{o:Obj}(e:(Mn h H).get? b=some o):h.get? b=some o∧H b=none:=by
  have e':h.get? b=some o:=PySem.W.of_hideAll (trk h H) e;refine⟨e',?_⟩;cases q:H b with
  | none=>rfl
  | some x =>
    have hm:b∈trk h H:=afz.mpr ⟨List.mem_range.mpr (ae4 e'),by simp[q]⟩;have z:(Mn h H).get? b=none:=PySem.W.hideAll_none (trk h H) hm;rw[z]at e;cases e
end L2
namespace L2
open PySem PySem.Spec PyProof.Rows
structure Mod(K:W.Frag)(mg:Str→Option Value)(base:Heap):Prop where
  kin:K.In base
  glob:base.Ns mainGlobals mg
  blt:∃ mb,base.Ns builtinsNs mb∧∀ x:Str,x ≠ "__name__" → mb x=bootBuiltins x
  nolimit:base.NoLimit
structure Cx where
  prog:Program
  w:World
  K:W.Frag
  mg:Str→Option Value
  base:Heap
  A:Around
  N:List Str
  s₀:Shared
  H₀:Hp
  env:Env
  outer:List Env
  stack:List Env
  ex:List Addr
  fn:Str→Bool
  calm:Bool
  pn:List (Addr×Obj)
  xe:Value→Shared→Prop
def frs(l:List Env):List Addr:=l.filterMap (·.frame)
abbrev Cx.fs(X:Cx):List Addr:=frs X.outer
def Vis(sc:Scope)(x:Str):Prop:=sc.names.lookup x=some .local∨sc.names.lookup x=some .cell∨sc.names.lookup x=some .free
def Loc(sc:Scope)(x:Str):Prop:=sc.names.lookup x=some .local∨sc.names.lookup x=some .cell
def Look(env:Env)(h:Heap)(m:Str→Option Value)(x:Str)(u:Value):Prop :=
  (env.kindOf x=some .local∧m x=some u)∨((env.kindOf x=some .cell∨env.kindOf x=some .free)∧∃ c,env.cells.lookup x=some c∧h.IsCell c (some u))
structure Cx.Ok(X:Cx):Prop where
  mod:Mod X.K X.mg X.base
  kind:X.env.scope.kind=.function
  glob:X.env.globals=mainGlobals
  blt:X.env.builtins=builtinsNs
  above:X.s₀.heap.objs.size≤X.env.locals
  inj:∀ x y c,X.env.cells.lookup x=some c→X.env.cells.lookup y=some c→x=y
  has:∀ x,(X.env.kindOf x=some .cell∨X.env.kindOf x=some .free)→∃ c,X.env.cells.lookup x=some c
  cab:∀ x c,X.fn x=true→X.env.cells.lookup x=some c→X.s₀.heap.objs.size≤c
  hd:X.calm=true→X.A.handled=none
  frames:X.A.frames=some X.stack
  stk:X.stack=X.outer∨(X.stack=X.env::X.outer∧X.env.frame=some X.env.locals)
  exf:∀ b∈X.ex,b≠X.env.locals∧∀ x c,X.env.cells.lookup x=some c→c≠b
  bs:∀ b o,X.base.get? b=some o→X.s₀.heap.get? b=some o∧X.H₀ b=none
  bsz:X.base.objs.size≤X.s₀.heap.objs.size
  Lx:∀ b o,X.base.get? b=some o→b∉X.ex
  NN:∀ b∈X.ex,b∉X.fs
  Bv:X.s₀.heap.FunFrames X.base X.outer
  frf:∀ b∈X.fs,X.H₀ b=none
structure Inv(X:Cx)(pins:List (Addr×Obj))(σ:List (Option V))(H:Hp)(s:Shared):Prop where
  ok:X.Ok
  os:s.os=X.s₀.os
  bare:AllBare s.gens
  base:Un X.fs X.ex X.H₀ H X.s₀.heap s.heap
  loc:∃ m,s.heap.Ns X.env.locals m∧∀(i:Nat) (x:Str) (v:V),X.N[i]?=some x→σ[i]?=some (some v)→Vis X.env.scope x→∃ u,RelV v u∧Look X.env s.heap m x u
  cell:∀ x c,X.env.cells.lookup x=some c→∃ v,s.heap.IsCell c v
  free:H X.env.locals=none
  lK:∀ x c,X.env.cells.lookup x=some c→H c=none
  pin:∀ p∈X.pn++pins,s.heap.get? p.1=some p.2∧H p.1=none∧p.1≠X.env.locals∧p.1∉X.fs∧∀ v,p.2.data≠.cell v
  hok:HOk X.prog X.w H s.heap
  len:σ.length=X.N.length
section
variable{X:Cx}{pins:List (Addr×Obj)}{σ:List (Option V)}{H H':Hp}{s:Shared}{h':Heap}
theorem Cx.Ok.adG(ok:X.Ok){b:Addr}{o:Obj}(e:X.base.get? b=some o):b∉X.fs:=λhb=>by
  have:=(ok.Bv.mem hb).1
  rw[e]at this;cases this
theorem Inv.bs(I:Inv X pins σ H s):∀ b o,X.base.get? b=some o→s.heap.get? b=some o∧H b=none:=λb o e =>
  ⟨I.base.keep b o (I.ok.bs b o e).1 (I.ok.bs b o e).2 (I.ok.adG e) (I.ok.Lx b o e),I.base.free b o (I.ok.bs b o e).1 (I.ok.bs b o e).2 (I.ok.Lx b o e)⟩
theorem Inv.bk(I:Inv X pins σ H s):∀ b o,X.base.get? b=some o→s.heap.get? b=some o:=λb o e=>(I.bs b o e).1
theorem Inv.mod(I:Inv X pins σ H s):Mod X.K X.mg X.base:=I.ok.mod
theorem Inv.kIn(I:Inv X pins σ H s):X.K.In s.heap:=I.ok.mod.kin.keeps I.bk
theorem Inv.lt(I:Inv X pins σ H s):X.env.locals<s.heap.objs.size:=let ⟨_,hn,_⟩:=I.loc;hn.lt
theorem Inv.sz(I:Inv X pins σ H s):X.s₀.heap.objs.size≤s.heap.objs.size:=afe I.ok.above (agt I.lt)
theorem Inv.adH(I:Inv X pins σ H s){a:Addr}(h:s.heap.objs.size≤a):a∉X.fs:=λhb=>by
  obtain⟨_,o,ho,_⟩:=I.ok.Bv.mem hb;exact absurd (afb (ae4 ho) (afe I.sz h)) (afQ _)
theorem Inv.cne(I:Inv X pins σ H s):∀ x c,X.env.cells.lookup x=some c→c≠X.env.locals:=λx c e z=>by
  obtain⟨v,o,ho,hd⟩:=I.cell x c e;obtain⟨m,⟨o',es,ep,ho',hd',_⟩,_⟩:=I.loc;rw[z,ho']at ho;cases ho;rw[hd']at hd;cases hd
theorem Inv.Bv(I:Inv X pins σ H s):s.heap.FunFrames X.base X.outer:=by
  have all:∀(l:List Env),(∀ b∈frs l,b∈X.fs)→X.s₀.heap.FunFrames X.base l→s.heap.FunFrames X.base l:=by
    intro l;induction l with
    | nil=>intro _ _;trivial
    | cons env r ih =>
      intro hs hl;obtain⟨hk,⟨L,o,hf,hn,ho,hd⟩,hr⟩:=hl;have hL:L∈X.fs:=hs L (by unfold frs;rw[List.filterMap_cons,hf];exact afg);obtain⟨sl,e⟩:=I.base.slot L o ho (I.ok.frf L hL) hL λz=>I.ok.NN L z hL;exact⟨hk,⟨L,_,hf,hn,e,hd⟩,ih (λb hb=>hs b (by unfold frs;rw[List.filterMap_cons,hf];exact afn _ hb)) hr⟩
  exact all X.outer (λ_ hb=>hb) I.ok.Bv
theorem Inv.stack(I:Inv X pins σ H s):s.heap.FunFrames X.base X.stack:=by
  rcases I.ok.stk with e|⟨e,hf⟩
  · rw[e];exact I.Bv
  · rw[e]
    obtain⟨m,hn,_⟩:=I.loc;refine .cons (by rw[I.ok.kind];decide) hf hn ?_ I.Bv;exact Heap.get?_none_of_le (afe I.ok.bsz I.ok.above)
theorem Inv.qK(I:Inv X pins σ H s):∀ b∈frs X.stack,b∈X.env.locals::X.fs:=λb hb=>by
  rcases I.ok.stk with e|⟨e,hf⟩
  · rw[e]at hb;exact afn _ hb
  · rw[e]at hb
    unfold frs at hb;rw[List.filterMap_cons,hf]at hb;exact hb
theorem Inv.vJ(I:Inv X pins σ H s):∀ b∈frs X.stack,H b=none:=λb hb=>by
  rcases aff.mp (I.qK b hb) with e|hb
  · rw[e];exact I.free
  · obtain⟨_,o,ho,_⟩:=I.ok.Bv.mem hb
    exact I.base.free b o ho (I.ok.frf b hb) λz=>I.ok.NN b z hb
theorem Inv.step{g':Array GenState}{t':Nat}{d':Drawn}{ch:List Addr}(I:Inv X pins σ H s)
    (hch:∀ b∈ch,(b∈X.ex∨X.s₀.heap.objs.size≤b)∧b≠X.env.locals∧(∀ x c,X.env.cells.lookup x=some c→c≠b)∧∀ p∈X.pn++pins,p.1≠b)
    (keep:∀ b o,b≠X.env.locals→b∉X.fs→b∉ch→s.heap.get? b=some o→H b=none→h'.get? b=some o)
    (slot:∀ b o,b≠X.env.locals→b∈X.fs→b∉ch→s.heap.get? b=some o→H b=none→∃ sl,h'.get? b=some {o with slots:=sl}) (free:∀ b o,b∉ch→s.heap.get? b=some o→H b=none→H' b=none)
    (there:∀ b o,b∉ch→s.heap.get? b=some o→∃ o',h'.get? b=some o')
    (AW:∀ b xs,H b=some (.tup xs)→H' b=some (.tup xs)) (ER:∀ b o u,H b=some (.frz o u)→H' b=some (.frz o u)) (FC:∀ b ps,H b=some (.tbl ps)→∃ more,H' b=some (.tbl (ps++more)))
    (ns:∀ m,s.heap.Ns X.env.locals m→h'.Ns X.env.locals m) (hok:HOk X.prog X.w H' h') (hg:AllBare g') :
    Inv X pins σ H' {s with heap:=h',gens:=g',drawn:=d',toks:=t'}:=by
  have neL:∀ b o,X.s₀.heap.get? b=some o→b≠X.env.locals:=λb o e=>afc (afb (ae4 e) I.ok.above);have neC:∀ b o,X.s₀.heap.get? b=some o→b∉X.ex→b∉ch:=λb o e hx hb=>by
    rcases(hch b hb).1 with z|z
    · exact hx z
    · exact absurd (afb (ae4 e) z) (afQ _)
  have cellK:∀ x c,X.env.cells.lookup x=some c→∀ v,s.heap.IsCell c v→h'.IsCell c v:=λx c e v ⟨o,ho,hd⟩=>by
    have nch:c∉ch:=λz=>(hch c z).2.2.1 x c e rfl;by_cases hc:c∈X.fs
    · obtain⟨sl,q⟩:=slot c o (I.cne x c e) hc nch ho (I.lK x c e)
      exact⟨_,q,hd⟩
    · exact⟨o,keep c o (I.cne x c e) hc nch ho (I.lK x c e),hd⟩
  refine⟨I.ok,I.os,hg,⟨λb o e n hb hx=>?_,λb o e n hb hx=>?_,λb o e n hx=>?_,λb o e hx=>?_,λb xs e=>AW b xs (I.base.AW b xs e),λb o xs e=>ER b o xs (I.base.ER b o xs e),λb ps e=>?_⟩,?_,λx c e=>?_,?_,λx c e=>?_,λp hp=>?_,hok,I.len⟩
  · exact keep b o (neL b o e) hb (neC b o e hx) (I.base.keep b o e n hb hx) (I.base.free b o e n hx)
  · obtain⟨sl,e1⟩:=I.base.slot b o e n hb hx
    obtain⟨sl',e2⟩:=slot b _ (neL b o e) hb (neC b o e hx) e1 (I.base.free b o e n hx);exact⟨sl',e2⟩
  · obtain⟨o',e1⟩:=I.base.there b o e hx
    exact free b o' (neC b o e hx) e1 (I.base.free b o e n hx)
  · obtain⟨o',e1⟩:=I.base.there b o e hx
    exact there b o' (neC b o e hx) e1
  · obtain⟨m1,e1⟩:=I.base.FC b ps e
    obtain⟨m2,e2⟩:=FC b _ e1;exact⟨m1++m2,by rw[e2,Array.append_assoc]⟩
  · obtain⟨m,hn,hl⟩:=I.loc
    refine⟨m,ns m hn,λi x v e1 e2 e3=>?_⟩;obtain⟨u,r,l⟩:=hl i x v e1 e2 e3;refine⟨u,r,?_⟩;rcases l with l|⟨k,c,e,z⟩
    · exact .inl l
    · exact .inr ⟨k,c,e,cellK x c e _ z⟩
  · obtain⟨v,z⟩:=I.cell x c e
    exact⟨v,cellK x c e v z⟩
  · obtain⟨m,⟨o,_,_,ho,_⟩,_⟩:=I.loc
    exact free _ o (λz=>(hch _ z).2.1 rfl) ho I.free
  · obtain⟨v,o,ho,hd⟩:=I.cell x c e
    exact free c o (λz=>(hch c z).2.2.1 x c e rfl) ho (I.lK x c e)
  · obtain⟨e,n,ne,nf,d⟩:=I.pin p hp
    have nch:p.1∉ch:=λz=>(hch p.1 z).2.2.2 p hp rfl;exact⟨keep p.1 p.2 ne nf nch e n,free p.1 p.2 nch e n,ne,nf,d⟩
theorem Inv.un{t':Nat}(I:Inv X pins σ H s)(u:Un X.fs [] H H' s.heap h')(hok:HOk X.prog X.w H' h'):Inv X pins σ H' {s with heap:=h',toks:=t'}:=by
  obtain⟨m,⟨o,es,ep,ho,r⟩,_⟩:=id I.loc;obtain⟨sl,hL⟩:=u.any ho I.free (by simp);exact I.step (g':=s.gens) (d':=s.drawn) (ch:=[]) (λ_ z=>nomatch z) (λb o _ hb _ e n=>u.keep b o e n hb (by simp)) (λb o _ hb _ e n=>u.slot b o e n hb (by simp)) (λb o _ e n=>u.free b o e n (by simp)) (λb o _ e=>u.there b o e (by simp)) u.AW u.ER u.FC (λm' hm=>by
    obtain⟨o',es',ep',ho',r'⟩:=hm;rw[ho]at ho';cases ho';exact⟨_,es',ep',hL,r'⟩) hok I.bare
theorem Inv.call{g':Array GenState}{t':Nat}{d':Drawn}{ch:List Addr}(I:Inv X pins σ H s)(u:Un (frs X.stack) ch H H' s.heap h')(hok:HOk X.prog X.w H' h')(hg:AllBare g')
    (hch:∀ b∈ch,(b∈X.ex∨X.s₀.heap.objs.size≤b)∧b≠X.env.locals∧(∀ x c,X.env.cells.lookup x=some c→c≠b)∧∀ p∈X.pn++pins,p.1≠b) :
    Inv X pins σ H' {s with heap:=h',gens:=g',drawn:=d',toks:=t'}:=by
  obtain⟨m,⟨o,es,ep,ho,r⟩,_⟩:=id I.loc;obtain⟨sl,hL⟩:=u.any ho I.free λz=>(hch _ z).2.1 rfl;exact I.step (ch:=ch) hch (λb o hL hb hc e n=>u.keep b o e n (λz=>(aff.mp (I.qK b z)).elim hL hb) hc) (λb o _ _ hc e n=>u.any e n hc) (λb o hc e n=>u.free b o e n hc) (λb o hc e=>u.there b o e hc) u.AW u.ER u.FC (λm' hm=>by
    obtain⟨o',es',ep',ho',r'⟩:=hm;rw[ho]at ho';cases ho';exact⟨_,es',ep',hL,r'⟩) hok hg
theorem Inv.turned{t':Nat}{it:Addr}(I:Inv X pins σ H s)(k:∀ b o,b≠it→s.heap.get? b=some o→h'.get? b=some o)(hn:H it=none)(hL:it≠X.env.locals)
    (h1:it∈X.ex∨X.s₀.heap.objs.size≤it) (h2:∀ x c,X.env.cells.lookup x=some c→c≠it) (h3:∀ p∈X.pn++pins,p.1≠it):Inv X pins σ H {s with heap:=h',toks:=t'}:=by
  have nit:∀ b u,H b=some u→b≠it:=λb u e z=>by rw[z,hn]at e;cases e
  refine I.step (g':=s.gens) (d':=s.drawn) (ch:=[it]) (λb hb=>?_) (λb o _ _ hc e _=>k b o (λz=>hc (by simp[z])) e) (λb o _ _ hc e _=>⟨o.slots,k b o (λz=>hc (by simp[z])) e⟩) (λ_ _ _ _ n=>n)
    (λb o hc e=>⟨o,k b o (λz=>hc (by simp[z])) e⟩) (λ_ _ e=>e) (λ_ _ _ e=>e) (λb ps e=>⟨#[],by rw[e];simp⟩) (λm hm=>?_) (λb u e=>?_) I.bare
  · have e:b=it:=by simpa using hb
    subst e;exact⟨h1,hL,h2,h3⟩
  · obtain⟨o,es,ep,ho,r⟩:=hm
    exact⟨o,es,ep,k _ o (afi hL) ho,r⟩
  · refine(I.hok b u e).Jv (λc v hc q=>k c v ?_ q) (λ_ q=>q) λ_ _ q=>q
    rcases hc with z|z
    · rw[z];exact nit b u e
    · exact nit c _ z
theorem Inv.tok(I:Inv X pins σ H s)(t:Nat):Inv X pins σ H {s with toks:=t}:=I.un (h':=s.heap) (t':=t) Un.refl I.hok
theorem Inv.kept{t':Nat}(I:Inv X pins σ H s)(k:∀ b u,s.heap.get? b=some u→h'.get? b=some u):Inv X pins σ H {s with heap:=h',toks:=t'}:=I.un (Un.kept k) (I.hok.kept k)
theorem Inv.laid{a:Addr}{o:HO}{t':Nat}(I:Inv X pins σ H s)(k:∀ b u,s.heap.get? b=some u→h'.get? b=some u)(hp:s.heap.objs.size≤a)(new:hJ X.prog X.w (upd H a o) h' a o) :
    Inv X pins σ (upd H a o) {s with heap:=h',toks:=t'}:=I.un (Un.laid k hp (I.hok.fresh hp)) (I.hok.laid k hp new)
theorem Inv.write{x e:Addr}{o:HO}{t':Nat}(I:Inv X pins σ H s)(mu:Mut (H x))(he:e=x∨H e=some (.own x))(k:∀ b u,b≠e→s.heap.get? b=some u→h'.get? b=some u)(heo:∃ u,h'.get? e=some u)
    (new:hJ X.prog X.w (upd H x o) h' x o):Inv X pins σ (upd H x o) {s with heap:=h',toks:=t'}:=I.un (Un.write mu he k heo) (I.hok.write mu he k heo new)
theorem Inv.NO{Mo:List (Addr×Obj)}(I:Inv X pins σ H s)(h:∀ p∈Mo,s.heap.get? p.1=some p.2∧H p.1=none∧p.1≠X.env.locals∧p.1∉X.fs∧∀ v,p.2.data≠.cell v):Inv X Mo σ H s :=
  ⟨I.ok,I.os,I.bare,I.base,I.loc,I.cell,I.free,I.lK,λp hp=>(afd.mp hp).elim (λz=>I.pin p (afj _ z)) (h p),I.hok,I.len⟩
theorem Gh{N:List Str}(hN:N.Nodup){i j:Nat}{x:Str}(a:N[i]?=some x)(b:N[j]?=some x):i=j:=by
  obtain⟨h1,e1⟩:=aeY.mp a;obtain⟨h2,e2⟩:=aeY.mp b;exact(List.getElem_inj hN).mp (e1.trans e2.symm)
theorem OI{M:Model}{A:Around}{E:Value→Shared→Prop}{i:Nat}{x:Str}{v:V}{u:Value}{Q:Unit→Shared→Prop}(I:Inv X pins σ H s)(hN:X.N.Nodup)(hi:X.N[i]?=some x)(hx:Loc X.env.scope x)(r:RelV v u)
    (h:∀ s',Inv X pins (σ.set i (some v)) H s'→(∃ a,Heap.SameBut a s.heap s'.heap∧(a=X.env.locals∨X.env.cells.lookup x=some a))→Q () s') (hf:X.fn x=true∨X.env.scope.names.lookup x=some .local:=by first|exact .inl rfl|exact .inr rfl|assumption):wpAny M A (storeName X.env x u) Q E s:=by
  obtain⟨m,hn,hl⟩:=id I.loc;have Zf:(X.env.scope.kind == .class||(X.env.scope.kind == .module&&X.env.locals != X.env.globals))=false:=by rw[I.ok.kind];rfl
  have hiσ:i<σ.length:=by rw[I.len];exact(aeY.mp hi).1
  have cne:=I.cne;have tracked:∀ {a:Addr} {h':Heap},(∃ o,s.heap.get? a=some o∧H a=none)→Heap.SameBut a s.heap h'→HOk X.prog X.w H h':=λ{a h'} ha hs b ob e=>by
    obtain⟨_,_,Vm⟩:=ha;refine(I.hok b ob e).Jv (λc w' hc q=>(hs.2 c ?_).trans q) (λ_ q=>q) λ_ _ q=>q;rintro rfl;rcases hc with rfl|hc
    · rw[Vm]at e;cases e
    · rw[Vm]at hc;cases hc
  rcases hx with hk|hk
  · refine wpAny_storeName_local hk hn (λh' hn' hs=>?_) Zf
    obtain⟨oL,_,_,hoL,_⟩:=id hn;refine h _ ⟨I.ok,I.os,I.bare,⟨λb o e n hb hx=>?_,λb o e n hb hx=>?_,I.base.free,λb o e hx=>?_,I.base.AW,I.base.ER,I.base.FC⟩,⟨_,hn',λj y v' e1 e2 e3=>?_⟩,λy c e=>?_,I.free,I.lK,λp hp=>?_,tracked ⟨oL,hoL,I.free⟩ hs,by simpa using I.len⟩ ⟨_,hs,.inl rfl⟩
    · exact(hs.2 b (afc (afb (ae4 e) I.ok.above))).trans (I.base.keep b o e n hb hx)
    · obtain⟨sl,e1⟩:=I.base.slot b o e n hb hx
      exact⟨sl,(hs.2 b (afc (afb (ae4 e) I.ok.above))).trans e1⟩
    · obtain⟨o',e1⟩:=I.base.there b o e hx
      exact⟨o',(hs.2 b (afc (afb (ae4 e) I.ok.above))).trans e1⟩
    · by_cases hj:j=i
      · subst hj
        rw[hi]at e1;cases e1;rw[List.getElem?_set_self hiσ]at e2;cases e2;exact⟨u,r,.inl ⟨hk,by simp⟩⟩
      · rw[agk (afi hj)]at e2
        obtain⟨u',r',q⟩:=hl j y v' e1 e2 e3;refine⟨u',r',?_⟩;rcases q with⟨k,e⟩|⟨k,c,e,z⟩
        · refine .inl ⟨k,?_⟩
          have:y≠x:=λe=>hj (Gh hN e1 (e ▸ hi))
          simp[this,e]
        · exact .inr ⟨k,c,e,z.sameBut hs (cne y c e)⟩
    · obtain⟨w',z⟩:=I.cell y c e
      exact⟨w',z.sameBut hs (cne y c e)⟩
    · obtain⟨e,n,ne,nf,d⟩:=I.pin p hp
      exact⟨(hs.2 p.1 ne).trans e,n,ne,nf,d⟩
  · have hfn:X.fn x=true:=by
      rcases hf with z|z
      · exact z
      · rw[z]at hk;cases hk
    obtain⟨c,hc⟩:=I.ok.has x (.inl hk);obtain⟨w',z⟩:=I.cell x c hc;refine wpAny_storeName_cell I.ok.kind hk hc z (λh' hc' hs=>?_);obtain⟨oc,hoc,adI⟩:=id z;refine h {s with heap:=h'} ⟨I.ok,I.os,I.bare,⟨λb o e n hb hx=>?_,λb o e n hb hx=>?_,I.base.free,λb o e hx=>?_,I.base.AW,I.base.ER,I.base.FC⟩,⟨m,hn.sameBut hs (afi (cne x c hc)),λj y v' e1 e2 e3=>?_⟩,λy c' e=>?_,I.free,I.lK,λp hp=>?_,tracked ⟨oc,hoc,I.lK x c hc⟩ hs,by simpa using I.len⟩ ⟨c,hs,.inr hc⟩
    · exact(hs.2 b (afc (afb (ae4 e) (I.ok.cab x c hfn hc)))).trans (I.base.keep b o e n hb hx)
    · obtain⟨sl,e1⟩:=I.base.slot b o e n hb hx
      exact⟨sl,(hs.2 b (afc (afb (ae4 e) (I.ok.cab x c hfn hc)))).trans e1⟩
    · obtain⟨o',e1⟩:=I.base.there b o e hx
      exact⟨o',(hs.2 b (afc (afb (ae4 e) (I.ok.cab x c hfn hc)))).trans e1⟩
    · by_cases hj:j=i
      · subst hj
        rw[hi]at e1;cases e1;rw[List.getElem?_set_self hiσ]at e2;cases e2;exact⟨u,r,.inr ⟨.inl hk,c,hc,hc'⟩⟩
      · rw[agk (afi hj)]at e2
        obtain⟨u',r',q⟩:=hl j y v' e1 e2 e3;refine⟨u',r',?_⟩;rcases q with q|⟨k,c',e,z'⟩
        · exact .inl q
        · refine .inr ⟨k,c',e,z'.sameBut hs ?_⟩
          rintro rfl;exact hj (Gh hN e1 (I.ok.inj _ _ _ e hc ▸ hi))
    · by_cases hcc:c'=c
      · subst hcc;exact⟨_,hc'⟩
      · obtain⟨w2,z2⟩:=I.cell y c' e
        exact⟨w2,z2.sameBut hs hcc⟩
    · obtain⟨e,n,ne,nf,d⟩:=I.pin p hp
      refine⟨(hs.2 p.1 ?_).trans e,n,ne,nf,d⟩;intro q;rw[q,hoc]at e;have q':oc=p.2:=afo e;exact d w' (by rw[←q'];exact adI)
theorem Bf{M:Model}{A:Around}{E:Value→Shared→Prop}{i:Nat}{x:Str}{v:V}{u:Value}{Q:Unit→Shared→Prop}(I:Inv X pins σ H s)(hN:X.N.Nodup)(hi:X.N[i]?=some x)(hx:Loc X.env.scope x)(r:RelV v u)
    (h:∀ s',Inv X pins (σ.set i (some v)) H s'→Q () s') (hf:X.fn x=true∨X.env.scope.names.lookup x=some .local:=by first|exact .inl rfl|exact .inr rfl|assumption):wpAny M A (storeName X.env x u) Q E s :=
  OI I hN hi hx r (λs' I' _=>h s' I') hf
theorem Inv.Ho{s':Shared}{ch:List Addr}(I:Inv X pins σ H s)(ho:s'.os=s.os)(u:Un (frs X.stack) ch H H' s.heap s'.heap)(hok:HOk X.prog X.w H' s'.heap)(hg:AllBare s'.gens)
    (hch:∀ b∈ch,(b∈X.ex∨X.s₀.heap.objs.size≤b)∧b≠X.env.locals∧(∀ x c,X.env.cells.lookup x=some c→c≠b)∧∀ p∈X.pn++pins,p.1≠b):Inv X pins σ H' s':=by
  obtain⟨h',g',d',t',o'⟩:=s';have e:o'=s.os:=ho;subst e;exact I.call (g':=g') (t':=t') (d':=d') u hok hg hch
end
abbrev XK:=Value→Option Addr→Hp→Prop
abbrev St:=List (Option V)
abbrev VK:=V→Hp→Prop
abbrev TE:=St→Hp→VK→Prop
abbrev TT:=St→Hp→(Bool→Hp→Prop)→Prop
abbrev TA:=St→Hp→(List V→Hp→Prop)→Prop
structure Ends where
  nx:St→Hp→Prop
  rt:VK
  bk:St→Hp→Prop:=λ_ _=>False
  ct:St→Hp→Prop:=λ_ _=>False
abbrev TS:=Ends→St→Hp→Prop
def EP(X:Cx)(pins:List (Addr×Obj))(σ:St)(Q:VK)(u:Value)(s':Shared):Prop:=∃ v H',Inv X pins σ H' s'∧RelV v u∧Q v H'
def TP(X:Cx)(pins:List (Addr×Obj))(σ:St)(Q:Bool→Hp→Prop)(b:Bool)(s':Shared):Prop:=∃ H',Inv X pins σ H' s'∧Q b H'
def AP(X:Cx)(pins:List (Addr×Obj))(σ:St)(Q:List V→Hp→Prop)(us:List Value)(s':Shared):Prop:=∃ vs H',Inv X pins σ H' s'∧Vals vs us∧Q vs H'
def SP(X:Cx)(pins:List (Addr×Obj))(D:Ends)(f:Flow)(s':Shared):Prop :=
  match f with
  | .next=>∃ σ' H',Inv X pins σ' H' s'∧D.nx σ' H'
  | .brk=>∃ σ' H',Inv X pins σ' H' s'∧D.bk σ' H'
  | .cont=>∃ σ' H',Inv X pins σ' H' s'∧D.ct σ' H'
  | .ret u=>∃ v σ' H',Inv X pins σ' H' s'∧RelV v u∧D.rt v H'
def PE(X:Cx)(e:Expr)(t:TE):Prop :=
  ∀(pins:List (Addr×Obj)) (s:Shared) (σ:St) (H:Hp) (Q:VK),Inv X pins σ H s→t σ H Q→wpAny (model X.prog X.w) X.A (eval e X.env) (EP X pins σ Q) X.xe s
def PT(X:Cx)(e:Expr)(t:TT):Prop :=
  ∀(pins:List (Addr×Obj)) (s:Shared) (σ:St) (H:Hp) (Q:Bool→Hp→Prop),Inv X pins σ H s→t σ H Q→wpAny (model X.prog X.w) X.A (isTrue e X.env (eval e X.env)) (TP X pins σ Q) X.xe s
def PW(X:Cx)(e:Expr)(t:TT):Prop :=
  ∀(whole:Sem Value) (pins:List (Addr×Obj)) (s:Shared) (σ:St) (H:Hp) (Q:Bool→Hp→Prop),Inv X pins σ H s→t σ H Q→wpAny (model X.prog X.w) X.A (isTrue e X.env whole) (TP X pins σ Q) X.xe s
theorem PW.pt{X:Cx}{e:Expr}{t:TT}(h:PW X e t):PT X e t:=h _
def PA(X:Cx)(es:List Expr)(t:TA):Prop :=
  ∀(pos:Pos) (pins:List (Addr×Obj)) (s:Shared) (σ:St) (H:Hp) (Q:List V→Hp→Prop),Inv X pins σ H s→t σ H Q→wpAny (model X.prog X.w) X.A (spliced (backTo pos (starEach es X.env))) (AP X pins σ Q) X.xe s
def PS(X:Cx)(st:Stmt)(t:TS):Prop :=
  ∀(pins:List (Addr×Obj)) (s:Shared) (σ:St) (H:Hp) (D:Ends),Inv X pins σ H s→t D σ H→wpAny (model X.prog X.w) X.A (exec st X.env) (SP X pins D) X.xe s
def PSs(X:Cx)(st:List Stmt)(t:TS):Prop :=
  ∀(pins:List (Addr×Obj)) (s:Shared) (σ:St) (H:Hp) (D:Ends),Inv X pins σ H s→t D σ H→wpAny (model X.prog X.w) X.A (execs st X.env) (SP X pins D) X.xe s
theorem thn{α:Type}{t:Sem α}{Q Q':α→Shared→Prop}{M:Model}{A:Around}{E:Value→Shared→Prop}{s:Shared}(h:wpAny M A t Q E s)(hQ:∀ a s,Q a s→Q' a s):wpAny M A t Q' E s:=wpAny_mono h hQ λ_ _ x=>x
end L2
namespace L2
open PySem PySem.Spec PyProof.Rows
section
variable{X:Cx}
def Zg(i:Nat):TE:=λσ H Q=>∃ v,σ[i]?=some (some v)∧Q v H
def tC(v:V):TE:=λ_ H Q=>Q v H
theorem Yp{i:Nat}{x:Str}{pos:Pos}(hN:X.N[i]?=some x)(hv:Vis X.env.scope x)(hd:(x == ("__debug__" : Str))=false:=by decide)(hcd:(x == ("__classdict__" : Str))=false:=by decide):PE X (.Name x pos) (Zg i):=by
  intro pins s σ H Q I h;obtain⟨v,e,h⟩:=h;obtain⟨m,hn,hl⟩:=I.loc;obtain⟨u,r,l⟩:=hl i x v hN e hv;have fin:EP X pins σ Q u s:=⟨v,H,I,r,h⟩;rcases l with⟨hk,hm⟩|⟨hk,c,hc,Po⟩
  · exact wpAny_Name (wpAny_loadName_local I.ok.kind hk hn hm fin) hd
  · rcases hk with hk|hk
    · exact wpAny_Name (wpAny_loadName_cell I.ok.kind hk hc Po fin) hd
    · exact wpAny_Name (wpAny_loadName_free I.ok.kind hk hc Po fin hcd) hd
theorem au{i j pos}:PE X (.Constant (.int i) j pos) (tC (.int i)):=λ_ _ _ H _ I h=>wpAny_Constant_int ⟨.int i,H,I.tok _,⟨_,rfl⟩,h⟩
theorem FD{b j pos}:PE X (.Constant (.bool b) j pos) (tC (.bl b)):=λ_ _ _ H _ I h=>Constant_bool ⟨.bl b,H,I,rfl,h⟩
theorem j3{j pos}:PE X (.Constant .none j pos) (tC .non):=λ_ _ _ H _ I h=>Constant_none ⟨.non,H,I,rfl,h⟩
theorem bJ{x j pos}:PE X (.Constant (.str x) j pos) (tC (.str x)):=λ_ _ _ H _ I h=>Calls.Constant_str ⟨.str x,H,I.tok _,⟨_,rfl⟩,h⟩
def Gl(X:Cx)(x:Str):Prop:=X.env.kindOf x=some .globalImplicit
theorem sM{E:Value→Shared→Prop}{pins:List (Addr×Obj)}{s:Shared}{σ:St}{H:Hp}{x:Str}{u:Value}{pos:Pos}{Q:Value→Shared→Prop}(I:Inv X pins σ H s)(hg:Gl X x)(hm:X.mg x=some u)(h:Q u s)
    (hd:(x == ("__debug__" : Str))=false:=by decide):wpAny (model X.prog X.w) X.A (eval (.Name x pos) X.env) Q E s :=
  ags I.ok.kind hg (Calls.loadGlobal_global (by rw[I.ok.glob];exact I.mod.glob.keeps I.bk) hm h) hd
theorem Gy{E:Value→Shared→Prop}{pins:List (Addr×Obj)}{s:Shared}{σ:St}{H:Hp}{x:Str}{u:Value}{pos:Pos}{Q:Value→Shared→Prop}(I:Inv X pins σ H s)(hg:Gl X x)(hm:X.mg x=none)(hv:bootBuiltins x=some u)(h:Q u s)
    (hn:x ≠ "__name__" := by decide) (hd:(x == ("__debug__" : Str))=false:=by decide):wpAny (model X.prog X.w) X.A (eval (.Name x pos) X.env) Q E s:=by
  obtain⟨mb,h1,h2⟩:=I.mod.blt;exact ags I.ok.kind hg (Calls.loadGlobal_builtin (by rw[I.ok.glob];exact I.mod.glob.keeps I.bk) hm (by rw[I.ok.blt];exact h1.keeps I.bk) ((h2 x hn).trans hv) h) hd
theorem kY{x:Str}{v:V}{u:Value}{pos:Pos}(hg:Gl X x)(hm:X.mg x=some u)(r:RelV v u)(hd:(x == ("__debug__" : Str))=false:=by decide):PE X (.Name x pos) (tC v) :=
  λ_ _ _ H _ I h=>sM I hg hm ⟨v,H,I,r,h⟩ hd
variable{a b:Expr}{ta tb:TE}{pos:Pos}
def PC(X:Cx)(op:CmpOp)(a b:Expr)(t:TE):Prop :=
  ∀(pins:List (Addr×Obj)) (s:Shared) (σ:St) (H:Hp) (Q:VK),Inv X pins σ H s→t σ H Q →
    wpAny (model X.prog X.w) X.A (eval a X.env) (λv s₁=>wpAny (model X.prog X.w) X.A (eval b X.env) (λu s₂=>wpAny (model X.prog X.w) X.A (compareOp op v u) (EP X pins σ Q) X.xe s₂) X.xe s₁) X.xe s
def tB(t:TE):TT:=λσ H Q=>t σ H λx H1=>∃ c,x=.bl c∧Q c H1
theorem Yq{op:CmpOp}{t:TE}(h:PC X op a b t)(h1:behindInMarks op b=false:=by first|exact nobehind _ (by decide) (by decide)|rfl):PE X (.Compare a [op] [b] pos) t:=λpins s σ H Q I hw=>wpAny_Compare1 (h pins s σ H Q I hw) h1
theorem qL{op:CmpOp}{t:TE}(h:PC X op a b t)(h1:behindInMarks op b=false:=by first|exact nobehind _ (by decide) (by decide)|rfl):PT X (.Compare a [op] [b] pos) (tB t):=by
  intro pins s σ H Q I hw;refine wpAny_isTrue_Compare1 (thn (h pins s σ H _ I hw) λv s1 h1=>thn h1 λu s2 h2=>thn h2 λc s3 ⟨x,H1,I1,r1,q1⟩=>?_) h1;obtain⟨d,rfl,q⟩:=q1;cases r1;exact wpAny_truthy_bool ⟨H1,I1,q⟩
theorem Bb{e:Expr}{t:TE}(h:PE X e t)(he:∀ whole,isTrue e X.env whole=(do let v ←whole;standAt e.pos;holding [v] (truthy v)):=by intro _;rfl):PT X e (tB t):=by
  intro pins s σ H Q I hw;refine isTrue_plain (thn (h pins s σ H _ I hw) λv s1 ⟨x,H1,I1,r1,q1⟩=>?_) (he _);obtain⟨d,rfl,q⟩:=q1;cases r1;exact wpAny_truthy_bool ⟨H1,I1,q⟩
variable{tA tB':TT}{rest:List Expr}
def adJ(t u:TT):TT:=λσ H Q=>t σ H λc H1=>if c=true then u σ H1 Q else Q false H1
def tOr(t u:TT):TT:=λσ H Q=>t σ H λc H1=>if c=true then Q true H1 else u σ H1 Q
def adK(t:TT):TT:=λσ H Q=>t σ H λc H1=>Q (!c) H1
theorem pw_and1(ha:PT X a tA):PW X (.BoolOp .And [a] pos) tA:=by
  intro wh pins s σ H Q I h;refine isTrue_and (thn (ha pins s σ H Q I h) λc s1 e=>?_);cases c with
  | true=>exact isTrue_and_nil e
  | false=>exact e
theorem pw_or1(ha:PT X a tA):PW X (.BoolOp .Or [a] pos) tA:=by
  intro wh pins s σ H Q I h;refine isTrue_or (thn (ha pins s σ H Q I h) λc s1 e=>?_);cases c with
  | false=>exact isTrue_or_nil e
  | true=>exact e
theorem pw_and(ha:PT X a tA)(hb:PW X (.BoolOp .And (b::rest) pos) tB'):PW X (.BoolOp .And (a::b::rest) pos) (adJ tA tB'):=by
  intro wh pins s σ H Q I h;refine isTrue_and (thn (ha pins s σ H _ I h) λc s1 ⟨H1,I1,q1⟩=>?_);cases c with
  | true=>exact hb wh pins s1 σ H1 Q I1 q1
  | false=>exact⟨H1,I1,q1⟩
theorem pw_or(ha:PT X a tA)(hb:PW X (.BoolOp .Or (b::rest) pos) tB'):PW X (.BoolOp .Or (a::b::rest) pos) (tOr tA tB'):=by
  intro wh pins s σ H Q I h;refine isTrue_or (thn (ha pins s σ H _ I h) λc s1 ⟨H1,I1,q1⟩=>?_);cases c with
  | true=>exact⟨H1,I1,q1⟩
  | false=>exact hb wh pins s1 σ H1 Q I1 q1
theorem sR(ha:PT X a tA):PT X (.UnaryOp .Not a pos) (adK tA):=by
  intro pins s σ H Q I h;exact isTrue_not (ha pins s σ H (λc H1=>Q (!c) H1) I h)
def tIf(t:TT)(ta tb:TE):TE:=λσ H Q=>t σ H λc H1=>if c=true then ta σ H1 Q else tb σ H1 Q
theorem Bg{c:Expr}(hc:PT X c tA)(ha:PE X a ta)(hb:PE X b tb):PE X (.IfExp c a b pos) (tIf tA ta tb):=by
  intro pins s σ H Q I h;refine wpAny_IfExp (thn (hc pins s σ H _ I h) λd s1 ⟨H1,I1,q1⟩=>?_);cases d with
  | true=>exact ha pins s1 σ H1 Q I1 q1
  | false=>exact hb pins s1 σ H1 Q I1 q1
end
end L2
namespace L2
open PySem PySem.Spec PyProof.Rows
def SqL(K:W.Frag)(H:Hp)(a:Addr)(xs:List V):Prop :=
  Rd H a (.lst xs) ∨
    ∃(o:Obj) (its:Array Value) (n:Nat),K.lookup a=some o∧o.cls=.type "list" ∧ o.dict=none∧o.data=.seq its n∧its.size≤sizeLine∧Vals xs its.toList
def SqT(K:W.Frag)(H:Hp)(a:Addr)(xs:List V):Prop :=
  Rd H a (.tup xs) ∨
    ∃(o:Obj) (its:Array Value) (n:Nat),K.lookup a=some o∧o.cls=.type "tuple" ∧ o.data=.seq its n∧its.size≤sizeLine∧Vals xs its.toList
def adL:Value→Option V
  | .none=>some .non
  | .bool b=>some (.bl b)
  | .int i _=>some (.int i)
  | .str x _=>some (.str x)
  | .bytes b _=>some (.byt b)
  | .float b _=>some (.flt b)
  | .ref a=>some (.ref a)
  | .type n=>some (.ty n)
  | _=>none
theorem RelV.abs{x:V}{u:Value}(r:RelV x u):adL u=some x:=by
  cases x with
  | non=>cases r;rfl
  | bl _=>cases r;rfl
  | int _=>obtain⟨t,rfl⟩:=r;rfl
  | str _=>obtain⟨t,rfl⟩:=r;rfl
  | byt _=>obtain⟨t,rfl⟩:=r;rfl
  | flt _=>obtain⟨t,rfl⟩:=r;rfl
  | ref _=>cases r;rfl
  | ty _=>cases r;rfl
theorem RelV.inj{x y:V}{u:Value}(r:RelV x u)(q:RelV y u):x=y:=afo (r.abs.symm.trans q.abs)
theorem Vals.inj:∀ {xs ys:List V} {us:List Value},Vals xs us→Vals ys us→xs=ys
  | _,_,_,.nil,.nil=>rfl
  | _,_,_,.cons r t,.cons r' t'=>by rw[r.inj r',Vals.inj t t']
section
variable{X:Cx}{pins:List (Addr×Obj)}{σ:St}{H:Hp}{s:Shared}{a:Addr}{xs ys:List V}
theorem SqL.of{K:W.Frag}(h:H a=some (.lst xs)):SqL K H a xs:=.inl (.inl h)
theorem SqT.of{K:W.Frag}(h:H a=some (.tup xs)):SqT K H a xs:=.inl (.inl h)
theorem Inv.list(I:Inv X pins σ H s)(h:SqL X.K H a xs):∃ its:List Value,Vals xs its∧PlainL s.heap a its.toArray∧xs.length≤sizeLine:=by
  rcases h with h|⟨o,its,n,hk,hc,hd,hs,hz,r⟩
  · obtain⟨z,its,n,r,e⟩:=h.ok I.hok
    exact⟨its,r,⟨_,n,e,rfl,rfl,rfl⟩,z⟩
  · refine⟨its.toList,r,⟨o,n,I.kIn a o hk,hc,hd,by simpa using hs⟩,?_⟩
    have e:=r.length;simp only[ago]at e;omega
theorem Inv.tuple(I:Inv X pins σ H s)(h:SqT X.K H a xs):∃ its:List Value,Vals xs its∧IsTup s.heap a its.toArray∧xs.length≤sizeLine:=by
  rcases h with h|⟨o,its,n,hk,hc,hs,hz,r⟩
  · obtain⟨z,its,r,p⟩:=h.ok I.hok
    exact⟨its,r,p,z⟩
  · refine⟨its.toList,r,⟨o,I.kIn a o hk,hc,n,by simpa using hs⟩,?_⟩
    have e:=r.length;simp only[ago]at e;omega
theorem Inv.Ly(I:Inv X pins σ H s)(h:SqL X.K H a xs)(h':SqL X.K H a ys):xs=ys:=by
  obtain⟨its,r,⟨o,n,e,_,_,d⟩,_⟩:=I.list h;obtain⟨Gz,r',⟨o',n',e',_,_,d'⟩,_⟩:=I.list h';rw[e]at e';cases e';rw[d]at d';injection d' with d1 _
  have:its=Gz:=by simpa using congrArg Array.toList d1
  subst this;exact r.inj r'
end
abbrev Cx.Jw(X:Cx)(E:Value→Shared→Prop):Cx:={X with xe:=E}
abbrev Cx.nox(X:Cx):Cx:=X.Jw λ_ _=>False
theorem Cx.Ok.Jw{X:Cx}(ok:X.Ok)(E:Value→Shared→Prop):(X.Jw E).Ok :=
  ⟨ok.mod,ok.kind,ok.glob,ok.blt,ok.above,ok.inj,ok.has,ok.cab,ok.hd,ok.frames,ok.stk,ok.exf,ok.bs,ok.bsz,ok.Lx,ok.NN,ok.Bv,ok.frf⟩
theorem Cx.Ok.sS{X:Cx}{E:Value→Shared→Prop}(ok:(X.Jw E).Ok):X.Ok :=
  ⟨ok.mod,ok.kind,ok.glob,ok.blt,ok.above,ok.inj,ok.has,ok.cab,ok.hd,ok.frames,ok.stk,ok.exf,ok.bs,ok.bsz,ok.Lx,ok.NN,ok.Bv,ok.frf⟩
section
variable{X:Cx}{pins:List (Addr×Obj)}{σ:St}{H:Hp}{s:Shared}{E:Value→Shared→Prop}
theorem Inv.Jw(I:Inv X pins σ H s)(E:Value→Shared→Prop):Inv (X.Jw E) pins σ H s:=⟨I.ok.Jw E,I.os,I.bare,I.base,I.loc,I.cell,I.free,I.lK,I.pin,I.hok,I.len⟩
theorem Inv.sS(I:Inv (X.Jw E) pins σ H s):Inv X pins σ H s:=⟨I.ok.sS,I.os,I.bare,I.base,I.loc,I.cell,I.free,I.lK,I.pin,I.hok,I.len⟩
theorem SP.sS{D:Ends}{f:Flow}{s':Shared}(h:SP (X.Jw E) pins D f s'):SP X pins D f s':=by
  cases f with
  | next=>obtain⟨σ',H',I,q⟩:=h;exact⟨σ',H',I.sS,q⟩
  | brk=>obtain⟨σ',H',I,q⟩:=h;exact⟨σ',H',I.sS,q⟩
  | cont=>obtain⟨σ',H',I,q⟩:=h;exact⟨σ',H',I.sS,q⟩
  | ret u=>obtain⟨v,σ',H',I,r,q⟩:=h;exact⟨v,σ',H',I.sS,r,q⟩
theorem PSs.nox{st:List Stmt}{t:TS}(h:PSs X.nox st t):PSs X st t:=λpins s σ H D I hw =>
  wpAny_mono (h pins s σ H D (I.Jw _) hw) (λ_ _ q=>q.sS) λ_ _ z=>False.elim z
end
section
variable{X:Cx}{st:Stmt}{rest:List Stmt}{t u:TS}{e:Expr}{te:TE}{pos:Pos}
def abN:TS:=λD σ H=>D.nx σ H
def Jy(t u:TS):TS:=λD σ H=>t {D with nx:=u D} σ H
theorem bQ:PSs X [] abN:=λ_ _ σ H _ I h=>wpAny_execs_nil ⟨σ,H,I,h⟩
theorem ak(h1:PS X st t)(h2:PSs X rest u):PSs X (st::rest) (Jy t u):=by
  intro pins s σ H D I h;refine wpAny_execs_cons (thn (h1 pins s σ H {D with nx:=u D} I h) λf s1 q=>?_);cases f with
  | next =>
    obtain⟨σ',H',I',q⟩:=q;exact h2 pins s1 σ' H' D I' q
  | ret v=>exact q
  | brk=>exact q
  | cont=>exact q
theorem ai(h1:PS X st t):PSs X [st] t:=by
  intro pins s σ H D I h;refine wpAny_execs_cons (thn (h1 pins s σ H D I h) λf s1 q=>?_);cases f with
  | next=>exact wpAny_execs_nil q
  | ret v=>exact q
  | brk=>exact q
  | cont=>exact q
theorem Inv.quiet{pins:List (Addr×Obj)}{σ:St}{H:Hp}{s:Shared}(I:Inv X pins σ H s):interactive X.env=false:=by simp[interactive,I.ok.kind]
def abO(te:TE):TS:=λD σ H=>te σ H λ_ H1=>D.nx σ H1
theorem aG(he:PE X e te)(hs:swapsWith e none pos.line X.env=pure false:=by rfl):PS X (.Expr e pos) (abO te):=by
  intro pins s σ H D I h;exact wpAny_Expr_any (thn (he pins s σ H _ I h) λv s1 ⟨x,H1,I1,r1,q1⟩=>⟨σ,H1,I1,q1⟩) I.quiet hs
def adM(te:TE):TS:=λD σ H=>te σ H D.rt
theorem aV(he:PE X e te):PS X (.Return (some e) pos) (adM te):=by
  intro pins s σ H D I h;exact wpAny_Return_some (thn (he pins s σ H _ I h) λv s1 ⟨x,H1,I1,r1,q1⟩=>⟨x,σ,H1,I1,r1,q1⟩)
def acC(c:TT)(t u:TS):TS:=λD σ H=>c σ H λb H1=>if b=true then t D σ H1 else u D σ H1
theorem dM{c:Expr}{a b:List Stmt}{tc:TT}(hc:PT X c tc)(ha:PSs X a t)(hb:PSs X b u):PS X (.If c a b pos) (acC tc t u):=by
  intro pins s σ H D I h;refine wpAny_If (thn (hc pins s σ H _ I h) λd s1 ⟨H1,I1,q1⟩=>?_);cases d with
  | true=>exact ha pins s1 σ H1 D I1 q1
  | false=>exact hb pins s1 σ H1 D I1 q1
end
abbrev TG:=V→St→Hp→(St→Hp→Prop)→Prop
abbrev TGs:=List V→St→Hp→(St→Hp→Prop)→Prop
def PG(X:Cx)(target:Expr)(t:TG):Prop :=
  ∀(pins:List (Addr×Obj)) (s:Shared) (σ:St) (H:Hp) (v:V) (u:Value) (Q:St→Hp→Prop),Inv X pins σ H s→RelV v u→t v σ H Q →
    wpAny (model X.prog X.w) X.A (assign target X.env u) (λ_ s'=>∃ σ' H',Inv X pins σ' H' s'∧Q σ' H') X.xe s
def PGs(X:Cx)(ts:List Expr)(t:TGs):Prop :=
  ∀(pins:List (Addr×Obj)) (s:Shared) (σ:St) (H:Hp) (vs:List V) (us:List Value) (Q:St→Hp→Prop),Inv X pins σ H s→Vals vs us→t vs σ H Q →
    wpAny (model X.prog X.w) X.A (assignInOrder ((assignEach ts X.env).map (·.2)) us) (λ_ s'=>∃ σ' H',Inv X pins σ' H' s'∧Q σ' H') X.xe s
abbrev Zh:=V→V→V→Hp→(Hp→Prop)→Prop
def acD(X:Cx)(t:Zh):Prop :=
  ∀(pins:List (Addr×Obj)) (s:Shared) (σ:St) (H:Hp) (o i v:V) (ov iv u:Value) (Q:Hp→Prop),Inv X pins σ H s→RelV o ov→RelV i iv→RelV v u→t o i v H Q →
    wpAny (model X.prog X.w) X.A (setItem ov iv u) (λ_ s'=>∃ H',Inv X pins σ H' s'∧Q H') X.xe s
abbrev TIp:=V→V→Hp→VK→Prop
def PIp(X:Cx)(op:Operator)(t:TIp):Prop :=
  ∀(pins:List (Addr×Obj)) (s:Shared) (σ:St) (H:Hp) (x y:V) (v u:Value) (Q:VK),Inv X pins σ H s→RelV x v→RelV y u→t x y H Q →
    wpAny (model X.prog X.w) X.A (inplaceOp op v u) (EP X pins σ Q) X.xe s
section
variable{X:Cx}{pos:Pos}
def kU(i:Nat):TG:=λv σ H Q=>Q (σ.set i (some v)) H
theorem eh{i:Nat}{x:Str}(hN:X.N.Nodup)(hi:X.N[i]?=some x)(hx:Loc X.env.scope x)(hf:X.fn x=true∨X.env.scope.names.lookup x=some .local:=by first|exact .inl rfl|exact .inr rfl|assumption):PG X (.Name x pos) (kU i):=by
  intro pins s σ H v u Q I r h;exact wpAny_assign_Name (Bf I hN hi hx r (λs' I'=>⟨_,H,I',h⟩) hf)
def acE:TGs:=λvs σ H Q=>vs=[]∧Q σ H
def Mp(t:TG)(u:TGs):TGs:=λvs σ H Q=>∃ v r,vs=v::r∧t v σ H λσ' H'=>u r σ' H' Q
theorem FE:PGs X [] acE:=by
  intro pins s σ H vs us Q I r h;obtain⟨e,h⟩:=h;subst e;cases r;exact assignInOrder_nil ⟨σ,H,I,h⟩
theorem j1{e:Expr}{es:List Expr}{t:TG}{u:TGs}(h1:PG X e t)(h2:PGs X es u)
    (hs:(assignEach (e::es) X.env).map (·.2)=assign e X.env::(assignEach es X.env).map (·.2):=by rfl):PGs X (e::es) (Mp t u):=by
  intro pins s σ H vs us Q I r h;obtain⟨v,vr,e1,h⟩:=h;subst e1;cases r with
  | cons r rr =>
    rw[hs];refine assignInOrder_cons (thn (h1 pins s σ H _ _ _ I r h) λ_ s1 ⟨σ1,H1,I1,q1⟩=>?_);exact h2 pins s1 σ1 H1 _ _ Q I1 rr q1
def acF(K:W.Frag)(n:Nat)(t:TGs):TG:=λv σ H Q=>∃ a xs,v=.ref a∧SqT K H a xs∧xs.length=n∧t xs σ H Q
theorem JR{es:List Expr}{k:Nat}{t:TGs}{n:Nat}(hc:X.calm=true)(h:PGs X es t)
    (hn:(assignEach es X.env).length=n:=by rfl) (hst:(assignEach es X.env).findIdx? (·.1)=none:=by rfl):PG X (.Tuple es k pos) (acF X.K n t):=by
  intro pins s σ H v u Q I r hw;obtain⟨a,xs,e1,hq,hl,hw⟩:=hw;subst e1;cases r;obtain⟨its,rv,ht,hz⟩:=I.tuple hq;refine assign_Tuple_tuple (I.ok.hd hc) ht (by simp[hn,←hl,rv.length]) hst λh' hx=>?_;have I1:Inv X pins σ H {s with heap:=h'}:=I.kept (t':=s.toks) λb o e=>hx b o (afc (ae4 e)) e;exact h pins _ σ H xs _ Q I1 (by simpa using rv) hw
def adN(to ti:TE)(t:Zh):TG:=λv σ H Q=>to σ H λo H1=>ti σ H1 λi H2=>t o i v H2 λH3=>Q σ H3
theorem GA{o i:Expr}{to ti:TE}{t:Zh}(ho:PE X o to)(hi:PE X i ti)(hs:acD X t)
    (ha:∀ v,assign (.Subscript o i pos) X.env v=(do
      let ov ←holding [v] (eval o X.env)
      let iv ←holding [v,ov] (eval i X.env)
      standAt pos
      holding [v,ov,iv] (setItem ov iv v)
      release [v,ov,iv] []):=by intro _;rfl):PG X (.Subscript o i pos) (adN to ti t):=by
  intro pins s σ H v u Q I r h;rw[ha];refine wpAny_bind (wpAny_holding (thn (ho pins s σ H _ I h) λov s1 ⟨x,H1,I1,r1,q1⟩=>?_));refine wpAny_bind (wpAny_holding (thn (hi pins s1 σ H1 _ I1 q1) λiv s2 ⟨y,H2,I2,r2,q2⟩=>?_));refine wpAny_bind (wpAny_standAt (wpAny_bind (wpAny_holding (thn (hs pins s2 σ H2 x y v ov iv u _ I2 r1 r2 r q2) λ_ s3 ⟨H3,I3,q3⟩=>?_))));exact wpAny_release ⟨σ,H3,I3,q3⟩
def NP(te:TE)(g:TG):TS:=λD σ H=>te σ H λx H1=>g x σ H1 D.nx
theorem GB{tg e:Expr}{te:TE}{g:TG}(he:PE X e te)(hg:PG X tg g)(hs:swapsWithSole [tg] e pos.line X.env=pure false:=by rfl)(hw:swappedStores [tg] e X.env=pure none:=by rfl)
    (h1:(assignEach [tg] X.env).map (·.2)=[assign tg X.env]:=by rfl):PS X (.Assign [tg] e pos) (NP te g):=by
  intro pins s σ H D I h;refine wpAny_Assign_stores (thn (he pins s σ H _ I h) λv s1 ⟨x,H1,I1,r1,q1⟩=>?_) hs hw;rw[h1];exact thn (hg pins s1 σ H1 x v _ I1 r1 q1) λ_ s2 q=>q
theorem bF{i:Nat}{x:Str}{e:Expr}{te:TE}{pos':Pos}(hN:X.N.Nodup)(hi:X.N[i]?=some x)(hx:Loc X.env.scope x)(he:PE X e te)(hs:swapsWith e (some (.Name x pos')) pos.line X.env=pure false:=by rfl)(hf:X.fn x=true∨X.env.scope.names.lookup x=some .local:=by first|exact .inl rfl|exact .inr rfl|assumption) :
    PS X (.Assign [.Name x pos'] e pos) (NP te (kU i)):=by
  intro pins s σ H D I h;refine wpAny_Assign_Name (thn (he pins s σ H _ I h) λv s1 ⟨y,H1,I1,r1,q1⟩=>?_) hs;exact Bf I1 hN hi hx r1 (λs2 I2=>⟨_,H1,I2,q1⟩) hf
def adO(i:Nat)(te:TE)(ti:TIp):TS:=λD σ H=>∃ x,σ[i]?=some (some x)∧te σ H λy H1=>ti x y H1 λz H2=>D.nx (σ.set i (some z)) H2
theorem Yr{i:Nat}{x:Str}{e:Expr}{te:TE}{op:Operator}{ti:TIp}{pos':Pos}(hN:X.N.Nodup)(hi:X.N[i]?=some x)(hx:Loc X.env.scope x)(he:PE X e te)(ho:PIp X op ti)(hf:X.fn x=true∨X.env.scope.names.lookup x=some .local:=by first|exact .inl rfl|exact .inr rfl|assumption) :
    PS X (.AugAssign (.Name x pos') op e pos) (adO i te ti):=by
  intro pins s σ H D I h;obtain⟨v,e1,h⟩:=h;obtain⟨m,hn,hl⟩:=I.loc;have vis:Vis X.env.scope x:=by rcases hx with k|k;exact .inl k;exact .inr (.inl k)
  obtain⟨u,r,l⟩:=hl i x v hi e1 vis;refine wpAny_AugAssign_Name ?_;have go:wpAny (model X.prog X.w) X.A (eval e X.env) (λw s₂=>wpAny (model X.prog X.w) X.A (inplaceOp op u w) (λr s₃=>wpAny (model X.prog X.w) X.A (storeName X.env x r) (λ_=>SP X pins D .next) X.xe s₃) X.xe s₂) X.xe s:=by
    refine thn (he pins s σ H _ I h) λw s1 ⟨y,H1,I1,r1,q1⟩=>?_;refine thn (ho pins s1 σ H1 v y u w _ I1 r r1 q1) λz s2 ⟨zv,H2,I2,r2,q2⟩=>?_;exact Bf I2 hN hi hx r2 (λs3 I3=>⟨_,H2,I3,q2⟩) hf
  rcases l with⟨hk,hm⟩|⟨hk,c,hc,Po⟩
  · exact wpAny_loadName_local I.ok.kind hk hn hm go
  · rcases hk with hk|hk
    · exact wpAny_loadName_cell I.ok.kind hk hc Po go
    · rcases hx with k|k
      · have:X.env.scope.names.lookup x=some .free:=hk
        rw[k]at this;cases this
      · have:X.env.scope.names.lookup x=some .free:=hk
        rw[k]at this;cases this
def ipI(f:Int→Int→Int):TIp:=λx y H Q=>∃ i j,x=.int i∧y=.int j∧Q (.int (f i j)) H
theorem Ys:PIp X .Add (ipI λi j=>i+j):=by
  intro pins s σ H x y v u Q I r1 r2 h;obtain⟨i,j,e1,e2,q⟩:=h;subst e1;subst e2;obtain⟨t,rfl⟩:=r1;obtain⟨t',rfl⟩:=r2;exact iadd_int ⟨.int _,H,I.tok _,⟨_,rfl⟩,q⟩
end
section
variable{X:Cx}{pos:Pos}
def Yt(c:TT)(tb:TS):TS:=λD σ H=>∃ W:Nat→St→Hp→Prop,(∃ m,W m σ H)∧∀ m σ H,W m σ H →
  c σ H λb H1=>if b=true then ∃ N:St→Hp→Prop,(∀ σ' H',N σ' H'→∃ m',m'<m∧W m' σ' H')∧tb {D with nx:=N,ct:=N,bk:=D.nx} σ H1 else D.nx σ H1
theorem Lz{c:Expr}{body:List Stmt}{tc:TT}{tb:TS}(hp:PassesOwn (model X.prog X.w) X.A X.env X.xe)(hc:PT X c tc)(hb:PSs X body tb):PS X (.While c body [] pos) (Yt tc tb):=by
  intro pins s σ H D I h;obtain⟨W,⟨m0,w0⟩,turn⟩:=h;refine wpAny_While (codeAny_whileLoop (λn s'=>∃ σ' H',Inv X pins σ' H' s'∧W n σ' H') ?_ m0 ⟨σ,H,I,w0⟩);rintro n s1 ⟨σ1,H1,I1,w1⟩;refine wpAny_passesOwn hp (thn (hc pins s1 σ1 H1 _ I1 (turn n σ1 H1 w1)) λb s2 ⟨H2,I2,q2⟩=>?_);cases b with
  | true =>
    obtain⟨N,hN,q2⟩:=q2;rw[if_pos rfl];refine wpAny_passesOwn hp (thn (hb pins s2 σ1 H2 _ I2 q2) λf s3 q3=>?_);cases f with
    | next =>
      obtain⟨σ3,H3,I3,n3⟩:=q3;obtain⟨m',hm,w3⟩:=hN σ3 H3 n3;exact⟨m',hm,σ3,H3,I3,w3⟩
    | cont =>
      obtain⟨σ3,H3,I3,n3⟩:=q3;obtain⟨m',hm,w3⟩:=hN σ3 H3 n3;exact⟨m',hm,σ3,H3,I3,w3⟩
    | brk=>exact q3
    | ret v=>exact q3
  | false =>
    rw[if_neg ae2];exact wpAny_execs_nil ⟨σ1,H2,I2,q2⟩
end
structure It where
  go:Nat→Hp→Prop
  yld:Nat→Hp→V→Hp→Prop
  stop:Nat→Hp→Prop
def uA(X:Cx)(pins:List (Addr×Obj))(H:Hp)(b:Addr):Prop :=
  H b=none∧b≠X.env.locals∧b∉X.fs∧(b∈X.ex∨X.s₀.heap.objs.size≤b)∧(∀ x c,X.env.cells.lookup x=some c→c≠b)∧∀ p∈X.pn++pins,p.1≠b
theorem Inv.PH{X:Cx}{pins:List (Addr×Obj)}{σ:St}{H H':Hp}{s:Shared}{b:Addr}(I:Inv X pins σ H s)(hb:s.heap.objs.size≤b)(hn:H' b=none):uA X pins H' b:=by
  refine⟨hn,agb (afb I.lt hb),I.adH hb,.inr (afe I.sz hb),λx c e z=>?_,λp hp z=>?_⟩
  · obtain⟨v,q⟩:=I.cell x c e
    exact absurd (afb q.lt (by rw[z];exact hb)) (afQ _)
  · exact absurd (afb (ae4 (I.pin p hp).1) (by rw[z];exact hb)) (afQ _)
structure Turn(P:Program)(w:World)(K:W.Frag)(tg:Expr)(J:It)(fp:List Addr)(it:Addr)(tn:Nat→Heap→Prop):Prop where
  mem:it∈fp
  obj:∀ i h,tn i h→∀ b∈fp,∃ o,h.get? b=some o∧∀ v,o.data≠.cell v
  keep:∀ i h h',tn i h→(∀ b∈fp,∀ o,h.get? b=some o→h'.get? b=some o)→tn i h'
  item:∀(X:Cx),X.prog=P→X.w=w→X.K=K→X.calm=true→∀(i:Nat) (pins:List (Addr×Obj)) (s:Shared) (σ:St) (H:Hp) (E:Value→Shared→Prop),Inv X pins σ H s→(∀ b∈fp,uA X pins H b)→tn i s.heap→J.go i H →
    wpAny (model P w) X.A (pyNext (.ref it)) (λr s1=>∃ u,r=some u ∧
      wpAny (model P w) X.A (letOwnedTupleGo tg (.ref it) u) (λ_ s2=>∃ x H',Inv X pins σ H' s2∧RelV x u∧J.yld i H x H'∧tn (i+1) s2.heap∧∀ b∈fp,H' b=none) E s1) E s
  done:∀(X:Cx),X.prog=P→X.w=w→X.K=K→X.calm=true→∀(i:Nat) (pins:List (Addr×Obj)) (s:Shared) (σ:St) (H:Hp) (E:Value→Shared→Prop),Inv X pins σ H s→(∀ b∈fp,uA X pins H b)→tn i s.heap→J.stop i H →
    wpAny (model P w) X.A (pyNext (.ref it)) (λr s1=>r=none∧Inv X pins σ H s1) E s
  self:∀(A:Around) (i:Nat) (s:Shared) (Q:Value→Shared→Prop) (E:Value→Shared→Prop),tn i s.heap→Q (.ref it) s→wpAny (model P w) A (pyIter (.ref it)) Q E s
abbrev TI:=St→Hp→(It→Hp→Prop)→Prop
def PIE(X:Cx)(pins:List (Addr×Obj))(σ:St)(tg:Expr)(R:It→Hp→Prop)(itv:Value)(s2:Shared):Prop :=
  ∃(it:Addr) (fp:List Addr) (tn:Nat→Heap→Prop) (J:It) (H':Hp),itv=.ref it∧Inv X pins σ H' s2∧Turn X.prog X.w X.K tg J fp it tn∧tn 0 s2.heap∧(∀ b∈fp,uA X pins H' b)∧R J H'
def PI(X:Cx)(tg iter:Expr)(wi:TI):Prop :=
  ∀(pins:List (Addr×Obj)) (s:Shared) (σ:St) (H:Hp) (R:It→Hp→Prop),Inv X pins σ H s→wi σ H R →
    wpAny (model X.prog X.w) X.A (eval iter X.env) (λv s1=>wpAny (model X.prog X.w) X.A (pyIter v) (PIE X pins σ tg R) X.xe s1) X.xe s
theorem Vn{M:Model}{A:Around}{E:Value→Shared→Prop}{s:Shared}{tg:Expr}{it:Addr}{u:Value}{o:Obj}{n:String}{vs:Array Value}{Q:Unit→Shared→Prop}(ho:s.heap.get? it=some o)(hc:o.cls=.type n)(hd:o.data=.fields vs)
    (hn:["enumerate", "zip", "dict_itemiterator", "dict_reverseitemiterator", "odict_iterator", "itertools.zip_longest", "itertools.pairwise"].contains n=false) (hQ:Q () s):wpAny M A (letOwnedTupleGo tg (.ref it) u) Q E s:=by
  unfold letOwnedTupleGo;cases tg<;>first
    | exact wpAny_pure hQ
    | (cases u<;>first
        | exact wpAny_pure hQ
        | (refine wpAny_bind (wpAny_load ho ?_)
           rw[hc,hd];show wpAny M A (if(["enumerate", "zip", "dict_itemiterator", "dict_reverseitemiterator", "odict_iterator", "itertools.zip_longest", "itertools.pairwise"].contains n&&vs[0]? == some (rawInt _))=true then _ else _) Q E s;rw[if_neg (by intro h;rw[hn,Bool.false_and]at h;cases h)];exact wpAny_pure hQ))
def Itl(K:W.Frag)(a:Addr):It :=
  ⟨λi H=>∃ xs x,SqL K H a xs∧xs[i]?=some x,λi H x H'=>H'=H∧∀ xs,SqL K H a xs→xs[i]?=some x,λi H=>∃ xs,SqL K H a xs∧xs.length≤i⟩
def Itr(lo:Int)(n:Nat):It:=⟨λi _=>i<n,λi H x H'=>H'=H∧x=.int (lo+i),λi _=>n≤i⟩
theorem OJ{P:Program}{w:World}{K:W.Frag}{tg:Expr}(a it:Addr):Turn P w K tg (Itl K a) [it] it (λi h=>h.IsListIter it a i) where
  mem:=by simp
  obj:=λi h st b hb=>by
    have e:b=it:=(by simpa using hb);subst e;obtain⟨o,e,c,d⟩:=st;exact⟨o,e,λv z=>by rw[d]at z;cases z⟩
  keep:=λi h h' st k=>st.at λo e=>k it (by simp) o e
  item:=by
    intro X hP hw hK hc i pins s σ H E I hf st hg;subst hP hw hK;obtain⟨xs,x,hq,hx⟩:=hg;obtain⟨its,rv,p,hz⟩:=I.list hq;obtain⟨u,hu,ru⟩:=rv.get hx;obtain⟨f0,f1,f2,f3,f4,f5⟩:=hf it (by simp);refine wpAny_pyNext_list_item st p.isList (x:=u) (by simpa using hu) λh' st' sb=>?_;have I1:Inv X pins σ H {s with heap:=h'}:=I.turned (t':=s.toks) (λb o hb e=>(sb.2 b hb).trans e) f0 f1 f3 f4 f5;obtain⟨o,e,c,d⟩:=id st';exact⟨u,rfl,Vn (s:={s with heap:=h'}) e c d (by decide) ⟨x,H,I1,ru,⟨rfl,λys hy=>by rw[I.Ly hy hq];exact hx⟩,st',λb hb=>(hf b hb).1⟩⟩
  done:=by
    intro X hP hw hK hc i pins s σ H E I hf st hg;subst hP hw hK;obtain⟨xs,hq,hx⟩:=hg;obtain⟨its,rv,p,hz⟩:=I.list hq;obtain⟨f0,f1,f2,f3,f4,f5⟩:=hf it (by simp);have hl:=rv.length;exact wpAny_pyNext_list_end (I.ok.hd hc) st p.isList (by simp;omega) λh' eb=>⟨rfl,I.turned (t':=s.toks) (λb o hb e=>eb b o hb e) f0 f1 f3 f4 f5⟩
  self:=λ_ _ _ _ _ st h=>wpAny_pyIter_listiter st h
theorem Mq{P:Program}{w:World}{K:W.Frag}{tg:Expr}(it:Addr)(lo:Int)(n:Nat):Turn P w K tg (Itr lo n) [it] it (λi h=>IsRangeIter h it (lo+(i:Nat)*1) ((n:Int)-(i:Nat)) 1) where
  mem:=by simp
  obj:=λi h st b hb=>by
    have e:b=it:=(by simpa using hb);subst e;exact⟨_,st,λv z=>by
      have z':Data.fields _=Data.cell v:=z;cases z'⟩
  keep:=λi h h' st k=>k it (by simp) _ st
  item:=by
    intro X hP hw hK hc i pins s σ H E I hf st hg;subst hP hw hK;obtain⟨f0,f1,f2,f3,f4,f5⟩:=hf it (by simp);have W:=Walks.range (prog:=X.prog) (w:=X.w) (I.ok.hd hc) it lo 1 n;refine W.item i s _ _ hg st λv h' tk hv st' kk=>?_;obtain⟨t,rfl⟩:=hv;have I1:Inv X pins σ H {s with heap:=h',toks:=tk}:=I.turned (λb o hb e=>kk b o (by simpa using hb) e) f0 f1 f3 f4 f5;refine⟨_,rfl,Vn (s:={s with heap:=h',toks:=tk}) (n := "range_iterator") st' rfl rfl (by decide) ⟨.int (lo+i),H,I1,⟨t,?_⟩,⟨rfl,rfl⟩,st',λb hb=>(hf b hb).1⟩⟩;rw[Int.mul_one]
  done:=by
    intro X hP hw hK hc i pins s σ H E I hf st hg;subst hP hw hK;obtain⟨f0,f1,f2,f3,f4,f5⟩:=hf it (by simp);exact wpAny_pyNext_range_end (I.ok.hd hc) st (by have:n≤i:=hg;omega) λh' eb=>⟨rfl,I.turned (t':=s.toks) (λb o hb e=>eb b o hb e) f0 f1 f3 f4 f5⟩
  self:=λ_ _ _ _ _ st h=>wpAny_pyIter_rangeiter st h
end L2
namespace L2
open PySem PySem.Spec PyProof.Rows
section
variable{X:Cx}{tg:Expr}
def abP(K:W.Frag)(tl:TE):TI:=λσ H R=>tl σ H λx H1=>∃ a,x=.ref a∧(∃ xs,SqL K H1 a xs)∧R (Itl K a) H1
theorem jc{l:Expr}{tl:TE}(hl:PE X l tl):PI X tg l (abP X.K tl):=by
  intro pins s σ H R I h;refine thn (hl pins s σ H _ I h) λv s1 ⟨x,H1,I1,r1,q1⟩=>?_;obtain⟨a,e,⟨xs,hq⟩,q⟩:=q1;subst e;cases r1;obtain⟨its,rv,p,hz⟩:=I1.list hq;refine wpAny_pyIter_list p.isList ?_;refine⟨s1.heap.objs.size,[s1.heap.objs.size],_,_,H1,rfl,I1.kept (t':=s1.toks) λb o e=>ae0 _ e,OJ a _,⟨_,aft _ rfl,rfl,rfl⟩,λb hb=>?_,q⟩;have e:b=s1.heap.objs.size:=by simpa using hb
  subst e;exact I1.PH (ae1 _) (I1.hok.fresh (ae1 _))
theorem Qb{pins:List (Addr×Obj)}{σ:St}{H:Hp}{s:Shared}{R:It→Hp→Prop}{E:Value→Shared→Prop}{lo hi:Int}{t u v:Tok}{tk:Nat}(I:Inv X pins σ H s)(h1:-(2 ^ 62)≤lo)(h2:lo<2 ^ 62)(h3:-(2 ^ 62)≤hi)(h4:hi<2 ^ 62)
    (q:R (Itr lo (hi-lo).toNat) H):wpAny (model X.prog X.w) X.A (pyIter (.ref s.heap.objs.size)) (PIE X pins σ tg R) E {s with heap:=s.heap.push {cls:=.type "range",data:=.fields #[.int lo t,.int hi u,.int 1 v]},toks:=tk}:=by
  refine wpAny_pyIter_range (IsRange.new ..) (small_one h1 h2 h3 h4) ?_;have I1:Inv X pins σ H {s with heap:=s.heap.push {cls:=.type "range",data:=.fields #[.int lo t,.int hi u,.int 1 v]},toks:=tk}:=I.kept λb o e=>ae0 _ e;refine⟨(s.heap.push {cls:=.type "range",data:=.fields #[.int lo t,.int hi u,.int 1 v]}).objs.size,[(s.heap.push {cls:=.type "range",data:=.fields #[.int lo t,.int hi u,.int 1 v]}).objs.size],_,_,H,rfl,
    I1.kept (t':=tk) λb o e=>ae0 _ e,Mq _ lo (hi-lo).toNat,?_,λb hb=>?_,q⟩
  · have e1:lo+((0:Nat):Int)*1=lo:=by simp
    have e2:(((hi-lo).toNat:Nat):Int)-((0:Nat):Int)=Builtin.Range.rangeSize lo hi 1:=(by rw[rangeSize_one];split<;>omega);show IsRangeIter _ _ (lo+((0:Nat):Int)*1) ((((hi-lo).toNat:Nat):Int)-((0:Nat):Int)) 1;rw[e1,e2];exact aft _ rfl
  · have e:b=(s.heap.push {cls:=.type "range",data:=.fields #[.int lo t,.int hi u,.int 1 v]}).objs.size:=by simpa using hb
    subst e;exact I1.PH (ae1 _) (I1.hok.fresh (ae1 _))
def abQ(ta:TA):TI:=λσ H R=>ta σ H λvs H1=>∃ j:Int,vs=[.int j]∧-(2 ^ 62)≤j∧j<2 ^ 62∧R (Itr 0 j.toNat) H1
theorem Hw{a:Expr}{ta:TA}{p pos:Pos}(hg:Gl X "range")(hm:X.mg "range" = none)(ha:PA X [a] ta)(hs:starEach [a] X.env=[(false,eval a X.env)]:=by rfl):PI X tg (.Call (.Name "range" p) [a] [] pos) (abQ ta):=by
  intro pins s σ H R I h;refine Call_ (Gy I hg hm boot_range (PyProof.Rows.callWith_type1 (thn (ha pos pins s σ H _ I h) λus s1 ⟨vs,H1,I1,r1,q1⟩=>?_) hs rfl));obtain⟨j,e,q1,q2,q⟩:=q1;subst e;cases r1 with
  | cons r rr =>
    cases rr;obtain⟨t,rfl⟩:=r;exact call_range_1 (Qb I1 (by omega) (by omega) q1 q2 (by simpa using q))
def adP(wi:TI)(g:TG)(tb:TS):TS:=λD σ H=>wi σ H λJ H1=>∃ W:Nat→Nat→St→Hp→Prop,(∃ m,W 0 m σ H1)∧∀ i m σ H,W i m σ H →
  (J.stop i H∧D.nx σ H)∨(J.go i H∧∃ N:St→Hp→Prop,(∀ σ' H',N σ' H'→∃ m',m'<m∧W (i+1) m' σ' H')∧∀ x H',J.yld i H x H'→g x σ H' λσ2 H2=>tb {D with nx:=N,ct:=N,bk:=D.nx} σ2 H2)
def Bc(fp:List Addr)(h:Heap):List (Addr×Obj):=fp.filterMap λb=>(h.get? b).map λo=>(b,o)
theorem dN{fp:List Addr}{h:Heap}{b:Addr}{o:Obj}(hb:b∈fp)(e:h.get? b=some o):(b,o)∈Bc fp h:=afM.mpr ⟨b,hb,by rw[e];rfl⟩
theorem OK{fp:List Addr}{h:Heap}{p:Addr×Obj}(hp:p∈Bc fp h):p.1∈fp∧h.get? p.1=some p.2:=by
  obtain⟨b,hb,e⟩:=afM.mp hp;cases q:h.get? b with
  | none=>rw[q]at e;cases e
  | some o =>
    rw[q]at e;have e':(b,o)=p:=afo e;subst e';exact⟨hb,q⟩
theorem Inv.pinned{pins:List (Addr×Obj)}{σ:St}{H:Hp}{s:Shared}{fp:List Addr}(I:Inv X pins σ H s)(hf:∀ b∈fp,uA X pins H b)(ho:∀ b∈fp,∃ o,s.heap.get? b=some o∧∀ v,o.data≠.cell v):Inv X (pins++Bc fp s.heap) σ H s :=
  I.NO λp hp=>(afd.mp hp).elim (λz=>I.pin p (aeZ _ z)) λz=>by
    obtain⟨hb,e⟩:=OK z;obtain⟨f0,f1,f2,_⟩:=hf p.1 hb;obtain⟨o,e',d⟩:=ho p.1 hb;rw[e]at e';cases e';exact⟨e,f0,f1,f2,d⟩
theorem Inv.jD{pins pl:List (Addr×Obj)}{σ:St}{H:Hp}{s:Shared}(I:Inv X (pins++pl) σ H s):Inv X pins σ H s:=I.NO λp hp=>I.pin p (aeZ _ (afj _ hp))
theorem mX{iter:Expr}{body:List Stmt}{wi:TI}{g:TG}{tb:TS}{pos:Pos}(hp:PassesOwn (model X.prog X.w) X.A X.env X.xe)(hc:X.calm=true)(hi:PI X tg iter wi)(hg:PG X tg g)(hb:PSs X body tb)
    (hs:∀ x,foldedSetIterable iter X.env x=pure x:=by intro _;rfl):PS X (.For tg iter body [] pos) (adP wi g tb):=by
  intro pins s σ H D I h;refine wpAny_For (thn (hi pins s σ H _ I h) λv s1 h1=>thn h1 λitv s2 h2=>?_) hs;obtain⟨it,fp,tn,J,H2,e,I2,T,st2,f2,W,⟨m0,w0⟩,turn⟩:=h2;subst e;have sN:∀ {H':Hp},(∀ b∈fp,H' b=none)→∀ b∈fp,uA X pins H' b:=λhn b hb=>⟨hn b hb,(f2 b hb).2⟩;refine codeAny_forLoop_any (λn s'=>∃ i σ' H',Inv X pins σ' H' s'∧tn i s'.heap∧(∀ b∈fp,H' b=none)∧W i n σ' H') ?_ m0 ⟨0,σ,H2,I2,st2,λb hb=>(f2 b hb).1,w0⟩;rintro n s3 ⟨i,σ3,H3,I3,st3,fr3,w3⟩;rcases turn i n σ3 H3 w3 with⟨stop,qn⟩|⟨go,N,hN,step⟩
  · refine wpAny_passesOwn hp (thn (T.done X rfl rfl rfl hc i pins s3 σ3 H3 X.xe I3 (sN fr3) st3 stop) λr s4 ⟨hr,I4⟩=>?_)
    subst hr;exact wpAny_execs_nil ⟨σ3,H3,I4,qn⟩
  · refine wpAny_passesOwn hp (thn (T.item X rfl rfl rfl hc i pins s3 σ3 H3 X.xe I3 (sN fr3) st3 go) λr s4 ⟨u,hr,h4⟩=>?_)
    subst hr;refine wpAny_passesOwn hp (thn h4 λ_ s5 ⟨x,H5,I5,r5,y5,st5,fr5⟩=>?_);have I5':=I5.pinned (sN fr5) (T.obj _ _ st5);refine wpAny_passesOwn hp (thn (hg _ s5 σ3 H5 x u _ I5' r5 (step x H5 y5)) λ_ s6 ⟨σ6,H6,I6,q6⟩=>?_);refine wpAny_passesOwn hp (thn (hb _ s6 σ6 H6 _ I6 q6) λf s7 q7=>?_);have again:∀ {σ7:St} {H7:Hp},Inv X (pins++Bc fp s5.heap) σ7 H7 s7→N σ7 H7→∃ m,m<n∧∃ i σ' H',Inv X pins σ' H' s7∧tn i s7.heap∧(∀ b∈fp,H' b=none)∧W i m σ' H':=λ{σ7 H7} I7 n7=>by
      obtain⟨m',hm,w7⟩:=hN σ7 H7 n7;refine⟨m',hm,i+1,σ7,H7,I7.jD,T.keep _ _ _ st5 λb hb o e=>(I7.pin (b,o) (aeZ _ (aeZ _ (dN hb e)))).1,λb hb=>?_,w7⟩;obtain⟨o,e,d⟩:=T.obj _ _ st5 b hb;exact(I7.pin (b,o) (aeZ _ (aeZ _ (dN hb e)))).2.1
    cases f with
    | next=>obtain⟨σ7,H7,I7,n7⟩:=q7;exact again I7 n7
    | cont=>obtain⟨σ7,H7,I7,n7⟩:=q7;exact again I7 n7
    | brk=>obtain⟨σ7,H7,I7,q7⟩:=q7;exact⟨σ7,H7,I7.jD,q7⟩
    | ret v=>obtain⟨x7,σ7,H7,I7,r7,q7⟩:=q7;exact⟨x7,σ7,H7,I7.jD,r7,q7⟩
end
theorem Bh{K:W.Frag}{a:Addr}{xs:List V}{g:TG}{tb:TS}{D:Ends}{σ:St}{H:Hp}(Pv:Nat→St→Hp→Prop)(h0:Pv 0 σ H)(hl:∀ i σ H,i≤xs.length→Pv i σ H→SqL K H a xs)
    (hs:∀ i x σ H,xs[i]?=some x→Pv i σ H→g x σ H λσ2 H2=>tb {D with nx:=Pv (i+1),ct:=Pv (i+1),bk:=D.nx} σ2 H2) (hd:∀ σ H,Pv xs.length σ H→D.nx σ H) :
    ∃ W:Nat→Nat→St→Hp→Prop,(∃ m,W 0 m σ H)∧∀ i m σ H,W i m σ H →
      ((Itl K a).stop i H∧D.nx σ H)∨((Itl K a).go i H∧∃ N:St→Hp→Prop,(∀ σ' H',N σ' H'→∃ m',m'<m∧W (i+1) m' σ' H')∧∀ x H',(Itl K a).yld i H x H'→g x σ H' λσ2 H2=>tb {D with nx:=N,ct:=N,bk:=D.nx} σ2 H2):=by
  refine⟨λi m σ H=>m=xs.length-i∧i≤xs.length∧Pv i σ H,⟨xs.length,by simp,afw _,h0⟩,?_⟩;rintro i m σ H ⟨rfl,hi,p⟩;have q:=hl i σ H hi p;by_cases hlt:i<xs.length
  · refine .inr ⟨⟨xs,xs[i],q,by simp[hlt]⟩,Pv (i+1),λσ' H' p'=>⟨xs.length-(i+1),by omega,rfl,hlt,p'⟩,λx H' y=>?_⟩
    obtain⟨e,y⟩:=y;subst e;exact hs i x σ _ (y xs q) p
  · have e:i=xs.length:=by omega
    subst e;exact .inl ⟨⟨xs,q,ae1 _⟩,hd σ H p⟩
theorem Hz{lo:Int}{n:Nat}{g:TG}{tb:TS}{D:Ends}{σ:St}{H:Hp}(Pv:Nat→St→Hp→Prop)(h0:Pv 0 σ H)
    (hs:∀ i σ H,i<n→Pv i σ H→g (.int (lo+i)) σ H λσ2 H2=>tb {D with nx:=Pv (i+1),ct:=Pv (i+1),bk:=D.nx} σ2 H2) (hd:∀ σ H,Pv n σ H→D.nx σ H) :
    ∃ W:Nat→Nat→St→Hp→Prop,(∃ m,W 0 m σ H)∧∀ i m σ H,W i m σ H →
      ((Itr lo n).stop i H∧D.nx σ H)∨((Itr lo n).go i H∧∃ N:St→Hp→Prop,(∀ σ' H',N σ' H'→∃ m',m'<m∧W (i+1) m' σ' H')∧∀ x H',(Itr lo n).yld i H x H'→g x σ H' λσ2 H2=>tb {D with nx:=N,ct:=N,bk:=D.nx} σ2 H2):=by
  refine⟨λi m σ H=>m=n-i∧i≤n∧Pv i σ H,⟨n,by simp,afw _,h0⟩,?_⟩;rintro i m σ H ⟨rfl,hi,p⟩;by_cases hlt:i<n
  · refine .inr ⟨hlt,Pv (i+1),λσ' H' p'=>⟨n-(i+1),by omega,rfl,hlt,p'⟩,λx H' y=>?_⟩
    obtain⟨e,y⟩:=y;subst e y;exact hs i σ _ hlt p
  · have e:i=n:=by omega
    subst e;exact .inl ⟨ae1 _,hd σ H p⟩
end L2
namespace L2
open PySem PySem.Spec PyProof.Rows
abbrev R2:=V→V→Hp→VK→Prop
def OpR(X:Cx)(f:Value→Value→Sem Value)(r:R2):Prop :=
  ∀(pins:List (Addr×Obj)) (s:Shared) (σ:St) (H:Hp) (x y:V) (v u:Value) (Q:VK),Inv X pins σ H s→RelV x v→RelV y u→r x y H Q →
    wpAny (model X.prog X.w) X.A (f v u) (EP X pins σ Q) X.xe s
def vF(X:Cx)(f:Value)(r:List V→Hp→VK→Prop):Prop :=
  ∀(pins:List (Addr×Obj)) (s:Shared) (σ:St) (H:Hp) (xs:List V) (us:List Value) (Q:VK),Inv X pins σ H s→Vals xs us→r xs H Q →
    wpAny (model X.prog X.w) X.A (call f us) (EP X pins σ Q) X.xe s
def adQ(X:Cx)(r:V→Hp→(Bool→Hp→Prop)→Prop):Prop :=
  ∀(pins:List (Addr×Obj)) (s:Shared) (σ:St) (H:Hp) (x:V) (v:Value) (Q:Bool→Hp→Prop),Inv X pins σ H s→RelV x v→r x H Q →
    wpAny (model X.prog X.w) X.A (truthy v) (TP X pins σ Q) X.xe s
def tOp(r:R2)(ta tb:TE):TE:=λσ H Q=>ta σ H λx H1=>tb σ H1 λy H2=>r x y H2 Q
def rI(C:Int→Int→Prop)(g:Int→Int→V):R2:=λx y H Q=>∃ i j,x=.int i∧y=.int j∧C i j∧Q (g i j) H
def rI0(g:Int→Int→V):R2:=λx y H Q=>∃ i j,x=.int i∧y=.int j∧Q (g i j) H
section
variable{X:Cx}{a b c:Expr}{ta tb tc:TE}{pos:Pos}
theorem Zi(ha:PE X a ta)(hb:PE X b tb){pins:List (Addr×Obj)}{s:Shared}{σ:St}{H:Hp}{R:V→V→Hp→Prop}(I:Inv X pins σ H s)
    (h:ta σ H λx H1=>tb σ H1 λy H2=>R x y H2) {Q:Value→Shared→Prop} {f:Value→Value→Sem Value}
    (hf:∀ v u s2 x y H2,Inv X pins σ H2 s2→RelV x v→RelV y u→R x y H2→wpAny (model X.prog X.w) X.A (f v u) Q X.xe s2) :
    wpAny (model X.prog X.w) X.A (eval a X.env) (λv s₁=>wpAny (model X.prog X.w) X.A (eval b X.env) (λu s₂=>wpAny (model X.prog X.w) X.A (f v u) Q X.xe s₂) X.xe s₁) X.xe s:=by
  refine thn (ha pins s σ H _ I h) λv s1 ⟨x,H1,I1,r1,q1⟩=>?_;refine thn (hb pins s1 σ H1 _ I1 q1) λu s2 ⟨y,H2,I2,r2,q2⟩=>?_;exact hf v u s2 x y H2 I2 r1 r2 q2
theorem eF{op:Operator}{r:R2}(ho:OpR X (binaryOp op) r)(ha:PE X a ta)(hb:PE X b tb):PE X (.BinOp a op b pos) (tOp r ta tb):=by
  intro pins s σ H Q I h;exact wpAny_BinOp (Zi ha hb I h λv u s2 x y H2 I2 rx ry q=>ho pins s2 σ H2 x y v u Q I2 rx ry q)
theorem opI{f:Value→Value→Sem Value}{C:Int→Int→Prop}{g:Int→Int→Int}
    (rule:∀(i j:Int) (t u:Tok) (s:Shared) (Q:Value→Shared→Prop) (E:Value→Shared→Prop),C i j→Q (.int (g i j) s.toks) {s with toks:=s.toks+1}→wpAny (model X.prog X.w) X.A (f (.int i t) (.int j u)) Q E s) :
    OpR X f (rI C λi j=>.int (g i j)):=by
  intro pins s σ H x y v u Q I rx ry h;obtain⟨i,j,rfl,rfl,hc,q⟩:=h;obtain⟨t,rfl⟩:=rx;obtain⟨t',rfl⟩:=ry;exact rule i j t t' s _ _ hc ⟨.int (g i j),H,I.tok _,⟨_,rfl⟩,q⟩
theorem acG{f:Value→Value→Sem Value}{g:Int→Int→Int}
    (rule:∀(i j:Int) (t u:Tok) (s:Shared) (Q:Value→Shared→Prop) (E:Value→Shared→Prop),Q (.int (g i j) s.toks) {s with toks:=s.toks+1}→wpAny (model X.prog X.w) X.A (f (.int i t) (.int j u)) Q E s) :
    OpR X f (rI0 λi j=>.int (g i j)):=by
  intro pins s σ H x y v u Q I rx ry h;obtain⟨i,j,rfl,rfl,q⟩:=h;obtain⟨t,rfl⟩:=rx;obtain⟨t',rfl⟩:=ry;exact rule i j t t' s _ _ ⟨.int (g i j),H,I.tok _,⟨_,rfl⟩,q⟩
theorem Vo{f:Value→Value→Sem Value}{g:Int→Int→Bool}
    (rule:∀(i j:Int) (t u:Tok) (s:Shared) (Q:Value→Shared→Prop) (E:Value→Shared→Prop),Q (.bool (g i j)) s→wpAny (model X.prog X.w) X.A (f (.int i t) (.int j u)) Q E s) :
    OpR X f (rI0 λi j=>.bl (g i j)):=by
  intro pins s σ H x y v u Q I rx ry h;obtain⟨i,j,rfl,rfl,q⟩:=h;obtain⟨t,rfl⟩:=rx;obtain⟨t',rfl⟩:=ry;exact rule i j t t' s _ _ ⟨.bl (g i j),H,I,rfl,q⟩
def adR(i j:Int):Prop:=0<j∧j<1073741824
def adS(i j:Int):Prop:=0≤j∧j≤1000000∧i.natAbs<2 ^ 64
def Zj(i j:Int):Prop:=(-(2 ^ 64)<i∧i<2 ^ 64)∨(-(2 ^ 64)<j∧j<2 ^ 64)
theorem Zj.ok{i j:Int}(h:Zj i j):IntMulOk i j:=by
  rcases h with⟨h1,h2⟩|⟨h1,h2⟩
  · exact .of_left (intBits_le_64 h1 h2)
  · exact .of_right (intBits_le_64 h1 h2)
theorem EL:OpR X (binaryOp .Add) (rI0 λi j=>.int (i+j)):=acG λ_ _ _ _ _ _ _ q=>add_int q
theorem Nw:OpR X (binaryOp .Sub) (rI0 λi j=>.int (i-j)):=acG λ_ _ _ _ _ _ _ q=>sub_int q
theorem JS:OpR X (binaryOp .Mult) (rI Zj λi j=>.int (i*j)):=opI λ_ _ _ _ _ _ _ hc q=>mul_int q hc.ok
theorem vK:OpR X (binaryOp .FloorDiv) (rI adR λi j=>.int (i/j)):=opI λi j _ _ _ _ _ hc q=>by
  have h1:(0:Int)<j:=hc.1;have h2:j<1073741824:=hc.2;exact floordiv_int (by omega) (by rw[Int.fdiv_eq_ediv_of_nonneg i (by omega)];exact q) (.inl (PyProof.noPylong_small (by omega)))
theorem kM:OpR X (binaryOp .Mod) (rI (λ_ j=>0<j) λi j=>.int (i%j)):=opI λi j _ _ _ _ _ hc q=>by
  have h1:(0:Int)<j:=hc;exact mod_int' (by omega) (by rw[Int.fmod_eq_emod_of_nonneg i (by omega)];exact q)
theorem Yu:OpR X (binaryOp .Pow) (rI adS λi j=>.int (i ^ j.toNat)):=opI λ_ _ _ _ _ _ _ hc q=>pow_int_small hc.1 hc.2.1 hc.2.2 q
end
def acH:V→V→Bool
  | .non,.non=>true|.non,.int _=>true|.int _,.non=>true|.non,.bl _=>true|.bl _,.non=>true|.non,.str _=>true|.str _,.non=>true
  | .int _,.int _=>true|.bl _,.bl _=>true|.str _,.str _=>true|.byt _,.byt _=>true
  | .int _,.str _=>true|.str _,.int _=>true|.bl _,.str _=>true|.str _,.bl _=>true
  | _,_=>false
def rEq:R2:=λx y H Q=>acH x y=true∧Q (.bl (decide (x=y))) H
def rNe:R2:=λx y H Q=>acH x y=true∧Q (.bl (!decide (x=y))) H
theorem NQ{i j:Int}:decide (V.int i=V.int j)=(i == j):=by
  rw[agp];simp
theorem QJ{i j:Bool}:decide (V.bl i=V.bl j)=(i == j):=by
  rw[agp];simp
theorem NR{i j:Str}:decide (V.str i=V.str j)=(i == j):=by
  rw[agp];simp
theorem NS{i j:Array UInt8}:decide (V.byt i=V.byt j)=(i.toList == j.toList):=by
  rw[agp];cases i;cases j;simp
section
variable{X:Cx}{a b c:Expr}{ta tb tc:TE}{pos:Pos}
theorem dU{pins:List (Addr×Obj)}{σ:St}{H:Hp}{s:Shared}{Q:VK}{k k':Bool}(I:Inv X pins σ H s)(q:Q (.bl k) H)(e:k=k'):EP X pins σ Q (.bool k') s:=by
  subst e;exact⟨.bl k,H,I,rfl,q⟩
theorem pj:OpR X (compareOp .Eq) rEq:=by
  intro pins s σ H x y v u Q I rx ry h;obtain⟨hs,q⟩:=h;cases x with
  | non =>
    cases rx;cases y with
    | non=>cases ry;exact PySem.EqNone.eq_none_none (dU I q (by simp))
    | bl j=>cases ry;exact PySem.EqNone.eq_none_bool (dU I q (by simp))
    | int j=>obtain⟨t',rfl⟩:=ry;exact PySem.EqNone.eq_none_int (dU I q (by simp))
    | str j=>obtain⟨t',rfl⟩:=ry;exact PySem.EqNone.eq_none_str (dU I q (by simp))
    | _=>exact absurd (show false=true from hs) ae2
  | bl i =>
    cases rx;cases y with
    | non=>cases ry;exact PySem.EqNone.eq_bool_none (dU I q (by simp))
    | bl j=>cases ry;exact eq_bool (dU I q QJ)
    | str j=>obtain⟨t',rfl⟩:=ry;exact PySem.EqMixed.eq_bool_str (dU I q (by simp))
    | _=>exact absurd (show false=true from hs) ae2
  | int i =>
    obtain⟨t,rfl⟩:=rx;cases y with
    | non=>cases ry;exact PySem.EqNone.eq_int_none (dU I q (by simp))
    | int j=>obtain⟨t',rfl⟩:=ry;exact eq_int (dU I q NQ)
    | str j=>obtain⟨t',rfl⟩:=ry;exact PySem.EqMixed.eq_int_str (dU I q (by simp))
    | _=>exact absurd (show false=true from hs) ae2
  | str i =>
    obtain⟨t,rfl⟩:=rx;cases y with
    | non=>cases ry;exact PySem.EqNone.eq_str_none (dU I q (by simp))
    | bl j=>cases ry;exact PySem.EqMixed.eq_str_bool (dU I q (by simp))
    | int j=>obtain⟨t',rfl⟩:=ry;exact PySem.EqMixed.eq_str_int (dU I q (by simp))
    | str j=>obtain⟨t',rfl⟩:=ry;exact eq_str (dU I q NR)
    | _=>exact absurd (show false=true from hs) ae2
  | byt i =>
    obtain⟨t,rfl⟩:=rx;cases y with
    | byt j=>obtain⟨t',rfl⟩:=ry;exact PySem.W.eq_bytes (dU I q NS)
    | _=>exact absurd (show false=true from hs) ae2
  | _=>cases y<;>exact absurd (show false=true from hs) ae2
theorem Rx:OpR X (compareOp .NotEq) rNe:=by
  intro pins s σ H x y v u Q I rx ry h;obtain⟨hs,q⟩:=h;cases x with
  | non =>
    cases rx;cases y with
    | non=>cases ry;exact PySem.EqNone.ne_none_none (dU I q (by simp))
    | bl j=>cases ry;exact PySem.EqNone.ne_none_bool (dU I q (by simp))
    | int j=>obtain⟨t',rfl⟩:=ry;exact PySem.EqNone.ne_none_int (dU I q (by simp))
    | str j=>obtain⟨t',rfl⟩:=ry;exact PySem.EqNone.ne_none_str (dU I q (by simp))
    | _=>exact absurd (show false=true from hs) ae2
  | bl i =>
    cases rx;cases y with
    | non=>cases ry;exact PySem.EqNone.ne_bool_none (dU I q (by simp))
    | bl j=>cases ry;exact ne_bool (dU I q (congrArg not QJ))
    | str j=>obtain⟨t',rfl⟩:=ry;exact PySem.EqMixed.ne_bool_str (dU I q (by simp))
    | _=>exact absurd (show false=true from hs) ae2
  | int i =>
    obtain⟨t,rfl⟩:=rx;cases y with
    | non=>cases ry;exact PySem.EqNone.ne_int_none (dU I q (by simp))
    | int j=>obtain⟨t',rfl⟩:=ry;exact ne_int (dU I q (congrArg not NQ))
    | str j=>obtain⟨t',rfl⟩:=ry;exact PySem.EqMixed.ne_int_str (dU I q (by simp))
    | _=>exact absurd (show false=true from hs) ae2
  | str i =>
    obtain⟨t,rfl⟩:=rx;cases y with
    | non=>cases ry;exact PySem.EqNone.ne_str_none (dU I q (by simp))
    | bl j=>cases ry;exact PySem.EqMixed.ne_str_bool (dU I q (by simp))
    | int j=>obtain⟨t',rfl⟩:=ry;exact PySem.EqMixed.ne_str_int (dU I q (by simp))
    | str j=>obtain⟨t',rfl⟩:=ry;exact ne_str (dU I q (congrArg not NR))
    | _=>exact absurd (show false=true from hs) ae2
  | byt i =>
    obtain⟨t,rfl⟩:=rx;cases y with
    | byt j=>obtain⟨t',rfl⟩:=ry;exact PySem.W.ne_bytes (dU I q (congrArg not NS))
    | _=>exact absurd (show false=true from hs) ae2
  | _=>cases y<;>exact absurd (show false=true from hs) ae2
theorem FF:OpR X (compareOp .Lt) (rI0 λi j=>.bl (decide (i<j))):=Vo λ_ _ _ _ _ _ _ q=>lt_int q
theorem DZ:OpR X (compareOp .LtE) (rI0 λi j=>.bl (decide (i≤j))):=Vo λ_ _ _ _ _ _ _ q=>le_int q
theorem JU:OpR X (compareOp .Gt) (rI0 λi j=>.bl (decide (j<i))):=Vo λ_ _ _ _ _ _ _ q=>gt_int q
theorem abR:OpR X (compareOp .GtE) (rI0 λi j=>.bl (decide (j≤i))):=Vo λ_ _ _ _ _ _ _ q=>ge_int q
theorem QK:OpR X (compareOp .Is) (λx y H Q=>y=.non∧Q (.bl (decide (x=.non))) H):=by
  intro pins s σ H x y v u Q I rx ry h;obtain⟨rfl,q⟩:=h;cases ry;refine is_none_gen (dU I q ?_);cases x<;>first
    | (cases rx;rfl)
    | (obtain⟨t,rfl⟩:=rx;rfl)
theorem FG:OpR X (compareOp .IsNot) (λx y H Q=>y=.non∧Q (.bl (!decide (x=.non))) H):=by
  intro pins s σ H x y v u Q I rx ry h;obtain⟨rfl,q⟩:=h;cases ry;refine isnot_none_gen (dU I q ?_);cases x<;>first
    | (cases rx;rfl)
    | (obtain⟨t,rfl⟩:=rx;rfl)
theorem cu(b:Expr){op:CmpOp}(h:op≠.In:=by decide)(h2:op≠.NotIn:=by decide):behindInMarks op b=false:=by
  have e1:(op == CmpOp.In)=false:=by cases op<;>first|rfl|exact absurd rfl h
  have e2:(op == CmpOp.NotIn)=false:=by cases op<;>first|rfl|exact absurd rfl h2
  cases b<;>simp[behindInMarks,e1,e2]
theorem NT{op:CmpOp}{r:R2}(ho:OpR X (compareOp op) r)(ha:PE X a ta)(hb:PE X b tb)(hm:behindInMarks op b=false):PE X (.Compare a [op] [b] pos) (tOp r ta tb):=by
  intro pins s σ H Q I h;exact wpAny_Compare1 (Zi ha hb I h λv u s2 x y H2 I2 rx ry q=>ho pins s2 σ H2 x y v u Q I2 rx ry q) hm
def Vp(t:TE):TT:=λσ H Q=>t σ H λx H'=>∃ k,x=.bl k∧Q k H'
theorem aU{op:CmpOp}{r:R2}(ho:OpR X (compareOp op) r)(ha:PE X a ta)(hb:PE X b tb)(hm:behindInMarks op b=false):PT X (.Compare a [op] [b] pos) (Vp (tOp r ta tb)):=by
  intro pins s σ H Q I h;refine wpAny_isTrue_Compare1 (thn (ha pins s σ H _ I h) λv s1 ⟨x,H1,I1,r1,q1⟩=>thn (hb pins s1 σ H1 _ I1 q1) λu s2 ⟨y,H2,I2,r2,q2⟩ =>
    thn (ho pins s2 σ H2 x y v u _ I2 r1 r2 q2) λc s3 ⟨z,H3,I3,r3,k,e,q3⟩=>?_) hm
  subst e;cases r3;exact wpAny_truthy_bool ⟨H3,I3,q3⟩
def Yv(r r':R2)(ta tb tc:TE):TE:=λσ H Q=>ta σ H λx H1=>tb σ H1 λy H2=>r x y H2 λz H3=>∃ k,z=.bl k ∧
  (if k=true then tc σ H3 λw' H4=>r' y w' H4 Q else Q (.bl false) H3)
theorem qM{op op':CmpOp}{r r':R2}(ho:OpR X (compareOp op) r)(ho':OpR X (compareOp op') r')(ha:PE X a ta)(hb:PE X b tb)(hc:PE X c tc)
    (hm:lastMarks [op,op'] [b,c]=false:=by with_unfolding_all rfl):PT X (.Compare a [op,op'] [b,c] pos) (Vp (Yv r r' ta tb tc)):=by
  intro pins s σ H Q I h;refine isTrue_chain (thn (ha pins s σ H _ I h) λv s1 ⟨x,H1,I1,r1,q1⟩=>test_link (thn (hb pins s1 σ H1 _ I1 q1) λu s2 ⟨y,H2,I2,r2,q2⟩ =>
    thn (ho pins s2 σ H2 x y v u _ I2 r1 r2 q2) λd s3 ⟨z,H3,I3,r3,k,e,q3⟩=>?_)) hm
  subst e;cases r3;refine wpAny_truthy_bool ?_;cases k with
  | false =>
    obtain⟨k',e',q'⟩:=q3;cases e';exact ite_ff ⟨H3,I3,q'⟩
  | true =>
    refine ite_tt (test_last (thn (hc pins s3 σ H3 _ I3 q3) λw' s4 ⟨z',H4,I4,r4,q4⟩=>thn (ho' pins s4 σ H4 y z' u w' _ I4 r2 r4 q4) λd' s5 ⟨z2,H5,I5,r5,k2,e2,q5⟩=>?_));subst e2;cases r5;exact wpAny_truthy_bool ⟨H5,I5,q5⟩
def acI(K:W.Frag)(x:V)(H:Hp)(k:Bool):Prop :=
  match x with
  | .non=>k=false
  | .bl b=>k=b
  | .int i=>k=(i != 0)
  | .str y=>y.length≤sizeLine∧k=((y.length:Int) != 0)
  | .byt y=>y.size≤sizeLine∧k=((y.size:Int) != 0)
  | .ref p=>(∃ xs,SqL K H p xs∧k=!xs.isEmpty)∨(∃ xs,SqT K H p xs∧k=!xs.isEmpty)∨∃ kvs,H p=some (.dK kvs)∧k=!kvs.isEmpty
  | _=>False
theorem Mr{κ:Type}{kvs:List (κ×V)}{vs:List (κ×Value)}(r:KV kvs vs):(!vs.isEmpty)=!kvs.isEmpty:=by
  cases r<;>rfl
theorem FH{xs:List V}{its:List Value}(r:Vals xs its):(!its.toArray.isEmpty)=!xs.isEmpty:=by
  cases r<;>simp
theorem GC:(sizeLine:Nat)<2 ^ 63:=by rw[sizeLine_eq];decide
theorem Yw:adQ X (λx H Q=>∃ k,acI X.K x H k∧Q k H):=by
  intro pins s σ H x v Q I rx h;obtain⟨k,e,q⟩:=h;have hl:=GC;have hs:sizeLine=16777216:=sizeLine_eq;cases x with
  | non =>
    cases rx;have e':k=false:=e;subst e';exact truthy_none ⟨H,I,q⟩
  | bl b =>
    cases rx;have e':k=b:=e;subst e';exact wpAny_truthy_bool ⟨H,I,q⟩
  | int i =>
    obtain⟨t,rfl⟩:=rx;have e':k=(i != 0):=e;subst e';exact PySem.P.truthy_int ⟨H,I,q⟩
  | str y =>
    obtain⟨t,rfl⟩:=rx;obtain⟨hy,e'⟩:y.length≤sizeLine∧k=((y.length:Int) != 0):=e;subst e';exact PySem.P.truthy_str (by omega) ⟨H,I.tok _,q⟩
  | byt y =>
    obtain⟨t,rfl⟩:=rx;obtain⟨hy,e'⟩:y.size≤sizeLine∧k=((y.size:Int) != 0):=e;subst e';exact PySem.W.truthy_bytes (by omega) ⟨H,I.tok _,q⟩
  | ref p =>
    cases rx;have e':(∃ xs,SqL X.K H p xs∧k=!xs.isEmpty)∨(∃ xs,SqT X.K H p xs∧k=!xs.isEmpty)∨∃ kvs,H p=some (.dK kvs)∧k=!kvs.isEmpty:=e;rcases e' with⟨xs,hx,e'⟩|⟨xs,hx,e'⟩|⟨kvs,hx,e'⟩
    · subst e'
      obtain⟨its,r,pl,hz⟩:=I.list hx;have hlen:=r.length;exact wpAny_truthy_list pl.isList (by simp only[ae5];omega) ⟨H,I.tok _,by rw[FH r];exact q⟩
    · subst e'
      obtain⟨its,r,pl,hz⟩:=I.tuple hx;have hlen:=r.length;exact truthy_tuple pl (by simp only[ae5];omega) ⟨H,I.tok _,by rw[FH r];exact q⟩
    · subst e'
      obtain⟨hz,hS,vs,r,m⟩:kvs.length≤sizeLine∧(p == sysModules)=false∧∃ vs,KV kvs vs∧s.heap.DictOf (cR X.prog X.w) p vs:=I.hok p _ hx;have hlen:kvs.length=vs.length:=agy r;exact wpAny_truthy_dict hS m (by omega) ⟨H,I.tok _,by rw[Mr r];exact q⟩
  | _=>exact(show False from e).elim
theorem Qc(ha:PE X a ta)(he:∀ whole,isTrue a X.env whole=(do let v ←whole;standAt a.pos;holding [v] (truthy v))) :
    PT X a (λσ H Q=>ta σ H λx H'=>∃ k,acI X.K x H' k∧Q k H'):=by
  intro pins s σ H Q I h;exact isTrue_plain (thn (ha pins s σ H _ I h) λv s1 ⟨x,H1,I1,r1,q1⟩=>Yw pins s1 σ H1 x v Q I1 r1 q1) (he _)
theorem vals1{x:V}{us:List Value}(r:Vals [x] us):∃ u,us=[u]∧RelV x u:=by
  cases r with
  | cons r1 r2=>cases r2;exact⟨_,rfl,r1⟩
theorem Qd:vF X (.builtin "abs") (λxs H Q=>∃ i,xs=[.int i]∧Q (.int (if i<0 then -i else i)) H):=by
  intro pins s σ H xs us Q I r h;obtain⟨i,rfl,q⟩:=h;obtain⟨u,rfl,t,rfl⟩:=vals1 r;exact call_abs_int λu tk=>⟨.int (if i<0 then -i else i),H,I.tok _,⟨_,rfl⟩,q⟩
end
end L2
namespace L2
open PySem PySem.Spec PyProof.Rows
structure PJ(h:Heap)(x dx C:Addr)(mA:Str→Option Value):Prop where
  obj:h.get? x=some (PySem.W.instObj C dx)
  ns:h.Ns1 dx mA
  ne:dx≠x
theorem OL{h:Heap}{dx:Addr}{mA:Str→Option Value}(n:h.Ns1 dx mA):∃ od,h.get? dx=some od∧∀ name,PySem.W.lookIn name od=some (mA name):=by
  obtain⟨o,es,ep,ho,hd,hk,_,hm⟩:=n;refine⟨o,ho,λname=>?_⟩;have e:=hm name;unfold nsFind findBy at e;rw[←Array.find?_toList]at e;unfold PySem.W.lookIn;rw[hd];dsimp only;split
  · rename_i y q
    rw[q]at e;exact congrArg some e
  · rename_i q
    rw[q]at e;have a:es.toList.any (·.refKey)=false:=by
      rw[List.any_eq_false];intro y hy;obtain⟨z,t,adT⟩:=hk y (Array.mem_toList_iff.mp hy);simp[DictEntry.refKey,adT]
    have a':¬es.toList.any (·.refKey)=true:=(by rw[a];exact ae2);rw[if_neg a'];exact congrArg some e
theorem PJ.look{h:Heap}{x dx C:Addr}{mA:Str→Option Value}(I:PJ h x dx C mA):∃ od,PySem.W.InstAt h x (PySem.W.instObj C dx) C (some od)∧∀ name,PySem.W.lookIn name od=some (mA name) :=
  let ⟨od,ho,hl⟩:=OL I.ns
  ⟨od,⟨I.obj,rfl,rfl,ho⟩,hl⟩
section
variable{prog:Program}{w:World}{A:Around}{E:Value→Shared→Prop}{s:Shared}{K:W.Frag}{x dx C f:Addr}{mA:Str→Option Value}{name:Str}{v:Value}
theorem get_map{expr:Bool}{Q:Value→Shared→Prop}(X:K.In s.heap)(I:PJ s.heap x dx C mA)(hg:PySem.W.plainGet K C name=true)(hh:PySem.W.hasDictIn K C=true)
    (ha:PySem.W.findIn K (.ref C) name=some none) (hv:mA name=some v) (hv':PySem.W.handedIn v=true) (h:Q v {s with toks:=s.toks+1}) :
    wpAny (model prog w) A (getAttr (.ref x) name expr) Q E s:=by
  obtain⟨od,J,hl⟩:=I.look;exact PySem.W.get_value X J (PySem.W.plainGet_of hg).1 (PySem.W.findObj_own hh ha rfl (by rw[hl,hv])) hv' h
theorem Qe{pl:Sem Bool}{Q:Value×List Value→Shared→Prop}(X:K.In s.heap)(I:PJ s.heap x dx C mA)(hg:PySem.W.plainGet K C name=true)
    (hf:PySem.W.findIn K (.ref C) name=some (some (.ref f))) (ht:PySem.W.isFn K (.ref f)=true) (hv:mA name=none) (h:Q (.ref f,[.ref x]) s) :
    wpAny (model prog w) A (getMethod (.ref x) name pl) Q E s:=by
  obtain⟨od,J,hl⟩:=I.look;exact PySem.W.method_fn X J (PySem.W.plainGet_of hg).1 (PySem.W.plainGet_of hg).2 hf (beq_iff_eq.mp ht) (by show(PySem.W.lookIn name od).map (·.isSome)=some false;rw[hl,hv];rfl) h
theorem RW{ns:List Str}{Q:Unit→Shared→Prop}(X:K.In s.heap)(I:PJ s.heap x dx C mA)
    (hs:PySem.W.findIn K (.ref C) "__setattr__" = some (some (.builtin "object.__setattr__"))) (hp:PySem.W.plainOver K C=true) (ht:PySem.W.takerIn K C name=some none) (hh:PySem.W.hasDictIn K C=true)
    (hw:PySem.Within mA ns) (hsz:ns.length≤sizeLine)
    (h:∀ h',PJ h' x dx C (λy=>if y=name then some v else mA y)→Heap.SameBut dx s.heap h'→Q () {s with heap:=h',toks:=s.toks+2}) :
    wpAny (model prog w) A (setAttr (.ref x) name v) Q E s:=by
  obtain⟨od,J,hl⟩:=I.look;refine PySem.W.set_plain X J hs (PySem.W.osa_open (s:={s with toks:=s.toks+1}) (r:=none) X J hp ht λb=>?_);obtain⟨cd,hc,hd'⟩:=PySem.W.any_some hh;have hx:s.heap.get? x=some ⟨.ref C,some dx,.plain,#[]⟩:=I.obj;refine wpAny_bind (wpAny_pure (wpAny_bind (wpAny_bind (wpAny_loadPart hx (wpAny_bind (PySem.W.Looks.here (s:={s with toks:=s.toks+1}) (PySem.W.looks_clsIn X hc) ?_))))));rw[hd'];refine wpAny_pure (a:=some dx) (wpAny_bind (wpAny_pure (wpAny_bind ?_)));refine wpAny_nsSet1 (s:={s with toks:=s.toks+1}) I.ns λh' hn2 hs2=>?_;obtain⟨oD,esD,epD,hoD,hdD,hcD⟩:=hn2.count (PySem.Within.cons name v hw);refine wpAny_bind (wpAny_lookBehind hoD (by rw[hdD];exact pastItsLine_dict (afe hcD (by rw[afA];omega))) ?_);exact wpAny_pure (h _ ⟨(hs2.2 _ (afi I.ne)).trans I.obj,hn2,I.ne⟩ hs2)
theorem Qf{R:Result→Shared→Prop}{vs:List Value}{kw:List (Str×Value)}(X:K.In s.heap)(hm:PySem.W.makesIn K C=true)
    (hi:PySem.W.findIn K (.ref C) "__init__" = some (some (.ref f))) (hf:PySem.W.typeIn K (.ref f)=some (.type "function"))
    (h:codeAny (model prog w) (A.under (.builtin "type.__call__" ⟨.ref C::vs,kw⟩)) (.call (.ref f) ⟨.ref (s.heap.objs.size+1)::vs,kw⟩) (PySem.W.InitBack (s.heap.objs.size+1) R)
      {s with heap:=(s.heap.push PySem.W.emptyDict).push (PySem.W.instObj C s.heap.objs.size)}) :
    codeAny (model prog w) A (.call (.ref C) ⟨vs,kw⟩) R s:=by
  obtain⟨hh,g,d,t,os⟩:=s;exact PySem.W.make_core (PySem.W.makes_of X hm) (PySem.W.looks_findIn X hi) (λself=>PySem.W.bind_fn X self hf) (.inl rfl) h
end
def iE(f:Str)(v:V):List (Str×V)→List (Str×V)
  | []=>[(f,v)]
  | (g,x)::r=>if g=f then(g,v)::r else(g,x)::iE f v r
theorem DH(f g:Str)(v:V):∀ fs:List (Str×V),(iE f v fs).lookup g=if g=f then some v else fs.lookup g
  | []=>by
    show List.lookup g [(f,v)]=_;by_cases h:g=f
    · have hb:(g == f)=true:=beq_iff_eq.mpr h
      simp only[List.lookup,hb,if_pos h]
    · have hb:(g == f)=false:=beq_eq_false_iff_ne.mpr h
      simp only[List.lookup,hb,if_neg h]
  | (k,x)::r=>by
    have ih:=DH f g v r;rw[show iE f v ((k,x)::r)=(if k=f then(k,v)::r else(k,x)::iE f v r) from rfl];by_cases hk:k=f
    · rw[if_pos hk]
      by_cases h:g=k
      · have hb:(g == k)=true:=beq_iff_eq.mpr h
        simp only[List.lookup,hb,if_pos (h.trans hk)]
      · have hb:(g == k)=false:=beq_eq_false_iff_ne.mpr h
        simp only[List.lookup,hb,if_neg (λe:g=f=>h (e.trans hk.symm))]
    · rw[if_neg hk]
      by_cases h:g=k
      · have hb:(g == k)=true:=beq_iff_eq.mpr h
        simp only[List.lookup,hb,if_neg (λe:g=f=>hk (h.symm.trans e))]
      · have hb:(g == k)=false:=beq_eq_false_iff_ne.mpr h
        simp only[List.lookup,hb];exact ih
theorem Dy(f:Str)(v:V):∀ fs:List (Str×V),f∈(iE f v fs).map (·.1)∧∀ g,g∈fs.map (·.1)→g∈(iE f v fs).map (·.1)
  | []=>⟨by simp[iE],λg h=>by simp at h⟩
  | (k,x)::r=>by
    obtain⟨i1,i2⟩:=Dy f v r;rw[show iE f v ((k,x)::r)=(if k=f then(k,v)::r else(k,x)::iE f v r) from rfl];by_cases hk:k=f
    · rw[if_pos hk]
      subst hk;exact⟨by simp,λg h=>by simpa using h⟩
    · rw[if_neg hk]
      refine⟨?_,λg h=>?_⟩
      · rw[afq]
        exact afn _ i1
      · rw[afq]at h ⊢
        rcases aff.mp h with e|e
        · exact aff.mpr (.inl e)
        · exact afn _ (i2 g e)
theorem DI(f:Str)(v:V):∀ fs:List (Str×V),(iE f v fs).length≤fs.length+1
  | []=>by simp[iE]
  | (k,x)::r=>by
    have ih:=DI f v r;rw[show iE f v ((k,x)::r)=(if k=f then(k,v)::r else(k,x)::iE f v r) from rfl];by_cases hk:k=f
    · rw[if_pos hk,afA,afA];omega
    · rw[if_neg hk,afA,afA];omega
theorem xY.some_of{v:V}{o:Option Value}(r:xY (some v) o):∃ u,o=some u∧RelV v u:=by
  cases o with
  | none=>exact(show False from r).elim
  | some u=>exact⟨u,rfl,r⟩
theorem xY.none_of{o:Option Value}(r:xY none o):o=none:=by
  cases o with
  | none=>rfl
  | some u=>exact(show False from r).elim
theorem OM{v:V}{u:Value}(r:RelV v u):PySem.W.handedIn u=true:=by
  cases v with
  | non=>cases (show u=Value.none from r);rfl
  | bl b=>cases (show u=Value.bool b from r);rfl
  | int i=>obtain⟨t,e⟩:=(show ∃ t,u=Value.int i t from r);cases e;rfl
  | str x=>obtain⟨t,e⟩:=(show ∃ t,u=Value.str x t from r);cases e;rfl
  | byt b=>obtain⟨t,e⟩:=(show ∃ t,u=Value.bytes b t from r);cases e;rfl
  | flt b=>obtain⟨t,e⟩:=(show ∃ t,u=Value.float b t from r);cases e;rfl
  | ref a=>cases (show u=Value.ref a from r);rfl
  | ty n=>cases (show u=Value.type n from r);rfl
section
variable{P:Program}{w:World}{H H':Hp}{h h':Heap}{a C dx:Addr}{fs fs':List (Str×V)}
theorem Jz(hok:HOk P w H h)(e:H a=some (.ins C dx fs)):∃ mA,PJ h a dx C mA∧(∀ f,xY (fs.lookup f) (mA f))∧PySem.Within mA (fs.map (·.1))∧fs.length≤1000∧H dx=some (.own a):=by
  obtain⟨d,z,ne,ob,mA,n,r,q⟩:=(show hJ P w H h a (.ins C dx fs) from hok a _ e);exact⟨mA,⟨ob,n,ne⟩,r,q,z,d⟩
end
structure Cls(K:W.Frag)(C:Addr):Prop where
  pg:PySem.W.plainGet K C Str.empty=true
  hd:PySem.W.hasDictIn K C=true
  po:PySem.W.plainOver K C=true
  sa:PySem.W.findIn K (.ref C) "__setattr__" = some (some (.builtin "object.__setattr__"))
theorem Cls.get{K:W.Frag}{C:Addr}(c:Cls K C)(f:Str):PySem.W.plainGet K C f=true:=c.pg
def e7(K:W.Frag)(C:Addr)(f:Str):Prop:=PySem.W.findIn K (.ref C) f=some none
theorem e7.abS{K:W.Frag}{C:Addr}{f:Str}(n:e7 K C f):PySem.W.takerIn K C f=some none:=by
  unfold PySem.W.takerIn;rw[show PySem.W.findIn K (.ref C) f=some none from n];rfl
structure Meth(K:W.Frag)(C:Addr)(m:Str)(f:Addr):Prop where
  at_:PySem.W.findIn K (.ref C) m=some (some (.ref f))
  fn:PySem.W.isFn K (.ref f)=true
  kp:PySem.W.keepIn K (.ref f)=true
section
variable{X:Cx}{pins:List (Addr×Obj)}{σ:St}{H:Hp}{s:Shared}{a C dx:Addr}{fs:List (Str×V)}{f:Str}{v:V}{A:Around}{E:Value→Shared→Prop}
theorem Ms{b:Bool}{Q:Value→Shared→Prop}(I:Inv X pins σ H s)(e:H a=some (.ins C dx fs))(c:Cls X.K C)(n:e7 X.K C f)(l:fs.lookup f=some v)
    (h:∀ u s',Inv X pins σ H s'→RelV v u→Q u s'):wpAny (model X.prog X.w) A (getAttr (.ref a) f b) Q E s:=by
  obtain⟨mA,O,r,_,_,_⟩:=Jz I.hok e;obtain⟨u,hu,ru⟩:=xY.some_of (v:=v) (o:=mA f) (by rw[←l];exact r f);exact get_map I.kIn O (c.get f) c.hd n hu (OM ru) (h u _ (I.tok _) ru)
theorem FJ{m:Str}{g:Addr}{pl:Sem Bool}{Q:Value×List Value→Shared→Prop}(I:Inv X pins σ H s)(e:H a=some (.ins C dx fs))(c:Cls X.K C)(k:Meth X.K C m g)(l:fs.lookup m=none)
    (h:Q (.ref g,[.ref a]) s):wpAny (model X.prog X.w) A (getMethod (.ref a) m pl) Q E s:=by
  obtain⟨mA,O,r,_,_,_⟩:=Jz I.hok e;have hn:mA m=none:=xY.none_of (by rw[←l];exact r m);exact Qe I.kIn O (c.get m) k.at_ k.fn hn h
theorem Mt{y:V}{u:Value}{Q:Unit→Shared→Prop}(I:Inv X pins σ H s)(e:H a=some (.ins C dx fs))(c:Cls X.K C)(n:e7 X.K C f)(hl:fs.length<1000)(ry:RelV y u)
    (h:∀ s',Inv X pins σ (upd H a (.ins C dx (iE f y fs))) s'→Q () s'):wpAny (model X.prog X.w) A (setAttr (.ref a) f u) Q E s:=by
  obtain⟨mA,O,r,wi,_,ho⟩:=Jz I.hok e;have hz:(fs.map (·.1)).length≤sizeLine:=by rw[aeV,sizeLine_eq];omega
  refine RW I.kIn O c.sa c.po n.abS c.hd wi hz λh' O' sb=>h _ ?_;have hd:∃ o,h'.get? dx=some o:=let ⟨o,_,_,e',_⟩:=O'.ns;⟨o,e'⟩;refine I.write (x:=a) (e:=dx) (by rw[e];exact True.intro) (.inr ho) (λb q hb z=>(sb.2 b hb).trans z) hd ?_;refine⟨by rw[af O.ne];exact ho,?_,O.ne,O'.obj,_,O'.ns,λg=>?_,λg hg=>?_⟩
  · have:=DI f y fs;omega
  · show xY ((iE f y fs).lookup g) (if g=f then some u else mA g)
    rw[DH];by_cases q:g=f
    · rw[if_pos q,if_pos q];exact ry
    · rw[if_neg q,if_neg q];exact r g
  · by_cases q:g=f
    · rw[q];exact(Dy f y fs).1
    · refine(Dy f y fs).2 g (wi g λz=>hg ?_)
      show(if g=f then some u else mA g)=none;rw[if_neg q];exact z
theorem Inv.made(I:Inv X pins σ H s):Inv X pins σ (upd (upd H s.heap.objs.size (.own (s.heap.objs.size+1))) (s.heap.objs.size+1) (.ins C s.heap.objs.size []))
    {s with heap:=(s.heap.push PySem.W.emptyDict).push (PySem.W.instObj C s.heap.objs.size)}:=by
  have e1:(s.heap.push PySem.W.emptyDict).get? s.heap.objs.size=some PySem.W.emptyDict:=aft s.heap rfl;have e2:((s.heap.push PySem.W.emptyDict).push (PySem.W.instObj C s.heap.objs.size)).get? (s.heap.objs.size+1)=some (PySem.W.instObj C s.heap.objs.size):=by
    have:=aft (s.heap.push PySem.W.emptyDict) (o:=PySem.W.instObj C s.heap.objs.size) rfl
    rwa[afY]at this
  have e3:(s.heap.push PySem.W.emptyDict).Ns s.heap.objs.size (λ_=>none):=⟨PySem.W.emptyDict,#[],_,e1,rfl,(λe he=>absurd he (by simp)),λ_=>rfl⟩;have I1:=I.laid (a:=s.heap.objs.size) (o:=.own (s.heap.objs.size+1)) (h':=s.heap.push PySem.W.emptyDict) (t':=s.toks) (λb u q=>ae0 _ q) (ae1 _) ⟨_,e1⟩;refine I1.laid (a:=s.heap.objs.size+1) (o:=.ins C s.heap.objs.size []) (t':=s.toks) (λb u q=>ae0 _ q) (Nat.le_of_eq (afY _ _)) ?_;have ne:s.heap.objs.size≠s.heap.objs.size+1:=afc (agz _);refine⟨by rw[af ne,ah],afw _,ne,e2,λ_=>none,(Heap.Ns1.of_empty e3).at λo q=>ae0 _ q,λ_=>True.intro,λy hy=>absurd rfl hy⟩
theorem RX{prog:Program}{w:World}{env:Env}{e:Expr}{f:Str}{pos:Pos}{s:Shared}{Q:Value→Shared→Prop}(hb:attributeBase e f env (eval e env)=eval e env)
    (h:wpAny (model prog w) A (eval e env) (λo s₁=>wpAny (model prog w) A (getAttr o f true) Q E s₁) E s):wpAny (model prog w) A (eval (.Attribute e f pos) env) Q E s :=
  Attribute_any_ h (by rw[arm_eval_Attribute,hb])
end
def acJ(K:W.Frag)(ta:TE)(f:Str):TE:=λσ H Q=>ta σ H λx H1=>∃ a C dx fs v,x=.ref a∧H1 a=some (.ins C dx fs)∧Cls K C∧e7 K C f∧fs.lookup f=some v∧Q v H1
def adU(K:W.Frag)(ta tv:TE)(f:Str):TS:=λD σ H=>tv σ H λy H1=>ta σ H1 λx H2=>∃ a C dx fs,x=.ref a∧H2 a=some (.ins C dx fs)∧Cls K C∧e7 K C f∧fs.length<1000 ∧
  D.nx σ (upd H2 a (.ins C dx (iE f y fs)))
section
variable{X:Cx}{o e value:Expr}{f:Str}{pos pos' adV:Pos}{ta tv:TE}
theorem aH(he:PE X e ta)(hb:attributeBase e f X.env (eval e X.env)=eval e X.env):PE X (.Attribute e f pos) (acJ X.K ta f):=by
  intro pins s σ H Q I h;refine RX hb (thn (he pins s σ H _ I h) λu s1 ⟨x,H1,I1,rx,a,C,dx,fs,v,ex,ea,c,n,l,q⟩=>?_);subst ex;obtain rfl:u=Value.ref a:=rx;exact Ms I1 ea c n l λu' s2 I2 ru=>⟨v,H1,I2,ru,q⟩
theorem il(ha:PE X o ta)(hv:PE X value tv)(hs:swapsWith value (some (.Attribute o f pos')) pos.line X.env=pure false):PS X (.Assign [.Attribute o f pos'] value pos) (adU X.K ta tv f):=by
  intro pins s σ H D I h;refine plainObj_wpAny_Assign_Attribute (thn (hv pins s σ H _ I h) λu s1 ⟨y,H1,I1,ry,q⟩=>thn (ha pins s1 σ H1 _ I1 q) λov s2 ⟨x,H2,I2,rx,a,C,dx,fs,ex,ea,c,n,l,q2⟩=>?_) hs;subst ex;obtain rfl:ov=Value.ref a:=rx;exact Mt I2 ea c n l ry λs3 I3=>⟨σ,_,I3,q2⟩
end
section
variable{X:Cx}{pins:List (Addr×Obj)}{σ:St}{H:Hp}{s:Shared}{A:Around}{E:Value→Shared→Prop}{Q:Value→Shared→Prop}{c:Value}{b:Bool}
end
end L2
namespace L2
open PySem PySem.Spec PyProof.Rows
structure mY(k:Nat)(A:Around):Prop where
  hd:A.handled=none
  dp:A.depth+3*k+5<recursionLimit
  un:A.units+16*k+200<cLine
theorem mY.mono{j k:Nat}{A:Around}(r:mY k A)(h:j≤k):mY j A:=⟨r.hd,by have:=r.dp;omega,by have:=r.un;omega⟩
theorem mY.deeper{k:Nat}{A:Around}(r:mY (k+1) A)(env:Env):mY k (A.deeper env) :=
  ⟨r.hd,by have:=r.dp;show A.depth+1+3*k+5<_;omega,by have:=r.un;show A.units+3+16*k+200<_;omega⟩
theorem Mu{A:Around}{C:Addr}{us:List Value}{kw:List (Str×Value)}:(A.under (.builtin "type.__call__" ⟨.ref C::us,kw⟩)).depth=A.depth+1:=by
  first|rfl|simp[Around.under,Code.weight,Code.isCreation,Code.isGuard,Code.isCaller,Code.frames,Code.isFrame,guardIds]
theorem Mv{A:Around}{C:Addr}{us:List Value}{kw:List (Str×Value)}:(A.under (.builtin "type.__call__" ⟨.ref C::us,kw⟩)).units=A.units+1:=by
  first|rfl|simp[Around.under,Code.cUnits,Code.frames,Code.isFrame]
theorem mY.make{k:Nat}{A:Around}(r:mY (k+1) A)(C:Addr)(us:List Value)(kw:List (Str×Value)):mY k (A.under (.builtin "type.__call__" ⟨.ref C::us,kw⟩)) :=
  ⟨r.hd,by have:=r.dp;rw[Mu];omega,by have:=r.un;rw[Mv];omega⟩
theorem mY.depth{k:Nat}{A:Around}(r:mY k A):A.depth<recursionLimit:=by have:=r.dp;omega
theorem mY.units{k:Nat}{A:Around}(r:mY k A):A.units+64<cLine:=by have:=r.un;omega
def PL:TA:=λ_ H Q=>Q [] H
def rz(ta:TE)(tr:TA):TA:=λσ H Q=>ta σ H λx H1=>tr σ H1 λxs H2=>Q (x::xs) H2
section
variable{X:Cx}{e:Expr}{es:List Expr}{te:TE}{t:TA}{pos:Pos}
theorem ao:PA X [] PL:=λ_ _ _ _ H Q I h=>agw ⟨[],H,I,.nil,h⟩
theorem ae(ha:PE X e te)(hr:PA X es t)(hs:starEach (e::es) X.env=(false,eval e X.env)::starEach es X.env:=by rfl):PA X (e::es) (rz te t):=by
  intro pos pins s σ H Q I h;rw[hs];show wpAny _ _ (spliced ((false,eval e X.env)::backTo pos (starEach es X.env))) _ _ s;refine agu (thn (ha pins s σ H _ I h) λu s1 ⟨x,H1,I1,r1,q1⟩=>?_);exact thn (hr pos pins s1 σ H1 _ I1 q1) λus s2 ⟨xs,H2,I2,r2,q2⟩=>⟨x::xs,H2,I2,.cons r1 r2,q2⟩
def Vq(t:TA):TE:=λσ H Q=>t σ H λxs H1=>xs.length≤sizeLine∧∀ p,H1 p=none→Q (.ref p) (upd H1 p (.tup xs))
def acK(t:TA):TE:=λσ H Q=>t σ H λxs H1=>xs.length≤sizeLine∧∀ p,H1 p=none→Q (.ref p) (upd H1 p (.lst xs))
theorem g9{x1}(h:PA X es t):PE X (.Tuple es x1 pos) (Vq t):=by
  intro pins s σ H Q I hq;refine wpAny_Tuple_spliced (thn (h pos pins s σ H _ I hq) λus s1 ⟨xs,H1,I1,r,z,q⟩=>⟨by rw[←r.length];exact z,?_⟩);have hf:H1 s1.heap.objs.size=none:=I1.hok.fresh (ae1 _);refine⟨.ref s1.heap.objs.size,upd H1 s1.heap.objs.size (.tup xs),I1.laid (t':=s1.toks) (λb u e=>ae0 _ e) (ae1 _) ?_,rfl,q _ hf⟩;exact⟨z,us,r,⟨_,aft _ rfl,rfl,_,rfl⟩⟩
theorem j4(h:PA X es t):PE X (.List es pos) (acK t):=by
  intro pins s σ H Q I hq;refine wpAny_List_spliced (thn (h pos pins s σ H _ I hq) λus s1 ⟨xs,H1,I1,r,z,q⟩=>⟨by rw[←r.length];exact z,?_⟩);have hf:H1 s1.heap.objs.size=none:=I1.hok.fresh (ae1 _);refine⟨.ref s1.heap.objs.size,upd H1 s1.heap.objs.size (.lst xs),I1.laid (t':=s1.toks) (λb u e=>ae0 _ e) (ae1 _) ?_,rfl,q _ hf⟩;exact⟨z,us,0,r,aft _ rfl⟩
end
abbrev Sp:=List V→Hp→VK→XK→Prop
abbrev CXT:=List Env→Hp→Shared→XK→Value→Shared→Prop
structure Mw(P:Program)(w:World)(K:W.Frag)(mg:Str→Option Value)(base:Heap)(A:Around)(outer:List Env)(s:Shared)(H:Hp):Prop where
  frames:A.frames=some outer
  mod:Mod K mg base
  bs:∀ b o,base.get? b=some o→s.heap.get? b=some o∧H b=none
  bsz:base.objs.size≤s.heap.objs.size
  Bv:s.heap.FunFrames base outer
  frf:∀ b∈frs outer,H b=none
  hok:HOk P w H s.heap
  bare:AllBare s.gens
def CE(outer:List Env)(P:Program)(w:World)(H:Hp)(s:Shared)(Q:VK)(u:Value)(s':Shared):Prop :=
  ∃ v H',s'.os=s.os∧AllBare s'.gens∧Un (frs outer) [] H H' s.heap s'.heap∧HOk P w H' s'.heap∧RelV v u∧Q v H'
def CR(CX:CXT)(outer:List Env)(P:Program)(w:World)(H:Hp)(s:Shared)(Q:VK)(E:XK)(r:Result)(s':Shared):Prop :=
  match r with
  | .ok (.ret u)=>CE outer P w H s Q u s'
  | .ok _=>False
  | .error e=>CX outer H s E e s'
structure Bw(P:Program)(w:World)(K:W.Frag)(mg:Str→Option Value)(base:Heap)(CX:CXT)(k:Nat)(f:Addr)(fd:FuncData)(ps:List Str)(sp:Sp):Prop where
  len:∀ vs H Q E,sp vs H Q E→vs.length=ps.length
  run:∀(A:Around) (outer:List Env) (s:Shared) (H:Hp) (args:Args) (us:List Value) (vs:List V) (Q:VK) (E:XK),mY k A→Mw P w K mg base A outer s H→BindsTo s fd args (ps.zip us)→Vals vs us→sp vs H Q E →
    codeAny (model P w) A (.call (.ref f) args) (CR CX outer P w H s Q E) s
theorem Mw.make{P:Program}{w:World}{K:W.Frag}{mg:Str→Option Value}{base:Heap}{A:Around}{outer:List Env}{s:Shared}{H:Hp}(e:Mw P w K mg base A outer s H)(C:Addr)(us:List Value)(kw:List (Str×Value)) :
    Mw P w K mg base (A.under (.builtin "type.__call__" ⟨.ref C::us,kw⟩)) outer s H:=⟨by first|exact e.frames|(simpa[Around.under,Code.envs,Code.isFrame,pushEnvs] using e.frames),e.mod,e.bs,e.bsz,e.Bv,e.frf,e.hok,e.bare⟩
section
variable{X:Cx}{pins:List (Addr×Obj)}{σ:St}{H:Hp}{s s':Shared}
theorem Inv.Vr(I:Inv X pins σ H s):Mw X.prog X.w X.K X.mg X.base X.A X.stack s H :=
  ⟨I.ok.frames,I.ok.mod,I.bs,afe I.ok.bsz I.sz,I.stack,I.vJ,I.hok,I.bare⟩
theorem Inv.after{Q:VK}{u:Value}(I:Inv X pins σ H s)(h:CE X.stack X.prog X.w H s Q u s'):EP X pins σ Q u s':=by
  obtain⟨v,H',os,bare,un,hok,r,q⟩:=h;obtain⟨hh,g,d,t,os'⟩:=s';obtain rfl:os'=s.os:=os;exact⟨v,H',I.call (h':=hh) (g':=g) (d':=d) (t':=t) (ch:=[]) un hok bare (λb z=>absurd z (by simp)),r,q⟩
end
def Vs(C:Addr)(sp:Sp)(dvs:List V)(E:XK)(t:TA):TE:=λσ H Q=>t σ H λvs H1=>∀ x dx,H1 x=none→H1 dx=none→dx≠x →
  sp (.ref x::(vs++dvs)) (upd (upd H1 dx (.own x)) x (.ins C dx [])) (λv H2=>v=.non∧Q (.ref x) H2) E
def Binds(K:W.Frag)(fd:FuncData)(ps:List Str)(ds:List Value):Prop :=
  ∀(s:Shared) (us:List Value),K.In s.heap→(us++ds).length=ps.length→BindsTo s fd ⟨us,[]⟩ (ps.zip (us++ds))
theorem Binds.all{K:W.Frag}{fd:FuncData}{ps:List Str}(h:∀ us:List Value,us.length=ps.length→bindArgs fd ⟨us,[]⟩=pure (ps.zip us)):Binds K fd ps []:=λs us _ hl=>by
  rw[afF]at hl ⊢;exact .of_eq (h us hl)
def Passes(CX:CXT)(X:Cx)(E:XK):Prop:=∀(pins:List (Addr×Obj)) (σ:St) (H:Hp) (s:Shared) (e:Value) (s':Shared),Inv X pins σ H s→CX X.stack H s E e s'→X.xe e s'
section
variable{X:Cx}{CX:CXT}{k:Nat}{f C:Addr}{fd:FuncData}{ps:List Str}{sp:Sp}{dvs:List V}{ds:List Value}{E:XK}{x m:Str}{p pos apos:Pos}{e o:Expr}{es:List Expr}{ta:TE}{t:TA}
structure Mk(K:W.Frag)(C f:Addr):Prop where
  makes:PySem.W.makesIn K C=true
  init:PySem.W.findIn K (.ref C) "__init__" = some (some (.ref f))
  fn:PySem.W.isFn K (.ref f)=true
  kp:PySem.W.keepIn K (.ref C)=true
theorem LA{pins:List (Addr×Obj)}{σ:St}{H:Hp}{s:Shared}{Q:VK}{us:List Value}{vs:List V}(M:Mk X.K C f)(F:Bw X.prog X.w X.K X.mg X.base CX k f fd ps sp)(hr:mY (k+1) X.A)(hb:Binds X.K fd ps ds)(hd:Vals dvs ds)
    (hx:Passes CX X E) (I:Inv X pins σ H s) (r:Vals vs us)
    (h:∀ x dx,H x=none→H dx=none→dx≠x→sp (.ref x::(vs++dvs)) (upd (upd H dx (.own x)) x (.ins C dx [])) (λv H2=>v=.non∧Q (.ref x) H2) E) :
    wpAny (model X.prog X.w) X.A (call (.ref C) us) (EP X pins σ Q) X.xe s:=by
  have hq:=h (s.heap.objs.size+1) s.heap.objs.size (I.hok.fresh (aga _)) (I.hok.fresh (ae1 _)) (afc (agz _));have I2:=Inv.made (C:=C) I;have r2:Vals (V.ref (s.heap.objs.size+1)::(vs++dvs)) (Value.ref (s.heap.objs.size+1)::(us++ds)):=.cons rfl (r.append hd);have hl:(Value.ref (s.heap.objs.size+1)::us++ds).length=ps.length:=by
    have e:=r2.length;rw[F.len _ _ _ _ hq]at e;exact e.symm
  refine wpAny_call (Qf (f:=f) I.kIn M.makes M.init (beq_iff_eq.mp M.fn) (codeAny_mono (F.run _ X.stack _ _ ⟨Value.ref (s.heap.objs.size+1)::us,[]⟩ (Value.ref (s.heap.objs.size+1)::(us++ds)) _ _ E (hr.make C us [])
    (I2.Vr.make C us []) (hb _ (Value.ref (s.heap.objs.size+1)::us) I2.kIn hl) r2 hq) λr s' hq'=>?_))
  cases r with
  | error e=>exact hx pins σ _ _ e s' I2 hq'
  | ok fl =>
    cases fl with
    | ret u =>
      obtain⟨v,H',I3,rv,ev,q3⟩:=I2.after hq';subst ev;exact⟨rv,⟨V.ref (s.heap.objs.size+1),H',I3,rfl,q3⟩⟩
    | next=>exact False.elim hq'
    | brk=>exact False.elim hq'
    | cont=>exact False.elim hq'
theorem RY(M:Mk X.K C f)(F:Bw X.prog X.w X.K X.mg X.base CX k f fd ps sp)(hr:mY (k+1) X.A)(hg:Gl X x)(hm:X.mg x=some (.ref C))(hb:Binds X.K fd ps ds)(hd:Vals dvs ds)(hx:Passes CX X E)
    (ha:PA X (e::es) t) (hdb:(x == ("__debug__" : Str))=false:=by decide) (he:starEach (e::es) X.env=(false,eval e X.env)::starEach es X.env:=by rfl) (hpl:(backTo pos (starEach es X.env)).any (·.1)=false:=by rfl) :
    PE X (.Call (.Name x p) (e::es) [] pos) (Vs C sp dvs E t):=by
  intro pins s σ H Q I h;refine wpAny_Call_Name_kw (sM I hg hm ?_ hdb);refine PySem.W.callWith_K (h₀:=X.base) I.ok.mod.kin M.kp (thn (ha pos pins s σ H _ I h) λus s1 ⟨vs,H1,I1,r,q⟩=>⟨I1.kIn,?_⟩) he hpl;exact LA M F hr hb hd hx I1 r q
theorem Gi(M:Mk X.K C f)(F:Bw X.prog X.w X.K X.mg X.base CX k f fd ps sp)(hr:mY (k+1) X.A)(hg:Gl X x)(hm:X.mg x=some (.ref C))(hb:Binds X.K fd ps ds)(hd:Vals dvs ds)(hx:Passes CX X E)
    (hdb:(x == ("__debug__" : Str))=false:=by decide):PE X (.Call (.Name x p) [] [] pos) (Vs C sp dvs E PL):=by
  intro pins s σ H Q I h;refine wpAny_Call_Name_kw (sM I hg hm ?_ hdb);exact PySem.W.callWith_K0 I.kIn M.kp (LA (us:=[]) M F hr hb hd hx I .nil h)
end
section
variable{X:Cx}{CX:CXT}{k:Nat}{f C:Addr}{fd:FuncData}{ps ks:List Str}{sp:Sp}{E:XK}{x m:Str}{p pos apos aeU:Pos}{e o:Expr}{es:List Expr}{kws:List Keyword}{te ta:TE}{t tk:TA}{nm:Option Str}
variable{g:List Value→List Value→List Value}{gV:List V→List V→List V}
end
structure av(N P:List Str)(sc:Scope):Prop where
  kind:sc.kind=.function
  co:sc.isCoroutine=false
  gen:sc.isGenerator=false
  nd:N.Nodup
  pre:N.take P.length=P
  par:∀ x∈P,sc.names.lookup x=some .local∨sc.names.lookup x=some .cell
  Yx:∀ y∈sc.names,y.2≠.free
theorem HG{kindOf:Str→Option NameKind}{x:Str}:∀ {binds:List (Str×Value)} {m:Str→Option Value},(∀ v,(x,v)∉binds)→bindL kindOf binds m x=m x
  | [],_,_=>rfl
  | (n,v)::r,m,h=>by
    unfold bindL;rw[HG λw hw=>h w (afn _ hw)];split
    · have:x≠n:=by rintro rfl;exact h v afg
      simp[this]
    · rfl
theorem HH{kindOf:Str→Option NameKind}{x:Str}:∀ {binds:List (Str×Value)} {m:Str→Option Value},(∀ v,(x,v)∉binds)→bindC kindOf binds m x=m x
  | [],_,_=>rfl
  | (n,v)::r,m,h=>by
    unfold bindC;rw[HH λw hw=>h w (afn _ hw)];split
    · rfl
    · have:x≠n:=by rintro rfl;exact h v afg
      simp[this]
theorem HI{kindOf:Str→Option NameKind}{x:Str}{v:Value}:∀ {P:List Str} {vs:List Value} {i:Nat} {m:Str→Option Value},P.Nodup→P[i]?=some x→vs[i]?=some v→kindOf x=some .local →
    bindL kindOf (P.zip vs) m x=some v
  | [],_,_,_,_,h,_,_=>by simp at h
  | _::_,[],_,_,_,_,h,_=>by simp at h
  | p::P,w::vs,0,m,nd,h1,h2,hk=>by
    simp at h1 h2;subst h1;subst h2;show bindL kindOf ((p,w)::P.zip vs) m p=_;unfold bindL;rw[HG λv hv=>(afU.mp nd).1 (agq hv).1,if_pos hk];simp
  | p::P,w::vs,i+1,m,nd,h1,h2,hk=>by
    show bindL kindOf ((p,w)::P.zip vs) m x=_;unfold bindL;exact HI (i:=i) (afU.mp nd).2 (by simpa using h1) (by simpa using h2) hk
theorem HJ{kindOf:Str→Option NameKind}{x:Str}{v:Value}:∀ {P:List Str} {vs:List Value} {i:Nat} {m:Str→Option Value},P.Nodup→P[i]?=some x→vs[i]?=some v→kindOf x≠some .local →
    bindC kindOf (P.zip vs) m x=some v
  | [],_,_,_,_,h,_,_=>by simp at h
  | _::_,[],_,_,_,_,h,_=>by simp at h
  | p::P,w::vs,0,m,nd,h1,h2,hk=>by
    simp at h1 h2;subst h1;subst h2;show bindC kindOf ((p,w)::P.zip vs) m p=_;unfold bindC;rw[HH λv hv=>(afU.mp nd).1 (agq hv).1,if_neg hk];simp
  | p::P,w::vs,i+1,m,nd,h1,h2,hk=>by
    show bindC kindOf ((p,w)::P.zip vs) m x=_;unfold bindC;exact HJ (i:=i) (afU.mp nd).2 (by simpa using h1) (by simpa using h2) hk
def start(N:List Str)(vs:List V):St:=vs.map some++List.replicate (N.length-vs.length) none
def PM(CX:CXT)(P:Program)(w:World)(K:W.Frag)(mg:Str→Option Value)(base:Heap)(N:List Str)(qual:Str)(scope:Scope)(f:Addr)(cd:Value)(A:Around)(outer:List Env)(s:Shared)(H:Hp)(E:XK):Cx where
  prog:=P
  w:=w
  K:=K
  mg:=mg
  base:=base
  A:=A.deeper (envOfC qual scope s.heap.objs.size f cd)
  N:=N
  s₀:=s
  H₀:=H
  env:=envOfC qual scope s.heap.objs.size f cd
  outer:=outer
  stack:=envOfC qual scope s.heap.objs.size f cd::outer
  ex:=[]
  calm:=true
  fn:=λ_=>true
  pn:=[]
  xe:=λe s'=>wpAny (model P w) (A.deeper (envOfC qual scope s.heap.objs.size f cd)) (leaving (envOfC qual scope s.heap.objs.size f cd) e) (λ_ s''=>CX outer H s E e s'') (λe' s''=>CX outer H s E e' s'') s'
theorem LB{sc:Scope}{n:Nat}{x:Str}(h:sc.names.lookup x=some .cell):∃ c,(cellsFrom n sc.names []).lookup x=some c:=by
  have q:=PySem.W.cellsFrom_some sc.names n [] (.inl h);exact Option.isSome_iff_exists.mp q
theorem HK{CX:CXT}{P:Program}{w:World}{K:W.Frag}{mg:Str→Option Value}{base:Heap}{N ps:List Str}{qual:Str}{scope:Scope}{f:Addr}{cd:Value}{A:Around}{outer:List Env}{s s1:Shared}{H:Hp}{E:XK}{us:List Value}{vs:List V}
    (S:av N ps scope) (hd:A.handled=none) (e0:Mw P w K mg base A outer s H) (hl:vs.length=ps.length) (r:Vals vs us)
    (x:InCallC s s.heap.objs.size (bindL (envOfC qual scope s.heap.objs.size f cd).kindOf (ps.zip us) λ_=>none) (cellsFrom (s.heap.objs.size+1) scope.names []) (bindC (envOfC qual scope s.heap.objs.size f cd).kindOf (ps.zip us) λ_=>none) s1) :
    Inv (PM CX P w K mg base N qual scope f cd A outer s H E) [] (start N vs) H s1:=by
  have hpl:ps.length≤N.length:=by have:=congrArg List.length S.pre;rw[afm]at this;omega
  obtain⟨h1,tk,rfl,hk⟩:=x.done;have noA:∀ b:Addr,b∉(PM CX P w K mg base N qual scope f cd A outer s H E).ex:=λb z=>absurd (show b∈([]:List Addr) from z) (by simp);refine⟨⟨e0.mod,S.kind,rfl,rfl,ae1 _,λy z c h1 h2=>?_,λy hy=>?_,λy c _ h=>?_,λ_=>hd,Around.frames_deeper e0.frames,.inr ⟨rfl,rfl⟩,λb z=>absurd z (noA b),e0.bs,e0.bsz,λb _ _=>noA b,λb z=>absurd z (noA b),e0.Bv,e0.frf⟩,
    rfl,e0.bare,Un.kept hk,⟨_,x.toInCall.ns,λi y v h1 h2 h3=>?_⟩,λy c h=>⟨_,x.cell y c h⟩,e0.hok.fresh (ae1 _),λy c h=>?_,λp hp=>absurd (show p∈([]:List (Addr×Obj)) from hp) (by simp),e0.hok.kept hk,?_⟩
  · exact name_of_addr x.apart (afx h1) (afx h2)
  · have hy:scope.names.lookup y=some .cell∨scope.names.lookup y=some .free:=hy
    rcases hy with hy|hy
    · exact LB hy
    · exact absurd rfl (S.Yx _ (afx hy))
  · exact agt (x.above y c (afx h))
  · have hi:i<vs.length:=by
      unfold start at h2;by_cases hi:i<vs.length
      · exact hi
      · rw[afr (by simpa using hi)]at h2
        rw[List.getElem?_replicate]at h2;split at h2<;>cases h2
    have ha:vs[i]?=some v:=by
      unfold start at h2;rw[afy (by simpa using hi),ae6]at h2;cases e:vs[i]? with
      | none=>rw[e]at h2;cases h2
      | some a=>rw[e]at h2;cases h2;rfl
    obtain⟨u,hu,rv⟩:=r.get ha;have hp:ps[i]?=some y:=by
      rw[←S.pre,List.getElem?_take_of_lt (by omega)];exact h1
    have ndP:ps.Nodup:=(by rw[←S.pre];exact S.nd.sublist (List.take_sublist _ _));refine⟨u,rv,?_⟩;rcases S.par y (ae7 hp) with k|k
    · exact .inl ⟨k,HI ndP hp hu k⟩
    · obtain⟨c,e⟩:=LB (n:=s.heap.objs.size+1) k
      refine .inr ⟨.inl k,c,e,?_⟩;have q:=x.cell y c e;rw[HJ ndP hp hu (by show scope.names.lookup y≠_;rw[k];decide)]at q;exact q
  · exact e0.hok.fresh (agt (x.above y c (afx h)))
  · unfold start
    show _=N.length;rw[ae3,aeV,List.length_replicate];omega
theorem abT{CX:CXT}{P:Program}{w:World}{K:W.Frag}{mg:Str→Option Value}{base:Heap}{k:Nat}{f:Addr}{name qual:Str}{params:Arguments}{body:List Stmt}{scope:Scope}{dV kV doc pm cdv ct oc:Value}{an od:Option Addr}
    {osl:Array (Option Value)} {N ps:List Str} {sp:Sp} (lk:K.lookup f=some ⟨oc,od,.func (PySem.W.fnOf name qual params body scope dV kV doc pm an cdv ct),osl⟩) (hcd:PySem.W.codeIn K cdv qual=true) (S:av N ps scope)
    (len:∀ vs H Q E,sp vs H Q E→vs.length=ps.length)
    (Hq:∀(A:Around) (outer:List Env) (s:Shared) (H:Hp) (vs:List V) (Q:VK) (E:XK),mY k (A.deeper (envOfC qual scope s.heap.objs.size f cdv))→sp vs H Q E →
      ∃ t,PSs (PM CX P w K mg base N qual scope f cdv A outer s H E) body t∧t {nx:=λ_ H'=>Q .non H',rt:=Q} (start N vs) H) :
    Bw P w K mg base CX (k+1) f (PySem.W.fnOf name qual params body scope dV kV doc pm an cdv ct) ps sp:=by
  refine⟨len,λA outer s H args us vs Q E hr e0 hb r hsp=>?_⟩;have hl:=len _ _ _ _ hsp;have KX:K.In s.heap:=e0.mod.kin.keeps λb o e=>(e0.bs b o e).1;have lim:s.heap.NoLimit:=e0.mod.nolimit.keeps λb o e=>(e0.bs b o e).1;have Ry:∀ y∈ps.zip us,scope.names.lookup y.1=some .local∨(scope.names.lookup y.1=some .cell∧((cellsFrom (s.heap.objs.size+1) scope.names []).lookup y.1).isSome=true):=λ⟨n,v⟩ hy=>by
    rcases S.par n (agq hy).1 with q|q
    · exact .inl q
    · exact .inr ⟨q,PySem.W.cellsFrom_some _ _ _ (.inl q)⟩
  refine codeAny_call_function hr.depth (KX _ _ lk) rfl S.co S.gen rfl (PySem.W.codeRec_of KX hcd) (hb _ _ _ _ ?_);refine wpAny_newFunctionEnv_cells S.kind Ry λenv he s1 x=>?_;subst he;refine⟨lim.keeps x.toInCall.keep,codeAny_func ?_⟩;obtain⟨t,ht,hq⟩:=Hq A outer s H vs Q E (hr.deeper _) hsp;have I:Inv (PM CX P w K mg base N qual scope f cdv A outer s H E) [] (start N vs) H s1:=HK S hr.hd e0 hl r x;refine wpAny_mono (ht [] s1 (start N vs) H _ I hq) (λfl s' hs=>?_) λe s' hs=>hs;have fin:∀ {σ':St} {H':Hp} {v:V} {u:Value},Inv (PM CX P w K mg base N qual scope f cdv A outer s H E) [] σ' H' s'→RelV v u→Q v H'→CE outer P w H s Q u s' :=
    λ{σ' H' v u} J rv q=>⟨v,H',J.os,J.bare,J.base,J.hok,rv,q⟩
  cases fl with
  | ret u =>
    obtain⟨v,σ',H',J,rv,q⟩:=hs;exact fin J rv q
  | next =>
    obtain⟨σ',H',J,q⟩:=hs;exact fin (v:=V.non) (u:=Value.none) J rfl q
  | brk =>
    obtain⟨_,_,_,q⟩:=hs;exact False.elim q
  | cont =>
    obtain⟨_,_,_,q⟩:=hs;exact False.elim q
end L2
namespace L2
open PySem PySem.Spec PyProof.Rows
section
variable{X:Cx}{x:Str}{p pos:Pos}{e:Expr}{es:List Expr}{t:TA}{id T:String}{r:List V→Hp→VK→Prop}
def tCB(r:List V→Hp→VK→Prop)(t:TA):TE:=λσ H Q=>t σ H λvs H1=>r vs H1 Q
theorem gK(hc:vF X (.builtin id) r)(hg:Gl X x)(hm:X.mg x=none)(hv:bootBuiltins x=some (.builtin id))(ha:PA X (e::es) t)(hn:x ≠ "__name__" := by decide)(hdb:(x == ("__debug__" : Str))=false:=by decide)
    (he:starEach (e::es) X.env=(false,eval e X.env)::starEach es X.env:=by rfl) (hpl:(backTo pos (starEach es X.env)).any (·.1)=false:=by rfl):PE X (.Call (.Name x p) (e::es) [] pos) (tCB r t):=by
  intro pins s σ H Q I h;refine wpAny_Call_Name_kw (Gy I hg hm hv ?_ hn hdb);exact PyProof.Rows.callWith_builtin1 (thn (ha pos pins s σ H _ I h) λus s1 ⟨vs,H1,I1,r1,q1⟩=>hc pins s1 σ H1 vs us Q I1 r1 q1) he hpl
theorem lV(hc:vF X (.type T) r)(hg:Gl X x)(hm:X.mg x=none)(hv:bootBuiltins x=some (.type T))(ha:PA X (e::es) t)(hn:x ≠ "__name__" := by decide)(hdb:(x == ("__debug__" : Str))=false:=by decide)
    (he:starEach (e::es) X.env=(false,eval e X.env)::starEach es X.env:=by rfl) (hpl:(backTo pos (starEach es X.env)).any (·.1)=false:=by rfl):PE X (.Call (.Name x p) (e::es) [] pos) (tCB r t):=by
  intro pins s σ H Q I h;refine wpAny_Call_Name_kw (Gy I hg hm hv ?_ hn hdb);exact PyProof.Rows.callWith_type1 (thn (ha pos pins s σ H _ I h) λus s1 ⟨vs,H1,I1,r1,q1⟩=>hc pins s1 σ H1 vs us Q I1 r1 q1) he hpl
end
end L2
namespace HT
open PySem PyProof.Rows
section
open PySem.SeqAt
open PySem.AutoSeq1 (wpAny_loadPart')
open PySem.MeetsSeq PySem.MeetsSeq2 PySem.MeetsSeq3
end
section
variable{prog:Program}{w:World}{A:Around}{E:Value→Shared→Prop}{s:Shared}
def sIx(n d:Nat):Option Int→Nat
  | none=>d
  | some v=>if v<0 then(v+(n:Int)).toNat else min v.toNat n
end
end HT
namespace L2
open PySem PySem.Spec PyProof.Rows
abbrev TO:=St→Hp→(Option Int→Hp→Prop)→Prop
def PO(X:Cx)(e:Option Expr)(t:TO):Prop :=
  ∀(pins:List (Addr×Obj)) (s:Shared) (σ:St) (H:Hp) (Q:Option Int→Hp→Prop),Inv X pins σ H s→t σ H Q →
    wpAny (model X.prog X.w) X.A (evalPart e X.env) (λu s'=>∃ o H',Inv X pins σ H' s'∧IsPart u o∧Q o H') X.xe s
def RZ:TO:=λ_ H Q=>Q none H
def abU(t:TE):TO:=λσ H Q=>t σ H λx H1=>∃ i,x=.int i∧Q (some i) H1
theorem intsAre_of{ns:List Int}:∀ {us:List Value},Vals (ns.map V.int) us→IntsAre us ns:=by
  induction ns with
  | nil=>intro us r;rw[agg]at r;cases r;exact .nil
  | cons n ns ih =>
    intro us r;rw[afq]at r;cases r with
    | cons r1 r2 =>
      obtain⟨t,e⟩:=r1;subst e;exact .cons n t (ih r2)
section
variable{X:Cx}{e:Expr}{te:TE}{lo hi:Option Expr}{tl th:TO}{pos p2:Pos}
theorem NU:PO X none RZ:=by
  intro pins s σ H Q I h;rw[evalPart_none];exact wpAny_pure ⟨none,H,I,.none,h⟩
theorem NV(h:PE X e te):PO X (some e) (abU te):=by
  intro pins s σ H Q I hw;rw[evalPart_some];refine thn (h pins s σ H _ I hw) λu s1 ⟨x,H1,I1,r1,q1⟩=>?_;obtain⟨i,rfl,q⟩:=q1;obtain⟨t,rfl⟩:=r1;exact⟨some i,H1,I1,.int i t,q⟩
def SlR(X:Cx)(r:V→Option Int→Option Int→Hp→VK→Prop):Prop :=
  ∀(pins:List (Addr×Obj)) (s:Shared) (σ:St) (H:Hp) (x:V) (v vl vu:Value) (lo hi:Option Int) (sl:Addr) (Q:VK),Inv X pins σ H s→RelV x v→s.heap.IsSliceOf sl vl vu .none→IsPart vl lo→IsPart vu hi→r x lo hi H Q →
    ∃ T id,typeLookup (.type T) "__getitem__" = pure (some (.builtin id))∧s.TypeIs v T∧wpAny (model X.prog X.w) X.A (getItem v (.ref sl)) (EP X pins σ Q) X.xe s
def tSl(r:V→Option Int→Option Int→Hp→VK→Prop)(te:TE)(tl th:TO):TE:=λσ H Q=>te σ H λx H1=>tl σ H1 λl H2=>th σ H2 λu H3=>r x l u H3 Q
theorem LC{r:V→Option Int→Option Int→Hp→VK→Prop}(hr:SlR X r)(he:PE X e te)(hl:PO X lo tl)(hu:PO X hi th):PE X (.Subscript e (.Slice lo hi none p2) pos) (tSl r te tl th):=by
  intro pins s σ H Q I h;refine Subscript_ (thn (he pins s σ H _ I h) λv s1 ⟨x,H1,I1,r1,q1⟩=>?_);refine wpAny_Slice (thn (hl pins s1 σ H1 _ I1 q1) λvl s2 ⟨l,H2,I2,pl,q2⟩=>thn (hu pins s2 σ H2 _ I2 q2) λvu s3 ⟨u,H3,I3,pu,q3⟩=>?_);rw[evalPart_none];refine wpAny_pure ?_;have I4:Inv X pins σ H3 {s3 with heap:=s3.heap.push {cls:=.type "slice",data:=.fields #[vl,vu,.none]}}:=I3.kept (t':=s3.toks) λb ob q=>ae0 _ q;obtain⟨T,id,hT,ht,hg⟩:=hr pins {s3 with heap:=s3.heap.push {cls:=.type "slice",data:=.fields #[vl,vu,.none]}} σ H3 x v vl vu l u s3.heap.objs.size Q I4 r1 (Heap.IsSliceOf.new ..) pl pu q3;show wpAny (model X.prog X.w) X.A (subscriptTail e (.Slice lo hi none p2) v (.ref s3.heap.objs.size)) (EP X pins σ Q) X.xe {s3 with heap:=s3.heap.push {cls:=.type "slice",data:=.fields #[vl,vu,.none]}};exact tail_any (ops:=[.ref s3.heap.objs.size,v]) ht hT hg (by with_unfolding_all rfl)
def PN(xs:List V)(lo hi:Option Int):List V:=(xs.drop (HT.sIx xs.length 0 lo)).take (HT.sIx xs.length xs.length hi-HT.sIx xs.length 0 lo)
theorem Kn(xs:List V)(lo hi:Option Int):(PN xs lo hi).length≤xs.length:=by
  unfold PN;rw[afm,List.length_drop];omega
end
end L2
namespace L2
open PySem PySem.Spec PyProof.Rows
def ixN(n:Nat)(i:Int):Option Nat:=if 0≤i then(if i<n then some i.toNat else none) else if -(n:Int)≤i then some (i+n).toNat else none
def atI{α:Type}(xs:List α)(i:Int):Option α:=(ixN xs.length i).bind λj=>xs[j]?
theorem NW{n:Nat}{i:Int}{j:Nat}(h:ixN n i=some j):seqIndex? i n=some j∧j<n∧-(n:Int)≤i∧i<n:=by
  unfold ixN at h;by_cases h0:0≤i
  · rw[if_pos h0]at h
    by_cases h1:i<n
    · rw[if_pos h1]at h
      have e:i.toNat=j:=afo h;exact⟨by rw[seqIndex_of h0 h1,e],by omega,by omega,h1⟩
    · rw[if_neg h1]at h;cases h
  · rw[if_neg h0]at h
    by_cases h1:-(n:Int)≤i
    · rw[if_pos h1]at h
      have e:(i+n).toNat=j:=afo h;exact⟨by rw[seqIndex_neg (by omega) h1,e],by omega,h1,by omega⟩
    · rw[if_neg h1]at h;cases h
theorem NX{α:Type}{xs:List α}{i:Int}{v:α}(h:atI xs i=some v):∃ j,seqIndex? i xs.length=some j∧xs[j]?=some v∧j<xs.length∧-(xs.length:Int)≤i∧i<xs.length:=by
  unfold atI at h;cases e:ixN xs.length i with
  | none=>rw[e]at h;cases h
  | some j =>
    rw[e]at h;obtain⟨h1,h2,h3,h4⟩:=NW e;exact⟨j,h1,h,h2,h3,h4⟩
theorem Bx{α:Type}{xs:List α}{j:Nat}{v:α}(h:xs[j]?=some v):atI xs (j:Int)=some v:=by
  have hj:j<xs.length:=(aeY.mp h).1;have e:ixN xs.length (j:Int)=some j:=by
    unfold ixN;rw[if_pos (by omega),if_pos (by omega)];simp
  unfold atI;rw[e];exact h
def R0(b:Expr):Prop:=∀ o i,subscripted b false o i=operate [o,i] (getItem o i)
def IxR(X:Cx)(r:R2):Prop :=
  ∀(value slice:Expr) (pins:List (Addr×Obj)) (s:Shared) (σ:St) (H:Hp) (x y:V) (v u:Value) (Q:VK),Inv X pins σ H s→RelV x v→RelV y u→r x y H Q →
    subscripted slice false v u=operate [v,u] (getItem v u)→wpAny (model X.prog X.w) X.A (subscriptTail value slice v u) (EP X pins σ Q) X.xe s
def MtR(X:Cx)(id:String)(r:V→List V→Hp→VK→Prop):Prop :=
  ∀(pins:List (Addr×Obj)) (s:Shared) (σ:St) (H:Hp) (x:V) (xs:List V) (v:Value) (us:List Value) (Q:VK),Inv X pins σ H s→RelV x v→Vals xs us→r x xs H Q →
    wpAny (model X.prog X.w) X.A (call (.builtin id) (v::us)) (EP X pins σ Q) X.xe s
section
variable{X:Cx}{a b:Expr}{ta tb:TE}{pos:Pos}
theorem b9{r:R2}(hr:IxR X r)(ha:PE X a ta)(hb:PE X b tb)(hs:R0 b):PE X (.Subscript a b pos) (tOp r ta tb):=by
  intro pins s σ H Q I h;exact Subscript_ (Zi ha hb I h λv u s2 x y H2 I2 rx ry q=>hr a b pins s2 σ H2 x y v u Q I2 rx ry q (hs _ _))
def adW(K:W.Frag):R2:=λx y H Q=>∃ p xs i v,x=.ref p∧y=.int i∧SqL K H p xs∧atI xs i=some v∧Q v H
def Zk(K:W.Frag):R2:=λx y H Q=>∃ p xs i v,x=.ref p∧y=.int i∧SqT K H p xs∧atI xs i=some v∧Q v H
theorem gj:IxR X (adW X.K):=by
  intro value slice pins s σ H x y v u Q I rx ry h hs;obtain⟨p,xs,i,z,rfl,rfl,hq,he,q⟩:=h;cases rx;obtain⟨t,rfl⟩:=ry;obtain⟨its,r,pl,hz⟩:=I.list hq;obtain⟨j,h1,h2,h3,h4,h5⟩:=NX he;obtain⟨w,ew,rw'⟩:=r.get h2;have hl:=r.length;have hn:=GC;have fin:EP X pins σ Q w s:=⟨z,H,I,rw',q⟩;by_cases h0:0≤i
  · have hj:i.toNat=j:=by
      rw[seqIndex_of h0 h5]at h1;exact afo h1
    exact item_listR pl.isList h0 (by omega) (by rw[hj];simpa using ew) fin hs
  · have hj:(i+(its.toArray.size:Int)).toNat=j:=by
      rw[seqIndex_neg (by omega) h4]at h1;rw[ae5,←hl];exact afo h1
    exact subscriptTail_builtinR (x:=w) pl.isList.typeIs slot_list_getitem.lookup
      (wpAny_getItem_list_neg (Q:=λr s'=>r=w∧EP X pins σ Q r s') pl.isList (by omega) (by rw[ae5]<;>omega) (by omega) (by rw[hj];simpa using ew) ⟨rfl,fin⟩) hs
theorem cv:IxR X (Zk X.K):=by
  intro value slice pins s σ H x y v u Q I rx ry h hs;obtain⟨p,xs,i,z,rfl,rfl,hq,he,q⟩:=h;cases rx;obtain⟨t,rfl⟩:=ry;obtain⟨its,r,pl,hz⟩:=I.tuple hq;obtain⟨j,h1,h2,h3,h4,h5⟩:=NX he;obtain⟨w,ew,rw'⟩:=r.get h2;have hl:=r.length;have hn:=GC;have fin:EP X pins σ Q w s:=⟨z,H,I,rw',q⟩;exact subscriptTail_builtinR (x:=w) pl.typeIs slot_tuple_getitem.lookup
    (getItem_tuple (j:=j) (Q:=λr s'=>r=w∧EP X pins σ Q r s') pl (by omega) (by omega) (by rw[ae5,←hl];exact h1) (by simpa using ew) ⟨rfl,fin⟩) hs
theorem Mx(its:List Value)(n j:Nat)(u:Value):Obj.mapSeq (·.setIfInBounds j u) {cls:=.type "list",data:=.seq its.toArray n}={cls:=.type "list",data:=.seq (its.set j u).toArray n}:=by
  simp[Obj.mapSeq]
theorem Inv.lst{pins:List (Addr×Obj)}{σ:St}{H:Hp}{s:Shared}{p:Addr}{xs:List V}(I:Inv X pins σ H s)(h:H p=some (.lst xs)) :
    ∃(its:List Value) (n:Nat),Vals xs its∧s.heap.get? p=some {cls:=.type "list",data:=.seq its.toArray n}∧xs.length≤sizeLine:=by
  obtain⟨z,its,n,r,e⟩:=I.hok p _ h;exact⟨its,n,r,e,z⟩
theorem Inv.Yy{pins:List (Addr×Obj)}{σ:St}{H:Hp}{s:Shared}{p:Addr}{xs ys:List V}{its Gz:List Value}{n n':Nat}{f:Obj→Obj}(I:Inv X pins σ H s)(h:H p=some (.lst xs))
    (ho:s.heap.get? p=some {cls:=.type "list",data:=.seq its.toArray n}) (hf:f {cls:=.type "list",data:=.seq its.toArray n}={cls:=.type "list",data:=.seq Gz.toArray n'}) (r:Vals ys Gz) (hz:ys.length≤sizeLine) (t:Nat) :
    Inv X pins σ (upd H p (.lst ys)) {s with heap:=s.heap.update p f,toks:=t}:=by
  have e:(s.heap.update p f).get? p=some {cls:=.type "list",data:=.seq Gz.toArray n'}:=by
    rw[Heap.get?_update_self f ho (by rw[hf]<;>rfl),hf]
  refine I.write (x:=p) (e:=p) (by rw[h];trivial) (.inl rfl) (λb u hb q=>(afC _ _ (afi hb)).trans q) ⟨_,e⟩ ?_;exact⟨hz,Gz,n',r,e⟩
def abV:V→V→V→Hp→(Hp→Prop)→Prop:=λo i v H Q=>∃ p xs k j,o=.ref p∧i=.int k∧H p=some (.lst xs)∧ixN xs.length k=some j∧Q (upd H p (.lst (xs.set j v)))
theorem set_list:acD X abV:=by
  intro pins s σ H o i v ov iv u Q I ro ri rv h;obtain⟨p,xs,k,j,rfl,rfl,hp,hj,q⟩:=h;cases ro;obtain⟨t,rfl⟩:=ri;obtain⟨its,n,r,ho,hz⟩:=I.lst hp;obtain⟨h1,h2,h3,h4⟩:=NW hj;have hl:=r.length;have hn:=GC;have I':Inv X pins σ (upd H p (.lst (xs.set j v))) {s with heap:=s.heap.update p (Obj.mapSeq (·.setIfInBounds j u))} :=
    I.Yy hp ho (Mx its n j u) (r.set rv j) (by rw[afZ];exact hz) s.toks
  by_cases h0:0≤k
  · have hk:k.toNat=j:=by
      rw[seqIndex_of h0 h4]at h1;exact afo h1
    exact PySem.W.ki_setAt ho h0 (by omega) (by rw[ae5,←hl];exact h4) (by rw[hk];exact⟨_,I',q⟩)
  · have hk:(k+(its.toArray.size:Int)).toNat=j:=by
      rw[seqIndex_neg (by omega) h3]at h1;rw[ae5,←hl];exact afo h1
    exact PySem.W.ki_setBack ho (by omega) (by rw[ae5,←hl];exact h3) (by omega) (by rw[hk];exact⟨_,I',q⟩)
theorem Ig(lo hi:Option Int)(n:Nat):(sliceBounds lo hi none n).1=((HT.sIx n 0 lo:Nat):Int)∧(sliceBounds lo hi none n).2.1=((HT.sIx n n hi:Nat):Int)∧(sliceBounds lo hi none n).2.2=1:=by
  refine⟨?_,?_,rfl⟩
  · cases lo with
    | none=>simp[sliceBounds,HT.sIx]
    | some i =>
      simp only[sliceBounds,HT.sIx,Option.getD_none,show(1:Int)>0 by decide,if_true];by_cases h:i<0
      · simp only[h,if_true]<;>omega
      · simp only[h,if_false]<;>omega
  · cases hi with
    | none=>simp[sliceBounds,HT.sIx]
    | some i =>
      simp only[sliceBounds,HT.sIx,Option.getD_none,show(1:Int)>0 by decide,if_true];by_cases h:i<0
      · simp only[h,if_true]<;>omega
      · simp only[h,if_false]<;>omega
theorem GD(its:List Value)(lo hi:Option Int):slicePick its.toArray lo hi none=((its.drop (HT.sIx its.length 0 lo)).take (HT.sIx its.length its.length hi-HT.sIx its.length 0 lo)).toArray:=by
  obtain⟨h1,h2,h3⟩:=Ig lo hi its.toArray.size;unfold slicePick;rw[h1,h2,h3];simp only[sliceRange_one,pick_run,ae5]<;>rfl
def adX(K:W.Frag):V→Option Int→Option Int→Hp→VK→Prop:=λx lo hi H Q=>∃ a xs,x=.ref a∧SqL K H a xs∧∀ p,H p=none→Q (.ref p) (upd H p (.lst (PN xs lo hi)))
theorem NY:SlR X (adX X.K):=by
  intro pins s σ H x v vl vu lo hi sl Q I rx hs pl pu h;obtain⟨a,xs,rfl,hx,q⟩:=h;cases rx;obtain⟨its,r,ht,hz⟩:=I.list hx;have hlen:=r.length;refine⟨"list",_,slot_list_getitem.lookup,ht.isList.typeIs,?_⟩;refine wpAny_getItem_list_slice ht.isList hs pl pu .none (by simp) ?_ (by rw[ae5]<;>omega);rw[GD,←hlen];refine⟨.ref s.heap.objs.size,_,I.laid (t':=s.toks) (o:=.lst (PN xs lo hi)) (λb ob q=>ae0 _ q) (ae1 _) ?_,rfl,q _ (I.hok.fresh (ae1 _))⟩;exact⟨afe (Kn xs lo hi) hz,_,0,(r.drop (HT.sIx xs.length 0 lo)).take (HT.sIx xs.length xs.length hi-HT.sIx xs.length 0 lo),aft _ rfl⟩
def mF:V→Bool
  | .non=>true
  | .bl _=>true
  | .int _=>true
  | .str _=>true
  | _=>false
def eqV:V→V→Bool
  | .non,.non=>true
  | .bl a,.bl b=>a == b
  | .bl a,.int b=>(if a then 1 else 0) == b
  | .int a,.bl b=>a == (if b then 1 else 0)
  | .int a,.int b=>a == b
  | .str a,.str b=>a == b
  | _,_=>false
theorem Nx{A:Around}{s:Shared}{y x:V}{u v:Value}(ry:RelV y u)(rx:RelV x v)(fy:mF y=true)(fx:mF x=true):SeqAt.EqAt A s u v (eqV y x):=by
  cases y with
  | non =>
    cases ry;cases x with
    | non=>cases rx;exact SeqAt.EqAt.same _
    | bl b=>cases rx;exact SeqAt.EqAt.none_bool b
    | int b=>obtain⟨t,rfl⟩:=rx;exact SeqAt.EqAt.none_int b t
    | str b=>obtain⟨t,rfl⟩:=rx;exact SeqAt.EqAt.none_str b t
    | _=>exact absurd (show false=true from fx) ae2
  | bl a =>
    cases ry;cases x with
    | non=>cases rx;exact SeqAt.EqAt.bool_none a
    | bl b=>cases rx;exact SeqAt.EqAt.bool_bool a b
    | int b=>obtain⟨t,rfl⟩:=rx;exact SeqAt.EqAt.bool_int a b t
    | str b=>obtain⟨t,rfl⟩:=rx;exact SeqAt.EqAt.bool_str a b t
    | _=>exact absurd (show false=true from fx) ae2
  | int a =>
    obtain⟨t',rfl⟩:=ry;cases x with
    | non=>cases rx;exact SeqAt.EqAt.int_none a t'
    | bl b=>cases rx;exact SeqAt.EqAt.int_bool a t' b
    | int b=>obtain⟨t,rfl⟩:=rx;exact SeqAt.EqAt.int_int a t' b t
    | str b=>obtain⟨t,rfl⟩:=rx;exact SeqAt.EqAt.int_str a t' b t
    | _=>exact absurd (show false=true from fx) ae2
  | str a =>
    obtain⟨t',rfl⟩:=ry;cases x with
    | non=>cases rx;exact SeqAt.EqAt.str_none a t'
    | bl b=>cases rx;exact SeqAt.EqAt.str_bool a t' b
    | int b=>obtain⟨t,rfl⟩:=rx;exact SeqAt.EqAt.str_int a t' b t
    | str b=>obtain⟨t,rfl⟩:=rx;exact SeqAt.EqAt.str_str a t' b t
    | _=>exact absurd (show false=true from fx) ae2
  | _=>exact absurd (show false=true from fy) ae2
def eqU(x:V)(u:Value):Bool:=match u with
  | .none=>eqV .non x
  | .bool b=>eqV (.bl b) x
  | .int i _=>eqV (.int i) x
  | .str z _=>eqV (.str z) x
  | _=>false
theorem QL{x y:V}{u:Value}(r:RelV y u)(f:mF y=true):eqU x u=eqV y x:=by
  cases y with
  | non=>cases r;rfl
  | bl b=>cases r;rfl
  | int i=>obtain⟨t,rfl⟩:=r;rfl
  | str z=>obtain⟨t,rfl⟩:=r;rfl
  | _=>exact absurd (show false=true from f) ae2
theorem By{x:V}:∀ {xs:List V} {us:List Value},Vals xs us→xs.all mF=true→us.any (eqU x)=xs.any λy=>eqV y x
  | _,_,.nil,_=>rfl
  | y::xs,u::us,.cons r t,f=>by
    rw[List.all_cons,agj]at f;rw[agc,agc,QL r f.1,By t f.2]
theorem uB{A:Around}{s:Shared}{x:V}{v:Value}(rx:RelV x v)(fx:mF x=true):∀ {xs:List V} {us:List Value},Vals xs us→xs.all mF=true→∀ u∈us,SeqAt.EqAt A s u v (eqU x u)
  | _,_,.nil,_=>λu hu=>by cases hu
  | y::xs,u::us,.cons r t,f=>λu' hu=>by
    rw[List.all_cons,agj]at f;rcases aff.mp hu with rfl|hu
    · rw[QL r f.1];exact Nx r rx f.1 fx
    · exact uB rx fx t f.2 u' hu
def inV(x:V)(xs:List V):Bool:=xs.any λy=>eqV y x
def rIn(K:W.Frag)(neg:Bool):R2:=λx y H Q=>∃ p xs,y=.ref p∧(SqL K H p xs∨SqT K H p xs)∧mF x=true∧xs.all mF=true∧Q (.bl (if neg then !inV x xs else inV x xs)) H
theorem vG:OpR X (compareOp .In) (rIn X.K false):=by
  intro pins s σ H x y v u Q I rx ry h;obtain⟨p,xs,rfl,hq,fx,fs,q⟩:=h;cases ry;rcases hq with hq|hq
  · obtain⟨its,r,pl,hz⟩:=I.list hq
    refine SeqAt.in_listAt (eqU x) pl.isList (λw hw=>uB rx fx r fs w (by simpa using hw)) ⟨.bl _,H,I,rfl,?_⟩;rw[show its.toArray.any (eqU x)=its.any (eqU x) by simp,By r fs];exact q
  · obtain⟨its,r,pl,hz⟩:=I.tuple hq
    refine SeqAt.in_tupleAt (eqU x) pl (λw hw=>uB rx fx r fs w (by simpa using hw)) ⟨.bl _,H,I,rfl,?_⟩;rw[show its.toArray.any (eqU x)=its.any (eqU x) by simp,By r fs];exact q
theorem mZ:OpR X (compareOp .NotIn) (rIn X.K true):=by
  intro pins s σ H x y v u Q I rx ry h;obtain⟨p,xs,rfl,hq,fx,fs,q⟩:=h;cases ry;rcases hq with hq|hq
  · obtain⟨its,r,pl,hz⟩:=I.list hq
    refine SeqAt.notIn_listAt (eqU x) pl.isList (λw hw=>uB rx fx r fs w (by simpa using hw)) ⟨.bl _,H,I,rfl,?_⟩;rw[show its.toArray.any (eqU x)=its.any (eqU x) by simp,By r fs];exact q
  · obtain⟨its,r,pl,hz⟩:=I.tuple hq
    refine SeqAt.notIn_tupleAt (eqU x) pl (λw hw=>uB rx fx r fs w (by simpa using hw)) ⟨.bl _,H,I,rfl,?_⟩;rw[show its.toArray.any (eqU x)=its.any (eqU x) by simp,By r fs];exact q
theorem iC:vF X (.builtin "len") (λxs H Q=>∃ p ys,xs=[.ref p]∧(SqL X.K H p ys∨SqT X.K H p ys)∧Q (.int ys.length) H):=by
  intro pins s σ H xs us Q I r h;obtain⟨p,ys,rfl,hq,q⟩:=h;obtain⟨u,rfl,rx⟩:=vals1 r;cases rx;have hn:=GC;rcases hq with hq|hq
  · obtain⟨its,r',pl,hz⟩:=I.list hq
    have hlen:=r'.length;exact Calls.call_len_list pl.isList (by simp only[ae5]<;>omega) ⟨.int ys.length,H,I.tok _,⟨s.toks+1,by rw[ae5,hlen]⟩,q⟩
  · obtain⟨its,r',pl,hz⟩:=I.tuple hq
    have hlen:=r'.length;exact len_tuple pl (by simp only[ae5]<;>omega) ⟨.int ys.length,H,I.tok _,⟨s.toks+1,by rw[ae5,hlen]⟩,q⟩
theorem kC:vF X (.type "list") (λxs H Q=>∃ p ys,xs=[.ref p]∧(SqL X.K H p ys∨SqT X.K H p ys)∧∀ l,H l=none→Q (.ref l) (upd H l (.lst ys))):=by
  intro pins s σ H xs us Q I r h;obtain⟨p,ys,rfl,hq,q⟩:=h;obtain⟨u,rfl,rx⟩:=vals1 r;cases rx;have fin:∀(its:List Value),Vals ys its→ys.length≤sizeLine→∀(h':Heap) (c':Nat),(∀ b o',s.heap.get? b=some o'→h'.get? b=some o') →
      h'.get? s.heap.objs.size=some {cls:=.type "list",dict:=none,data:=.seq its.toArray c',slots:=#[]}→EP X pins σ Q (.ref s.heap.objs.size) {s with heap:=h'}:=λits r' hz h' c' kp e =>
    ⟨.ref s.heap.objs.size,_,I.laid (t':=s.toks) kp (ae1 _) (show hJ X.prog X.w _ h' _ (.lst ys) from⟨hz,its,c',r',e⟩),rfl,q _ (I.hok.fresh (ae1 _))⟩
  rcases hq with hq|hq
  · obtain⟨its,r',pl,hz⟩:=I.list hq
    have hlen:=r'.length;obtain⟨o,ho,hc,n,hd⟩:=pl.isList;exact call_list_seq p (.inl rfl) ho hc hd (λh' c' kp e=>fin its r' hz h' c' kp e) (by simp only[ae5]<;>omega)
  · obtain⟨its,r',pl,hz⟩:=I.tuple hq
    have hlen:=r'.length;obtain⟨o,ho,hc,n,hd⟩:=pl;exact call_list_seq p (.inr rfl) ho hc hd (λh' c' kp e=>fin its r' hz h' c' kp e) (by simp only[ae5]<;>omega)
def tyV(K:W.Frag)(T:String)(x:V)(H:Hp):Prop:=match x with
  | .str _=>T = "str"
  | .int _=>T = "int"
  | .ref p=>(T = "list" ∧ ∃ xs,SqL K H p xs)∨(T = "tuple" ∧ ∃ o,K.lookup p=some o∧o.cls=.type "tuple" ∧ o.dict=none) ∨
      (T = "dict" ∧ ((∃ kvs,H p=some (.dK kvs))∨∃ kvs,H p=some (.dT kvs)))∨(T = "set" ∧ ∃ S n,H p=some (.set S n))
  | _=>False
theorem QM{pins:List (Addr×Obj)}{σ:St}{H:Hp}{s:Shared}{T:String}{x:V}{v:Value}(I:Inv X pins σ H s)(r:RelV x v)(ty:tyV X.K T x H) :
    s.TypeIs v T∧∀ a,v=.ref a→∃ ob,s.heap.get? a=some ob∧ob.dict=none:=by
  cases x with
  | str z =>
    obtain⟨t,rfl⟩:=r;cases (show T = "str" from ty);exact⟨typeIs_str s z t,λ_ e=>nomatch e⟩
  | int i =>
    obtain⟨t,rfl⟩:=r;cases (show T = "int" from ty);exact⟨typeIs_int s i t,λ_ e=>nomatch e⟩
  | ref p =>
    cases r;rcases ty with⟨rfl,xs,hq⟩|⟨rfl,o,hk,hc,hd⟩|⟨rfl,hk⟩|⟨rfl,S,n,hk⟩
    · obtain⟨its,_,pl,_⟩:=I.list hq
      refine⟨pl.isList.typeIs,λa e=>?_⟩;cases e;obtain⟨o,n,e,c,hd,_⟩:=pl;exact⟨o,e,hd⟩
    · refine⟨⟨o,I.kIn p o hk,hc⟩,λa e=>?_⟩
      cases e;exact⟨o,I.kIn _ o hk,hd⟩
    · have z:∃ o,s.heap.get? p=some o∧o.ExactDict:=by
        rcases hk with⟨kvs,hk⟩|⟨kvs,hk⟩
        · obtain⟨_,_,_,_,o,_,_,e,ex,_⟩:=I.hok p _ hk
          exact⟨o,e,ex⟩
        · obtain⟨_,_,_,_,o,_,_,e,ex,_⟩:=I.hok p _ hk
          exact⟨o,e,ex⟩
      obtain⟨o,e,ex⟩:=z;refine⟨⟨o,e,ex.1⟩,λa e2=>?_⟩;cases e2;exact⟨o,e,ex.2.1⟩
    · obtain⟨o,_,_,_,e,ex,_⟩:=I.hok p _ hk
      refine⟨⟨o,e,ex.1⟩,λa e2=>?_⟩;cases e2;exact⟨o,e,ex.2.1⟩
  | _=>exact False.elim ty
def adY(K:W.Frag)(T:String)(r:V→List V→Hp→VK→Prop)(to:TE):TE:=λσ H Q=>to σ H λx H1=>tyV K T x H1∧r x [] H1 Q
def tBM(K:W.Frag)(T:String)(r:V→List V→Hp→VK→Prop)(to:TE)(t:TA):TE:=λσ H Q=>to σ H λx H1=>tyV K T x H1∧t σ H1 λxs H2=>r x xs H2 Q
variable{o e:Expr}{es:List Expr}{to:TE}{t:TA}{name:Str}{apos xZ:Pos}{T id:String}{r:V→List V→Hp→VK→Prop}
theorem Yz(pa:PlainAttrs T)(slot:Slot T name id)(hty:typeOf (.builtin id)=pure (.type "method_descriptor"))(hm:MtR X id r)(ho:PE X o to)
    (Rz:attributeBase o name X.env (eval o X.env)=eval o X.env:=by rfl) (RA:(apos.endLine == xZ.line)=true:=by rfl):PE X (.Call (.Attribute o name apos) [] [] xZ) (adY X.K T r to):=by
  intro pins s σ H Q I h;refine wpAny_Call_method0_late Rz RA (thn (ho pins s σ H _ I h) λv s1 ⟨x,H1,I1,r1,ty,q1⟩=>?_);obtain⟨h1,h2⟩:=QM I1 r1 ty;exact⟨T,id,pa,slot,hty,h1,h2,af4 rfl (PySem.evalArgs_none (hm pins s1 σ H1 x [] v [] Q I1 r1 .nil q1))⟩
theorem FK(pa:PlainAttrs T)(slot:Slot T name id)(hty:typeOf (.builtin id)=pure (.type "method_descriptor"))(hm:MtR X id r)(ho:PE X o to)(ha:PA X (e::es) t)
    (Rz:attributeBase o name X.env (eval o X.env)=eval o X.env:=by rfl)
    (R1:((backTo xZ (starEach (e::es) X.env)).all (λx=>!x.1)&&(backToKw xZ (keywordEach [] X.env)).all (λx=>x.1.isSome)
      && decide ((e::es).length+([]:List Keyword).length+(if([]:List Keyword).isEmpty then 0 else 1)<30))=true:=by rfl)
    (RA:(apos.endLine == xZ.line)=true:=by rfl) (hs:starEach (e::es) X.env=(false,eval e X.env)::starEach es X.env:=by rfl) (YA:(backTo xZ (starEach es X.env)).any (·.1)=false:=by rfl) :
    PE X (.Call (.Attribute o name apos) (e::es) [] xZ) (tBM X.K T r to t):=by
  intro pins s σ H Q I h;refine wpAny_Call_method_late Rz R1 RA rfl (thn (ho pins s σ H _ I h) λv s1 ⟨x,H1,I1,r1,ty,q1⟩=>?_);obtain⟨h1,h2⟩:=QM I1 r1 ty;refine⟨T,id,pa,slot,hty,h1,h2,?_⟩;have hA:=ha xZ pins s1 σ H1 _ I1 q1;rw[hs]at hA ⊢;refine af4 (by show(false||(backTo xZ (starEach es X.env)).any (·.1))=false;rw[YA]<;>rfl) (agl ?_);exact thn hA λus s2 ⟨vs,H2,I2,r2,q2⟩=>hm pins s2 σ H2 x vs v us Q I2 r1 r2 q2
end
end L2
namespace L2
open PySem PySem.Spec PyProof.Rows
def MtM(X:Cx)(id:String)(r:V→List V→Hp→VK→Prop):Prop :=
  ∀(pins:List (Addr×Obj)) (s:Shared) (σ:St) (H:Hp) (x:V) (xs:List V) (v:Value) (us:List Value) (Q:VK),Inv X pins σ H s→RelV x v→Vals xs us→r x xs H Q →
    wpAny (model X.prog X.w) X.A (call (.builtin id) (v::us)) (EP X pins σ Q) X.xe s
theorem Vals.one:∀ {x:V} {us:List Value},Vals [x] us→∃ u,us=[u]∧RelV x u
  | _,_,.cons r .nil=>⟨_,rfl,r⟩
theorem Vals.zero:∀ {us:List Value},Vals [] us→us=[]
  | _,.nil=>rfl
theorem Vals.dropLast{xs:List V}{us:List Value}(h:Vals xs us):Vals xs.dropLast us.dropLast:=by
  induction h with
  | nil=>exact .nil
  | cons r t ih =>
    cases t with
    | nil=>exact .nil
    | cons q t'=>exact .cons r ih
theorem Vals.rep{xs:List V}{us:List Value}(h:Vals xs us):∀ k:Nat,Vals (List.replicate k xs).flatten (List.replicate k us).flatten
  | 0=>.nil
  | k+1=>by
    rw[afG,afG,af7,af7];exact Vals.append h (Vals.rep h k)
theorem My{α:Type}(l:List α):l.eraseIdx (l.length-1)=l.dropLast:=by
  induction l with
  | nil=>rfl
  | cons a r ih =>
    cases r with
    | nil=>rfl
    | cons b r =>
      have e:(a::b::r).length-1=((b::r).length-1)+1:=by
        have h1:(a::b::r).length=r.length+2:=rfl;have h2:(b::r).length=r.length+1:=rfl;omega
      rw[e,List.eraseIdx_cons_succ,ih]
      all_goals rfl
theorem foldl_rep(its:List Value):∀(k:Nat) (acc:List Value),
    List.foldl (λx1 x2=>x1++x2) acc.toArray (List.replicate k its.toArray)=(acc++(List.replicate k its).flatten).toArray
  | 0,acc=>by simp
  | k+1,acc=>by
    have e:acc.toArray++its.toArray=(acc++its).toArray:=(by simp);have e2:(acc++its)++(List.replicate k its).flatten=acc++(List.replicate (k+1) its).flatten:=by
      rw[afG,af7,agx]
    rw[←e2,←foldl_rep its k (acc++its),←e,afG,List.foldl_cons]
section
variable{X:Cx}{pins:List (Addr×Obj)}{σ:St}{H:Hp}{s:Shared}{l b:Addr}{xs ys zs:List V}
theorem Inv.Zl{its Gz:List Value}{n:Nat}{f:Array Value→Array Value}{t':Nat}(I:Inv X pins σ H s)(hH:H l=some (.lst xs))
    (e:s.heap.get? l=some {cls:=.type "list",data:=.seq its.toArray n}) (hf:f its.toArray=Gz.toArray) (hv:Vals ys Gz) (hz:ys.length≤sizeLine) :
    Inv X pins σ (upd H l (.lst ys)) {s with heap:=s.heap.update l (Obj.mapSeq f),toks:=t'}:=by
  have q:=PySem.IsL.update e f;rw[hf]at q;refine I.write (x:=l) (e:=l) (by rw[hH];exact trivial) (.inl rfl) (λb' u hb hu=>(afC s.heap (Obj.mapSeq f) (afi hb)).trans hu) ⟨_,q⟩ ?_;exact⟨hz,Gz,_,hv,q⟩
theorem Inv.PQ{its:List Value}{t':Nat}(I:Inv X pins σ H s)(hv:Vals ys its)(hz:ys.length≤sizeLine) :
    Inv X pins σ (upd H s.heap.objs.size (.lst ys)) {s with heap:=s.heap.push {cls:=.type "list",data:=.seq its.toArray},toks:=t'} :=
  I.laid (λ_ _ q=>ae0 _ q) (ae1 _) ⟨hz,its,0,hv,aft _ rfl⟩
theorem Inv.fresh(I:Inv X pins σ H s):H s.heap.objs.size=none:=I.hok.fresh (ae1 _)
theorem Inv.R3(I:Inv X pins σ H s)(hH:H l=some (.lst xs)):xs.length≤sizeLine∧∃(its:List Value) (n:Nat),Vals xs its∧xs.length=its.length∧s.heap.get? l=some {cls:=.type "list",data:=.seq its.toArray n}:=by
  obtain⟨z,its,n,r,e⟩:=I.hok l _ hH;exact⟨z,its,n,r,r.length,e⟩
theorem LD{n:Nat}(h:n≤sizeLine):Builtin.List.listTooLong n=false:=by
  unfold Builtin.List.listTooLong;exact decide_eq_false (by omega)
end
section
variable{X:Cx}
def R4:V→List V→Hp→VK→Prop:=λx vs H Q=>∃ l xs y,x=.ref l∧vs=[y]∧H l=some (.lst xs)∧xs.length<sizeLine∧Q .non (upd H l (.lst (xs++[y])))
theorem lW:MtM X "list.append" R4:=by
  intro pins s σ H x vs v us Q I rx rv h;obtain⟨l,xs,y,rfl,rfl,hH,hz,q⟩:=h;cases rx;obtain⟨u,rfl,ru⟩:=rv.one;obtain⟨z,its,n,r,hl,e⟩:=I.R3 hH;refine call_meets F.slot_list_append ⟨_,e,rfl⟩ F.entry_list_append (F.args_list_append_2 _ _) (PySem.list_append l its.toArray n u (by rw[ae5];omega)) ⟨e,?_⟩;refine⟨.non,_,I.Zl (Gz:=its++[u]) hH e (by simp) (r.append (.cons ru .nil)) ?_,rfl,q⟩;rw[ae3,afp];omega
def R5:V→List V→Hp→VK→Prop:=λx vs H Q=>∃ l b xs zs,x=.ref l∧vs=[.ref b]∧H l=some (.lst xs)∧H b=some (.lst zs)∧xs.length+zs.length≤sizeLine∧Q .non (upd H l (.lst (xs++zs)))
theorem HL:MtM X "list.extend" R5:=by
  intro pins s σ H x vs v us Q I rx rv h;obtain⟨l,b,xs,zs,rfl,rfl,hH,hB,hz,q⟩:=h;cases rx;obtain⟨u,rfl,ru⟩:=rv.one;cases ru;obtain⟨z,its,n,r,hl,e⟩:=I.R3 hH;obtain⟨z2,Vt,n2,r2,hl2,e2⟩:=I.R3 hB;have hsz:its.toArray.size+Vt.toArray.size≤sizeLine:=by rw[ae5,ae5];omega
  have RB:¬(!its.toArray.isEmpty&&Builtin.List.listTooLong (its.toArray.size+Vt.toArray.size))=true:=by
    rw[LD hsz,agv];exact ae2
  refine call_meets F.slot_list_extend ⟨_,e,rfl⟩ F.entry_list_extend (F.args_list_extend_2 _ _)
    (AutoSeq1.list_extend_list_list_0 l its.toArray n b Vt.toArray n2 RB (by rw[ae5];omega) (by omega)) ⟨e,e2,?_⟩
  refine⟨.non,_,I.Zl (Gz:=its++Vt) hH e (by simp) (r.append r2) ?_,rfl,q⟩;rw[ae3];omega
def adZ:V→List V→Hp→VK→Prop:=λx vs H Q=>∃ l xs y,x=.ref l∧vs=[]∧H l=some (.lst xs)∧xs[xs.length-1]?=some y∧Q y (upd H l (.lst xs.dropLast))
theorem YB:MtM X "list.pop" adZ:=by
  intro pins s σ H x vs v us Q I rx rv h;obtain⟨l,xs,y,rfl,rfl,hH,hy,q⟩:=h;cases rx;have hus:=rv.zero;subst hus;obtain⟨z,its,n,r,hl,e⟩:=I.R3 hH;obtain⟨u,hu,ru⟩:=r.get hy;have hy':its.toArray[its.toArray.size-1]?=some u:=by
    show its.toArray[its.length-1]?=some u;rw[←Array.getElem?_toList,←hl];exact hu
  refine call_meets F.slot_list_pop ⟨_,e,rfl⟩ F.entry_list_pop (F.args_list_pop_1 _) (MeetsSeq.list_pop_last l its.toArray n u hy' (by rw[ae5];omega)) ⟨e,?_⟩;refine⟨y,_,I.Zl (Gz:=its.dropLast) hH e ?_ r.dropLast ?_,ru,q⟩
  · show its.toArray.eraseIdxIfInBounds (its.toArray.size-1)=its.dropLast.toArray
    rw[ae5,List.eraseIdxIfInBounds_toArray,My]
  · rw[List.length_dropLast]
    omega
def ad0:R2:=λx y H Q=>∃ l k xs,x=.ref l∧y=.int k∧H l=some (.lst xs)∧-(2 ^ 63)≤k∧k<2 ^ 63∧xs.length*k.toNat≤sizeLine ∧
  ∀ p,H p=none→Q (.ref p) (upd H p (.lst (List.replicate k.toNat xs).flatten))
theorem len_rep{α:Type}(xs:List α)(k:Nat):(List.replicate k xs).flatten.length=k*xs.length:=by
  induction k with
  | zero=>simp
  | succ k ih=>rw[afG,af7,ae3,ih,Nat.succ_mul,Nat.add_comm]
theorem Ny:OpR X (binaryOp .Mult) ad0:=by
  intro pins s σ H x y v u Q I rx ry h;obtain⟨l,k,xs,rfl,rfl,hH,h1,h2,hz,q⟩:=h;cases rx;obtain⟨t,rfl⟩:=ry;obtain⟨z,its,n,r,hl,e⟩:=I.R3 hH;have hlen:its.toArray.size*k.toNat≤sizeLine:=by rw[ae5,←hl];exact hz
  have ad1:¬its.toArray.size*k.toNat>(2 ^ 63-1)/8:=by
    have:(sizeLine:Nat)≤(2 ^ 63-1)/8:=by decide
    omega
  have ad2:¬(!Builtin.List.listFitsIndex k)=true:=by
    rw[fitsIndex_both h1 h2];exact ae2
  have RB:¬Builtin.List.listTooLong (its.toArray.size*k.toNat)=true:=by
    rw[LD hlen];exact ae2
  have ad3:List.foldl (λx1 x2=>x1++x2) #[] (List.replicate (if its.toArray.isEmpty=true then 0 else k.toNat) its.toArray)=(List.replicate k.toNat its).flatten.toArray:=by
    have f0:∀ m:Nat,List.foldl (λx1 x2=>x1++x2) #[] (List.replicate m its.toArray)=(List.replicate m its).flatten.toArray:=λm=>by
      have:=foldl_rep its m []
      rw[List.nil_append]at this;exact this
    rw[f0];cases its with
    | nil=>simp
    | cons a r'=>rw[if_neg (by simp)]
  refine wpAny_binaryOp_repeat_ref (T := "list") (U := "int") (by decide) ⟨_,e,rfl⟩ (λs'=>typeIs_int s' k t) noFill_list_mul F.fills_int_mul F.slot_int_rmul repeat_list F.slot_int_index.lookup
    (call_meets F.slot_int_rmul (typeIs_int s k t) F.entry_int_rmul (F.args_int_rmul_2 _ _) (int___rmul___int_list k t l its.toArray n)
      ⟨e,rfl,⟨_,e,rfl⟩,call_meets F.slot_list_mul ⟨_,e,rfl⟩ F.entry_list_mul (F.args_list_mul_2 _ _) (AutoListH.list___mul___list_int_3 l its.toArray n k t ad2 ad1 RB) ⟨e,?_⟩⟩)
  rw[ad3];exact⟨.ref _,_,I.PQ (t':=s.toks) (r.rep k.toNat) (by rw[len_rep,Nat.mul_comm];exact hz),rfl,q _ I.fresh⟩
end
section
variable{prog:Program}{w:World}{A:Around}{E:Value→Shared→Prop}{s:Shared}
end
section
variable{X:Cx}
end
end L2
namespace Att
open PySem PySem.W PySem.Calls PyProof.Rows
theorem D1{P:Params}{h:Heap}:∀(ns:List Int) (vs:List Value),WellAll P h vs (ns.map WData.int)→IntsAre vs ns:=by
  intro ns;induction ns with
  | nil =>
    intro vs w;rw[agg]at w;cases w;exact .nil
  | cons n ns ih =>
    intro vs w;rw[afq]at w;cases w with
    | cons a b =>
      cases a;exact .cons _ _ (ih _ b)
theorem ON{l:OpenLaw}{n:Nat}(hn:l.most=some n){P:Params}{h:Heap}{args:List WData}{vals:List Value}
    (Vu:l.row.toRowW.claim.pre args=true) (hwl:WellAll P h vals args) :
    ∃ a vs ns,vals=[Value.ref a]∧args=[WData.list (ns.map WData.int)]∧h.get? a=some {cls:=.type "list",data:=.seq vs.toArray}∧IntsAre vs ns∧ns.length≤n:=by
  have hsh:WShape.hasAll [] args [.list .int]=true:=(pre_splitW Vu).1;have hc:l.pre.holds [] {args:=args}=true:=(pre_splitW Vu).2;obtain⟨d,r,rfl,h1,h2⟩:=hasAllW_cons hsh;obtain rfl:=hasAllW_nil h2;obtain⟨xs,rfl,h3⟩:=hasW_list h1;obtain⟨ns,rfl⟩:=items_int h3;have hlen:ns.length≤n:=by
    unfold OpenLaw.pre at hc;have h4:(WTm.not (.lt (.lit (.int (n:Int))) (.len (.arg 0)))).holds [] {args:=[.list (ns.map .int)]}=true:=by
      have h4:=(holds_andW hc).1;rw[hn]at h4;exact h4
    have h5:=condW_of h4 (w_not (w_lt w_lit (w_len_list (w_arg rfl))));rw[aeV]at h5;refine Nat.le_of_not_lt λq=>?_;have q':(n:Int)<((ns.length:Nat):Int):=by omega
    first
      | (rw[decide_eq_true q']at h5;exact absurd h5 (by decide))
      | (simp at h5;omega)
  cases hwl with
  | cons w1 w2 =>
    cases w2;cases w1 with
    | list ho ES=>exact⟨_,_,ns,rfl,rfl,ho,D1 ns _ ES,hlen⟩
theorem OP(l:OpenLaw)(args:List WData):l.row.toRowW.claim.post args (.bool true) args=true :=
  postW_of (r:=l.row.toRowW) (X:=(true == true))
    (show WShape.has [] (.bool true) .bool=true by first|rfl|decide|simp[WShape.has,WShape.arms,WShape.armsAll])
    (show(WTm.eq .res (.lit (.bool true))).value [] {args:=args,res:=some (.bool true),after:=args}=some (.bool (true == true)) from w_eq_bool (w_res rfl) w_lit) rfl
theorem Ko{l:OpenLaw}{n:Nat}{q:Program}{loose:List Str}{XP:(Str→Option Value)→Heap→Prop}{YP:World→Heap→Prop}{d:DefRec}
    (hn:l.most=some n) (hdf:d.params.defaults=[])
    (call:∀(w:World) (s₀ s₁:Shared) (mg mb:Str→Option Value) (fa:Addr) (o:Obj) (pm cd doc:Value) (a:Addr) (vs:List Value) (ns:List Int),
      Ground q loose [] XP w s₀ mg mb s₁.heap→YP w s₁.heap →
      s₁.heap.get? fa=some o→o.data=.func (docDef d.name d.params d.body d.scope pm cd doc)→s₁.heap.CodeRec cd d.name→mg d.name=some (.ref fa) →
      s₁.heap.get? a=some {cls:=.type "list",data:=.seq vs.toArray}→IntsAre vs ns→ns.length≤n→s₁.gens=#[] →
      codeAny (model l.prog w) callerA (.call (.ref fa) ⟨[.ref a],[]⟩) (λr s'=>r=.ok (.ret (.bool true))∧OldK s₁.heap s'.heap∧s'.os=s₁.os∧AllBare s'.gens) s₁) :
    WalkO q loose XP YP l.row.toRowW d [] (λf vs=>PySem.call f vs):=by
  intro w s₀ s₁ mg mb G Y fa o pm cd doc dV kV ho hd hcd hD hmg hg args vals as Vu hlay hrd hwl hlo;obtain rfl:dV=.none:=Dflts.none hD hdf;obtain rfl:kV=.none:=Dflts.noKw hD;obtain⟨a,vs,ns,rfl,rfl,Zm,hints,hlen⟩:=ON hn Vu hwl;refine enter_call (codeAny_mono (call w s₀ s₁ mg mb fa o pm cd doc a vs ns G Y ho (fd_plain hd) hcd hmg Zm hints hlen hg) λr s' hq=>?_);obtain⟨rfl,h2,h3,h4⟩:=hq;exact⟨.inl ⟨.bool true,.bool true,[],rfl,λ_=>rfl,.bool true,OP l _,λ_=>⟨List.Pairwise.nil,λ_ hm=>(nomatch hm)⟩⟩,h2,h3,h4⟩
section
variable{prog:Program}{w:World}{A:Around}{E:Value→Shared→Prop}{s:Shared}{K:Frag}
end
end Att
namespace L2
open PySem PySem.Spec PyProof.Rows
theorem oh:∀ {vs:List Value} {ns:List Int},IntsAre vs ns→Vals (ns.map V.int) vs
  | _,_,.nil=>.nil
  | _,_,.cons n t h=>.cons ⟨t,rfl⟩ (oh h)
def Zo(H:Hp):Prop:=∀ b,H b=none∨∃ o xs,H b=some (.frz o (.lst xs))
theorem Qg{P:Program}{w:World}{K:W.Frag}{mg mb:Str→Option Value}{CX:CXT}{k:Nat}{fa a:Addr}{fd:FuncData}{x:Str}{sp:Sp}{s₁:Shared}{vs:List Value}{ns:List Int}
    (KX:K.In s₁.heap) (hns:s₁.heap.Ns mainGlobals mg) (hb:s₁.heap.Ns builtinsNs mb) (hbb:∀ x:Str,x ≠ "__name__" → mb x=bootBuiltins x) (ad4:s₁.heap.NoLimit) (hg:s₁.gens=#[])
    (ha:s₁.heap.get? a=some {cls:=.type "list",data:=.seq vs.toArray}) (hi:IntsAre vs ns) (hl:ns.length≤sizeLine) (hr:mY k callerA)
    (F:∀ base:Heap,K.In base→base.Ns mainGlobals mg→Bw P w K mg base CX k fa fd [x] sp) (abW:∀(s:Shared) (u:Value),BindsTo s fd ⟨[u],[]⟩ [(x,u)])
    (hsp:∀ H:Hp,Zo H→SqL K H a (ns.map V.int)→sp [.ref a] H (λv _=>v=.bl true) λ_ _ _=>False)
    (hCX:∀ H e s',CX [] H s₁ (λ_ _ _=>False) e s'→False) :
    codeAny (model P w) callerA (.call (.ref fa) ⟨[.ref a],[]⟩) (λr s'=>r=.ok (.ret (.bool true))∧OldK s₁.heap s'.heap∧s'.os=s₁.os∧AllBare s'.gens) s₁:=by
  have rv:=oh hi;have ad5:=hi.length;have core:∀ H:Hp,Zo H→SqL K H a (ns.map V.int)→HOk P w H s₁.heap→(∀ b,H b≠none→b=a)→(H a≠none→K.lookup a=none) →
      codeAny (model P w) callerA (.call (.ref fa) ⟨[.ref a],[]⟩) (λr s'=>r=.ok (.ret (.bool true))∧OldK s₁.heap s'.heap∧s'.os=s₁.os∧AllBare s'.gens) s₁:=by
    intro H hO hS hok hA hK;have NZ:∀ {b:Addr} {o:Obj},s₁.heap.get? b=some o→H b=none→(Mn s₁.heap H).get? b=some o:=λe n=>Qa e n;have noA:∀ {b:Addr} {o:Obj} {es:Array DictEntry} {ep:Nat},s₁.heap.get? b=some o→o.data=.dict es ep→H b=none:=λ{b o es ep} e d=>by
      cases q:H b with
      | none=>rfl
      | some u =>
        have e':b=a:=hA b (by rw[q];simp);subst e';rw[ha]at e;cases e;have d':Data.seq vs.toArray _=Data.dict es ep:=d;cases d'
    have nsK:∀ {b:Addr} {m:Str→Option Value},s₁.heap.Ns b m→(Mn s₁.heap H).Ns b m:=λ{b m} ⟨o,es,ep,e,d,r⟩=>⟨o,es,ep,NZ e (noA e d),d,r⟩;have hKb:K.In (Mn s₁.heap H):=λb o e=>NZ (KX b o e) (by
      cases q:H b with
      | none=>rfl
      | some u =>
        have e':b=a:=hA b (by rw[q];simp);subst e';rw[hK (by rw[q];simp)]at e;cases e)
    have hM:Mod K mg (Mn s₁.heap H):=⟨hKb,nsK hns,⟨mb,nsK hb,hbb⟩,let ⟨mc,h1,h2⟩:=ad4;⟨mc,nsK h1,h2⟩⟩;have e0:Mw P w K mg (Mn s₁.heap H) callerA [] s₁ H:=⟨rfl,hM,λb o e=>RV e,Nat.le_of_eq (OH _ _),trivial,λb hb=>absurd (show b∈([]:List Addr) from hb) (by simp),hok,.of_eq hg⟩;refine codeAny_mono ((F _ hKb (nsK hns)).run callerA [] s₁ H ⟨[.ref a],[]⟩ [.ref a] [.ref a] _ _ hr e0 (abW s₁ (.ref a)) (.cons rfl .nil) (hsp H hO hS)) λr s' h=>?_;cases r with
    | error e=>exact(hCX H e s' h).elim
    | ok fl =>
      cases fl with
      | next=>exact False.elim h
      | brk=>exact False.elim h
      | cont=>exact False.elim h
      | ret u =>
        obtain⟨v,H',os,bare,un,ad6,r',q⟩:=h;have q':v=.bl true:=q;subst q';obtain rfl:u=Value.bool true:=r';refine⟨rfl,OldK.of_keep λb o e=>?_,os,bare⟩;cases q:H b with
        | none=>exact un.keep b o e q (by intro z;exact absurd (show b∈([]:List Addr) from z) (by simp)) (by simp)
        | some u =>
          rcases hO b with z|⟨ob,xs,z⟩
          · rw[q]at z;cases z
          · have z2:=un.ER b ob _ z
            obtain⟨e1,_⟩:=hok b _ z;obtain⟨e2,_⟩:=ad6 b _ z2;rw[e]at e1;cases e1;exact e2
  cases hk:K.lookup a with
  | some o =>
    have e:=KX a o hk;rw[ha]at e;cases e;refine core (λ_=>none) (λ_=>.inl rfl) (.inr ⟨_,vs.toArray,_,hk,rfl,rfl,rfl,by rw[ae5,ad5];exact hl,by simpa using rv⟩) (λb u z=>by have z':(none:Option HO)=some u:=z;cases z') (λb z=>absurd rfl z) λz=>absurd rfl z
  | none =>
    refine core (λb=>if b=a then some (.frz {cls:=.type "list",data:=.seq vs.toArray} (.lst (ns.map V.int))) else none) (λb=>?_) (.inl (.inr ⟨{cls:=.type "list",data:=.seq vs.toArray},if_pos rfl⟩)) (λb u z=>?_) (λb z=>?_) λ_=>hk
    · by_cases hb:b=a
      · exact .inr ⟨_,_,if_pos hb⟩
      · exact .inl (if_neg hb)
    · by_cases hb:b=a
      · have z':=(if_pos hb).symm.trans z
        cases z';subst hb;exact⟨ha,by rw[aeV];exact hl,vs,_,rv,ha⟩
      · have z':=(if_neg hb).symm.trans z
        cases z'
    · by_cases hb:b=a
      · exact hb
      · exact absurd (if_neg hb) z
end L2
namespace L2
open PySem PySem.Spec PyProof.Rows
theorem R6{l:PySem.W.OpenLaw}{n k:Nat}{q:Program}{loose:List Str}{XP:(Str→Option Value)→Heap→Prop}{YP:World→Heap→Prop}{d:DefRec}{K:Params→W.Frag}{CX:World→CXT}{sp:World→Sp}{x:Str}
    (hn:l.most=some n) (hn2:n≤sizeLine) (hdf:d.params.defaults=[]) (hr:mY k callerA)
    (hY:∀(w:World) (h:Heap),YP w h→(K w.params).In h)
    (F:∀(w:World) (mg:Str→Option Value) (fa:Addr) (h:Heap),(K w.params).In h→h.Ns mainGlobals mg→mg d.name=some (.ref fa) →
      ∃ fd:FuncData,(∀(s:Shared) (u:Value),BindsTo s fd ⟨[u],[]⟩ [(x,u)]) ∧
        ∀ base:Heap,(K w.params).In base→base.Ns mainGlobals mg→Bw l.prog w (K w.params) mg base (CX w) k fa fd [x] (sp w))
    (hsp:∀(w:World) (H:Hp) (a:Addr) (ns:List Int),ns.length≤n→Zo H→SqL (K w.params) H a (ns.map V.int)→sp w [.ref a] H (λv _=>v=.bl true) λ_ _ _=>False)
    (hCX:∀(w:World) (H:Hp) (s:Shared) (e:Value) (s':Shared),CX w [] H s (λ_ _ _=>False) e s'→False) :
    PySem.W.WalkO q loose XP YP l.row.toRowW d [] (λf vs=>PySem.call f vs):=by
  refine Att.Ko hn hdf λw s₀ s₁ mg mb fa o pm cd doc a vs ns G Y ho hd hcd hmg Zm hints hlen hg=>?_;have KX:=hY w _ Y;obtain⟨fd,hb,hF⟩:=F w mg fa _ KX G.T.g hmg;exact Qg KX G.T.g G.T.b G.T.builtins G.T.nolimit hg Zm hints (afe hlen hn2) hr hF hb (λH hO hS=>hsp w H a ns hlen hO hS) λH e s'=>hCX w H s₁ e s'
end L2
namespace L2
open PySem PySem.Spec PyProof.Rows
def inClass(s:Stmt)(j:Nat):Stmt:=match s with
  | .ClassDef _ _ _ body _ _ _ _ _ _ _=>body.getD j (.Pass ⟨0,0,0,0⟩)
  | _=>.Pass ⟨0,0,0,0⟩
def sO(s:Stmt):Arguments:=match s with
  | .FunctionDef _ a _ _ _ _ _ _ _ _=>a
  | _=>{posonlyargs:=[],args:=[],vararg:=none,kwonlyargs:=[],kw_defaults:=[],kwarg:=none,defaults:=[]}
def cT(s:Stmt):List Stmt:=match s with
  | .FunctionDef _ _ b _ _ _ _ _ _ _=>b
  | _=>[]
def ar(s:Stmt):Scope:=match s with
  | .FunctionDef _ _ _ _ _ _ sc _ _ _=>sc
  | _=>{kind:=.function,names:=[],isGenerator:=false,isCoroutine:=false}
structure Fun(K:W.Frag)(x qual:Str)(st:Stmt)(f:Addr)(fd:FuncData):Prop where
  ex:∃(oc:Value) (od:Option Addr) (kV doc pm:Value) (an:Option Addr) (cdv ct:Value) (osl:Array (Option Value)),
    fd=PySem.W.fnOf x qual (sO st) (cT st) (ar st) .none kV doc pm an cdv ct∧K.lookup f=some ⟨oc,od,.func fd,osl⟩∧PySem.W.codeIn K cdv qual=true
  kp:PySem.W.keepIn K (.ref f)=true
section
variable{P:Program}{w:World}{K:W.Frag}{mg:Str→Option Value}{base:Heap}
theorem Fun.binds{x qual:Str}{st:Stmt}{f:Addr}{fd:FuncData}{ps:List Str}(F:Fun K x qual st f fd)
    (h:∀(kV doc pm:Value) (an:Option Addr) (cdv ct:Value) (us:List Value),us.length=ps.length→bindArgs (PySem.W.fnOf x qual (sO st) (cT st) (ar st) .none kV doc pm an cdv ct) ⟨us,[]⟩=pure (ps.zip us)):Binds K fd ps []:=by
  obtain⟨oc,od,kV,doc,pm,an,cdv,ct,osl,rfl,lk,hcd⟩:=F.ex;exact .all (h kV doc pm an cdv ct)
theorem YC{x qual:Str}{st:Stmt}{f:Addr}{oc:Value}{od an:Option Addr}{osl:Array (Option Value)}{kV doc pm cdv ct:Value}(l:K.lookup f=some ⟨oc,od,.func (PySem.W.fnOf x qual (sO st) (cT st) (ar st) .none kV doc pm an cdv ct),osl⟩)
    (c:PySem.W.codeIn K cdv qual=true) (k:PySem.W.keepIn K (.ref f)=true):Fun K x qual st f (PySem.W.fnOf x qual (sO st) (cT st) (ar st) .none kV doc pm an cdv ct):=⟨⟨oc,od,kV,doc,pm,an,cdv,ct,osl,rfl,l,c⟩,k⟩
end
theorem lL{A:Around}{k:Nat}(hr:mY k A):A.units+1<cLine:=afS (Nat.add_le_add_left (by decide:1≤64) _) hr.units
section
variable{X:Cx}
theorem pv(i:Nat){x:Str}{pos:Pos}(hN:X.N[i]?=some x:=by rfl)(hv:Vis X.env.scope x:=by first|exact Or.inl rfl|exact Or.inr (Or.inl rfl)|exact Or.inr (Or.inr rfl))(hd:(x == ("__debug__" : Str))=false:=by decide)
    (hcd:(x == ("__classdict__" : Str))=false:=by decide):PE X (.Name x pos) (Zg i):=Yp hN hv hd hcd
end
theorem jd{A B:Prop}(h:B):if false=true then A else B:=by
  rw[if_neg ae2];exact h
theorem oH{A B:Prop}(h:A):if true=true then A else B:=by
  rw[if_pos rfl];exact h
theorem aQ{c A B:Prop}[Decidable c](h1:c→A)(h2:¬c→B):if c then A else B:=by
  by_cases h:c
  · rw[if_pos h]
    exact h1 h
  · rw[if_neg h]
    exact h2 h
def aC(H H':Hp):Prop:=∀ b o,H b=some o→H' b=some o
theorem aC.trans{H H1 H2:Hp}(a:aC H H1)(b:aC H1 H2):aC H H2:=λc o h=>b c o (a c o h)
theorem aC.seq{K:W.Frag}{H H':Hp}{a:Addr}{xs:List V}(e:aC H H')(h:SqL K H a xs):SqL K H' a xs:=by
  rcases h with(h|⟨o,h⟩)|h
  · exact .inl (.inl (e _ _ h))
  · exact .inl (.inr ⟨o,e _ _ h⟩)
  · exact .inr h
end L2
end
section
namespace K08
open PySem PySem.W L2 PySem.PyData
def top(i:Nat):Stmt:=PySem.Challenge.pw_stillheap_k08_whole_small_rounds.main.body.getD i (.Pass ⟨0,0,0,0⟩)
section
abbrev OO:=Params→Obj
def oF(n q:Str)(s:Stmt)(m:Value)(r:Addr):Obj:=⟨.type "function",none,.func (fnOf n q (sO s) (cT s) (ar s) .none .none .none m none (.ref r) .none),#[]⟩
def oG(n q:Str)(s:Stmt):Obj:=⟨.none,none,.func ⟨n,q,sO s,.stmts (cT s),ar s,0,[],.none,.none,.none,.none,none,.none,.none,0⟩,#[]⟩
def oT(l:List Value):Obj:=⟨.type "tuple",none,.seq (List.toArray l) 0,#[]⟩
def kE(P:Params)(x:Str)(n:Tok)(v:Value):DictEntry:=⟨keyHash P x,.str x n,v⟩
def oC(n:Str)(t:Tok)(q:Str)(l a b c d:Int)(r:Addr)(e:Int)(f g h i:Addr)(z:Int)(u:Tok):Obj:=⟨.type "code",none,.fields (List.toArray [.str n t,.str q (t+1),.str "/claim/cut.py" (t+2),.int l 0,.int a 0,.int b 0,.int c 0,.int d 0,.ref r,.bool true,.int e 0,.ref f,.none,.ref g,.ref h,.ref i,.int z 0,.int l 0,.str "/claim/cut.py" u]),#[]⟩
def spl:List (Params→Obj)→List (Params→Obj)×List (Params→Obj)
 | []=>([],[])
 | [a]=>([a],[])
 | a::b::r=>(a::(spl r).1,b::(spl r).2)
def mkT(P:Params):Nat→List (Params→Obj)→BT
 | 0,_=>.nil
 | _+1,[]=>.nil
 | n+1,x::r=>.node (x P) (mkT P n (spl r).1) (mkT P n (spl r).2)
noncomputable def o0:OO:=λP=>⟨(.type "dict"),none,(.dict (List.toArray [kE P "__name__" 1 (.str "builtins" 160),kE P "__doc__" 2 (.builtin "builtins.__doc__:str#opaque"),kE P "__package__" 3 (.builtin "builtins.__package__:str#opaque"),kE P "__loader__" 4 (.builtin "builtins.__loader__:shared#opaque"),kE P "__spec__" 5 (.builtin "builtins.__spec__#opaque"),kE P "__build_class__" 6 (.builtin "__build_class__"),kE P "__import__" 7 (.builtin "__import__"),kE P "abs" 8 (.builtin "abs"),kE P "all" 9 (.builtin "all"),kE P "any" 10 (.builtin "any"),kE P "ascii" 11 (.builtin "ascii"),kE P "bin" 12 (.builtin "bin"),kE P "breakpoint" 13 (.builtin "breakpoint"),kE P "callable" 14 (.builtin "callable"),kE P "chr" 15 (.builtin "chr"),kE P "compile" 16 (.builtin "compile"),kE P "delattr" 17 (.builtin "delattr"),kE P "dir" 18 (.builtin "dir"),kE P "divmod" 19 (.builtin "divmod"),kE P "eval" 20 (.builtin "eval"),kE P "exec" 21 (.builtin "exec"),kE P "format" 22 (.builtin "format"),kE P "getattr" 23 (.builtin "getattr"),kE P "globals" 24 (.builtin "globals"),kE P "hasattr" 25 (.builtin "hasattr"),kE P "hash" 26 (.builtin "hash"),kE P "hex" 27 (.builtin "hex"),kE P "id" 28 (.builtin "id"),kE P "input" 29 (.builtin "input"),kE P "isinstance" 30 (.builtin "isinstance"),kE P "issubclass" 31 (.builtin "issubclass"),kE P "iter" 32 (.builtin "iter"),kE P "aiter" 33 (.builtin "aiter"),kE P "len" 34 (.builtin "len"),kE P "locals" 35 (.builtin "locals"),kE P "max" 36 (.builtin "max"),kE P "min" 37 (.builtin "min"),kE P "next" 38 (.builtin "next"),kE P "anext" 39 (.builtin "anext"),kE P "oct" 40 (.builtin "oct"),kE P "ord" 41 (.builtin "ord"),kE P "pow" 42 (.builtin "pow"),kE P "print" 43 (.builtin "print"),kE P "repr" 44 (.builtin "repr"),kE P "round" 45 (.builtin "round"),kE P "setattr" 46 (.builtin "setattr"),kE P "sorted" 47 (.builtin "sorted"),kE P "sum" 48 (.builtin "sum"),kE P "vars" 49 (.builtin "vars"),kE P "None" 50 .none,kE P "Ellipsis" 51 .ellipsis,kE P "NotImplemented" 52 .notImplemented,kE P "False" 53 (.bool false),kE P "True" 54 (.bool true),kE P "bool" 55 (.type "bool"),kE P "memoryview" 56 (.type "memoryview"),kE P "bytearray" 57 (.type "bytearray"),kE P "bytes" 58 (.type "bytes"),kE P "classmethod" 59 (.type "classmethod"),kE P "complex" 60 (.type "complex"),kE P "dict" 61 (.type "dict"),kE P "enumerate" 62 (.type "enumerate"),kE P "filter" 63 (.type "filter"),kE P "float" 64 (.type "float"),kE P "frozenset" 65 (.type "frozenset"),kE P "property" 66 (.type "property"),kE P "int" 67 (.type "int"),kE P "list" 68 (.type "list"),kE P "map" 69 (.type "map"),kE P "object" 70 (.type "object"),kE P "range" 71 (.type "range"),kE P "reversed" 72 (.type "reversed"),kE P "set" 73 (.type "set"),kE P "slice" 74 (.type "slice"),kE P "staticmethod" 75 (.type "staticmethod"),kE P "str" 76 (.type "str"),kE P "super" 77 (.type "super"),kE P "tuple" 78 (.type "tuple"),kE P "type" 79 (.type "type"),kE P "zip" 80 (.type "zip"),kE P "__debug__" 81 (.bool true),kE P "BaseException" 82 (.type "BaseException"),kE P "BaseExceptionGroup" 83 (.type "BaseExceptionGroup"),kE P "Exception" 84 (.type "Exception"),kE P "GeneratorExit" 85 (.type "GeneratorExit"),kE P "KeyboardInterrupt" 86 (.type "KeyboardInterrupt"),kE P "SystemExit" 87 (.type "SystemExit"),kE P "ArithmeticError" 88 (.type "ArithmeticError"),kE P "AssertionError" 89 (.type "AssertionError"),kE P "AttributeError" 90 (.type "AttributeError"),kE P "BufferError" 91 (.type "BufferError"),kE P "EOFError" 92 (.type "EOFError"),kE P "ImportError" 93 (.type "ImportError"),kE P "LookupError" 94 (.type "LookupError"),kE P "MemoryError" 95 (.type "MemoryError"),kE P "NameError" 96 (.type "NameError"),kE P "OSError" 97 (.type "OSError"),kE P "ReferenceError" 98 (.type "ReferenceError"),kE P "RuntimeError" 99 (.type "RuntimeError"),kE P "StopAsyncIteration" 100 (.type "StopAsyncIteration"),kE P "StopIteration" 101 (.type "StopIteration"),kE P "SyntaxError" 102 (.type "SyntaxError"),kE P "SystemError" 103 (.type "SystemError"),kE P "TypeError" 104 (.type "TypeError"),kE P "ValueError" 105 (.type "ValueError"),kE P "Warning" 106 (.type "Warning"),kE P "FloatingPointError" 107 (.type "FloatingPointError"),kE P "OverflowError" 108 (.type "OverflowError"),kE P "ZeroDivisionError" 109 (.type "ZeroDivisionError"),kE P "BytesWarning" 110 (.type "BytesWarning"),kE P "DeprecationWarning" 111 (.type "DeprecationWarning"),kE P "EncodingWarning" 112 (.type "EncodingWarning"),kE P "FutureWarning" 113 (.type "FutureWarning"),kE P "ImportWarning" 114 (.type "ImportWarning"),kE P "PendingDeprecationWarning" 115 (.type "PendingDeprecationWarning"),kE P "ResourceWarning" 116 (.type "ResourceWarning"),kE P "RuntimeWarning" 117 (.type "RuntimeWarning"),kE P "SyntaxWarning" 118 (.type "SyntaxWarning"),kE P "UnicodeWarning" 119 (.type "UnicodeWarning"),kE P "UserWarning" 120 (.type "UserWarning"),kE P "BlockingIOError" 121 (.type "BlockingIOError"),kE P "ChildProcessError" 122 (.type "ChildProcessError"),kE P "ConnectionError" 123 (.type "ConnectionError"),kE P "FileExistsError" 124 (.type "FileExistsError"),kE P "FileNotFoundError" 125 (.type "FileNotFoundError"),kE P "InterruptedError" 126 (.type "InterruptedError"),kE P "IsADirectoryError" 127 (.type "IsADirectoryError"),kE P "NotADirectoryError" 128 (.type "NotADirectoryError"),kE P "PermissionError" 129 (.type "PermissionError"),kE P "ProcessLookupError" 130 (.type "ProcessLookupError"),kE P "TimeoutError" 131 (.type "TimeoutError"),kE P "IndentationError" 132 (.type "IndentationError"),kE P "_IncompleteInputError" 133 (.type "_IncompleteInputError"),kE P "IndexError" 134 (.type "IndexError"),kE P "KeyError" 135 (.type "KeyError"),kE P "ModuleNotFoundError" 136 (.type "ModuleNotFoundError"),kE P "NotImplementedError" 137 (.type "NotImplementedError"),kE P "PythonFinalizationError" 138 (.type "PythonFinalizationError"),kE P "RecursionError" 139 (.type "RecursionError"),kE P "UnboundLocalError" 140 (.type "UnboundLocalError"),kE P "UnicodeError" 141 (.type "UnicodeError"),kE P "BrokenPipeError" 142 (.type "BrokenPipeError"),kE P "ConnectionAbortedError" 143 (.type "ConnectionAbortedError"),kE P "ConnectionRefusedError" 144 (.type "ConnectionRefusedError"),kE P "ConnectionResetError" 145 (.type "ConnectionResetError"),kE P "TabError" 146 (.type "TabError"),kE P "UnicodeDecodeError" 147 (.type "UnicodeDecodeError"),kE P "UnicodeEncodeError" 148 (.type "UnicodeEncodeError"),kE P "UnicodeTranslateError" 149 (.type "UnicodeTranslateError"),kE P "ExceptionGroup" 150 (.type "ExceptionGroup"),kE P "EnvironmentError" 151 (.type "OSError"),kE P "IOError" 152 (.type "OSError"),kE P "open" 153 (.builtin "open"),kE P "quit" 154 (.builtin "builtins.quit#opaque"),kE P "exit" 155 (.builtin "builtins.exit#opaque"),kE P "copyright" 156 (.builtin "builtins.copyright#opaque"),kE P "credits" 157 (.builtin "builtins.credits#opaque"),kE P "license" 158 (.builtin "builtins.license#opaque"),kE P "help" 159 (.builtin "builtins.help#opaque")]) 159),#[]⟩
noncomputable def o1:OO:=λP=>⟨(.type "dict"),none,(.dict (List.toArray [kE P "builtins" 162 (.ref 4),kE P "__main__" 163 (.ref 5)]) 2),#[]⟩
def o2:OO:=λ_=>⟨.none,none,(.dict #[] 0),#[]⟩
noncomputable def o3:OO:=λP=>⟨(.type "dict"),none,(.dict (List.toArray [kE P "__name__" 165 (.str "__main__" 164),kE P "__doc__" 166 .none,kE P "__package__" 167 .none,kE P "__loader__" 168 (.builtin "__main__.__loader__#opaque"),kE P "__spec__" 169 .none,kE P "__annotations__" 170 (.ref 6),kE P "__builtins__" 171 (.ref 4),kE P "__file__" 173 (.str "/claim/cut.py" 172),kE P "__cached__" 174 .none]) 9),#[]⟩
def o4:OO:=λ_=>⟨(.type "module"),(.some 0),.plain,#[]⟩
def o5:OO:=λ_=>⟨(.type "module"),(.some 3),.plain,#[]⟩
def o6:OO:=λ_=>⟨(.type "dict"),none,(.dict #[] 0),#[]⟩
def o7:OO:=λ_=>⟨(.type "tuple"),none,(.seq #[] 0),#[]⟩
def o8:OO:=λ_=>⟨.none,none,(.fields #[]),#[]⟩
noncomputable def o9:OO:=λ_=>⟨(.type "code"),none,(.fields (List.toArray [(.str "<module>" 176),(.str "<module>" 177),(.str "/claim/cut.py" 178),(.int 1 0),(.int 0 0),(.int 0 0),(.int 0 0),(.int 0 0),(.ref 7),(.bool false),(.int 175 0),(.ref 8),.none,.none,.none,.none,(.int 179 0),(.int 1 0),(.str "/claim/cut.py" 180)])),#[]⟩
noncomputable def o10:OO:=λ_=>⟨(.type "frame"),none,.plain,(List.toArray [(.some (.ref 9)),(.some (.ref 3)),(.some (.ref 3)),none,(.some (.str "__main__" 164)),none,(.some (.ref 0))])⟩
noncomputable def o11:OO:=λ_=>⟨(.type "code"),none,(.fields (List.toArray [(.str "<module>" 182),(.str "<module>" 183),(.str "/claim/cut.py" 184),(.int 1 0),(.int 0 0),(.int 0 0),(.int 0 0),(.int 0 0),(.ref 11),(.bool false),(.int 181 0),(.ref 12),.none,.none,.none,.none,(.int 185 0),(.int 1 0),(.str "/claim/cut.py" 186)])),#[]⟩
noncomputable def o12:OO:=λ_=>⟨(.type "frame"),none,.plain,(List.toArray [(.some (.ref 13)),(.some (.ref 3)),(.some (.ref 3)),none,(.some (.str "__main__" 164)),none,(.some (.ref 0))])⟩
noncomputable def o13:OO:=λP=>⟨(.type "dict"),none,(.dict (List.toArray [kE P "__name__" 165 (.str "stillheap.errors" 194),kE P "__doc__" 166 .none,kE P "__package__" 167 .none,kE P "__loader__" 168 (.builtin "__main__.__loader__#opaque"),kE P "__spec__" 169 .none,kE P "__annotations__" 170 (.ref 6),kE P "__builtins__" 171 (.ref 4),kE P "__file__" 173 (.str "/claim/cut.py" 172),kE P "__cached__" 174 .none,kE P "_wall" 193 (.ref 21),kE P "HeapError" 228 (.ref 45),kE P "BadHand" 251 (.ref 65),kE P "BadName" 274 (.ref 84),kE P "BadField" 297 (.ref 103),kE P "BadCount" 320 (.ref 122),kE P "NoRoom" 343 (.ref 141),kE P "TooManyWords" 366 (.ref 160),kE P "RoundOn" 389 (.ref 179)]) 18),#[]⟩
noncomputable def o14:OO:=λ_=>⟨.none,none,(.fields (List.toArray [(.int 1 0),(.int 0 0),(.ref 20),(.int 5 0),(.int 0 0),(.ref 27),(.int 12 0),(.int 0 0),(.ref 54),(.int 16 0),(.int 0 0),(.ref 73),(.int 20 0),(.int 0 0),(.ref 92),(.int 24 0),(.int 0 0),(.ref 111),(.int 28 0),(.int 0 0),(.ref 130),(.int 32 0),(.int 0 0),(.ref 149),(.int 36 0),(.int 0 0),(.ref 168)])),#[]⟩
def o15:OO:=λ_=>oT [(.str "k" 190)]
def o16:OO:=λ_=>oG "_wall" "_wall" (top 0)
def o17:OO:=λ_=>oC "_wall" 187 "_wall" 1 1 0 0 3 15 181 16 17 18 19 191 192
def o18:OO:=λ_=>oF "_wall" "_wall" (top 0) (.str "__main__" 164) 20
def o19:OO:=λ_=>oT [(.type "ValueError")]
noncomputable def o20:OO:=λ_=>⟨(.type "builtin_function_or_method"),none,(.fields (List.toArray [(.builtin "type.__prepare__"),(.type "type")])),#[]⟩
noncomputable def o21:OO:=λP=>⟨(.type "dict"),none,(.dict (List.toArray [kE P "__module__" 203 (.str "stillheap.errors" 194),kE P "__qualname__" 205 (.str "HeapError" 204),kE P "__firstlineno__" 207 (.int 5 206),kE P "__init__" 215 (.ref 35),kE P "called" 222 (.ref 42),kE P "__static_attributes__" 223 (.ref 43)]) 6),#[]⟩
noncomputable def o22:OO:=λ_=>⟨.none,none,(.fields (List.toArray [(.int 7 0),(.int 4 0),(.ref 34),(.int 10 0),(.int 4 0),(.ref 41)])),#[]⟩
noncomputable def o23:OO:=λ_=>⟨(.type "code"),none,(.fields (List.toArray [(.str "HeapError" 198),(.str "HeapError" 199),(.str "/claim/cut.py" 200),(.int 5 0),(.int 0 0),(.int 0 0),(.int 0 0),(.int 0 0),(.ref 25),(.bool false),(.int 181 0),(.ref 26),.none,.none,.none,.none,(.int 201 0),(.int 5 0),(.str "/claim/cut.py" 202)])),#[]⟩
noncomputable def o24:OO:=λ_=>⟨(.type "frame"),none,.plain,(List.toArray [(.some (.ref 27)),(.some (.ref 3)),(.some (.ref 24)),none,(.some (.str "stillheap.errors" 194)),none,(.some (.ref 0))])⟩
def o25:OO:=λ_=>oT [(.str "self" 211),(.str "text" 212)]
def o26:OO:=λ_=>oG "__init__" "HeapError.__init__" (inClass (top 2) 0)
noncomputable def o27:OO:=λ_=>oC "__init__" 208 "HeapError.__init__" 7 2 0 0 3 29 181 30 31 32 33 213 214
noncomputable def o28:OO:=λ_=>oF "__init__" "HeapError.__init__" (inClass (top 2) 0) (.str "stillheap.errors" 194) 34
def o29:OO:=λ_=>oT [(.str "self" 219)]
def o30:OO:=λ_=>oG "called" "HeapError.called" (inClass (top 2) 1)
def o31:OO:=λ_=>oC "called" 216 "HeapError.called" 10 1 0 0 3 36 181 37 38 39 40 220 221
noncomputable def o32:OO:=λ_=>oF "called" "HeapError.called" (inClass (top 2) 1) (.str "stillheap.errors" 194) 41
noncomputable def o33:OO:=λP=>⟨(.type "dict"),none,(.dict (List.toArray [kE P "__module__" 203 (.str "stillheap.errors" 194),kE P "__firstlineno__" 207 (.int 5 206),kE P "__init__" 215 (.ref 35),kE P "called" 222 (.ref 42),kE P "__static_attributes__" 223 (.ref 43),kE P "__weakref__" 225 (.ref 46),kE P "__doc__" 226 .none]) 3),#[]⟩
noncomputable def o34:OO:=λ_=>⟨(.type "type"),none,(.cls ⟨"HeapError",[(.type "ValueError")],[(.ref 45),(.type "ValueError"),(.type "Exception"),(.type "BaseException"),(.type "object")],44, "HeapError",true,[],[(.ref 65),(.ref 84),(.ref 103),(.ref 122),(.ref 141),(.ref 160),(.ref 179)],false,none,false⟩),(List.toArray [(.some (.ref 22)),none,(.some (.str "HeapError" 196)),(.some (.str "HeapError" 204)),(.some (.builtin "ValueError.__new__")),(.some (.bool true))])⟩
noncomputable def o35:OO:=λ_=>⟨(.type "getset_descriptor"),none,(.fields (List.toArray [(.str "__weakref__" 224),(.ref 45),(.builtin "ExceptionGroup.__weakref__"),.none])),#[]⟩
noncomputable def o36:OO:=λ_=>⟨(.type "super"),none,(.fields (List.toArray [(.ref 45),(.ref 45),(.ref 45)])),#[]⟩
noncomputable def o37:OO:=λ_=>⟨(.type "builtin_function_or_method"),none,(.fields (List.toArray [(.builtin "object.__init_subclass__"),(.ref 45)])),#[]⟩
def o38:OO:=λ_=>oT [(.ref 45)]
noncomputable def o39:OO:=λP=>⟨(.type "dict"),none,(.dict (List.toArray [kE P "__module__" 236 (.str "stillheap.errors" 194),kE P "__qualname__" 238 (.str "BadHand" 237),kE P "__firstlineno__" 240 (.int 12 239),kE P "called" 247 (.ref 62),kE P "__static_attributes__" 248 (.ref 63)]) 5),#[]⟩
noncomputable def o40:OO:=λ_=>⟨.none,none,(.fields (List.toArray [(.int 14 0),(.int 4 0),(.ref 61)])),#[]⟩
noncomputable def o41:OO:=λ_=>⟨(.type "code"),none,(.fields (List.toArray [(.str "BadHand" 231),(.str "BadHand" 232),(.str "/claim/cut.py" 233),(.int 12 0),(.int 0 0),(.int 0 0),(.int 0 0),(.int 0 0),(.ref 52),(.bool false),(.int 181 0),(.ref 53),.none,.none,.none,.none,(.int 234 0),(.int 12 0),(.str "/claim/cut.py" 235)])),#[]⟩
noncomputable def o42:OO:=λ_=>⟨(.type "frame"),none,.plain,(List.toArray [(.some (.ref 54)),(.some (.ref 3)),(.some (.ref 51)),none,(.some (.str "stillheap.errors" 194)),none,(.some (.ref 0))])⟩
def o43:OO:=λ_=>oT [(.str "self" 244)]
def o44:OO:=λ_=>oG "called" "BadHand.called" (inClass (top 3) 0)
def o45:OO:=λ_=>oC "called" 241 "BadHand.called" 14 1 0 0 3 56 181 57 58 59 60 245 246
noncomputable def o46:OO:=λ_=>oF "called" "BadHand.called" (inClass (top 3) 0) (.str "stillheap.errors" 194) 61
noncomputable def o47:OO:=λP=>⟨(.type "dict"),none,(.dict (List.toArray [kE P "__module__" 236 (.str "stillheap.errors" 194),kE P "__firstlineno__" 240 (.int 12 239),kE P "called" 247 (.ref 62),kE P "__static_attributes__" 248 (.ref 63),kE P "__doc__" 249 .none]) 2),#[]⟩
noncomputable def o48:OO:=λ_=>⟨(.type "type"),none,(.cls ⟨"BadHand",[(.ref 45)],[(.ref 65),(.ref 45),(.type "ValueError"),(.type "Exception"),(.type "BaseException"),(.type "object")],64, "BadHand",true,[],[],false,none,false⟩),(List.toArray [(.some (.ref 49)),none,(.some (.str "BadHand" 229)),(.some (.str "BadHand" 237)),(.some (.builtin "ValueError.__new__")),(.some (.bool true))])⟩
noncomputable def o49:OO:=λ_=>⟨(.type "super"),none,(.fields (List.toArray [(.ref 65),(.ref 65),(.ref 65)])),#[]⟩
noncomputable def o50:OO:=λ_=>⟨(.type "builtin_function_or_method"),none,(.fields (List.toArray [(.builtin "object.__init_subclass__"),(.ref 65)])),#[]⟩
noncomputable def o51:OO:=λP=>⟨(.type "dict"),none,(.dict (List.toArray [kE P "__module__" 259 (.str "stillheap.errors" 194),kE P "__qualname__" 261 (.str "BadName" 260),kE P "__firstlineno__" 263 (.int 16 262),kE P "called" 270 (.ref 81),kE P "__static_attributes__" 271 (.ref 82)]) 5),#[]⟩
noncomputable def o52:OO:=λ_=>⟨.none,none,(.fields (List.toArray [(.int 18 0),(.int 4 0),(.ref 80)])),#[]⟩
noncomputable def o53:OO:=λ_=>⟨(.type "code"),none,(.fields (List.toArray [(.str "BadName" 254),(.str "BadName" 255),(.str "/claim/cut.py" 256),(.int 16 0),(.int 0 0),(.int 0 0),(.int 0 0),(.int 0 0),(.ref 71),(.bool false),(.int 181 0),(.ref 72),.none,.none,.none,.none,(.int 257 0),(.int 16 0),(.str "/claim/cut.py" 258)])),#[]⟩
noncomputable def o54:OO:=λ_=>⟨(.type "frame"),none,.plain,(List.toArray [(.some (.ref 73)),(.some (.ref 3)),(.some (.ref 70)),none,(.some (.str "stillheap.errors" 194)),none,(.some (.ref 0))])⟩
def o55:OO:=λ_=>oT [(.str "self" 267)]
def o56:OO:=λ_=>oG "called" "BadName.called" (inClass (top 4) 0)
def o57:OO:=λ_=>oC "called" 264 "BadName.called" 18 1 0 0 3 75 181 76 77 78 79 268 269
noncomputable def o58:OO:=λ_=>oF "called" "BadName.called" (inClass (top 4) 0) (.str "stillheap.errors" 194) 80
noncomputable def o59:OO:=λP=>⟨(.type "dict"),none,(.dict (List.toArray [kE P "__module__" 259 (.str "stillheap.errors" 194),kE P "__firstlineno__" 263 (.int 16 262),kE P "called" 270 (.ref 81),kE P "__static_attributes__" 271 (.ref 82),kE P "__doc__" 272 .none]) 2),#[]⟩
noncomputable def o60:OO:=λ_=>⟨(.type "type"),none,(.cls ⟨"BadName",[(.ref 45)],[(.ref 84),(.ref 45),(.type "ValueError"),(.type "Exception"),(.type "BaseException"),(.type "object")],83, "BadName",true,[],[],false,none,false⟩),(List.toArray [(.some (.ref 68)),none,(.some (.str "BadName" 252)),(.some (.str "BadName" 260)),(.some (.builtin "ValueError.__new__")),(.some (.bool true))])⟩
noncomputable def o61:OO:=λ_=>⟨(.type "super"),none,(.fields (List.toArray [(.ref 84),(.ref 84),(.ref 84)])),#[]⟩
noncomputable def o62:OO:=λ_=>⟨(.type "builtin_function_or_method"),none,(.fields (List.toArray [(.builtin "object.__init_subclass__"),(.ref 84)])),#[]⟩
noncomputable def o63:OO:=λP=>⟨(.type "dict"),none,(.dict (List.toArray [kE P "__module__" 282 (.str "stillheap.errors" 194),kE P "__qualname__" 284 (.str "BadField" 283),kE P "__firstlineno__" 286 (.int 20 285),kE P "called" 293 (.ref 100),kE P "__static_attributes__" 294 (.ref 101)]) 5),#[]⟩
noncomputable def o64:OO:=λ_=>⟨.none,none,(.fields (List.toArray [(.int 22 0),(.int 4 0),(.ref 99)])),#[]⟩
noncomputable def o65:OO:=λ_=>⟨(.type "code"),none,(.fields (List.toArray [(.str "BadField" 277),(.str "BadField" 278),(.str "/claim/cut.py" 279),(.int 20 0),(.int 0 0),(.int 0 0),(.int 0 0),(.int 0 0),(.ref 90),(.bool false),(.int 181 0),(.ref 91),.none,.none,.none,.none,(.int 280 0),(.int 20 0),(.str "/claim/cut.py" 281)])),#[]⟩
noncomputable def o66:OO:=λ_=>⟨(.type "frame"),none,.plain,(List.toArray [(.some (.ref 92)),(.some (.ref 3)),(.some (.ref 89)),none,(.some (.str "stillheap.errors" 194)),none,(.some (.ref 0))])⟩
def o67:OO:=λ_=>oT [(.str "self" 290)]
def o68:OO:=λ_=>oG "called" "BadField.called" (inClass (top 5) 0)
def o69:OO:=λ_=>oC "called" 287 "BadField.called" 22 1 0 0 3 94 181 95 96 97 98 291 292
noncomputable def o70:OO:=λ_=>oF "called" "BadField.called" (inClass (top 5) 0) (.str "stillheap.errors" 194) 99
noncomputable def o71:OO:=λP=>⟨(.type "dict"),none,(.dict (List.toArray [kE P "__module__" 282 (.str "stillheap.errors" 194),kE P "__firstlineno__" 286 (.int 20 285),kE P "called" 293 (.ref 100),kE P "__static_attributes__" 294 (.ref 101),kE P "__doc__" 295 .none]) 2),#[]⟩
noncomputable def o72:OO:=λ_=>⟨(.type "type"),none,(.cls ⟨"BadField",[(.ref 45)],[(.ref 103),(.ref 45),(.type "ValueError"),(.type "Exception"),(.type "BaseException"),(.type "object")],102, "BadField",true,[],[],false,none,false⟩),(List.toArray [(.some (.ref 87)),none,(.some (.str "BadField" 275)),(.some (.str "BadField" 283)),(.some (.builtin "ValueError.__new__")),(.some (.bool true))])⟩
noncomputable def o73:OO:=λ_=>⟨(.type "super"),none,(.fields (List.toArray [(.ref 103),(.ref 103),(.ref 103)])),#[]⟩
noncomputable def o74:OO:=λ_=>⟨(.type "builtin_function_or_method"),none,(.fields (List.toArray [(.builtin "object.__init_subclass__"),(.ref 103)])),#[]⟩
noncomputable def o75:OO:=λP=>⟨(.type "dict"),none,(.dict (List.toArray [kE P "__module__" 305 (.str "stillheap.errors" 194),kE P "__qualname__" 307 (.str "BadCount" 306),kE P "__firstlineno__" 309 (.int 24 308),kE P "called" 316 (.ref 119),kE P "__static_attributes__" 317 (.ref 120)]) 5),#[]⟩
noncomputable def o76:OO:=λ_=>⟨.none,none,(.fields (List.toArray [(.int 26 0),(.int 4 0),(.ref 118)])),#[]⟩
noncomputable def o77:OO:=λ_=>⟨(.type "code"),none,(.fields (List.toArray [(.str "BadCount" 300),(.str "BadCount" 301),(.str "/claim/cut.py" 302),(.int 24 0),(.int 0 0),(.int 0 0),(.int 0 0),(.int 0 0),(.ref 109),(.bool false),(.int 181 0),(.ref 110),.none,.none,.none,.none,(.int 303 0),(.int 24 0),(.str "/claim/cut.py" 304)])),#[]⟩
noncomputable def o78:OO:=λ_=>⟨(.type "frame"),none,.plain,(List.toArray [(.some (.ref 111)),(.some (.ref 3)),(.some (.ref 108)),none,(.some (.str "stillheap.errors" 194)),none,(.some (.ref 0))])⟩
def o79:OO:=λ_=>oT [(.str "self" 313)]
def o80:OO:=λ_=>oG "called" "BadCount.called" (inClass (top 6) 0)
noncomputable def o81:OO:=λ_=>oC "called" 310 "BadCount.called" 26 1 0 0 3 113 181 114 115 116 117 314 315
noncomputable def o82:OO:=λ_=>oF "called" "BadCount.called" (inClass (top 6) 0) (.str "stillheap.errors" 194) 118
noncomputable def o83:OO:=λP=>⟨(.type "dict"),none,(.dict (List.toArray [kE P "__module__" 305 (.str "stillheap.errors" 194),kE P "__firstlineno__" 309 (.int 24 308),kE P "called" 316 (.ref 119),kE P "__static_attributes__" 317 (.ref 120),kE P "__doc__" 318 .none]) 2),#[]⟩
noncomputable def o84:OO:=λ_=>⟨(.type "type"),none,(.cls ⟨"BadCount",[(.ref 45)],[(.ref 122),(.ref 45),(.type "ValueError"),(.type "Exception"),(.type "BaseException"),(.type "object")],121, "BadCount",true,[],[],false,none,false⟩),(List.toArray [(.some (.ref 106)),none,(.some (.str "BadCount" 298)),(.some (.str "BadCount" 306)),(.some (.builtin "ValueError.__new__")),(.some (.bool true))])⟩
noncomputable def o85:OO:=λ_=>⟨(.type "super"),none,(.fields (List.toArray [(.ref 122),(.ref 122),(.ref 122)])),#[]⟩
noncomputable def o86:OO:=λ_=>⟨(.type "builtin_function_or_method"),none,(.fields (List.toArray [(.builtin "object.__init_subclass__"),(.ref 122)])),#[]⟩
noncomputable def o87:OO:=λP=>⟨(.type "dict"),none,(.dict (List.toArray [kE P "__module__" 328 (.str "stillheap.errors" 194),kE P "__qualname__" 330 (.str "NoRoom" 329),kE P "__firstlineno__" 332 (.int 28 331),kE P "called" 339 (.ref 138),kE P "__static_attributes__" 340 (.ref 139)]) 5),#[]⟩
noncomputable def o88:OO:=λ_=>⟨.none,none,(.fields (List.toArray [(.int 30 0),(.int 4 0),(.ref 137)])),#[]⟩
noncomputable def o89:OO:=λ_=>⟨(.type "code"),none,(.fields (List.toArray [(.str "NoRoom" 323),(.str "NoRoom" 324),(.str "/claim/cut.py" 325),(.int 28 0),(.int 0 0),(.int 0 0),(.int 0 0),(.int 0 0),(.ref 128),(.bool false),(.int 181 0),(.ref 129),.none,.none,.none,.none,(.int 326 0),(.int 28 0),(.str "/claim/cut.py" 327)])),#[]⟩
noncomputable def o90:OO:=λ_=>⟨(.type "frame"),none,.plain,(List.toArray [(.some (.ref 130)),(.some (.ref 3)),(.some (.ref 127)),none,(.some (.str "stillheap.errors" 194)),none,(.some (.ref 0))])⟩
def o91:OO:=λ_=>oT [(.str "self" 336)]
def o92:OO:=λ_=>oG "called" "NoRoom.called" (inClass (top 7) 0)
def o93:OO:=λ_=>oC "called" 333 "NoRoom.called" 30 1 0 0 3 132 181 133 134 135 136 337 338
noncomputable def o94:OO:=λ_=>oF "called" "NoRoom.called" (inClass (top 7) 0) (.str "stillheap.errors" 194) 137
noncomputable def o95:OO:=λP=>⟨(.type "dict"),none,(.dict (List.toArray [kE P "__module__" 328 (.str "stillheap.errors" 194),kE P "__firstlineno__" 332 (.int 28 331),kE P "called" 339 (.ref 138),kE P "__static_attributes__" 340 (.ref 139),kE P "__doc__" 341 .none]) 2),#[]⟩
noncomputable def o96:OO:=λ_=>⟨(.type "type"),none,(.cls ⟨"NoRoom",[(.ref 45)],[(.ref 141),(.ref 45),(.type "ValueError"),(.type "Exception"),(.type "BaseException"),(.type "object")],140, "NoRoom",true,[],[],false,none,false⟩),(List.toArray [(.some (.ref 125)),none,(.some (.str "NoRoom" 321)),(.some (.str "NoRoom" 329)),(.some (.builtin "ValueError.__new__")),(.some (.bool true))])⟩
noncomputable def o97:OO:=λ_=>⟨(.type "super"),none,(.fields (List.toArray [(.ref 141),(.ref 141),(.ref 141)])),#[]⟩
noncomputable def o98:OO:=λ_=>⟨(.type "builtin_function_or_method"),none,(.fields (List.toArray [(.builtin "object.__init_subclass__"),(.ref 141)])),#[]⟩
noncomputable def o99:OO:=λP=>⟨(.type "dict"),none,(.dict (List.toArray [kE P "__module__" 351 (.str "stillheap.errors" 194),kE P "__qualname__" 353 (.str "TooManyWords" 352),kE P "__firstlineno__" 355 (.int 32 354),kE P "called" 362 (.ref 157),kE P "__static_attributes__" 363 (.ref 158)]) 5),#[]⟩
noncomputable def R7:OO:=λ_=>⟨.none,none,(.fields (List.toArray [(.int 34 0),(.int 4 0),(.ref 156)])),#[]⟩
noncomputable def R8:OO:=λ_=>⟨(.type "code"),none,(.fields (List.toArray [(.str "TooManyWords" 346),(.str "TooManyWords" 347),(.str "/claim/cut.py" 348),(.int 32 0),(.int 0 0),(.int 0 0),(.int 0 0),(.int 0 0),(.ref 147),(.bool false),(.int 181 0),(.ref 148),.none,.none,.none,.none,(.int 349 0),(.int 32 0),(.str "/claim/cut.py" 350)])),#[]⟩
noncomputable def R9:OO:=λ_=>⟨(.type "frame"),none,.plain,(List.toArray [(.some (.ref 149)),(.some (.ref 3)),(.some (.ref 146)),none,(.some (.str "stillheap.errors" 194)),none,(.some (.ref 0))])⟩
def QN:OO:=λ_=>oT [(.str "self" 359)]
def Sa:OO:=λ_=>oG "called" "TooManyWords.called" (inClass (top 8) 0)
noncomputable def QO:OO:=λ_=>oC "called" 356 "TooManyWords.called" 34 1 0 0 3 151 181 152 153 154 155 360 361
noncomputable def QP:OO:=λ_=>oF "called" "TooManyWords.called" (inClass (top 8) 0) (.str "stillheap.errors" 194) 156
noncomputable def QQ:OO:=λP=>⟨(.type "dict"),none,(.dict (List.toArray [kE P "__module__" 351 (.str "stillheap.errors" 194),kE P "__firstlineno__" 355 (.int 32 354),kE P "called" 362 (.ref 157),kE P "__static_attributes__" 363 (.ref 158),kE P "__doc__" 364 .none]) 2),#[]⟩
noncomputable def QR:OO:=λ_=>⟨(.type "type"),none,(.cls ⟨"TooManyWords",[(.ref 45)],[(.ref 160),(.ref 45),(.type "ValueError"),(.type "Exception"),(.type "BaseException"),(.type "object")],159, "TooManyWords",true,[],[],false,none,false⟩),(List.toArray [(.some (.ref 144)),none,(.some (.str "TooManyWords" 344)),(.some (.str "TooManyWords" 352)),(.some (.builtin "ValueError.__new__")),(.some (.bool true))])⟩
noncomputable def Sb:OO:=λ_=>⟨(.type "super"),none,(.fields (List.toArray [(.ref 160),(.ref 160),(.ref 160)])),#[]⟩
noncomputable def Sd:OO:=λ_=>⟨(.type "builtin_function_or_method"),none,(.fields (List.toArray [(.builtin "object.__init_subclass__"),(.ref 160)])),#[]⟩
noncomputable def Se:OO:=λP=>⟨(.type "dict"),none,(.dict (List.toArray [kE P "__module__" 374 (.str "stillheap.errors" 194),kE P "__qualname__" 376 (.str "RoundOn" 375),kE P "__firstlineno__" 378 (.int 36 377),kE P "called" 385 (.ref 176),kE P "__static_attributes__" 386 (.ref 177)]) 5),#[]⟩
noncomputable def Sf:OO:=λ_=>⟨.none,none,(.fields (List.toArray [(.int 38 0),(.int 4 0),(.ref 175)])),#[]⟩
noncomputable def Sg:OO:=λ_=>⟨(.type "code"),none,(.fields (List.toArray [(.str "RoundOn" 369),(.str "RoundOn" 370),(.str "/claim/cut.py" 371),(.int 36 0),(.int 0 0),(.int 0 0),(.int 0 0),(.int 0 0),(.ref 166),(.bool false),(.int 181 0),(.ref 167),.none,.none,.none,.none,(.int 372 0),(.int 36 0),(.str "/claim/cut.py" 373)])),#[]⟩
noncomputable def Sh:OO:=λ_=>⟨(.type "frame"),none,.plain,(List.toArray [(.some (.ref 168)),(.some (.ref 3)),(.some (.ref 165)),none,(.some (.str "stillheap.errors" 194)),none,(.some (.ref 0))])⟩
def QS:OO:=λ_=>oT [(.str "self" 382)]
def Si:OO:=λ_=>oG "called" "RoundOn.called" (inClass (top 9) 0)
noncomputable def QT:OO:=λ_=>oC "called" 379 "RoundOn.called" 38 1 0 0 3 170 181 171 172 173 174 383 384
noncomputable def QU:OO:=λ_=>oF "called" "RoundOn.called" (inClass (top 9) 0) (.str "stillheap.errors" 194) 175
noncomputable def QV:OO:=λP=>⟨(.type "dict"),none,(.dict (List.toArray [kE P "__module__" 374 (.str "stillheap.errors" 194),kE P "__firstlineno__" 378 (.int 36 377),kE P "called" 385 (.ref 176),kE P "__static_attributes__" 386 (.ref 177),kE P "__doc__" 387 .none]) 2),#[]⟩
noncomputable def QW:OO:=λ_=>⟨(.type "type"),none,(.cls ⟨"RoundOn",[(.ref 45)],[(.ref 179),(.ref 45),(.type "ValueError"),(.type "Exception"),(.type "BaseException"),(.type "object")],178, "RoundOn",true,[],[],false,none,false⟩),(List.toArray [(.some (.ref 163)),none,(.some (.str "RoundOn" 367)),(.some (.str "RoundOn" 375)),(.some (.builtin "ValueError.__new__")),(.some (.bool true))])⟩
noncomputable def Sj:OO:=λ_=>⟨(.type "super"),none,(.fields (List.toArray [(.ref 179),(.ref 179),(.ref 179)])),#[]⟩
noncomputable def Sk:OO:=λ_=>⟨(.type "builtin_function_or_method"),none,(.fields (List.toArray [(.builtin "object.__init_subclass__"),(.ref 179)])),#[]⟩
noncomputable def ad7:OO:=λP=>⟨(.type "dict"),none,(.dict (List.toArray [kE P "__name__" 165 (.str "stillheap.weaknames" 715),kE P "__doc__" 166 .none,kE P "__package__" 167 .none,kE P "__loader__" 168 (.builtin "__main__.__loader__#opaque"),kE P "__spec__" 169 .none,kE P "__annotations__" 170 (.ref 6),kE P "__builtins__" 171 (.ref 4),kE P "__file__" 173 (.str "/claim/cut.py" 172),kE P "__cached__" 174 .none,kE P "_wall" 193 (.ref 21),kE P "HeapError" 228 (.ref 45),kE P "BadHand" 251 (.ref 65),kE P "BadName" 274 (.ref 84),kE P "BadField" 297 (.ref 103),kE P "BadCount" 320 (.ref 122),kE P "NoRoom" 343 (.ref 141),kE P "TooManyWords" 366 (.ref 160),kE P "RoundOn" 389 (.ref 179),kE P "NoRound" 412 (.ref 198),kE P "BadView" 435 (.ref 217),kE P "HANDS" 439 (.int 8 438),kE P "WEAK_NAMES" 441 (.int 8 440),kE P "MOST_FIELDS" 443 (.int 6 442),kE P "LEAST_ROOM" 445 (.int 7 444),kE P "MOST_YOUNG" 447 (.int 64 446),kE P "MOST_LIMIT" 449 (.int 400 448),kE P "number_value" 456 (.ref 226),kE P "thing_value" 463 (.ref 233),kE P "kind_of" 470 (.ref 240),kE P "words_of" 477 (.ref 247),kE P "look_at_number" 484 (.ref 254),kE P "look_at_hand" 491 (.ref 261),kE P "look_at_name" 498 (.ref 268),kE P "look_at_field" 506 (.ref 275),kE P "look_at_limits" 514 (.ref 282),kE P "Hands" 620 (.ref 362),kE P "MOST_BEARERS" 624 (.int 12 623),kE P "WordTable" 700 (.ref 425),kE P "last_steps" 714 (.ref 436)]) 39),#[]⟩
noncomputable def ad8:OO:=λ_=>⟨.none,none,(.fields (List.toArray [(.int 1 0),(.int 0 0),(.ref 20),(.int 5 0),(.int 0 0),(.ref 27),(.int 12 0),(.int 0 0),(.ref 54),(.int 16 0),(.int 0 0),(.ref 73),(.int 20 0),(.int 0 0),(.ref 92),(.int 24 0),(.int 0 0),(.ref 111),(.int 28 0),(.int 0 0),(.ref 130),(.int 32 0),(.int 0 0),(.ref 149),(.int 36 0),(.int 0 0),(.ref 168),(.int 40 0),(.int 0 0),(.ref 187),(.int 44 0),(.int 0 0),(.ref 206),(.int 55 0),(.int 0 0),(.ref 225),(.int 58 0),(.int 0 0),(.ref 232),(.int 62 0),(.int 0 0),(.ref 239),(.int 64 0),(.int 0 0),(.ref 246),(.int 68 0),(.int 0 0),(.ref 253),(.int 71 0),(.int 0 0),(.ref 260),(.int 74 0),(.int 0 0),(.ref 267),(.int 77 0),(.int 0 0),(.ref 274),(.int 80 0),(.int 0 0),(.ref 281),(.int 86 0),(.int 0 0),(.ref 288),(.int 128 0),(.int 0 0),(.ref 372),(.int 156 0),(.int 0 0),(.ref 435)])),#[]⟩
noncomputable def Sl:OO:=λ_=>⟨(.type "type"),none,(.cls ⟨"HeapError",[(.type "ValueError")],[(.ref 45),(.type "ValueError"),(.type "Exception"),(.type "BaseException"),(.type "object")],44, "HeapError",true,[],[(.ref 65),(.ref 84),(.ref 103),(.ref 122),(.ref 141),(.ref 160),(.ref 179),(.ref 198),(.ref 217)],false,none,false⟩),(List.toArray [(.some (.ref 22)),none,(.some (.str "HeapError" 196)),(.some (.str "HeapError" 204)),(.some (.builtin "ValueError.__new__")),(.some (.bool true))])⟩
noncomputable def Vv:OO:=λP=>⟨(.type "dict"),none,(.dict (List.toArray [kE P "__module__" 397 (.str "stillheap.errors" 194),kE P "__qualname__" 399 (.str "NoRound" 398),kE P "__firstlineno__" 401 (.int 40 400),kE P "called" 408 (.ref 195),kE P "__static_attributes__" 409 (.ref 196)]) 5),#[]⟩
noncomputable def Vw:OO:=λ_=>⟨.none,none,(.fields (List.toArray [(.int 42 0),(.int 4 0),(.ref 194)])),#[]⟩
noncomputable def Vx:OO:=λ_=>⟨(.type "code"),none,(.fields (List.toArray [(.str "NoRound" 392),(.str "NoRound" 393),(.str "/claim/cut.py" 394),(.int 40 0),(.int 0 0),(.int 0 0),(.int 0 0),(.int 0 0),(.ref 185),(.bool false),(.int 181 0),(.ref 186),.none,.none,.none,.none,(.int 395 0),(.int 40 0),(.str "/claim/cut.py" 396)])),#[]⟩
noncomputable def Vy:OO:=λ_=>⟨(.type "frame"),none,.plain,(List.toArray [(.some (.ref 187)),(.some (.ref 3)),(.some (.ref 184)),none,(.some (.str "stillheap.errors" 194)),none,(.some (.ref 0))])⟩
def Sn:OO:=λ_=>oT [(.str "self" 405)]
def Vz:OO:=λ_=>oG "called" "NoRound.called" (inClass (top 10) 0)
noncomputable def So:OO:=λ_=>oC "called" 402 "NoRound.called" 42 1 0 0 3 189 181 190 191 192 193 406 407
noncomputable def Sq:OO:=λ_=>oF "called" "NoRound.called" (inClass (top 10) 0) (.str "stillheap.errors" 194) 194
noncomputable def Sr:OO:=λP=>⟨(.type "dict"),none,(.dict (List.toArray [kE P "__module__" 397 (.str "stillheap.errors" 194),kE P "__firstlineno__" 401 (.int 40 400),kE P "called" 408 (.ref 195),kE P "__static_attributes__" 409 (.ref 196),kE P "__doc__" 410 .none]) 2),#[]⟩
noncomputable def Ss:OO:=λ_=>⟨(.type "type"),none,(.cls ⟨"NoRound",[(.ref 45)],[(.ref 198),(.ref 45),(.type "ValueError"),(.type "Exception"),(.type "BaseException"),(.type "object")],197, "NoRound",true,[],[],false,none,false⟩),(List.toArray [(.some (.ref 182)),none,(.some (.str "NoRound" 390)),(.some (.str "NoRound" 398)),(.some (.builtin "ValueError.__new__")),(.some (.bool true))])⟩
noncomputable def VA:OO:=λ_=>⟨(.type "super"),none,(.fields (List.toArray [(.ref 198),(.ref 198),(.ref 198)])),#[]⟩
noncomputable def VB:OO:=λ_=>⟨(.type "builtin_function_or_method"),none,(.fields (List.toArray [(.builtin "object.__init_subclass__"),(.ref 198)])),#[]⟩
noncomputable def VC:OO:=λP=>⟨(.type "dict"),none,(.dict (List.toArray [kE P "__module__" 420 (.str "stillheap.errors" 194),kE P "__qualname__" 422 (.str "BadView" 421),kE P "__firstlineno__" 424 (.int 44 423),kE P "called" 431 (.ref 214),kE P "__static_attributes__" 432 (.ref 215)]) 5),#[]⟩
noncomputable def VD:OO:=λ_=>⟨.none,none,(.fields (List.toArray [(.int 46 0),(.int 4 0),(.ref 213)])),#[]⟩
noncomputable def VE:OO:=λ_=>⟨(.type "code"),none,(.fields (List.toArray [(.str "BadView" 415),(.str "BadView" 416),(.str "/claim/cut.py" 417),(.int 44 0),(.int 0 0),(.int 0 0),(.int 0 0),(.int 0 0),(.ref 204),(.bool false),(.int 181 0),(.ref 205),.none,.none,.none,.none,(.int 418 0),(.int 44 0),(.str "/claim/cut.py" 419)])),#[]⟩
noncomputable def VF:OO:=λ_=>⟨(.type "frame"),none,.plain,(List.toArray [(.some (.ref 206)),(.some (.ref 3)),(.some (.ref 203)),none,(.some (.str "stillheap.errors" 194)),none,(.some (.ref 0))])⟩
def Su:OO:=λ_=>oT [(.str "self" 428)]
def VG:OO:=λ_=>oG "called" "BadView.called" (inClass (top 11) 0)
noncomputable def Sv:OO:=λ_=>oC "called" 425 "BadView.called" 46 1 0 0 3 208 181 209 210 211 212 429 430
noncomputable def Sw:OO:=λ_=>oF "called" "BadView.called" (inClass (top 11) 0) (.str "stillheap.errors" 194) 213
noncomputable def Sx:OO:=λP=>⟨(.type "dict"),none,(.dict (List.toArray [kE P "__module__" 420 (.str "stillheap.errors" 194),kE P "__firstlineno__" 424 (.int 44 423),kE P "called" 431 (.ref 214),kE P "__static_attributes__" 432 (.ref 215),kE P "__doc__" 433 .none]) 2),#[]⟩
noncomputable def Sy:OO:=λ_=>⟨(.type "type"),none,(.cls ⟨"BadView",[(.ref 45)],[(.ref 217),(.ref 45),(.type "ValueError"),(.type "Exception"),(.type "BaseException"),(.type "object")],216, "BadView",true,[],[],false,none,false⟩),(List.toArray [(.some (.ref 201)),none,(.some (.str "BadView" 413)),(.some (.str "BadView" 421)),(.some (.builtin "ValueError.__new__")),(.some (.bool true))])⟩
noncomputable def VH:OO:=λ_=>⟨(.type "super"),none,(.fields (List.toArray [(.ref 217),(.ref 217),(.ref 217)])),#[]⟩
noncomputable def VI:OO:=λ_=>⟨(.type "builtin_function_or_method"),none,(.fields (List.toArray [(.builtin "object.__init_subclass__"),(.ref 217)])),#[]⟩
def Sz:OO:=λ_=>oT [(.str "x" 453)]
def VJ:OO:=λ_=>oG "number_value" "number_value" (top 19)
noncomputable def SA:OO:=λ_=>oC "number_value" 450 "number_value" 55 1 0 0 3 220 181 221 222 223 224 454 455
noncomputable def SD:OO:=λ_=>oF "number_value" "number_value" (top 19) (.str "stillheap.values" 436) 225
def SE:OO:=λ_=>oT [(.str "t" 460)]
def VL:OO:=λ_=>oG "thing_value" "thing_value" (top 20)
noncomputable def SF:OO:=λ_=>oC "thing_value" 457 "thing_value" 58 1 0 0 3 227 181 228 229 230 231 461 462
def SG:OO:=λ_=>oF "thing_value" "thing_value" (top 20) (.str "stillheap.values" 436) 232
def SH:OO:=λ_=>oT [(.str "value" 467)]
def VM:OO:=λ_=>oG "kind_of" "kind_of" (top 21)
def SI:OO:=λ_=>oC "kind_of" 464 "kind_of" 62 1 0 0 3 234 181 235 236 237 238 468 469
def SJ:OO:=λ_=>oF "kind_of" "kind_of" (top 21) (.str "stillheap.values" 436) 239
def SK:OO:=λ_=>oT [(.str "fields" 474)]
def VN:OO:=λ_=>oG "words_of" "words_of" (top 22)
def SM:OO:=λ_=>oC "words_of" 471 "words_of" 64 1 0 0 3 241 181 242 243 244 245 475 476
def SN:OO:=λ_=>oF "words_of" "words_of" (top 22) (.str "stillheap.values" 436) 246
def SO:OO:=λ_=>oT [(.str "x" 481)]
def VO:OO:=λ_=>oG "look_at_number" "look_at_number" (top 23)
noncomputable def SQ:OO:=λ_=>oC "look_at_number" 478 "look_at_number" 68 1 0 0 3 248 181 249 250 251 252 482 483
noncomputable def SR:OO:=λ_=>oF "look_at_number" "look_at_number" (top 23) (.str "stillheap.values" 436) 253
def SS:OO:=λ_=>oT [(.str "h" 488)]
def VP:OO:=λ_=>oG "look_at_hand" "look_at_hand" (top 24)
noncomputable def SU:OO:=λ_=>oC "look_at_hand" 485 "look_at_hand" 71 1 0 0 3 255 181 256 257 258 259 489 490
noncomputable def SV:OO:=λ_=>oF "look_at_hand" "look_at_hand" (top 24) (.str "stillheap.values" 436) 260
def SW:OO:=λ_=>oT [(.str "w" 495)]
def VQ:OO:=λ_=>oG "look_at_name" "look_at_name" (top 25)
noncomputable def SX:OO:=λ_=>oC "look_at_name" 492 "look_at_name" 74 1 0 0 3 262 181 263 264 265 266 496 497
noncomputable def SY:OO:=λ_=>oF "look_at_name" "look_at_name" (top 25) (.str "stillheap.values" 436) 267
def S4:OO:=λ_=>oT [(.str "k" 502),(.str "fields" 503)]
def VR:OO:=λ_=>oG "look_at_field" "look_at_field" (top 26)
noncomputable def S5:OO:=λ_=>oC "look_at_field" 499 "look_at_field" 77 2 0 0 3 269 181 270 271 272 273 504 505
noncomputable def S6:OO:=λ_=>oF "look_at_field" "look_at_field" (top 26) (.str "stillheap.values" 436) 274
def S7:OO:=λ_=>oT [(.str "young" 510),(.str "limit" 511)]
def VS:OO:=λ_=>oG "look_at_limits" "look_at_limits" (top 27)
noncomputable def S8:OO:=λ_=>oC "look_at_limits" 507 "look_at_limits" 80 2 0 0 3 276 181 277 278 279 280 512 513
noncomputable def S9:OO:=λ_=>oF "look_at_limits" "look_at_limits" (top 27) (.str "stillheap.values" 436) 281
noncomputable def VT:OO:=λP=>⟨(.type "dict"),none,(.dict (List.toArray [kE P "__module__" 524 (.str "stillheap.hands" 515),kE P "__qualname__" 526 (.str "Hands" 525),kE P "__firstlineno__" 528 (.int 86 527),kE P "__init__" 535 (.ref 296),kE P "word_in" 543 (.ref 303),kE P "all_words" 550 (.ref 310),kE P "put" 559 (.ref 317),kE P "copy" 568 (.ref 324),kE P "number" 577 (.ref 331),kE P "kind" 586 (.ref 338),kE P "value" 594 (.ref 345),kE P "same" 603 (.ref 352),kE P "thing_due" 611 (.ref 359),kE P "__static_attributes__" 613 (.ref 360)]) 14),#[]⟩
noncomputable def VU:OO:=λ_=>⟨.none,none,(.fields (List.toArray [(.int 88 0),(.int 4 0),(.ref 295),(.int 91 0),(.int 4 0),(.ref 302),(.int 95 0),(.int 4 0),(.ref 309),(.int 98 0),(.int 4 0),(.ref 316),(.int 102 0),(.int 4 0),(.ref 323),(.int 106 0),(.int 4 0),(.ref 330),(.int 110 0),(.int 4 0),(.ref 337),(.int 114 0),(.int 4 0),(.ref 344),(.int 119 0),(.int 4 0),(.ref 351),(.int 122 0),(.int 4 0),(.ref 358)])),#[]⟩
noncomputable def VV:OO:=λ_=>⟨(.type "code"),none,(.fields (List.toArray [(.str "Hands" 519),(.str "Hands" 520),(.str "/claim/cut.py" 521),(.int 86 0),(.int 0 0),(.int 0 0),(.int 0 0),(.int 0 0),(.ref 286),(.bool false),(.int 181 0),(.ref 287),.none,.none,.none,.none,(.int 522 0),(.int 86 0),(.str "/claim/cut.py" 523)])),#[]⟩
noncomputable def VW:OO:=λ_=>⟨(.type "frame"),none,.plain,(List.toArray [(.some (.ref 288)),(.some (.ref 3)),(.some (.ref 285)),none,(.some (.str "stillheap.hands" 515)),none,(.some (.ref 0))])⟩
def Ta:OO:=λ_=>oT [(.str "self" 532)]
def VX:OO:=λ_=>oG "__init__" "Hands.__init__" (inClass (top 29) 0)
noncomputable def Tb:OO:=λ_=>oC "__init__" 529 "Hands.__init__" 88 1 0 0 3 290 181 291 292 293 294 533 534
noncomputable def Tc:OO:=λ_=>oF "__init__" "Hands.__init__" (inClass (top 29) 0) (.str "stillheap.hands" 515) 295
def Td:OO:=λ_=>oT [(.str "self" 539),(.str "h" 540)]
def VY:OO:=λ_=>oG "word_in" "Hands.word_in" (inClass (top 29) 1)
noncomputable def Tf:OO:=λ_=>oC "word_in" 536 "Hands.word_in" 91 2 0 0 3 297 181 298 299 300 301 541 542
noncomputable def Tg:OO:=λ_=>oF "word_in" "Hands.word_in" (inClass (top 29) 1) (.str "stillheap.hands" 515) 302
def Th:OO:=λ_=>oT [(.str "self" 547)]
def VZ:OO:=λ_=>oG "all_words" "Hands.all_words" (inClass (top 29) 2)
noncomputable def Ti:OO:=λ_=>oC "all_words" 544 "Hands.all_words" 95 1 0 0 3 304 181 305 306 307 308 548 549
noncomputable def Tj:OO:=λ_=>oF "all_words" "Hands.all_words" (inClass (top 29) 2) (.str "stillheap.hands" 515) 309
def Tn:OO:=λ_=>oT [(.str "self" 554),(.str "h" 555),(.str "word" 556)]
def V0:OO:=λ_=>oG "put" "Hands.put" (inClass (top 29) 3)
def To:OO:=λ_=>oC "put" 551 "Hands.put" 98 3 0 0 3 311 181 312 313 314 315 557 558
def Tp:OO:=λ_=>oF "put" "Hands.put" (inClass (top 29) 3) (.str "stillheap.hands" 515) 316
def Tq:OO:=λ_=>oT [(.str "self" 563),(.str "h" 564),(.str "g" 565)]
def V1:OO:=λ_=>oG "copy" "Hands.copy" (inClass (top 29) 4)
def Tr:OO:=λ_=>oC "copy" 560 "Hands.copy" 102 3 0 0 3 318 181 319 320 321 322 566 567
noncomputable def Ts:OO:=λ_=>oF "copy" "Hands.copy" (inClass (top 29) 4) (.str "stillheap.hands" 515) 323
def Tt:OO:=λ_=>oT [(.str "self" 572),(.str "h" 573),(.str "x" 574)]
def V2:OO:=λ_=>oG "number" "Hands.number" (inClass (top 29) 5)
def Tu:OO:=λ_=>oC "number" 569 "Hands.number" 106 3 0 0 3 325 181 326 327 328 329 575 576
noncomputable def Tv:OO:=λ_=>oF "number" "Hands.number" (inClass (top 29) 5) (.str "stillheap.hands" 515) 330
def Tw:OO:=λ_=>oT [(.str "self" 581),(.str "h" 582),(.str "kind" 583)]
def V3:OO:=λ_=>oG "kind" "Hands.kind" (inClass (top 29) 6)
def Tx:OO:=λ_=>oC "kind" 578 "Hands.kind" 110 2 0 0 3 332 181 333 334 335 336 584 585
noncomputable def Tz:OO:=λ_=>oF "kind" "Hands.kind" (inClass (top 29) 6) (.str "stillheap.hands" 515) 337
def TB:OO:=λ_=>oT [(.str "self" 590),(.str "h" 591)]
def V4:OO:=λ_=>oG "value" "Hands.value" (inClass (top 29) 7)
def TC:OO:=λ_=>oC "value" 587 "Hands.value" 114 2 0 0 3 339 181 340 341 342 343 592 593
noncomputable def TH:OO:=λ_=>oF "value" "Hands.value" (inClass (top 29) 7) (.str "stillheap.hands" 515) 344
def TJ:OO:=λ_=>oT [(.str "self" 598),(.str "h" 599),(.str "g" 600)]
def V5:OO:=λ_=>oG "same" "Hands.same" (inClass (top 29) 8)
def TK:OO:=λ_=>oC "same" 595 "Hands.same" 119 3 0 0 3 346 181 347 348 349 350 601 602
noncomputable def TL:OO:=λ_=>oF "same" "Hands.same" (inClass (top 29) 8) (.str "stillheap.hands" 515) 351
def TM:OO:=λ_=>oT [(.str "self" 607),(.str "h" 608)]
def V6:OO:=λ_=>oG "thing_due" "Hands.thing_due" (inClass (top 29) 9)
noncomputable def TN:OO:=λ_=>oC "thing_due" 604 "Hands.thing_due" 122 2 0 0 3 353 181 354 355 356 357 609 610
noncomputable def TQ:OO:=λ_=>oF "thing_due" "Hands.thing_due" (inClass (top 29) 9) (.str "stillheap.hands" 515) 358
def TR:OO:=λ_=>oT [(.str "words_held" 612)]
noncomputable def TU:OO:=λP=>⟨(.type "dict"),none,(.dict (List.toArray [kE P "__module__" 524 (.str "stillheap.hands" 515),kE P "__firstlineno__" 528 (.int 86 527),kE P "__init__" 535 (.ref 296),kE P "word_in" 543 (.ref 303),kE P "all_words" 550 (.ref 310),kE P "put" 559 (.ref 317),kE P "copy" 568 (.ref 324),kE P "number" 577 (.ref 331),kE P "kind" 586 (.ref 338),kE P "value" 594 (.ref 345),kE P "same" 603 (.ref 352),kE P "thing_due" 611 (.ref 359),kE P "__static_attributes__" 613 (.ref 360),kE P "__dict__" 615 (.ref 363),kE P "__weakref__" 617 (.ref 364),kE P "__doc__" 618 .none]) 4),#[]⟩
noncomputable def TV:OO:=λ_=>⟨(.type "type"),none,(.cls ⟨"Hands",[(.type "object")],[(.ref 362),(.type "object")],361, "Hands",true,[],[],false,none,false⟩),(List.toArray [none,none,(.some (.str "Hands" 517)),(.some (.str "Hands" 525)),(.some (.builtin "object.__new__")),(.some (.bool true))])⟩
noncomputable def TX:OO:=λ_=>⟨(.type "getset_descriptor"),none,(.fields (List.toArray [(.str "__dict__" 614),(.ref 362),(.builtin "function.__dict__"),(.builtin "function.__dict__#set")])),#[]⟩
noncomputable def TY:OO:=λ_=>⟨(.type "getset_descriptor"),none,(.fields (List.toArray [(.str "__weakref__" 616),(.ref 362),(.builtin "ExceptionGroup.__weakref__"),.none])),#[]⟩
noncomputable def V7:OO:=λ_=>⟨(.type "super"),none,(.fields (List.toArray [(.ref 362),(.ref 362),(.ref 362)])),#[]⟩
noncomputable def V8:OO:=λ_=>⟨(.type "builtin_function_or_method"),none,(.fields (List.toArray [(.builtin "object.__init_subclass__"),(.ref 362)])),#[]⟩
noncomputable def V9:OO:=λP=>⟨(.type "dict"),none,(.dict (List.toArray [kE P "__module__" 632 (.str "stillheap.lastwords" 621),kE P "__qualname__" 634 (.str "WordTable" 633),kE P "__firstlineno__" 636 (.int 128 635),kE P "__init__" 643 (.ref 380),kE P "bear" 652 (.ref 387),kE P "word_of" 660 (.ref 394),kE P "bearers" 667 (.ref 401),kE P "settle" 676 (.ref 408),kE P "take" 683 (.ref 415),kE P "said" 690 (.ref 422),kE P "__static_attributes__" 693 (.ref 423)]) 11),#[]⟩
noncomputable def Wa:OO:=λ_=>⟨.none,none,(.fields (List.toArray [(.int 130 0),(.int 4 0),(.ref 379),(.int 134 0),(.int 4 0),(.ref 386),(.int 139 0),(.int 4 0),(.ref 393),(.int 142 0),(.int 4 0),(.ref 400),(.int 145 0),(.int 4 0),(.ref 407),(.int 150 0),(.int 4 0),(.ref 414),(.int 153 0),(.int 4 0),(.ref 421)])),#[]⟩
noncomputable def Wb:OO:=λ_=>⟨(.type "code"),none,(.fields (List.toArray [(.str "WordTable" 627),(.str "WordTable" 628),(.str "/claim/cut.py" 629),(.int 128 0),(.int 0 0),(.int 0 0),(.int 0 0),(.int 0 0),(.ref 370),(.bool false),(.int 181 0),(.ref 371),.none,.none,.none,.none,(.int 630 0),(.int 128 0),(.str "/claim/cut.py" 631)])),#[]⟩
noncomputable def Wc:OO:=λ_=>⟨(.type "frame"),none,.plain,(List.toArray [(.some (.ref 372)),(.some (.ref 3)),(.some (.ref 369)),none,(.some (.str "stillheap.lastwords" 621)),none,(.some (.ref 0))])⟩
def TZ:OO:=λ_=>oT [(.str "self" 640)]
def We:OO:=λ_=>oG "__init__" "WordTable.__init__" (inClass (top 32) 0)
noncomputable def T1:OO:=λ_=>oC "__init__" 637 "WordTable.__init__" 130 1 0 0 3 374 181 375 376 377 378 641 642
noncomputable def T2:OO:=λ_=>oF "__init__" "WordTable.__init__" (inClass (top 32) 0) (.str "stillheap.lastwords" 621) 379
def T3:OO:=λ_=>oT [(.str "self" 647),(.str "t" 648),(.str "x" 649)]
def Wf:OO:=λ_=>oG "bear" "WordTable.bear" (inClass (top 32) 1)
def T4:OO:=λ_=>oC "bear" 644 "WordTable.bear" 134 3 0 0 3 381 181 382 383 384 385 650 651
noncomputable def T5:OO:=λ_=>oF "bear" "WordTable.bear" (inClass (top 32) 1) (.str "stillheap.lastwords" 621) 386
def T6:OO:=λ_=>oT [(.str "self" 656),(.str "t" 657)]
def Wg:OO:=λ_=>oG "word_of" "WordTable.word_of" (inClass (top 32) 2)
noncomputable def T7:OO:=λ_=>oC "word_of" 653 "WordTable.word_of" 139 2 0 0 3 388 181 389 390 391 392 658 659
noncomputable def T8:OO:=λ_=>oF "word_of" "WordTable.word_of" (inClass (top 32) 2) (.str "stillheap.lastwords" 621) 393
def T9:OO:=λ_=>oT [(.str "self" 664)]
def Wh:OO:=λ_=>oG "bearers" "WordTable.bearers" (inClass (top 32) 3)
noncomputable def Ua:OO:=λ_=>oC "bearers" 661 "WordTable.bearers" 142 1 0 0 3 395 181 396 397 398 399 665 666
noncomputable def Ub:OO:=λ_=>oF "bearers" "WordTable.bearers" (inClass (top 32) 3) (.str "stillheap.lastwords" 621) 400
def Uc:OO:=λ_=>oT [(.str "self" 671),(.str "things" 672),(.str "t" 673)]
def Wi:OO:=λ_=>oG "settle" "WordTable.settle" (inClass (top 32) 4)
noncomputable def Ud:OO:=λ_=>oC "settle" 668 "WordTable.settle" 145 2 0 0 3 402 181 403 404 405 406 674 675
noncomputable def Ue:OO:=λ_=>oF "settle" "WordTable.settle" (inClass (top 32) 4) (.str "stillheap.lastwords" 621) 407
def Ug:OO:=λ_=>oT [(.str "self" 680)]
def Wj:OO:=λ_=>oG "take" "WordTable.take" (inClass (top 32) 5)
def Uh:OO:=λ_=>oC "take" 677 "WordTable.take" 150 1 0 0 3 409 181 410 411 412 413 681 682
noncomputable def Ui:OO:=λ_=>oF "take" "WordTable.take" (inClass (top 32) 5) (.str "stillheap.lastwords" 621) 414
def Uj:OO:=λ_=>oT [(.str "self" 687)]
def Wl:OO:=λ_=>oG "said" "WordTable.said" (inClass (top 32) 6)
def Uk:OO:=λ_=>oC "said" 684 "WordTable.said" 153 1 0 0 3 416 181 417 418 419 420 688 689
noncomputable def Ul:OO:=λ_=>oF "said" "WordTable.said" (inClass (top 32) 6) (.str "stillheap.lastwords" 621) 421
def Um:OO:=λ_=>oT [(.str "words_borne" 691),(.str "words_said" 692)]
noncomputable def Uo:OO:=λP=>⟨(.type "dict"),none,(.dict (List.toArray [kE P "__module__" 632 (.str "stillheap.lastwords" 621),kE P "__firstlineno__" 636 (.int 128 635),kE P "__init__" 643 (.ref 380),kE P "bear" 652 (.ref 387),kE P "word_of" 660 (.ref 394),kE P "bearers" 667 (.ref 401),kE P "settle" 676 (.ref 408),kE P "take" 683 (.ref 415),kE P "said" 690 (.ref 422),kE P "__static_attributes__" 693 (.ref 423),kE P "__dict__" 695 (.ref 426),kE P "__weakref__" 697 (.ref 427),kE P "__doc__" 698 .none]) 4),#[]⟩
noncomputable def Up:OO:=λ_=>⟨(.type "type"),none,(.cls ⟨"WordTable",[(.type "object")],[(.ref 425),(.type "object")],424, "WordTable",true,[],[],false,none,false⟩),(List.toArray [none,none,(.some (.str "WordTable" 625)),(.some (.str "WordTable" 633)),(.some (.builtin "object.__new__")),(.some (.bool true))])⟩
noncomputable def Uq:OO:=λ_=>⟨(.type "getset_descriptor"),none,(.fields (List.toArray [(.str "__dict__" 694),(.ref 425),(.builtin "function.__dict__"),(.builtin "function.__dict__#set")])),#[]⟩
noncomputable def Ur:OO:=λ_=>⟨(.type "getset_descriptor"),none,(.fields (List.toArray [(.str "__weakref__" 696),(.ref 425),(.builtin "ExceptionGroup.__weakref__"),.none])),#[]⟩
noncomputable def Wm:OO:=λ_=>⟨(.type "super"),none,(.fields (List.toArray [(.ref 425),(.ref 425),(.ref 425)])),#[]⟩
noncomputable def Wn:OO:=λ_=>⟨(.type "builtin_function_or_method"),none,(.fields (List.toArray [(.builtin "object.__init_subclass__"),(.ref 425)])),#[]⟩
noncomputable def Us:OO:=λ_=>oT [(.str "view" 706),(.str "steps" 707),(.str "place" 708),(.str "thing" 709),(.str "met" 710),(.str "done" 711)]
def Wo:OO:=λ_=>oG "last_steps" "last_steps" (top 34)
noncomputable def Ut:OO:=λ_=>oC "last_steps" 703 "last_steps" 156 1 0 0 3 430 181 431 432 433 434 712 713
def Uu:OO:=λ_=>oF "last_steps" "last_steps" (top 34) (.str "stillheap.reach" 701) 435
noncomputable def ad9:OO:=λP=>⟨(.type "dict"),none,(.dict (List.toArray [kE P "__name__" 165 (.str "stillheap.ideal" 960),kE P "__doc__" 166 .none,kE P "__package__" 167 .none,kE P "__loader__" 168 (.builtin "__main__.__loader__#opaque"),kE P "__spec__" 169 .none,kE P "__annotations__" 170 (.ref 6),kE P "__builtins__" 171 (.ref 4),kE P "__file__" 173 (.str "/claim/cut.py" 172),kE P "__cached__" 174 .none,kE P "_wall" 193 (.ref 21),kE P "HeapError" 228 (.ref 45),kE P "BadHand" 251 (.ref 65),kE P "BadName" 274 (.ref 84),kE P "BadField" 297 (.ref 103),kE P "BadCount" 320 (.ref 122),kE P "NoRoom" 343 (.ref 141),kE P "TooManyWords" 366 (.ref 160),kE P "RoundOn" 389 (.ref 179),kE P "NoRound" 412 (.ref 198),kE P "BadView" 435 (.ref 217),kE P "HANDS" 439 (.int 8 438),kE P "WEAK_NAMES" 441 (.int 8 440),kE P "MOST_FIELDS" 443 (.int 6 442),kE P "LEAST_ROOM" 445 (.int 7 444),kE P "MOST_YOUNG" 447 (.int 64 446),kE P "MOST_LIMIT" 449 (.int 400 448),kE P "number_value" 456 (.ref 226),kE P "thing_value" 463 (.ref 233),kE P "kind_of" 470 (.ref 240),kE P "words_of" 477 (.ref 247),kE P "look_at_number" 484 (.ref 254),kE P "look_at_hand" 491 (.ref 261),kE P "look_at_name" 498 (.ref 268),kE P "look_at_field" 506 (.ref 275),kE P "look_at_limits" 514 (.ref 282),kE P "Hands" 620 (.ref 362),kE P "MOST_BEARERS" 624 (.int 12 623),kE P "WordTable" 700 (.ref 425),kE P "last_steps" 714 (.ref 436),kE P "NameTable" 774 (.ref 479),kE P "Heap" 951 (.ref 606),kE P "thing_among" 959 (.ref 617)]) 42),#[]⟩
noncomputable def aea:OO:=λ_=>⟨.none,none,(.fields (List.toArray [(.int 1 0),(.int 0 0),(.ref 20),(.int 5 0),(.int 0 0),(.ref 27),(.int 12 0),(.int 0 0),(.ref 54),(.int 16 0),(.int 0 0),(.ref 73),(.int 20 0),(.int 0 0),(.ref 92),(.int 24 0),(.int 0 0),(.ref 111),(.int 28 0),(.int 0 0),(.ref 130),(.int 32 0),(.int 0 0),(.ref 149),(.int 36 0),(.int 0 0),(.ref 168),(.int 40 0),(.int 0 0),(.ref 187),(.int 44 0),(.int 0 0),(.ref 206),(.int 55 0),(.int 0 0),(.ref 225),(.int 58 0),(.int 0 0),(.ref 232),(.int 62 0),(.int 0 0),(.ref 239),(.int 64 0),(.int 0 0),(.ref 246),(.int 68 0),(.int 0 0),(.ref 253),(.int 71 0),(.int 0 0),(.ref 260),(.int 74 0),(.int 0 0),(.ref 267),(.int 77 0),(.int 0 0),(.ref 274),(.int 80 0),(.int 0 0),(.ref 281),(.int 86 0),(.int 0 0),(.ref 288),(.int 128 0),(.int 0 0),(.ref 372),(.int 156 0),(.int 0 0),(.ref 435),(.int 171 0),(.int 0 0),(.ref 442),(.int 190 0),(.int 0 0),(.ref 489),(.int 280 0),(.int 0 0),(.ref 616)])),#[]⟩
noncomputable def Zp:OO:=λP=>⟨(.type "dict"),none,(.dict (List.toArray [kE P "__module__" 724 (.str "stillheap.weaknames" 715),kE P "__qualname__" 726 (.str "NameTable" 725),kE P "__firstlineno__" 728 (.int 171 727),kE P "__init__" 735 (.ref 450),kE P "name" 744 (.ref 457),kE P "named" 752 (.ref 464),kE P "all_named" 759 (.ref 471),kE P "settle" 765 (.ref 476),kE P "__static_attributes__" 767 (.ref 477)]) 9),#[]⟩
noncomputable def Zq:OO:=λ_=>⟨.none,none,(.fields (List.toArray [(.int 173 0),(.int 4 0),(.ref 449),(.int 176 0),(.int 4 0),(.ref 456),(.int 180 0),(.int 4 0),(.ref 463),(.int 184 0),(.int 4 0),(.ref 470),(.int 187 0),(.int 4 0),(.ref 475)])),#[]⟩
noncomputable def Zr:OO:=λ_=>⟨(.type "code"),none,(.fields (List.toArray [(.str "NameTable" 719),(.str "NameTable" 720),(.str "/claim/cut.py" 721),(.int 171 0),(.int 0 0),(.int 0 0),(.int 0 0),(.int 0 0),(.ref 440),(.bool false),(.int 181 0),(.ref 441),.none,.none,.none,.none,(.int 722 0),(.int 171 0),(.str "/claim/cut.py" 723)])),#[]⟩
noncomputable def Zs:OO:=λ_=>⟨(.type "frame"),none,.plain,(List.toArray [(.some (.ref 442)),(.some (.ref 3)),(.some (.ref 439)),none,(.some (.str "stillheap.weaknames" 715)),none,(.some (.ref 0))])⟩
def Wq:OO:=λ_=>oT [(.str "self" 732)]
def Zt:OO:=λ_=>oG "__init__" "NameTable.__init__" (inClass (top 36) 0)
noncomputable def Wr:OO:=λ_=>oC "__init__" 729 "NameTable.__init__" 173 1 0 0 3 444 181 445 446 447 448 733 734
noncomputable def Ws:OO:=λ_=>oF "__init__" "NameTable.__init__" (inClass (top 36) 0) (.str "stillheap.weaknames" 715) 449
def Wu:OO:=λ_=>oT [(.str "self" 739),(.str "w" 740),(.str "t" 741)]
def Zu:OO:=λ_=>oG "name" "NameTable.name" (inClass (top 36) 1)
def Wv:OO:=λ_=>oC "name" 736 "NameTable.name" 176 3 0 0 3 451 181 452 453 454 455 742 743
noncomputable def Ww:OO:=λ_=>oF "name" "NameTable.name" (inClass (top 36) 1) (.str "stillheap.weaknames" 715) 456
def Wx:OO:=λ_=>oT [(.str "self" 748),(.str "w" 749)]
def Zv:OO:=λ_=>oG "named" "NameTable.named" (inClass (top 36) 2)
noncomputable def Wy:OO:=λ_=>oC "named" 745 "NameTable.named" 180 2 0 0 3 458 181 459 460 461 462 750 751
noncomputable def Wz:OO:=λ_=>oF "named" "NameTable.named" (inClass (top 36) 2) (.str "stillheap.weaknames" 715) 463
def WA:OO:=λ_=>oT [(.str "self" 756)]
def Zw:OO:=λ_=>oG "all_named" "NameTable.all_named" (inClass (top 36) 3)
noncomputable def WB:OO:=λ_=>oC "all_named" 753 "NameTable.all_named" 184 1 0 0 3 465 181 466 467 468 469 757 758
noncomputable def WC:OO:=λ_=>oF "all_named" "NameTable.all_named" (inClass (top 36) 3) (.str "stillheap.weaknames" 715) 470
def Zx:OO:=λ_=>oG "settle" "NameTable.settle" (inClass (top 36) 4)
noncomputable def WD:OO:=λ_=>⟨(.type "code"),none,(.fields (List.toArray [(.str "settle" 760),(.str "NameTable.settle" 761),(.str "/claim/cut.py" 762),(.int 187 0),(.int 2 0),(.int 0 0),(.int 0 0),(.int 3 0),(.ref 472),(.bool true),(.int 181 0),(.ref 473),.none,.none,.none,(.ref 474),(.int 763 0),(.int 187 0),(.str "/claim/cut.py" 764)])),#[]⟩
noncomputable def WE:OO:=λ_=>oF "settle" "NameTable.settle" (inClass (top 36) 4) (.str "stillheap.weaknames" 715) 475
def WG:OO:=λ_=>oT [(.str "things_named" 766)]
noncomputable def WH:OO:=λP=>⟨(.type "dict"),none,(.dict (List.toArray [kE P "__module__" 724 (.str "stillheap.weaknames" 715),kE P "__firstlineno__" 728 (.int 171 727),kE P "__init__" 735 (.ref 450),kE P "name" 744 (.ref 457),kE P "named" 752 (.ref 464),kE P "all_named" 759 (.ref 471),kE P "settle" 765 (.ref 476),kE P "__static_attributes__" 767 (.ref 477),kE P "__dict__" 769 (.ref 480),kE P "__weakref__" 771 (.ref 481),kE P "__doc__" 772 .none]) 4),#[]⟩
noncomputable def WI:OO:=λ_=>⟨(.type "type"),none,(.cls ⟨"NameTable",[(.type "object")],[(.ref 479),(.type "object")],478, "NameTable",true,[],[],false,none,false⟩),(List.toArray [none,none,(.some (.str "NameTable" 717)),(.some (.str "NameTable" 725)),(.some (.builtin "object.__new__")),(.some (.bool true))])⟩
noncomputable def WJ:OO:=λ_=>⟨(.type "getset_descriptor"),none,(.fields (List.toArray [(.str "__dict__" 768),(.ref 479),(.builtin "function.__dict__"),(.builtin "function.__dict__#set")])),#[]⟩
noncomputable def WK:OO:=λ_=>⟨(.type "getset_descriptor"),none,(.fields (List.toArray [(.str "__weakref__" 770),(.ref 479),(.builtin "ExceptionGroup.__weakref__"),.none])),#[]⟩
noncomputable def Zy:OO:=λ_=>⟨(.type "super"),none,(.fields (List.toArray [(.ref 479),(.ref 479),(.ref 479)])),#[]⟩
noncomputable def Zz:OO:=λ_=>⟨(.type "builtin_function_or_method"),none,(.fields (List.toArray [(.builtin "object.__init_subclass__"),(.ref 479)])),#[]⟩
noncomputable def ZA:OO:=λP=>⟨(.type "dict"),none,(.dict (List.toArray [kE P "__module__" 784 (.str "stillheap.heaps" 775),kE P "__qualname__" 786 (.str "Heap" 785),kE P "__firstlineno__" 788 (.int 190 787),kE P "__init__" 796 (.ref 497),kE P "add_thing" 806 (.ref 504),kE P "load" 817 (.ref 511),kE P "store" 829 (.ref 518),kE P "copy" 838 (.ref 525),kE P "drop" 846 (.ref 532),kE P "number" 855 (.ref 539),kE P "name" 865 (.ref 546),kE P "read_thing" 875 (.ref 553),kE P "word" 885 (.ref 560),kE P "small_round" 891 (.ref 565),kE P "let_go" 900 (.ref 572),kE P "look_at_held" 908 (.ref 579),kE P "field_value" 917 (.ref 586),kE P "counts_held" 924 (.ref 593),kE P "words_among" 930 (.ref 598),kE P "led_among" 936 (.ref 603),kE P "__static_attributes__" 944 (.ref 604)]) 21),#[]⟩
noncomputable def ZC:OO:=λ_=>⟨.none,none,(.fields (List.toArray [(.int 192 0),(.int 4 0),(.ref 496),(.int 201 0),(.int 4 0),(.ref 503),(.int 209 0),(.int 4 0),(.ref 510),(.int 215 0),(.int 4 0),(.ref 517),(.int 221 0),(.int 4 0),(.ref 524),(.int 224 0),(.int 4 0),(.ref 531),(.int 227 0),(.int 4 0),(.ref 538),(.int 230 0),(.int 4 0),(.ref 545),(.int 234 0),(.int 4 0),(.ref 552),(.int 240 0),(.int 4 0),(.ref 559),(.int 245 0),(.int 4 0),(.ref 564),(.int 256 0),(.int 4 0),(.ref 571),(.int 262 0),(.int 4 0),(.ref 578),(.int 266 0),(.int 4 0),(.ref 585),(.int 269 0),(.int 4 0),(.ref 592),(.int 272 0),(.int 4 0),(.ref 597),(.int 275 0),(.int 4 0),(.ref 602)])),#[]⟩
noncomputable def ZD:OO:=λ_=>⟨(.type "code"),none,(.fields (List.toArray [(.str "Heap" 779),(.str "Heap" 780),(.str "/claim/cut.py" 781),(.int 190 0),(.int 0 0),(.int 0 0),(.int 0 0),(.int 0 0),(.ref 487),(.bool false),(.int 181 0),(.ref 488),.none,.none,.none,.none,(.int 782 0),(.int 190 0),(.str "/claim/cut.py" 783)])),#[]⟩
noncomputable def ZE:OO:=λ_=>⟨(.type "frame"),none,.plain,(List.toArray [(.some (.ref 489)),(.some (.ref 3)),(.some (.ref 486)),none,(.some (.str "stillheap.heaps" 775)),none,(.some (.ref 0))])⟩
def WL:OO:=λ_=>oT [(.str "self" 792),(.str "makes_young" 793)]
def ZF:OO:=λ_=>oG "__init__" "Heap.__init__" (inClass (top 38) 0)
noncomputable def WM:OO:=λ_=>oC "__init__" 789 "Heap.__init__" 192 2 0 0 3 491 181 492 493 494 495 794 795
noncomputable def WN:OO:=λ_=>oF "__init__" "Heap.__init__" (inClass (top 38) 0) (.str "stillheap.heaps" 775) 496
def WO:OO:=λ_=>oT [(.str "self" 800),(.str "h" 801),(.str "n" 802),(.str "t" 803)]
def ZG:OO:=λ_=>oG "add_thing" "Heap.add_thing" (inClass (top 38) 1)
noncomputable def WQ:OO:=λ_=>oC "add_thing" 797 "Heap.add_thing" 201 3 0 0 3 498 181 499 500 501 502 804 805
noncomputable def WR:OO:=λ_=>oF "add_thing" "Heap.add_thing" (inClass (top 38) 1) (.str "stillheap.heaps" 775) 503
noncomputable def WS:OO:=λ_=>oT [(.str "self" 810),(.str "h" 811),(.str "g" 812),(.str "k" 813),(.str "fields" 814)]
def ZH:OO:=λ_=>oG "load" "Heap.load" (inClass (top 38) 2)
def WT:OO:=λ_=>oC "load" 807 "Heap.load" 209 4 0 0 3 505 181 506 507 508 509 815 816
noncomputable def WU:OO:=λ_=>oF "load" "Heap.load" (inClass (top 38) 2) (.str "stillheap.heaps" 775) 510
noncomputable def WW:OO:=λ_=>oT [(.str "self" 821),(.str "g" 822),(.str "k" 823),(.str "h" 824),(.str "fields" 825),(.str "value" 826)]
def ZI:OO:=λ_=>oG "store" "Heap.store" (inClass (top 38) 3)
def WX:OO:=λ_=>oC "store" 818 "Heap.store" 215 4 0 0 3 512 181 513 514 515 516 827 828
noncomputable def WY:OO:=λ_=>oF "store" "Heap.store" (inClass (top 38) 3) (.str "stillheap.heaps" 775) 517
def WZ:OO:=λ_=>oT [(.str "self" 833),(.str "h" 834),(.str "g" 835)]
def ZJ:OO:=λ_=>oG "copy" "Heap.copy" (inClass (top 38) 4)
def W0:OO:=λ_=>oC "copy" 830 "Heap.copy" 221 3 0 0 3 519 181 520 521 522 523 836 837
noncomputable def W2:OO:=λ_=>oF "copy" "Heap.copy" (inClass (top 38) 4) (.str "stillheap.heaps" 775) 524
def W3:OO:=λ_=>oT [(.str "self" 842),(.str "h" 843)]
def ZK:OO:=λ_=>oG "drop" "Heap.drop" (inClass (top 38) 5)
def W5:OO:=λ_=>oC "drop" 839 "Heap.drop" 224 2 0 0 3 526 181 527 528 529 530 844 845
noncomputable def W6:OO:=λ_=>oF "drop" "Heap.drop" (inClass (top 38) 5) (.str "stillheap.heaps" 775) 531
def Xa:OO:=λ_=>oT [(.str "self" 850),(.str "h" 851),(.str "x" 852)]
def ZL:OO:=λ_=>oG "number" "Heap.number" (inClass (top 38) 6)
def Xb:OO:=λ_=>oC "number" 847 "Heap.number" 227 3 0 0 3 533 181 534 535 536 537 853 854
noncomputable def Xc:OO:=λ_=>oF "number" "Heap.number" (inClass (top 38) 6) (.str "stillheap.heaps" 775) 538
def Xd:OO:=λ_=>oT [(.str "self" 859),(.str "w" 860),(.str "h" 861),(.str "t" 862)]
def ZM:OO:=λ_=>oG "name" "Heap.name" (inClass (top 38) 7)
def Xe:OO:=λ_=>oC "name" 856 "Heap.name" 230 3 0 0 3 540 181 541 542 543 544 863 864
noncomputable def Xf:OO:=λ_=>oF "name" "Heap.name" (inClass (top 38) 7) (.str "stillheap.heaps" 775) 545
def Xg:OO:=λ_=>oT [(.str "self" 869),(.str "h" 870),(.str "w" 871),(.str "t" 872)]
def ZN:OO:=λ_=>oG "read_thing" "Heap.read_thing" (inClass (top 38) 8)
noncomputable def Xh:OO:=λ_=>oC "read_thing" 866 "Heap.read_thing" 234 3 0 0 3 547 181 548 549 550 551 873 874
noncomputable def Xi:OO:=λ_=>oF "read_thing" "Heap.read_thing" (inClass (top 38) 8) (.str "stillheap.heaps" 775) 552
def Xj:OO:=λ_=>oT [(.str "self" 879),(.str "h" 880),(.str "x" 881),(.str "t" 882)]
def ZO:OO:=λ_=>oG "word" "Heap.word" (inClass (top 38) 9)
def Xk:OO:=λ_=>oC "word" 876 "Heap.word" 240 3 0 0 3 554 181 555 556 557 558 883 884
noncomputable def Xl:OO:=λ_=>oF "word" "Heap.word" (inClass (top 38) 9) (.str "stillheap.heaps" 775) 559
def ZP:OO:=λ_=>oG "small_round" "Heap.small_round" (inClass (top 38) 10)
noncomputable def Xm:OO:=λ_=>⟨(.type "code"),none,(.fields (List.toArray [(.str "small_round" 886),(.str "Heap.small_round" 887),(.str "/claim/cut.py" 888),(.int 245 0),(.int 1 0),(.int 0 0),(.int 0 0),(.int 3 0),(.ref 561),(.bool true),(.int 181 0),(.ref 562),.none,.none,.none,(.ref 563),(.int 889 0),(.int 245 0),(.str "/claim/cut.py" 890)])),#[]⟩
noncomputable def Xn:OO:=λ_=>oF "small_round" "Heap.small_round" (inClass (top 38) 10) (.str "stillheap.heaps" 775) 564
def Xo:OO:=λ_=>oT [(.str "self" 895),(.str "gone" 896),(.str "t" 897)]
def ZQ:OO:=λ_=>oG "let_go" "Heap.let_go" (inClass (top 38) 11)
def Xp:OO:=λ_=>oC "let_go" 892 "Heap.let_go" 256 2 0 0 3 566 181 567 568 569 570 898 899
noncomputable def Xq:OO:=λ_=>oF "let_go" "Heap.let_go" (inClass (top 38) 11) (.str "stillheap.heaps" 775) 571
def Xr:OO:=λ_=>oT [(.str "self" 904),(.str "t" 905)]
def ZR:OO:=λ_=>oG "look_at_held" "Heap.look_at_held" (inClass (top 38) 12)
noncomputable def Xs:OO:=λ_=>oC "look_at_held" 901 "Heap.look_at_held" 262 2 0 0 3 573 181 574 575 576 577 906 907
noncomputable def Xu:OO:=λ_=>oF "look_at_held" "Heap.look_at_held" (inClass (top 38) 12) (.str "stillheap.heaps" 775) 578
def Xv:OO:=λ_=>oT [(.str "self" 912),(.str "t" 913),(.str "k" 914)]
def ZS:OO:=λ_=>oG "field_value" "Heap.field_value" (inClass (top 38) 13)
noncomputable def Xw:OO:=λ_=>oC "field_value" 909 "Heap.field_value" 266 3 0 0 3 580 181 581 582 583 584 915 916
noncomputable def Xx:OO:=λ_=>oF "field_value" "Heap.field_value" (inClass (top 38) 13) (.str "stillheap.heaps" 775) 585
def Xy:OO:=λ_=>oT [(.str "self" 921)]
def ZT:OO:=λ_=>oG "counts_held" "Heap.counts_held" (inClass (top 38) 14)
noncomputable def Xz:OO:=λ_=>oC "counts_held" 918 "Heap.counts_held" 269 1 0 0 3 587 181 588 589 590 591 922 923
noncomputable def XA:OO:=λ_=>oF "counts_held" "Heap.counts_held" (inClass (top 38) 14) (.str "stillheap.heaps" 775) 592
def ZU:OO:=λ_=>oG "words_among" "Heap.words_among" (inClass (top 38) 15)
noncomputable def XB:OO:=λ_=>⟨(.type "code"),none,(.fields (List.toArray [(.str "words_among" 925),(.str "Heap.words_among" 926),(.str "/claim/cut.py" 927),(.int 272 0),(.int 2 0),(.int 0 0),(.int 0 0),(.int 3 0),(.ref 594),(.bool true),(.int 181 0),(.ref 595),.none,.none,.none,(.ref 596),(.int 928 0),(.int 272 0),(.str "/claim/cut.py" 929)])),#[]⟩
noncomputable def XC:OO:=λ_=>oF "words_among" "Heap.words_among" (inClass (top 38) 15) (.str "stillheap.heaps" 775) 597
def ZV:OO:=λ_=>oG "led_among" "Heap.led_among" (inClass (top 38) 16)
noncomputable def XD:OO:=λ_=>⟨(.type "code"),none,(.fields (List.toArray [(.str "led_among" 931),(.str "Heap.led_among" 932),(.str "/claim/cut.py" 933),(.int 275 0),(.int 3 0),(.int 0 0),(.int 0 0),(.int 3 0),(.ref 599),(.bool true),(.int 181 0),(.ref 600),.none,.none,.none,(.ref 601),(.int 934 0),(.int 275 0),(.str "/claim/cut.py" 935)])),#[]⟩
noncomputable def XE:OO:=λ_=>oF "led_among" "Heap.led_among" (inClass (top 38) 16) (.str "stillheap.heaps" 775) 602
noncomputable def XF:OO:=λ_=>oT [(.str "fields_held" 937),(.str "in_hands" 938),(.str "last_words" 939),(.str "makes_young" 940),(.str "next_thing" 941),(.str "weak_names" 942),(.str "young_things" 943)]
noncomputable def XG:OO:=λP=>⟨(.type "dict"),none,(.dict (List.toArray [kE P "__module__" 784 (.str "stillheap.heaps" 775),kE P "__firstlineno__" 788 (.int 190 787),kE P "__init__" 796 (.ref 497),kE P "add_thing" 806 (.ref 504),kE P "load" 817 (.ref 511),kE P "store" 829 (.ref 518),kE P "copy" 838 (.ref 525),kE P "drop" 846 (.ref 532),kE P "number" 855 (.ref 539),kE P "name" 865 (.ref 546),kE P "read_thing" 875 (.ref 553),kE P "word" 885 (.ref 560),kE P "small_round" 891 (.ref 565),kE P "let_go" 900 (.ref 572),kE P "look_at_held" 908 (.ref 579),kE P "field_value" 917 (.ref 586),kE P "counts_held" 924 (.ref 593),kE P "words_among" 930 (.ref 598),kE P "led_among" 936 (.ref 603),kE P "__static_attributes__" 944 (.ref 604),kE P "__dict__" 946 (.ref 607),kE P "__weakref__" 948 (.ref 608),kE P "__doc__" 949 .none]) 4),#[]⟩
noncomputable def aeb:OO:=λ_=>⟨(.type "type"),none,(.cls ⟨"Heap",[(.type "object")],[(.ref 606),(.type "object")],605, "Heap",true,[],[],false,none,false⟩),(List.toArray [none,none,(.some (.str "Heap" 777)),(.some (.str "Heap" 785)),(.some (.builtin "object.__new__")),(.some (.bool true))])⟩
noncomputable def XH:OO:=λ_=>⟨(.type "getset_descriptor"),none,(.fields (List.toArray [(.str "__dict__" 945),(.ref 606),(.builtin "function.__dict__"),(.builtin "function.__dict__#set")])),#[]⟩
noncomputable def XI:OO:=λ_=>⟨(.type "getset_descriptor"),none,(.fields (List.toArray [(.str "__weakref__" 947),(.ref 606),(.builtin "ExceptionGroup.__weakref__"),.none])),#[]⟩
noncomputable def ZW:OO:=λ_=>⟨(.type "super"),none,(.fields (List.toArray [(.ref 606),(.ref 606),(.ref 606)])),#[]⟩
noncomputable def ZX:OO:=λ_=>⟨(.type "builtin_function_or_method"),none,(.fields (List.toArray [(.builtin "object.__init_subclass__"),(.ref 606)])),#[]⟩
def XJ:OO:=λ_=>oT [(.str "value" 955),(.str "things" 956)]
def ZY:OO:=λ_=>oG "thing_among" "thing_among" (top 39)
noncomputable def XM:OO:=λ_=>oC "thing_among" 952 "thing_among" 280 2 0 0 3 611 181 612 613 614 615 957 958
def XN:OO:=λ_=>oF "thing_among" "thing_among" (top 39) (.str "stillheap.heaps" 775) 616
noncomputable def ZZ:OO:=λP=>⟨(.type "dict"),none,(.dict (List.toArray [kE P "__name__" 165 (.str "law_stillheap_k08_whole_small_rounds" 1165),kE P "__doc__" 166 .none,kE P "__package__" 167 .none,kE P "__loader__" 168 (.builtin "__main__.__loader__#opaque"),kE P "__spec__" 169 .none,kE P "__annotations__" 170 (.ref 6),kE P "__builtins__" 171 (.ref 4),kE P "__file__" 173 (.str "/claim/cut.py" 172),kE P "__cached__" 174 .none,kE P "_wall" 193 (.ref 21),kE P "HeapError" 228 (.ref 45),kE P "BadHand" 251 (.ref 65),kE P "BadName" 274 (.ref 84),kE P "BadField" 297 (.ref 103),kE P "BadCount" 320 (.ref 122),kE P "NoRoom" 343 (.ref 141),kE P "TooManyWords" 366 (.ref 160),kE P "RoundOn" 389 (.ref 179),kE P "NoRound" 412 (.ref 198),kE P "BadView" 435 (.ref 217),kE P "HANDS" 439 (.int 8 438),kE P "WEAK_NAMES" 441 (.int 8 440),kE P "MOST_FIELDS" 443 (.int 6 442),kE P "LEAST_ROOM" 445 (.int 7 444),kE P "MOST_YOUNG" 447 (.int 64 446),kE P "MOST_LIMIT" 449 (.int 400 448),kE P "number_value" 456 (.ref 226),kE P "thing_value" 463 (.ref 233),kE P "kind_of" 470 (.ref 240),kE P "words_of" 477 (.ref 247),kE P "look_at_number" 484 (.ref 254),kE P "look_at_hand" 491 (.ref 261),kE P "look_at_name" 498 (.ref 268),kE P "look_at_field" 506 (.ref 275),kE P "look_at_limits" 514 (.ref 282),kE P "Hands" 620 (.ref 362),kE P "MOST_BEARERS" 624 (.int 12 623),kE P "WordTable" 700 (.ref 425),kE P "last_steps" 714 (.ref 436),kE P "NameTable" 774 (.ref 479),kE P "Heap" 951 (.ref 606),kE P "thing_among" 959 (.ref 617),kE P "IdealHeap" 1164 (.ref 788),kE P "_law_numbers" 1178 (.ref 797),kE P "_law_deed" 1190 (.ref 804),kE P "_law_plain" 1198 (.ref 811),kE P "_law_done" 1208 (.ref 818),kE P "_law_told" 1214 (.ref 823),kE P "_law_things" 1220 (.ref 828),kE P "_law_led" 1232 (.ref 835),kE P "_law_heap" 1240 (.ref 842),kE P "_law_deeds" 1246 (.ref 847),kE P "_law_small_right" 1252 (.ref 852),kE P "law" 1262 (.ref 859)]) 54),#[]⟩
noncomputable def acL:OO:=λ_=>⟨.none,none,(.fields (List.toArray [(.int 1 0),(.int 0 0),(.ref 20),(.int 5 0),(.int 0 0),(.ref 27),(.int 12 0),(.int 0 0),(.ref 54),(.int 16 0),(.int 0 0),(.ref 73),(.int 20 0),(.int 0 0),(.ref 92),(.int 24 0),(.int 0 0),(.ref 111),(.int 28 0),(.int 0 0),(.ref 130),(.int 32 0),(.int 0 0),(.ref 149),(.int 36 0),(.int 0 0),(.ref 168),(.int 40 0),(.int 0 0),(.ref 187),(.int 44 0),(.int 0 0),(.ref 206),(.int 55 0),(.int 0 0),(.ref 225),(.int 58 0),(.int 0 0),(.ref 232),(.int 62 0),(.int 0 0),(.ref 239),(.int 64 0),(.int 0 0),(.ref 246),(.int 68 0),(.int 0 0),(.ref 253),(.int 71 0),(.int 0 0),(.ref 260),(.int 74 0),(.int 0 0),(.ref 267),(.int 77 0),(.int 0 0),(.ref 274),(.int 80 0),(.int 0 0),(.ref 281),(.int 86 0),(.int 0 0),(.ref 288),(.int 128 0),(.int 0 0),(.ref 372),(.int 156 0),(.int 0 0),(.ref 435),(.int 171 0),(.int 0 0),(.ref 442),(.int 190 0),(.int 0 0),(.ref 489),(.int 280 0),(.int 0 0),(.ref 616),(.int 285 0),(.int 0 0),(.ref 623),(.int 386 0),(.int 0 0),(.ref 796),(.int 398 0),(.int 0 0),(.ref 803),(.int 411 0),(.int 0 0),(.ref 810),(.int 436 0),(.int 0 0),(.ref 817),(.int 443 0),(.int 0 0),(.ref 822),(.int 447 0),(.int 0 0),(.ref 827),(.int 449 0),(.int 0 0),(.ref 834),(.int 458 0),(.int 0 0),(.ref 841),(.int 463 0),(.int 0 0),(.ref 846),(.int 466 0),(.int 0 0),(.ref 851),(.int 490 0),(.int 0 0),(.ref 858)])),#[]⟩
noncomputable def Z1:OO:=λ_=>⟨(.type "type"),none,(.cls ⟨"Heap",[(.type "object")],[(.ref 606),(.type "object")],605, "Heap",true,[],[(.ref 788)],false,none,false⟩),(List.toArray [none,none,(.some (.str "Heap" 777)),(.some (.str "Heap" 785)),(.some (.builtin "object.__new__")),(.some (.bool true))])⟩
def Z2:OO:=λ_=>oT [(.ref 606)]
noncomputable def acM:OO:=λP=>⟨(.type "dict"),none,(.dict (List.toArray [kE P "__module__" 969 (.str "stillheap.ideal" 960),kE P "__qualname__" 971 (.str "IdealHeap" 970),kE P "__firstlineno__" 973 (.int 285 972),kE P "__init__" 982 (.ref 631),kE P "make" 992 (.ref 638),kE P "read" 1002 (.ref 645),kE P "take" 1009 (.ref 652),kE P "kind" 1017 (.ref 659),kE P "value" 1025 (.ref 666),kE P "fields" 1033 (.ref 673),kE P "same" 1042 (.ref 680),kE P "held" 1049 (.ref 687),kE P "small" 1056 (.ref 694),kE P "begin" 1065 (.ref 701),kE P "end" 1073 (.ref 708),kE P "round_on" 1080 (.ref 715),kE P "hands" 1087 (.ref 722),kE P "names" 1094 (.ref 729),kE P "things" 1101 (.ref 736),kE P "fields_of" 1109 (.ref 743),kE P "is_old" 1117 (.ref 750),kE P "word_of" 1125 (.ref 757),kE P "doomed" 1132 (.ref 764),kE P "said" 1139 (.ref 771),kE P "made" 1146 (.ref 778),kE P "spare" 1156 (.ref 785),kE P "__static_attributes__" 1161 (.ref 786)]) 27),#[]⟩
noncomputable def acN:OO:=λ_=>⟨.none,none,(.fields (List.toArray [(.int 287 0),(.int 4 0),(.ref 630),(.int 295 0),(.int 4 0),(.ref 637),(.int 304 0),(.int 4 0),(.ref 644),(.int 309 0),(.int 4 0),(.ref 651),(.int 312 0),(.int 4 0),(.ref 658),(.int 315 0),(.int 4 0),(.ref 665),(.int 318 0),(.int 4 0),(.ref 672),(.int 321 0),(.int 4 0),(.ref 679),(.int 324 0),(.int 4 0),(.ref 686),(.int 327 0),(.int 4 0),(.ref 693),(.int 330 0),(.int 4 0),(.ref 700),(.int 340 0),(.int 4 0),(.ref 707),(.int 348 0),(.int 4 0),(.ref 714),(.int 351 0),(.int 4 0),(.ref 721),(.int 354 0),(.int 4 0),(.ref 728),(.int 357 0),(.int 4 0),(.ref 735),(.int 360 0),(.int 4 0),(.ref 742),(.int 364 0),(.int 4 0),(.ref 749),(.int 368 0),(.int 4 0),(.ref 756),(.int 372 0),(.int 4 0),(.ref 763),(.int 375 0),(.int 4 0),(.ref 770),(.int 378 0),(.int 4 0),(.ref 777),(.int 381 0),(.int 4 0),(.ref 784)])),#[]⟩
noncomputable def acO:OO:=λ_=>⟨(.type "code"),none,(.fields (List.toArray [(.str "IdealHeap" 964),(.str "IdealHeap" 965),(.str "/claim/cut.py" 966),(.int 285 0),(.int 0 0),(.int 0 0),(.int 0 0),(.int 0 0),(.ref 621),(.bool false),(.int 181 0),(.ref 622),.none,.none,.none,.none,(.int 967 0),(.int 285 0),(.str "/claim/cut.py" 968)])),#[]⟩
noncomputable def acP:OO:=λ_=>⟨(.type "frame"),none,.plain,(List.toArray [(.some (.ref 623)),(.some (.ref 3)),(.some (.ref 620)),none,(.some (.str "stillheap.ideal" 960)),none,(.some (.ref 0))])⟩
def Z3:OO:=λ_=>oT [(.str "self" 977),(.str "young" 978),(.str "limit" 979)]
def acQ:OO:=λ_=>oG "__init__" "IdealHeap.__init__" (inClass (top 41) 0)
noncomputable def Z4:OO:=λ_=>oC "__init__" 974 "IdealHeap.__init__" 287 3 0 0 3 625 181 626 627 628 629 980 981
noncomputable def Z5:OO:=λ_=>oF "__init__" "IdealHeap.__init__" (inClass (top 41) 0) (.str "stillheap.ideal" 960) 630
def Z6:OO:=λ_=>oT [(.str "self" 986),(.str "h" 987),(.str "n" 988),(.str "size" 989)]
def acR:OO:=λ_=>oG "make" "IdealHeap.make" (inClass (top 41) 1)
def Z7:OO:=λ_=>oC "make" 983 "IdealHeap.make" 295 3 0 0 3 632 181 633 634 635 636 990 991
noncomputable def Z8:OO:=λ_=>oF "make" "IdealHeap.make" (inClass (top 41) 1) (.str "stillheap.ideal" 960) 637
def Z9:OO:=λ_=>oT [(.str "self" 996),(.str "h" 997),(.str "w" 998),(.str "t" 999)]
def acS:OO:=λ_=>oG "read" "IdealHeap.read" (inClass (top 41) 2)
noncomputable def aaa:OO:=λ_=>oC "read" 993 "IdealHeap.read" 304 3 0 0 3 639 181 640 641 642 643 1000 1001
noncomputable def aab:OO:=λ_=>oF "read" "IdealHeap.read" (inClass (top 41) 2) (.str "stillheap.ideal" 960) 644
def aac:OO:=λ_=>oT [(.str "self" 1006)]
def acT:OO:=λ_=>oG "take" "IdealHeap.take" (inClass (top 41) 3)
noncomputable def aad:OO:=λ_=>oC "take" 1003 "IdealHeap.take" 309 1 0 0 3 646 181 647 648 649 650 1007 1008
noncomputable def aae:OO:=λ_=>oF "take" "IdealHeap.take" (inClass (top 41) 3) (.str "stillheap.ideal" 960) 651
def aaf:OO:=λ_=>oT [(.str "self" 1013),(.str "h" 1014)]
def acU:OO:=λ_=>oG "kind" "IdealHeap.kind" (inClass (top 41) 4)
noncomputable def aag:OO:=λ_=>oC "kind" 1010 "IdealHeap.kind" 312 2 0 0 3 653 181 654 655 656 657 1015 1016
noncomputable def aah:OO:=λ_=>oF "kind" "IdealHeap.kind" (inClass (top 41) 4) (.str "stillheap.ideal" 960) 658
def aai:OO:=λ_=>oT [(.str "self" 1021),(.str "h" 1022)]
def acV:OO:=λ_=>oG "value" "IdealHeap.value" (inClass (top 41) 5)
noncomputable def aaj:OO:=λ_=>oC "value" 1018 "IdealHeap.value" 315 2 0 0 3 660 181 661 662 663 664 1023 1024
noncomputable def aak:OO:=λ_=>oF "value" "IdealHeap.value" (inClass (top 41) 5) (.str "stillheap.ideal" 960) 665
def aal:OO:=λ_=>oT [(.str "self" 1029),(.str "h" 1030)]
def acW:OO:=λ_=>oG "fields" "IdealHeap.fields" (inClass (top 41) 6)
noncomputable def aam:OO:=λ_=>oC "fields" 1026 "IdealHeap.fields" 318 2 0 0 3 667 181 668 669 670 671 1031 1032
noncomputable def aan:OO:=λ_=>oF "fields" "IdealHeap.fields" (inClass (top 41) 6) (.str "stillheap.ideal" 960) 672
def aao:OO:=λ_=>oT [(.str "self" 1037),(.str "h" 1038),(.str "g" 1039)]
def acX:OO:=λ_=>oG "same" "IdealHeap.same" (inClass (top 41) 7)
noncomputable def aap:OO:=λ_=>oC "same" 1034 "IdealHeap.same" 321 3 0 0 3 674 181 675 676 677 678 1040 1041
noncomputable def aaq:OO:=λ_=>oF "same" "IdealHeap.same" (inClass (top 41) 7) (.str "stillheap.ideal" 960) 679
def aar:OO:=λ_=>oT [(.str "self" 1046)]
def acY:OO:=λ_=>oG "held" "IdealHeap.held" (inClass (top 41) 8)
noncomputable def aas:OO:=λ_=>oC "held" 1043 "IdealHeap.held" 324 1 0 0 3 681 181 682 683 684 685 1047 1048
noncomputable def aat:OO:=λ_=>oF "held" "IdealHeap.held" (inClass (top 41) 8) (.str "stillheap.ideal" 960) 686
def aau:OO:=λ_=>oT [(.str "self" 1053)]
def acZ:OO:=λ_=>oG "small" "IdealHeap.small" (inClass (top 41) 9)
noncomputable def aav:OO:=λ_=>oC "small" 1050 "IdealHeap.small" 327 1 0 0 3 688 181 689 690 691 692 1054 1055
noncomputable def aaw:OO:=λ_=>oF "small" "IdealHeap.small" (inClass (top 41) 9) (.str "stillheap.ideal" 960) 693
def aax:OO:=λ_=>oT [(.str "self" 1060),(.str "kept" 1061),(.str "t" 1062)]
def ac0:OO:=λ_=>oG "begin" "IdealHeap.begin" (inClass (top 41) 10)
noncomputable def aay:OO:=λ_=>oC "begin" 1057 "IdealHeap.begin" 330 1 0 0 3 695 181 696 697 698 699 1063 1064
noncomputable def aaz:OO:=λ_=>oF "begin" "IdealHeap.begin" (inClass (top 41) 10) (.str "stillheap.ideal" 960) 700
def aaA:OO:=λ_=>oT [(.str "self" 1069),(.str "gone" 1070)]
def ac1:OO:=λ_=>oG "end" "IdealHeap.end" (inClass (top 41) 11)
noncomputable def aaB:OO:=λ_=>oC "end" 1066 "IdealHeap.end" 340 1 0 0 3 702 181 703 704 705 706 1071 1072
noncomputable def aaC:OO:=λ_=>oF "end" "IdealHeap.end" (inClass (top 41) 11) (.str "stillheap.ideal" 960) 707
def aaD:OO:=λ_=>oT [(.str "self" 1077)]
def ac2:OO:=λ_=>oG "round_on" "IdealHeap.round_on" (inClass (top 41) 12)
noncomputable def aaE:OO:=λ_=>oC "round_on" 1074 "IdealHeap.round_on" 348 1 0 0 3 709 181 710 711 712 713 1078 1079
noncomputable def aaF:OO:=λ_=>oF "round_on" "IdealHeap.round_on" (inClass (top 41) 12) (.str "stillheap.ideal" 960) 714
def aaG:OO:=λ_=>oT [(.str "self" 1084)]
def ac3:OO:=λ_=>oG "hands" "IdealHeap.hands" (inClass (top 41) 13)
noncomputable def aaH:OO:=λ_=>oC "hands" 1081 "IdealHeap.hands" 351 1 0 0 3 716 181 717 718 719 720 1085 1086
noncomputable def aaI:OO:=λ_=>oF "hands" "IdealHeap.hands" (inClass (top 41) 13) (.str "stillheap.ideal" 960) 721
def aaJ:OO:=λ_=>oT [(.str "self" 1091)]
def ac4:OO:=λ_=>oG "names" "IdealHeap.names" (inClass (top 41) 14)
noncomputable def aaK:OO:=λ_=>oC "names" 1088 "IdealHeap.names" 354 1 0 0 3 723 181 724 725 726 727 1092 1093
noncomputable def aaL:OO:=λ_=>oF "names" "IdealHeap.names" (inClass (top 41) 14) (.str "stillheap.ideal" 960) 728
def aaM:OO:=λ_=>oT [(.str "self" 1098)]
def ac5:OO:=λ_=>oG "things" "IdealHeap.things" (inClass (top 41) 15)
noncomputable def aaN:OO:=λ_=>oC "things" 1095 "IdealHeap.things" 357 1 0 0 3 730 181 731 732 733 734 1099 1100
noncomputable def aaO:OO:=λ_=>oF "things" "IdealHeap.things" (inClass (top 41) 15) (.str "stillheap.ideal" 960) 735
def aaP:OO:=λ_=>oT [(.str "self" 1105),(.str "t" 1106)]
def ac6:OO:=λ_=>oG "fields_of" "IdealHeap.fields_of" (inClass (top 41) 16)
noncomputable def aaQ:OO:=λ_=>oC "fields_of" 1102 "IdealHeap.fields_of" 360 2 0 0 3 737 181 738 739 740 741 1107 1108
noncomputable def aaR:OO:=λ_=>oF "fields_of" "IdealHeap.fields_of" (inClass (top 41) 16) (.str "stillheap.ideal" 960) 742
def aaS:OO:=λ_=>oT [(.str "self" 1113),(.str "t" 1114)]
def ac7:OO:=λ_=>oG "is_old" "IdealHeap.is_old" (inClass (top 41) 17)
noncomputable def aaT:OO:=λ_=>oC "is_old" 1110 "IdealHeap.is_old" 364 2 0 0 3 744 181 745 746 747 748 1115 1116
noncomputable def aaU:OO:=λ_=>oF "is_old" "IdealHeap.is_old" (inClass (top 41) 17) (.str "stillheap.ideal" 960) 749
def aaV:OO:=λ_=>oT [(.str "self" 1121),(.str "t" 1122)]
def ac8:OO:=λ_=>oG "word_of" "IdealHeap.word_of" (inClass (top 41) 18)
noncomputable def aaW:OO:=λ_=>oC "word_of" 1118 "IdealHeap.word_of" 368 2 0 0 3 751 181 752 753 754 755 1123 1124
noncomputable def aaX:OO:=λ_=>oF "word_of" "IdealHeap.word_of" (inClass (top 41) 18) (.str "stillheap.ideal" 960) 756
def aaY:OO:=λ_=>oT [(.str "self" 1129)]
def ac9:OO:=λ_=>oG "doomed" "IdealHeap.doomed" (inClass (top 41) 19)
noncomputable def aaZ:OO:=λ_=>oC "doomed" 1126 "IdealHeap.doomed" 372 1 0 0 3 758 181 759 760 761 762 1130 1131
noncomputable def aa0:OO:=λ_=>oF "doomed" "IdealHeap.doomed" (inClass (top 41) 19) (.str "stillheap.ideal" 960) 763
def aa1:OO:=λ_=>oT [(.str "self" 1136)]
def ada:OO:=λ_=>oG "said" "IdealHeap.said" (inClass (top 41) 20)
noncomputable def aa2:OO:=λ_=>oC "said" 1133 "IdealHeap.said" 375 1 0 0 3 765 181 766 767 768 769 1137 1138
noncomputable def aa3:OO:=λ_=>oF "said" "IdealHeap.said" (inClass (top 41) 20) (.str "stillheap.ideal" 960) 770
def aa4:OO:=λ_=>oT [(.str "self" 1143)]
def adb:OO:=λ_=>oG "made" "IdealHeap.made" (inClass (top 41) 21)
noncomputable def aa5:OO:=λ_=>oC "made" 1140 "IdealHeap.made" 378 1 0 0 3 772 181 773 774 775 776 1144 1145
noncomputable def aa6:OO:=λ_=>oF "made" "IdealHeap.made" (inClass (top 41) 21) (.str "stillheap.ideal" 960) 777
noncomputable def aa7:OO:=λ_=>oT [(.str "self" 1150),(.str "t" 1151),(.str "spared" 1152),(.str "other" 1153)]
def ade:OO:=λ_=>oG "spare" "IdealHeap.spare" (inClass (top 41) 22)
noncomputable def aa8:OO:=λ_=>oC "spare" 1147 "IdealHeap.spare" 381 2 0 0 3 779 181 780 781 782 783 1154 1155
noncomputable def aa9:OO:=λ_=>oF "spare" "IdealHeap.spare" (inClass (top 41) 22) (.str "stillheap.ideal" 960) 784
noncomputable def aba:OO:=λ_=>oT [(.str "doomed_things" 1157),(.str "in_round" 1158),(.str "limit" 1159),(.str "young_room" 1160)]
noncomputable def abb:OO:=λP=>⟨(.type "dict"),none,(.dict (List.toArray [kE P "__module__" 969 (.str "stillheap.ideal" 960),kE P "__firstlineno__" 973 (.int 285 972),kE P "__init__" 982 (.ref 631),kE P "make" 992 (.ref 638),kE P "read" 1002 (.ref 645),kE P "take" 1009 (.ref 652),kE P "kind" 1017 (.ref 659),kE P "value" 1025 (.ref 666),kE P "fields" 1033 (.ref 673),kE P "same" 1042 (.ref 680),kE P "held" 1049 (.ref 687),kE P "small" 1056 (.ref 694),kE P "begin" 1065 (.ref 701),kE P "end" 1073 (.ref 708),kE P "round_on" 1080 (.ref 715),kE P "hands" 1087 (.ref 722),kE P "names" 1094 (.ref 729),kE P "things" 1101 (.ref 736),kE P "fields_of" 1109 (.ref 743),kE P "is_old" 1117 (.ref 750),kE P "word_of" 1125 (.ref 757),kE P "doomed" 1132 (.ref 764),kE P "said" 1139 (.ref 771),kE P "made" 1146 (.ref 778),kE P "spare" 1156 (.ref 785),kE P "__static_attributes__" 1161 (.ref 786),kE P "__doc__" 1162 .none]) 2),#[]⟩
noncomputable def abc:OO:=λ_=>⟨(.type "type"),none,(.cls ⟨"IdealHeap",[(.ref 606)],[(.ref 788),(.ref 606),(.type "object")],787, "IdealHeap",true,[],[],false,none,false⟩),(List.toArray [(.some (.ref 618)),none,(.some (.str "IdealHeap" 962)),(.some (.str "IdealHeap" 970)),(.some (.builtin "object.__new__")),(.some (.bool true))])⟩
noncomputable def adf:OO:=λ_=>⟨(.type "super"),none,(.fields (List.toArray [(.ref 788),(.ref 788),(.ref 788)])),#[]⟩
noncomputable def adg:OO:=λ_=>⟨(.type "builtin_function_or_method"),none,(.fields (List.toArray [(.builtin "object.__init_subclass__"),(.ref 788)])),#[]⟩
noncomputable def abd:OO:=λ_=>oT [(.str "script" 1170),(.str "most" 1171),(.str "found" 1172),(.str "k" 1173),(.str "near" 1174),(.str "turn" 1175)]
def adh:OO:=λ_=>oG "_law_numbers" "_law_numbers" (top 43)
noncomputable def abe:OO:=λ_=>oC "_law_numbers" 1167 "_law_numbers" 386 2 0 0 3 791 181 792 793 794 795 1176 1177
noncomputable def abf:OO:=λ_=>oF "_law_numbers" "_law_numbers" (top 43) (.str "law_stillheap_k08_whole_small_rounds" 1165) 796
noncomputable def abg:OO:=λ_=>oT [(.str "number" 1182),(.str "a" 1183),(.str "b" 1184),(.str "c" 1185),(.str "kind" 1186),(.str "some" 1187)]
def adi:OO:=λ_=>oG "_law_deed" "_law_deed" (top 44)
noncomputable def abh:OO:=λ_=>oC "_law_deed" 1179 "_law_deed" 398 1 0 0 3 798 181 799 800 801 802 1188 1189
noncomputable def abi:OO:=λ_=>oF "_law_deed" "_law_deed" (top 44) (.str "law_stillheap_k08_whole_small_rounds" 1165) 803
def abj:OO:=λ_=>oT [(.str "hall" 1194),(.str "deed" 1195)]
def adj:OO:=λ_=>oG "_law_plain" "_law_plain" (top 45)
noncomputable def abk:OO:=λ_=>oC "_law_plain" 1191 "_law_plain" 411 2 0 0 3 805 181 806 807 808 809 1196 1197
noncomputable def abl:OO:=λ_=>oF "_law_plain" "_law_plain" (top 45) (.str "law_stillheap_k08_whole_small_rounds" 1165) 810
noncomputable def abm:OO:=λ_=>oT [(.str "hall" 1202),(.str "deed" 1203),(.str "word" 1204),(.str "e" 1205)]
def adk:OO:=λ_=>oG "_law_done" "_law_done" (top 46)
noncomputable def abn:OO:=λ_=>oC "_law_done" 1199 "_law_done" 436 2 0 0 3 812 181 813 814 815 816 1206 1207
noncomputable def abo:OO:=λ_=>oF "_law_done" "_law_done" (top 46) (.str "law_stillheap_k08_whole_small_rounds" 1165) 817
def adl:OO:=λ_=>oG "_law_told" "_law_told" (top 47)
noncomputable def abp:OO:=λ_=>⟨(.type "code"),none,(.fields (List.toArray [(.str "_law_told" 1209),(.str "_law_told" 1210),(.str "/claim/cut.py" 1211),(.int 443 0),(.int 1 0),(.int 0 0),(.int 0 0),(.int 3 0),(.ref 819),(.bool true),(.int 181 0),(.ref 820),.none,.none,.none,(.ref 821),(.int 1212 0),(.int 443 0),(.str "/claim/cut.py" 1213)])),#[]⟩
noncomputable def abq:OO:=λ_=>oF "_law_told" "_law_told" (top 47) (.str "law_stillheap_k08_whole_small_rounds" 1165) 822
def adn:OO:=λ_=>oG "_law_things" "_law_things" (top 48)
noncomputable def abr:OO:=λ_=>⟨(.type "code"),none,(.fields (List.toArray [(.str "_law_things" 1215),(.str "_law_things" 1216),(.str "/claim/cut.py" 1217),(.int 447 0),(.int 1 0),(.int 0 0),(.int 0 0),(.int 3 0),(.ref 824),(.bool true),(.int 181 0),(.ref 825),.none,.none,.none,(.ref 826),(.int 1218 0),(.int 447 0),(.str "/claim/cut.py" 1219)])),#[]⟩
noncomputable def abt:OO:=λ_=>oF "_law_things" "_law_things" (top 48) (.str "law_stillheap_k08_whole_small_rounds" 1165) 827
noncomputable def abu:OO:=λ_=>oT [(.str "heap" 1224),(.str "starts" 1225),(.str "some" 1226),(.str "found" 1227),(.str "left" 1228),(.str "thing" 1229)]
def ado:OO:=λ_=>oG "_law_led" "_law_led" (top 49)
noncomputable def abv:OO:=λ_=>oC "_law_led" 1221 "_law_led" 449 3 0 0 3 829 181 830 831 832 833 1230 1231
noncomputable def abw:OO:=λ_=>oF "_law_led" "_law_led" (top 49) (.str "law_stillheap_k08_whole_small_rounds" 1165) 834
def abx:OO:=λ_=>oT [(.str "script" 1236),(.str "head" 1237)]
def adp:OO:=λ_=>oG "_law_heap" "_law_heap" (top 50)
noncomputable def aby:OO:=λ_=>oC "_law_heap" 1233 "_law_heap" 458 1 0 0 3 836 181 837 838 839 840 1238 1239
noncomputable def abz:OO:=λ_=>oF "_law_heap" "_law_heap" (top 50) (.str "law_stillheap_k08_whole_small_rounds" 1165) 841
def adq:OO:=λ_=>oG "_law_deeds" "_law_deeds" (top 51)
noncomputable def abA:OO:=λ_=>⟨(.type "code"),none,(.fields (List.toArray [(.str "_law_deeds" 1241),(.str "_law_deeds" 1242),(.str "/claim/cut.py" 1243),(.int 463 0),(.int 2 0),(.int 0 0),(.int 0 0),(.int 3 0),(.ref 843),(.bool true),(.int 181 0),(.ref 844),.none,.none,.none,(.ref 845),(.int 1244 0),(.int 463 0),(.str "/claim/cut.py" 1245)])),#[]⟩
noncomputable def abB:OO:=λ_=>oF "_law_deeds" "_law_deeds" (top 51) (.str "law_stillheap_k08_whole_small_rounds" 1165) 846
def ads:OO:=λ_=>oG "_law_small_right" "_law_small_right" (top 52)
noncomputable def abC:OO:=λ_=>⟨(.type "code"),none,(.fields (List.toArray [(.str "_law_small_right" 1247),(.str "_law_small_right" 1248),(.str "/claim/cut.py" 1249),(.int 466 0),(.int 1 0),(.int 0 0),(.int 0 0),(.int 3 0),(.ref 848),(.bool true),(.int 181 0),(.ref 849),.none,.none,.none,(.ref 850),(.int 1250 0),(.int 466 0),(.str "/claim/cut.py" 1251)])),#[]⟩
noncomputable def abD:OO:=λ_=>oF "_law_small_right" "_law_small_right" (top 52) (.str "law_stillheap_k08_whole_small_rounds" 1165) 851
noncomputable def abE:OO:=λ_=>oT [(.str "script" 1256),(.str "heap" 1257),(.str "place" 1258),(.str "deed" 1259)]
def adt:OO:=λ_=>oG "law" "law" (top 53)
def abF:OO:=λ_=>oC "law" 1253 "law" 490 1 0 0 3 853 181 854 855 856 857 1260 1261
noncomputable def abG:OO:=λ_=>oF "law" "law" (top 53) (.str "law_stillheap_k08_whole_small_rounds" 1165) 858
noncomputable def hTa(P:Params):BT:=mkT P 12 (o0::o1::o2::o3::o4::o5::o6::o7::o8::o9::o10::o7::o8::o11::o12::[])
noncomputable def hSa(w:World)(os:OsState):SharedT:=⟨hTa w.params,15,⟨[],[],[],0,[],[],false,(List.toArray []),[],0,false,false,false,0,[2000,10,10],false,0,true,[],[],0,false⟩,#[],⟨0,0,0,0⟩,187,os⟩
noncomputable def hTb(P:Params):BT:=mkT P 12 (o0::o1::o2::o3::o4::o5::o6::o7::o8::o9::o10::o7::o8::o11::o12::[])
noncomputable def hSb(w:World)(os:OsState):SharedT:=⟨hTb w.params,15,⟨[],[],[],0,[],[],false,(List.toArray []),[],0,false,false,false,0,[2000,10,10],false,0,true,[],[],0,false⟩,#[],⟨0,0,0,0⟩,187,os⟩
noncomputable def hT0(P:Params):BT:=mkT P 12 (o0::o1::o2::o13::o4::o5::o6::o7::o8::o9::o10::o7::o14::o11::o12::o7::o8::o15::o7::o16::o17::o18::o19::o20::o21::o7::o22::o23::o24::o7::o8::o25::o7::o26::o27::o28::o7::o8::o29::o7::o30::o31::o32::o7::o33::o34::o35::o36::o37::o38::o20::o39::o7::o40::o41::o42::o7::o8::o43::o7::o44::o45::o46::o7::o47::o48::o49::o50::o38::o20::o51::o7::o52::o53::o54::o7::o8::o55::o7::o56::o57::o58::o7::o59::o60::o61::o62::o38::o20::o63::o7::o64::o65::o66::o7::o8::o67::o7::o68::o69::o70::o7::o71::o72::o73::o74::o38::o20::o75::o7::o76::o77::o78::o7::o8::o79::o7::o80::o81::o82::o7::o83::o84::o85::o86::o38::o20::o87::o7::o88::o89::o90::o7::o8::o91::o7::o92::o93::o94::o7::o95::o96::o97::o98::o38::o20::o99::o7::R7::R8::R9::o7::o8::QN::o7::Sa::QO::QP::o7::QQ::QR::Sb::Sd::o38::o20::Se::o7::Sf::Sg::Sh::o7::o8::QS::o7::Si::QT::QU::o7::QV::QW::Sj::Sk::[])
noncomputable def hS0(w:World)(os:OsState):SharedT:=⟨hT0 w.params,182,⟨[],[],[],0,[],[],false,(List.toArray []),[],0,false,false,false,0,[2000,10,10],false,0,true,[],[],0,false⟩,#[],⟨0,0,0,0⟩,390,os⟩
noncomputable def hT1(P:Params):BT:=mkT P 12 (o0::o1::o2::ad7::o4::o5::o6::o7::o8::o9::o10::o7::ad8::o11::o12::o7::o8::o15::o7::o16::o17::o18::o19::o20::o21::o7::o22::o23::o24::o7::o8::o25::o7::o26::o27::o28::o7::o8::o29::o7::o30::o31::o32::o7::o33::Sl::o35::o36::o37::o38::o20::o39::o7::o40::o41::o42::o7::o8::o43::o7::o44::o45::o46::o7::o47::o48::o49::o50::o38::o20::o51::o7::o52::o53::o54::o7::o8::o55::o7::o56::o57::o58::o7::o59::o60::o61::o62::o38::o20::o63::o7::o64::o65::o66::o7::o8::o67::o7::o68::o69::o70::o7::o71::o72::o73::o74::o38::o20::o75::o7::o76::o77::o78::o7::o8::o79::o7::o80::o81::o82::o7::o83::o84::o85::o86::o38::o20::o87::o7::o88::o89::o90::o7::o8::o91::o7::o92::o93::o94::o7::o95::o96::o97::o98::o38::o20::o99::o7::R7::R8::R9::o7::o8::QN::o7::Sa::QO::QP::o7::QQ::QR::Sb::Sd::o38::o20::Se::o7::Sf::Sg::Sh::o7::o8::QS::o7::Si::QT::QU::o7::QV::QW::Sj::Sk::o38::o20::Vv::o7::Vw::Vx::Vy::o7::o8::Sn::o7::Vz::So::Sq::o7::Sr::Ss::VA::VB::o38::o20::VC::o7::VD::VE::VF::o7::o8::Su::o7::VG::Sv::Sw::o7::Sx::Sy::VH::VI::o7::o8::Sz::o7::VJ::SA::SD::o7::o8::SE::o7::VL::SF::SG::o7::o8::SH::o7::VM::SI::SJ::o7::o8::SK::o7::VN::SM::SN::o7::o8::SO::o7::VO::SQ::SR::o7::o8::SS::o7::VP::SU::SV::o7::o8::SW::o7::VQ::SX::SY::o7::o8::S4::o7::VR::S5::S6::o7::o8::S7::o7::VS::S8::S9::o7::o20::VT::o7::VU::VV::VW::o7::o8::Ta::o7::VX::Tb::Tc::o7::o8::Td::o7::VY::Tf::Tg::o7::o8::Th::o7::VZ::Ti::Tj::o7::o8::Tn::o7::V0::To::Tp::o7::o8::Tq::o7::V1::Tr::Ts::o7::o8::Tt::o7::V2::Tu::Tv::o7::o8::Tw::o7::V3::Tx::Tz::o7::o8::TB::o7::V4::TC::TH::o7::o8::TJ::o7::V5::TK::TL::o7::o8::TM::o7::V6::TN::TQ::TR::TU::TV::TX::TY::V7::V8::o7::o20::V9::o7::Wa::Wb::Wc::o7::o8::TZ::o7::We::T1::T2::o7::o8::T3::o7::Wf::T4::T5::o7::o8::T6::o7::Wg::T7::T8::o7::o8::T9::o7::Wh::Ua::Ub::o7::o8::Uc::o7::Wi::Ud::Ue::o7::o8::Ug::o7::Wj::Uh::Ui::o7::o8::Uj::o7::Wl::Uk::Ul::Um::Uo::Up::Uq::Ur::Wm::Wn::o7::o8::Us::o7::Wo::Ut::Uu::[])
noncomputable def hS1(w:World)(os:OsState):SharedT:=⟨hT1 w.params,437,⟨[],[],[],0,[],[],false,(List.toArray []),[],0,false,false,false,0,[2000,10,10],false,0,true,[],[],0,false⟩,#[],⟨0,0,0,0⟩,717,os⟩
noncomputable def hT2(P:Params):BT:=mkT P 12 (o0::o1::o2::ad9::o4::o5::o6::o7::o8::o9::o10::o7::aea::o11::o12::o7::o8::o15::o7::o16::o17::o18::o19::o20::o21::o7::o22::o23::o24::o7::o8::o25::o7::o26::o27::o28::o7::o8::o29::o7::o30::o31::o32::o7::o33::Sl::o35::o36::o37::o38::o20::o39::o7::o40::o41::o42::o7::o8::o43::o7::o44::o45::o46::o7::o47::o48::o49::o50::o38::o20::o51::o7::o52::o53::o54::o7::o8::o55::o7::o56::o57::o58::o7::o59::o60::o61::o62::o38::o20::o63::o7::o64::o65::o66::o7::o8::o67::o7::o68::o69::o70::o7::o71::o72::o73::o74::o38::o20::o75::o7::o76::o77::o78::o7::o8::o79::o7::o80::o81::o82::o7::o83::o84::o85::o86::o38::o20::o87::o7::o88::o89::o90::o7::o8::o91::o7::o92::o93::o94::o7::o95::o96::o97::o98::o38::o20::o99::o7::R7::R8::R9::o7::o8::QN::o7::Sa::QO::QP::o7::QQ::QR::Sb::Sd::o38::o20::Se::o7::Sf::Sg::Sh::o7::o8::QS::o7::Si::QT::QU::o7::QV::QW::Sj::Sk::o38::o20::Vv::o7::Vw::Vx::Vy::o7::o8::Sn::o7::Vz::So::Sq::o7::Sr::Ss::VA::VB::o38::o20::VC::o7::VD::VE::VF::o7::o8::Su::o7::VG::Sv::Sw::o7::Sx::Sy::VH::VI::o7::o8::Sz::o7::VJ::SA::SD::o7::o8::SE::o7::VL::SF::SG::o7::o8::SH::o7::VM::SI::SJ::o7::o8::SK::o7::VN::SM::SN::o7::o8::SO::o7::VO::SQ::SR::o7::o8::SS::o7::VP::SU::SV::o7::o8::SW::o7::VQ::SX::SY::o7::o8::S4::o7::VR::S5::S6::o7::o8::S7::o7::VS::S8::S9::o7::o20::VT::o7::VU::VV::VW::o7::o8::Ta::o7::VX::Tb::Tc::o7::o8::Td::o7::VY::Tf::Tg::o7::o8::Th::o7::VZ::Ti::Tj::o7::o8::Tn::o7::V0::To::Tp::o7::o8::Tq::o7::V1::Tr::Ts::o7::o8::Tt::o7::V2::Tu::Tv::o7::o8::Tw::o7::V3::Tx::Tz::o7::o8::TB::o7::V4::TC::TH::o7::o8::TJ::o7::V5::TK::TL::o7::o8::TM::o7::V6::TN::TQ::TR::TU::TV::TX::TY::V7::V8::o7::o20::V9::o7::Wa::Wb::Wc::o7::o8::TZ::o7::We::T1::T2::o7::o8::T3::o7::Wf::T4::T5::o7::o8::T6::o7::Wg::T7::T8::o7::o8::T9::o7::Wh::Ua::Ub::o7::o8::Uc::o7::Wi::Ud::Ue::o7::o8::Ug::o7::Wj::Uh::Ui::o7::o8::Uj::o7::Wl::Uk::Ul::Um::Uo::Up::Uq::Ur::Wm::Wn::o7::o8::Us::o7::Wo::Ut::Uu::o7::o20::Zp::o7::Zq::Zr::Zs::o7::o8::Wq::o7::Zt::Wr::Ws::o7::o8::Wu::o7::Zu::Wv::Ww::o7::o8::Wx::o7::Zv::Wy::Wz::o7::o8::WA::o7::Zw::WB::WC::o7::o8::Zx::WD::WE::WG::WH::WI::WJ::WK::Zy::Zz::o7::o20::ZA::o7::ZC::ZD::ZE::o7::o8::WL::o7::ZF::WM::WN::o7::o8::WO::o7::ZG::WQ::WR::o7::o8::WS::o7::ZH::WT::WU::o7::o8::WW::o7::ZI::WX::WY::o7::o8::WZ::o7::ZJ::W0::W2::o7::o8::W3::o7::ZK::W5::W6::o7::o8::Xa::o7::ZL::Xb::Xc::o7::o8::Xd::o7::ZM::Xe::Xf::o7::o8::Xg::o7::ZN::Xh::Xi::o7::o8::Xj::o7::ZO::Xk::Xl::o7::o8::ZP::Xm::Xn::o7::o8::Xo::o7::ZQ::Xp::Xq::o7::o8::Xr::o7::ZR::Xs::Xu::o7::o8::Xv::o7::ZS::Xw::Xx::o7::o8::Xy::o7::ZT::Xz::XA::o7::o8::ZU::XB::XC::o7::o8::ZV::XD::XE::XF::XG::aeb::XH::XI::ZW::ZX::o7::o8::XJ::o7::ZY::XM::XN::[])
noncomputable def hS2(w:World)(os:OsState):SharedT:=⟨hT2 w.params,618,⟨[],[],[],0,[],[],false,(List.toArray []),[],0,false,false,false,0,[2000,10,10],false,0,true,[],[],0,false⟩,#[],⟨0,0,0,0⟩,962,os⟩
noncomputable def hT3(P:Params):BT:=mkT P 12 (o0::o1::o2::ZZ::o4::o5::o6::o7::o8::o9::o10::o7::acL::o11::o12::o7::o8::o15::o7::o16::o17::o18::o19::o20::o21::o7::o22::o23::o24::o7::o8::o25::o7::o26::o27::o28::o7::o8::o29::o7::o30::o31::o32::o7::o33::Sl::o35::o36::o37::o38::o20::o39::o7::o40::o41::o42::o7::o8::o43::o7::o44::o45::o46::o7::o47::o48::o49::o50::o38::o20::o51::o7::o52::o53::o54::o7::o8::o55::o7::o56::o57::o58::o7::o59::o60::o61::o62::o38::o20::o63::o7::o64::o65::o66::o7::o8::o67::o7::o68::o69::o70::o7::o71::o72::o73::o74::o38::o20::o75::o7::o76::o77::o78::o7::o8::o79::o7::o80::o81::o82::o7::o83::o84::o85::o86::o38::o20::o87::o7::o88::o89::o90::o7::o8::o91::o7::o92::o93::o94::o7::o95::o96::o97::o98::o38::o20::o99::o7::R7::R8::R9::o7::o8::QN::o7::Sa::QO::QP::o7::QQ::QR::Sb::Sd::o38::o20::Se::o7::Sf::Sg::Sh::o7::o8::QS::o7::Si::QT::QU::o7::QV::QW::Sj::Sk::o38::o20::Vv::o7::Vw::Vx::Vy::o7::o8::Sn::o7::Vz::So::Sq::o7::Sr::Ss::VA::VB::o38::o20::VC::o7::VD::VE::VF::o7::o8::Su::o7::VG::Sv::Sw::o7::Sx::Sy::VH::VI::o7::o8::Sz::o7::VJ::SA::SD::o7::o8::SE::o7::VL::SF::SG::o7::o8::SH::o7::VM::SI::SJ::o7::o8::SK::o7::VN::SM::SN::o7::o8::SO::o7::VO::SQ::SR::o7::o8::SS::o7::VP::SU::SV::o7::o8::SW::o7::VQ::SX::SY::o7::o8::S4::o7::VR::S5::S6::o7::o8::S7::o7::VS::S8::S9::o7::o20::VT::o7::VU::VV::VW::o7::o8::Ta::o7::VX::Tb::Tc::o7::o8::Td::o7::VY::Tf::Tg::o7::o8::Th::o7::VZ::Ti::Tj::o7::o8::Tn::o7::V0::To::Tp::o7::o8::Tq::o7::V1::Tr::Ts::o7::o8::Tt::o7::V2::Tu::Tv::o7::o8::Tw::o7::V3::Tx::Tz::o7::o8::TB::o7::V4::TC::TH::o7::o8::TJ::o7::V5::TK::TL::o7::o8::TM::o7::V6::TN::TQ::TR::TU::TV::TX::TY::V7::V8::o7::o20::V9::o7::Wa::Wb::Wc::o7::o8::TZ::o7::We::T1::T2::o7::o8::T3::o7::Wf::T4::T5::o7::o8::T6::o7::Wg::T7::T8::o7::o8::T9::o7::Wh::Ua::Ub::o7::o8::Uc::o7::Wi::Ud::Ue::o7::o8::Ug::o7::Wj::Uh::Ui::o7::o8::Uj::o7::Wl::Uk::Ul::Um::Uo::Up::Uq::Ur::Wm::Wn::o7::o8::Us::o7::Wo::Ut::Uu::o7::o20::Zp::o7::Zq::Zr::Zs::o7::o8::Wq::o7::Zt::Wr::Ws::o7::o8::Wu::o7::Zu::Wv::Ww::o7::o8::Wx::o7::Zv::Wy::Wz::o7::o8::WA::o7::Zw::WB::WC::o7::o8::Zx::WD::WE::WG::WH::WI::WJ::WK::Zy::Zz::o7::o20::ZA::o7::ZC::ZD::ZE::o7::o8::WL::o7::ZF::WM::WN::o7::o8::WO::o7::ZG::WQ::WR::o7::o8::WS::o7::ZH::WT::WU::o7::o8::WW::o7::ZI::WX::WY::o7::o8::WZ::o7::ZJ::W0::W2::o7::o8::W3::o7::ZK::W5::W6::o7::o8::Xa::o7::ZL::Xb::Xc::o7::o8::Xd::o7::ZM::Xe::Xf::o7::o8::Xg::o7::ZN::Xh::Xi::o7::o8::Xj::o7::ZO::Xk::Xl::o7::o8::ZP::Xm::Xn::o7::o8::Xo::o7::ZQ::Xp::Xq::o7::o8::Xr::o7::ZR::Xs::Xu::o7::o8::Xv::o7::ZS::Xw::Xx::o7::o8::Xy::o7::ZT::Xz::XA::o7::o8::ZU::XB::XC::o7::o8::ZV::XD::XE::XF::XG::Z1::XH::XI::ZW::ZX::o7::o8::XJ::o7::ZY::XM::XN::Z2::o20::acM::o7::acN::acO::acP::o7::o8::Z3::o7::acQ::Z4::Z5::o7::o8::Z6::o7::acR::Z7::Z8::o7::o8::Z9::o7::acS::aaa::aab::o7::o8::aac::o7::acT::aad::aae::o7::o8::aaf::o7::acU::aag::aah::o7::o8::aai::o7::acV::aaj::aak::o7::o8::aal::o7::acW::aam::aan::o7::o8::aao::o7::acX::aap::aaq::o7::o8::aar::o7::acY::aas::aat::o7::o8::aau::o7::acZ::aav::aaw::o7::o8::aax::o7::ac0::aay::aaz::o7::o8::aaA::o7::ac1::aaB::aaC::o7::o8::aaD::o7::ac2::aaE::aaF::o7::o8::aaG::o7::ac3::aaH::aaI::o7::o8::aaJ::o7::ac4::aaK::aaL::o7::o8::aaM::o7::ac5::aaN::aaO::o7::o8::aaP::o7::ac6::aaQ::aaR::o7::o8::aaS::o7::ac7::aaT::aaU::o7::o8::aaV::o7::ac8::aaW::aaX::o7::o8::aaY::o7::ac9::aaZ::aa0::o7::o8::aa1::o7::ada::aa2::aa3::o7::o8::aa4::o7::adb::aa5::aa6::o7::o8::aa7::o7::ade::aa8::aa9::aba::abb::abc::adf::adg::o7::o8::abd::o7::adh::abe::abf::o7::o8::abg::o7::adi::abh::abi::o7::o8::abj::o7::adj::abk::abl::o7::o8::abm::o7::adk::abn::abo::o7::o8::adl::abp::abq::o7::o8::adn::abr::abt::o7::o8::abu::o7::ado::abv::abw::o7::o8::abx::o7::adp::aby::abz::o7::o8::adq::abA::abB::o7::o8::ads::abC::abD::o7::o8::abE::o7::adt::abF::abG::[])
noncomputable def hS3(w:World)(os:OsState):SharedT:=⟨hT3 w.params,860,⟨[],[],[],0,[],[],false,(List.toArray []),[],0,false,false,false,0,[2000,10,10],false,0,true,[],[],0,false⟩,#[],⟨0,0,0,0⟩,1263,os⟩
noncomputable def hTf(P:Params):BT:=mkT P 12 (o0::o1::o2::ZZ::o4::o5::o6::o7::o8::o9::o10::o7::acL::o11::o12::o7::o8::o15::o7::o16::o17::o18::o19::o20::o21::o7::o22::o23::o24::o7::o8::o25::o7::o26::o27::o28::o7::o8::o29::o7::o30::o31::o32::o7::o33::Sl::o35::o36::o37::o38::o20::o39::o7::o40::o41::o42::o7::o8::o43::o7::o44::o45::o46::o7::o47::o48::o49::o50::o38::o20::o51::o7::o52::o53::o54::o7::o8::o55::o7::o56::o57::o58::o7::o59::o60::o61::o62::o38::o20::o63::o7::o64::o65::o66::o7::o8::o67::o7::o68::o69::o70::o7::o71::o72::o73::o74::o38::o20::o75::o7::o76::o77::o78::o7::o8::o79::o7::o80::o81::o82::o7::o83::o84::o85::o86::o38::o20::o87::o7::o88::o89::o90::o7::o8::o91::o7::o92::o93::o94::o7::o95::o96::o97::o98::o38::o20::o99::o7::R7::R8::R9::o7::o8::QN::o7::Sa::QO::QP::o7::QQ::QR::Sb::Sd::o38::o20::Se::o7::Sf::Sg::Sh::o7::o8::QS::o7::Si::QT::QU::o7::QV::QW::Sj::Sk::o38::o20::Vv::o7::Vw::Vx::Vy::o7::o8::Sn::o7::Vz::So::Sq::o7::Sr::Ss::VA::VB::o38::o20::VC::o7::VD::VE::VF::o7::o8::Su::o7::VG::Sv::Sw::o7::Sx::Sy::VH::VI::o7::o8::Sz::o7::VJ::SA::SD::o7::o8::SE::o7::VL::SF::SG::o7::o8::SH::o7::VM::SI::SJ::o7::o8::SK::o7::VN::SM::SN::o7::o8::SO::o7::VO::SQ::SR::o7::o8::SS::o7::VP::SU::SV::o7::o8::SW::o7::VQ::SX::SY::o7::o8::S4::o7::VR::S5::S6::o7::o8::S7::o7::VS::S8::S9::o7::o20::VT::o7::VU::VV::VW::o7::o8::Ta::o7::VX::Tb::Tc::o7::o8::Td::o7::VY::Tf::Tg::o7::o8::Th::o7::VZ::Ti::Tj::o7::o8::Tn::o7::V0::To::Tp::o7::o8::Tq::o7::V1::Tr::Ts::o7::o8::Tt::o7::V2::Tu::Tv::o7::o8::Tw::o7::V3::Tx::Tz::o7::o8::TB::o7::V4::TC::TH::o7::o8::TJ::o7::V5::TK::TL::o7::o8::TM::o7::V6::TN::TQ::TR::TU::TV::TX::TY::V7::V8::o7::o20::V9::o7::Wa::Wb::Wc::o7::o8::TZ::o7::We::T1::T2::o7::o8::T3::o7::Wf::T4::T5::o7::o8::T6::o7::Wg::T7::T8::o7::o8::T9::o7::Wh::Ua::Ub::o7::o8::Uc::o7::Wi::Ud::Ue::o7::o8::Ug::o7::Wj::Uh::Ui::o7::o8::Uj::o7::Wl::Uk::Ul::Um::Uo::Up::Uq::Ur::Wm::Wn::o7::o8::Us::o7::Wo::Ut::Uu::o7::o20::Zp::o7::Zq::Zr::Zs::o7::o8::Wq::o7::Zt::Wr::Ws::o7::o8::Wu::o7::Zu::Wv::Ww::o7::o8::Wx::o7::Zv::Wy::Wz::o7::o8::WA::o7::Zw::WB::WC::o7::o8::Zx::WD::WE::WG::WH::WI::WJ::WK::Zy::Zz::o7::o20::ZA::o7::ZC::ZD::ZE::o7::o8::WL::o7::ZF::WM::WN::o7::o8::WO::o7::ZG::WQ::WR::o7::o8::WS::o7::ZH::WT::WU::o7::o8::WW::o7::ZI::WX::WY::o7::o8::WZ::o7::ZJ::W0::W2::o7::o8::W3::o7::ZK::W5::W6::o7::o8::Xa::o7::ZL::Xb::Xc::o7::o8::Xd::o7::ZM::Xe::Xf::o7::o8::Xg::o7::ZN::Xh::Xi::o7::o8::Xj::o7::ZO::Xk::Xl::o7::o8::ZP::Xm::Xn::o7::o8::Xo::o7::ZQ::Xp::Xq::o7::o8::Xr::o7::ZR::Xs::Xu::o7::o8::Xv::o7::ZS::Xw::Xx::o7::o8::Xy::o7::ZT::Xz::XA::o7::o8::ZU::XB::XC::o7::o8::ZV::XD::XE::XF::XG::Z1::XH::XI::ZW::ZX::o7::o8::XJ::o7::ZY::XM::XN::Z2::o20::acM::o7::acN::acO::acP::o7::o8::Z3::o7::acQ::Z4::Z5::o7::o8::Z6::o7::acR::Z7::Z8::o7::o8::Z9::o7::acS::aaa::aab::o7::o8::aac::o7::acT::aad::aae::o7::o8::aaf::o7::acU::aag::aah::o7::o8::aai::o7::acV::aaj::aak::o7::o8::aal::o7::acW::aam::aan::o7::o8::aao::o7::acX::aap::aaq::o7::o8::aar::o7::acY::aas::aat::o7::o8::aau::o7::acZ::aav::aaw::o7::o8::aax::o7::ac0::aay::aaz::o7::o8::aaA::o7::ac1::aaB::aaC::o7::o8::aaD::o7::ac2::aaE::aaF::o7::o8::aaG::o7::ac3::aaH::aaI::o7::o8::aaJ::o7::ac4::aaK::aaL::o7::o8::aaM::o7::ac5::aaN::aaO::o7::o8::aaP::o7::ac6::aaQ::aaR::o7::o8::aaS::o7::ac7::aaT::aaU::o7::o8::aaV::o7::ac8::aaW::aaX::o7::o8::aaY::o7::ac9::aaZ::aa0::o7::o8::aa1::o7::ada::aa2::aa3::o7::o8::aa4::o7::adb::aa5::aa6::o7::o8::aa7::o7::ade::aa8::aa9::aba::abb::abc::adf::adg::o7::o8::abd::o7::adh::abe::abf::o7::o8::abg::o7::adi::abh::abi::o7::o8::abj::o7::adj::abk::abl::o7::o8::abm::o7::adk::abn::abo::o7::o8::adl::abp::abq::o7::o8::adn::abr::abt::o7::o8::abu::o7::ado::abv::abw::o7::o8::abx::o7::adp::aby::abz::o7::o8::adq::abA::abB::o7::o8::ads::abC::abD::o7::o8::abE::o7::adt::abF::abG::[])
noncomputable def hSf(w:World)(os:OsState):SharedT:=⟨hTf w.params,860,⟨[],[],[],0,[],[],false,(List.toArray []),[],0,false,false,false,0,[2000,10,10],false,0,true,[],[],0,false⟩,#[],⟨0,0,0,0⟩,1263,os⟩
def QX:Env:={scope:=(PySem.Challenge.pw_stillheap_k08_whole_small_rounds).main.scope,locals:=mainNs,globals:=mainNs,cells:=[],code:=(.ref 13),frame:=some 14}
def hG0:List Stmt:=[top 0,top 1,top 2,top 3,top 4,top 5,top 6,top 7,top 8,top 9]
def hG1:List Stmt:=[top 10,top 11,top 12,top 13,top 14,top 15,top 16,top 17,top 18,top 19,top 20,top 21,top 22,top 23,top 24,top 25,top 26,top 27,top 28,top 29,top 30,top 31,top 32,top 33,top 34,top 35]
def hG2:List Stmt:=[top 36,top 37,top 38,top 39,top 40]
def hG3:List Stmt:=[top 41,top 42,top 43,top 44,top 45,top 46,top 47,top 48,top 49,top 50,top 51,top 52,top 53]
def hB:List Stmt:=hG0++(hG1++(hG2++(hG3++[])))
def hC:Code:=.body hB QX
abbrev hF:List Frame:=[topFrame ⟨0,0,0,0⟩]
theorem aec(w:World)(os:OsState):topGo treeTable PySem.Challenge.pw_stillheap_k08_whole_small_rounds w 11 (.some (.ref 6)) 12 ⟨boot_heap w.params,#[],boot_drawn,boot_toks,os⟩ (topStub PySem.Challenge.pw_stillheap_k08_whole_small_rounds)=some ((hSa w os).abs,⟨denote treeTable hC,hC,⟨0,0,0,0⟩,hF⟩):=by kernel_rfl
theorem aed(w:World)(os:OsState):segRun treeTable PySem.Challenge.pw_stillheap_k08_whole_small_rounds w 11 (.some (.ref 6)) 1 1 (hSa w os).abs (blockOf hB QX hC ⟨0,0,0,0⟩ hF)=some (.next,(hSb w os).abs,hC,⟨0,0,0,0⟩):=by kernel_rfl
theorem hR0(w:World)(os:OsState):segRunT treeTable PySem.Challenge.pw_stillheap_k08_whole_small_rounds w 11 (.some (.ref 6)) 1 1988 (hSb w os) (piecesOf hG0 QX hC ⟨0,0,0,0⟩ hF)=some (.next,hS0 w os,hC,⟨36,0,39,24⟩):=by kernel_rfl
theorem hR1(w:World)(os:OsState):segRunT treeTable PySem.Challenge.pw_stillheap_k08_whole_small_rounds w 11 (.some (.ref 6)) 1 1818 (hS0 w os) (piecesOf hG1 QX hC ⟨36,0,39,24⟩ hF)=some (.next,hS1 w os,hC,⟨170,0,170,8⟩):=by kernel_rfl
theorem hR2(w:World)(os:OsState):segRunT treeTable PySem.Challenge.pw_stillheap_k08_whole_small_rounds w 11 (.some (.ref 6)) 1 1140 (hS1 w os) (piecesOf hG2 QX hC ⟨170,0,170,8⟩ hF)=some (.next,hS2 w os,hC,⟨284,0,284,8⟩):=by kernel_rfl
theorem hR3(w:World)(os:OsState):segRunT treeTable PySem.Challenge.pw_stillheap_k08_whole_small_rounds w 11 (.some (.ref 6)) 1 1291 (hS2 w os) (piecesOf hG3 QX hC ⟨284,0,284,8⟩ hF)=some (.next,hS3 w os,hC,⟨490,0,498,33⟩):=by kernel_rfl
theorem aee(w:World)(os:OsState):topRun treeTable PySem.Challenge.pw_stillheap_k08_whole_small_rounds w 11 (.some (.ref 6)) 2 (hS3 w os).abs ⟨doneF .next,hC,⟨490,0,498,33⟩,hF⟩=some (hSf w os).abs:=by kernel_rfl
theorem aef(w:World)(os:OsState):topRun treeTable PySem.Challenge.pw_stillheap_k08_whole_small_rounds w 11 (.some (.ref 6)) (12+(1+(1988+(1818+(1140+(1291+2)))))) ⟨boot_heap w.params,#[],boot_drawn,boot_toks,os⟩ (topStub PySem.Challenge.pw_stillheap_k08_whole_small_rounds)=some (hSf w os).abs:=go_top (aec w os) (piece_block (aed w os) (piece_app (segRun_of (hR0 w os)) (piece_app (segRun_of (hR1 w os)) (piece_app (segRun_of (hR2 w os)) (piece_app (segRun_of (hR3 w os)) (aee w os))))))
noncomputable def hK(P:Params):Frag:=(nat_lit 2,o2 P)::(nat_lit 3,ZZ P)::(nat_lit 15,o7 P)::(nat_lit 17,o15 P)::(nat_lit 18,o7 P)::(nat_lit 20,o17 P)::(nat_lit 21,o18 P)::(nat_lit 22,o19 P)::(nat_lit 29,o7 P)::(nat_lit 31,o25 P)::(nat_lit 32,o7 P)::(nat_lit 34,o27 P)::(nat_lit 35,o28 P)::(nat_lit 36,o7 P)::(nat_lit 38,o29 P)::(nat_lit 39,o7 P)::(nat_lit 41,o31 P)::(nat_lit 42,o32 P)::(nat_lit 43,o7 P)::(nat_lit 44,o33 P)::(nat_lit 45,Sl P)::(nat_lit 46,o35 P)::(nat_lit 49,o38 P)::(nat_lit 56,o7 P)::(nat_lit 58,o43 P)::(nat_lit 59,o7 P)::(nat_lit 61,o45 P)::(nat_lit 62,o46 P)::(nat_lit 63,o7 P)::(nat_lit 64,o47 P)::(nat_lit 65,o48 P)::(nat_lit 68,o38 P)::(nat_lit 75,o7 P)::(nat_lit 77,o55 P)::(nat_lit 78,o7 P)::(nat_lit 80,o57 P)::(nat_lit 81,o58 P)::(nat_lit 82,o7 P)::(nat_lit 83,o59 P)::(nat_lit 84,o60 P)::(nat_lit 87,o38 P)::(nat_lit 94,o7 P)::(nat_lit 96,o67 P)::(nat_lit 97,o7 P)::(nat_lit 99,o69 P)::(nat_lit 100,o70 P)::(nat_lit 101,o7 P)::(nat_lit 102,o71 P)::(nat_lit 103,o72 P)::(nat_lit 106,o38 P)::(nat_lit 113,o7 P)::(nat_lit 115,o79 P)::(nat_lit 116,o7 P)::(nat_lit 118,o81 P)::(nat_lit 119,o82 P)::(nat_lit 120,o7 P)::(nat_lit 121,o83 P)::(nat_lit 122,o84 P)::(nat_lit 125,o38 P)::(nat_lit 132,o7 P)::(nat_lit 134,o91 P)::(nat_lit 135,o7 P)::(nat_lit 137,o93 P)::(nat_lit 138,o94 P)::(nat_lit 139,o7 P)::(nat_lit 140,o95 P)::(nat_lit 141,o96 P)::(nat_lit 144,o38 P)::(nat_lit 151,o7 P)::(nat_lit 153,QN P)::(nat_lit 154,o7 P)::(nat_lit 156,QO P)::(nat_lit 157,QP P)::(nat_lit 158,o7 P)::(nat_lit 159,QQ P)::(nat_lit 160,QR P)::(nat_lit 163,o38 P)::(nat_lit 170,o7 P)::(nat_lit 172,QS P)::(nat_lit 173,o7 P)::(nat_lit 175,QT P)::(nat_lit 176,QU P)::(nat_lit 177,o7 P)::(nat_lit 178,QV P)::(nat_lit 179,QW P)::(nat_lit 182,o38 P)::(nat_lit 189,o7 P)::(nat_lit 191,Sn P)::(nat_lit 192,o7 P)::(nat_lit 194,So P)::(nat_lit 195,Sq P)::(nat_lit 196,o7 P)::(nat_lit 197,Sr P)::(nat_lit 198,Ss P)::(nat_lit 201,o38 P)::(nat_lit 208,o7 P)::(nat_lit 210,Su P)::(nat_lit 211,o7 P)::(nat_lit 213,Sv P)::(nat_lit 214,Sw P)::(nat_lit 215,o7 P)::(nat_lit 216,Sx P)::(nat_lit 217,Sy P)::(nat_lit 220,o7 P)::(nat_lit 222,Sz P)::(nat_lit 223,o7 P)::(nat_lit 225,SA P)::(nat_lit 226,SD P)::(nat_lit 227,o7 P)::(nat_lit 229,SE P)::(nat_lit 230,o7 P)::(nat_lit 232,SF P)::(nat_lit 233,SG P)::(nat_lit 234,o7 P)::(nat_lit 236,SH P)::(nat_lit 237,o7 P)::(nat_lit 239,SI P)::(nat_lit 240,SJ P)::(nat_lit 241,o7 P)::(nat_lit 243,SK P)::(nat_lit 244,o7 P)::(nat_lit 246,SM P)::(nat_lit 247,SN P)::(nat_lit 248,o7 P)::(nat_lit 250,SO P)::(nat_lit 251,o7 P)::(nat_lit 253,SQ P)::(nat_lit 254,SR P)::(nat_lit 255,o7 P)::(nat_lit 257,SS P)::(nat_lit 258,o7 P)::(nat_lit 260,SU P)::(nat_lit 261,SV P)::(nat_lit 262,o7 P)::(nat_lit 264,SW P)::(nat_lit 265,o7 P)::(nat_lit 267,SX P)::(nat_lit 268,SY P)::(nat_lit 269,o7 P)::(nat_lit 271,S4 P)::(nat_lit 272,o7 P)::(nat_lit 274,S5 P)::(nat_lit 275,S6 P)::(nat_lit 276,o7 P)::(nat_lit 278,S7 P)::(nat_lit 279,o7 P)::(nat_lit 281,S8 P)::(nat_lit 282,S9 P)::(nat_lit 290,o7 P)::(nat_lit 292,Ta P)::(nat_lit 293,o7 P)::(nat_lit 295,Tb P)::(nat_lit 296,Tc P)::(nat_lit 297,o7 P)::(nat_lit 299,Td P)::(nat_lit 300,o7 P)::(nat_lit 302,Tf P)::(nat_lit 303,Tg P)::(nat_lit 304,o7 P)::(nat_lit 306,Th P)::(nat_lit 307,o7 P)::(nat_lit 309,Ti P)::(nat_lit 310,Tj P)::(nat_lit 311,o7 P)::(nat_lit 313,Tn P)::(nat_lit 314,o7 P)::(nat_lit 316,To P)::(nat_lit 317,Tp P)::(nat_lit 318,o7 P)::(nat_lit 320,Tq P)::(nat_lit 321,o7 P)::(nat_lit 323,Tr P)::(nat_lit 324,Ts P)::(nat_lit 325,o7 P)::(nat_lit 327,Tt P)::(nat_lit 328,o7 P)::(nat_lit 330,Tu P)::(nat_lit 331,Tv P)::(nat_lit 332,o7 P)::(nat_lit 334,Tw P)::(nat_lit 335,o7 P)::(nat_lit 337,Tx P)::(nat_lit 338,Tz P)::(nat_lit 339,o7 P)::(nat_lit 341,TB P)::(nat_lit 342,o7 P)::(nat_lit 344,TC P)::(nat_lit 345,TH P)::(nat_lit 346,o7 P)::(nat_lit 348,TJ P)::(nat_lit 349,o7 P)::(nat_lit 351,TK P)::(nat_lit 352,TL P)::(nat_lit 353,o7 P)::(nat_lit 355,TM P)::(nat_lit 356,o7 P)::(nat_lit 358,TN P)::(nat_lit 359,TQ P)::(nat_lit 360,TR P)::(nat_lit 361,TU P)::(nat_lit 362,TV P)::(nat_lit 363,TX P)::(nat_lit 364,TY P)::(nat_lit 374,o7 P)::(nat_lit 376,TZ P)::(nat_lit 377,o7 P)::(nat_lit 379,T1 P)::(nat_lit 380,T2 P)::(nat_lit 381,o7 P)::(nat_lit 383,T3 P)::(nat_lit 384,o7 P)::(nat_lit 386,T4 P)::(nat_lit 387,T5 P)::(nat_lit 388,o7 P)::(nat_lit 390,T6 P)::(nat_lit 391,o7 P)::(nat_lit 393,T7 P)::(nat_lit 394,T8 P)::(nat_lit 395,o7 P)::(nat_lit 397,T9 P)::(nat_lit 398,o7 P)::(nat_lit 400,Ua P)::(nat_lit 401,Ub P)::(nat_lit 402,o7 P)::(nat_lit 404,Uc P)::(nat_lit 405,o7 P)::(nat_lit 407,Ud P)::(nat_lit 408,Ue P)::(nat_lit 409,o7 P)::(nat_lit 411,Ug P)::(nat_lit 412,o7 P)::(nat_lit 414,Uh P)::(nat_lit 415,Ui P)::(nat_lit 416,o7 P)::(nat_lit 418,Uj P)::(nat_lit 419,o7 P)::(nat_lit 421,Uk P)::(nat_lit 422,Ul P)::(nat_lit 423,Um P)::(nat_lit 424,Uo P)::(nat_lit 425,Up P)::(nat_lit 426,Uq P)::(nat_lit 427,Ur P)::(nat_lit 430,o7 P)::(nat_lit 432,Us P)::(nat_lit 433,o7 P)::(nat_lit 435,Ut P)::(nat_lit 436,Uu P)::(nat_lit 444,o7 P)::(nat_lit 446,Wq P)::(nat_lit 447,o7 P)::(nat_lit 449,Wr P)::(nat_lit 450,Ws P)::(nat_lit 451,o7 P)::(nat_lit 453,Wu P)::(nat_lit 454,o7 P)::(nat_lit 456,Wv P)::(nat_lit 457,Ww P)::(nat_lit 458,o7 P)::(nat_lit 460,Wx P)::(nat_lit 461,o7 P)::(nat_lit 463,Wy P)::(nat_lit 464,Wz P)::(nat_lit 465,o7 P)::(nat_lit 467,WA P)::(nat_lit 468,o7 P)::(nat_lit 470,WB P)::(nat_lit 471,WC P)::(nat_lit 472,o7 P)::(nat_lit 475,WD P)::(nat_lit 476,WE P)::(nat_lit 477,WG P)::(nat_lit 478,WH P)::(nat_lit 479,WI P)::(nat_lit 480,WJ P)::(nat_lit 481,WK P)::(nat_lit 491,o7 P)::(nat_lit 493,WL P)::(nat_lit 494,o7 P)::(nat_lit 496,WM P)::(nat_lit 497,WN P)::(nat_lit 498,o7 P)::(nat_lit 500,WO P)::(nat_lit 501,o7 P)::(nat_lit 503,WQ P)::(nat_lit 504,WR P)::(nat_lit 505,o7 P)::(nat_lit 507,WS P)::(nat_lit 508,o7 P)::(nat_lit 510,WT P)::(nat_lit 511,WU P)::(nat_lit 512,o7 P)::(nat_lit 514,WW P)::(nat_lit 515,o7 P)::(nat_lit 517,WX P)::(nat_lit 518,WY P)::(nat_lit 519,o7 P)::(nat_lit 521,WZ P)::(nat_lit 522,o7 P)::(nat_lit 524,W0 P)::(nat_lit 525,W2 P)::(nat_lit 526,o7 P)::(nat_lit 528,W3 P)::(nat_lit 529,o7 P)::(nat_lit 531,W5 P)::(nat_lit 532,W6 P)::(nat_lit 533,o7 P)::(nat_lit 535,Xa P)::(nat_lit 536,o7 P)::(nat_lit 538,Xb P)::(nat_lit 539,Xc P)::(nat_lit 540,o7 P)::(nat_lit 542,Xd P)::(nat_lit 543,o7 P)::(nat_lit 545,Xe P)::(nat_lit 546,Xf P)::(nat_lit 547,o7 P)::(nat_lit 549,Xg P)::(nat_lit 550,o7 P)::(nat_lit 552,Xh P)::(nat_lit 553,Xi P)::(nat_lit 554,o7 P)::(nat_lit 556,Xj P)::(nat_lit 557,o7 P)::(nat_lit 559,Xk P)::(nat_lit 560,Xl P)::(nat_lit 561,o7 P)::(nat_lit 564,Xm P)::(nat_lit 565,Xn P)::(nat_lit 566,o7 P)::(nat_lit 568,Xo P)::(nat_lit 569,o7 P)::(nat_lit 571,Xp P)::(nat_lit 572,Xq P)::(nat_lit 573,o7 P)::(nat_lit 575,Xr P)::(nat_lit 576,o7 P)::(nat_lit 578,Xs P)::(nat_lit 579,Xu P)::(nat_lit 580,o7 P)::(nat_lit 582,Xv P)::(nat_lit 583,o7 P)::(nat_lit 585,Xw P)::(nat_lit 586,Xx P)::(nat_lit 587,o7 P)::(nat_lit 589,Xy P)::(nat_lit 590,o7 P)::(nat_lit 592,Xz P)::(nat_lit 593,XA P)::(nat_lit 594,o7 P)::(nat_lit 597,XB P)::(nat_lit 598,XC P)::(nat_lit 599,o7 P)::(nat_lit 602,XD P)::(nat_lit 603,XE P)::(nat_lit 604,XF P)::(nat_lit 605,XG P)::(nat_lit 606,Z1 P)::(nat_lit 607,XH P)::(nat_lit 608,XI P)::(nat_lit 611,o7 P)::(nat_lit 613,XJ P)::(nat_lit 614,o7 P)::(nat_lit 616,XM P)::(nat_lit 617,XN P)::(nat_lit 618,Z2 P)::(nat_lit 625,o7 P)::(nat_lit 627,Z3 P)::(nat_lit 628,o7 P)::(nat_lit 630,Z4 P)::(nat_lit 631,Z5 P)::(nat_lit 632,o7 P)::(nat_lit 634,Z6 P)::(nat_lit 635,o7 P)::(nat_lit 637,Z7 P)::(nat_lit 638,Z8 P)::(nat_lit 639,o7 P)::(nat_lit 641,Z9 P)::(nat_lit 642,o7 P)::(nat_lit 644,aaa P)::(nat_lit 645,aab P)::(nat_lit 646,o7 P)::(nat_lit 648,aac P)::(nat_lit 649,o7 P)::(nat_lit 651,aad P)::(nat_lit 652,aae P)::(nat_lit 653,o7 P)::(nat_lit 655,aaf P)::(nat_lit 656,o7 P)::(nat_lit 658,aag P)::(nat_lit 659,aah P)::(nat_lit 660,o7 P)::(nat_lit 662,aai P)::(nat_lit 663,o7 P)::(nat_lit 665,aaj P)::(nat_lit 666,aak P)::(nat_lit 667,o7 P)::(nat_lit 669,aal P)::(nat_lit 670,o7 P)::(nat_lit 672,aam P)::(nat_lit 673,aan P)::(nat_lit 674,o7 P)::(nat_lit 676,aao P)::(nat_lit 677,o7 P)::(nat_lit 679,aap P)::(nat_lit 680,aaq P)::(nat_lit 681,o7 P)::(nat_lit 683,aar P)::(nat_lit 684,o7 P)::(nat_lit 686,aas P)::(nat_lit 687,aat P)::(nat_lit 688,o7 P)::(nat_lit 690,aau P)::(nat_lit 691,o7 P)::(nat_lit 693,aav P)::(nat_lit 694,aaw P)::(nat_lit 695,o7 P)::(nat_lit 697,aax P)::(nat_lit 698,o7 P)::(nat_lit 700,aay P)::(nat_lit 701,aaz P)::(nat_lit 702,o7 P)::(nat_lit 704,aaA P)::(nat_lit 705,o7 P)::(nat_lit 707,aaB P)::(nat_lit 708,aaC P)::(nat_lit 709,o7 P)::(nat_lit 711,aaD P)::(nat_lit 712,o7 P)::(nat_lit 714,aaE P)::(nat_lit 715,aaF P)::(nat_lit 716,o7 P)::(nat_lit 718,aaG P)::(nat_lit 719,o7 P)::(nat_lit 721,aaH P)::(nat_lit 722,aaI P)::(nat_lit 723,o7 P)::(nat_lit 725,aaJ P)::(nat_lit 726,o7 P)::(nat_lit 728,aaK P)::(nat_lit 729,aaL P)::(nat_lit 730,o7 P)::(nat_lit 732,aaM P)::(nat_lit 733,o7 P)::(nat_lit 735,aaN P)::(nat_lit 736,aaO P)::(nat_lit 737,o7 P)::(nat_lit 739,aaP P)::(nat_lit 740,o7 P)::(nat_lit 742,aaQ P)::(nat_lit 743,aaR P)::(nat_lit 744,o7 P)::(nat_lit 746,aaS P)::(nat_lit 747,o7 P)::(nat_lit 749,aaT P)::(nat_lit 750,aaU P)::(nat_lit 751,o7 P)::(nat_lit 753,aaV P)::(nat_lit 754,o7 P)::(nat_lit 756,aaW P)::(nat_lit 757,aaX P)::(nat_lit 758,o7 P)::(nat_lit 760,aaY P)::(nat_lit 761,o7 P)::(nat_lit 763,aaZ P)::(nat_lit 764,aa0 P)::(nat_lit 765,o7 P)::(nat_lit 767,aa1 P)::(nat_lit 768,o7 P)::(nat_lit 770,aa2 P)::(nat_lit 771,aa3 P)::(nat_lit 772,o7 P)::(nat_lit 774,aa4 P)::(nat_lit 775,o7 P)::(nat_lit 777,aa5 P)::(nat_lit 778,aa6 P)::(nat_lit 779,o7 P)::(nat_lit 781,aa7 P)::(nat_lit 782,o7 P)::(nat_lit 784,aa8 P)::(nat_lit 785,aa9 P)::(nat_lit 786,aba P)::(nat_lit 787,abb P)::(nat_lit 788,abc P)::(nat_lit 791,o7 P)::(nat_lit 793,abd P)::(nat_lit 794,o7 P)::(nat_lit 796,abe P)::(nat_lit 797,abf P)::(nat_lit 798,o7 P)::(nat_lit 800,abg P)::(nat_lit 801,o7 P)::(nat_lit 803,abh P)::(nat_lit 804,abi P)::(nat_lit 805,o7 P)::(nat_lit 807,abj P)::(nat_lit 808,o7 P)::(nat_lit 810,abk P)::(nat_lit 811,abl P)::(nat_lit 812,o7 P)::(nat_lit 814,abm P)::(nat_lit 815,o7 P)::(nat_lit 817,abn P)::(nat_lit 818,abo P)::(nat_lit 819,o7 P)::(nat_lit 822,abp P)::(nat_lit 823,abq P)::(nat_lit 824,o7 P)::(nat_lit 827,abr P)::(nat_lit 828,abt P)::(nat_lit 829,o7 P)::(nat_lit 831,abu P)::(nat_lit 832,o7 P)::(nat_lit 834,abv P)::(nat_lit 835,abw P)::(nat_lit 836,o7 P)::(nat_lit 838,abx P)::(nat_lit 839,o7 P)::(nat_lit 841,aby P)::(nat_lit 842,abz P)::(nat_lit 843,o7 P)::(nat_lit 846,abA P)::(nat_lit 847,abB P)::(nat_lit 848,o7 P)::(nat_lit 851,abC P)::(nat_lit 852,abD P)::(nat_lit 853,o7 P)::(nat_lit 855,abE P)::(nat_lit 856,o7 P)::(nat_lit 858,abF P)::(nat_lit 859,abG P)::[]
def hAs:List Addr:=[2,3,15,17,18,20,21,22,29,31,32,34,35,36,38,39,41,42,43,44,45,46,49,56,58,59,61,62,63,64,65,68,75,77,78,80,81,82,83,84,87,94,96,97,99,100,101,102,103,106,113,115,116,118,119,120,121,122,125,132,134,135,137,138,139,140,141,144,151,153,154,156,157,158,159,160,163,170,172,173,175,176,177,178,179,182,189,191,192,194,195,196,197,198,201,208,210,211,213,214,215,216,217,220,222,223,225,226,227,229,230,232,233,234,236,237,239,240,241,243,244,246,247,248,250,251,253,254,255,257,258,260,261,262,264,265,267,268,269,271,272,274,275,276,278,279,281,282,290,292,293,295,296,297,299,300,302,303,304,306,307,309,310,311,313,314,316,317,318,320,321,323,324,325,327,328,330,331,332,334,335,337,338,339,341,342,344,345,346,348,349,351,352,353,355,356,358,359,360,361,362,363,364,374,376,377,379,380,381,383,384,386,387,388,390,391,393,394,395,397,398,400,401,402,404,405,407,408,409,411,412,414,415,416,418,419,421,422,423,424,425,426,427,430,432,433,435,436,444,446,447,449,450,451,453,454,456,457,458,460,461,463,464,465,467,468,470,471,472,475,476,477,478,479,480,481,491,493,494,496,497,498,500,501,503,504,505,507,508,510,511,512,514,515,517,518,519,521,522,524,525,526,528,529,531,532,533,535,536,538,539,540,542,543,545,546,547,549,550,552,553,554,556,557,559,560,561,564,565,566,568,569,571,572,573,575,576,578,579,580,582,583,585,586,587,589,590,592,593,594,597,598,599,602,603,604,605,606,607,608,611,613,614,616,617,618,625,627,628,630,631,632,634,635,637,638,639,641,642,644,645,646,648,649,651,652,653,655,656,658,659,660,662,663,665,666,667,669,670,672,673,674,676,677,679,680,681,683,684,686,687,688,690,691,693,694,695,697,698,700,701,702,704,705,707,708,709,711,712,714,715,716,718,719,721,722,723,725,726,728,729,730,732,733,735,736,737,739,740,742,743,744,746,747,749,750,751,753,754,756,757,758,760,761,763,764,765,767,768,770,771,772,774,775,777,778,779,781,782,784,785,786,787,788,791,793,794,796,797,798,800,801,803,804,805,807,808,810,811,812,814,815,817,818,819,822,823,824,827,828,829,831,832,834,835,836,838,839,841,842,843,846,847,848,851,852,853,855,856,858,859]
theorem sU(P:Params):hAs=(hK P).map (·.1):=rfl
def hQ:Program:={PySem.Challenge.pw_stillheap_k08_whole_small_rounds with main:={(PySem.Challenge.pw_stillheap_k08_whole_small_rounds).main with body:=[top 0,top 2,top 3,top 4,top 5,top 6,top 7,top 8,top 9,top 10,top 11,top 13,top 14,top 15,top 16,top 17,top 18,top 19,top 20,top 21,top 22,top 23,top 24,top 25,top 26,top 27,top 29,top 31,top 32,top 34,top 36,top 38,top 39,top 41,top 43,top 44,top 45,top 46,top 47,top 48,top 49,top 50,top 51,top 52,top 53]}}
def hLo:List Str:=[]
theorem abX(w:World):(fencedOpening treeTable PySem.Challenge.pw_stillheap_k08_whole_small_rounds w 12592).map (λs=>(s.heap,s.gens,s.drawn,s.toks))=some (boot_heap w.params,#[],boot_drawn,boot_toks):=by kernel_rfl
theorem abY(w:World):((boot_heap w.params).isNs mainGlobals&&(#[]:Array GenState).size == 0,(boot_heap w.params).objs.size,(boot_heap w.params).nsMap mainGlobals "__annotations__")=(true,11,((.some (.ref 6)):Option Value)):=by kernel_rfl
abbrev hXt(s:Shared):Bool:=xlAt hQ [] s&&recOk (RowW.records (OpenRow.toRowW (OpenLaw.row PySem.Challenge.rw_stillheap_k08_whole_small_rounds))) s
theorem YD(w:World):(λos:OsState=>((staticsOk (importedModules (PySem.Challenge.pw_stillheap_k08_whole_small_rounds).main.body) (boot_heap w.params) (absHeap (hTf w.params) 860 ⟨[],[],[],0,[],[],false,(List.toArray []),[],0,false,false,false,0,[2000,10,10],false,0,true,[],[],0,false⟩)&&namesBound PySem.Challenge.pw_stillheap_k08_whole_small_rounds (absHeap (hTf w.params) 860 ⟨[],[],[],0,[],[],false,(List.toArray []),[],0,false,false,false,0,[2000,10,10],false,0,true,[],[],0,false⟩)&&gensDone ⟨absHeap (hTf w.params) 860 ⟨[],[],[],0,[],[],false,(List.toArray []),[],0,false,false,false,0,[2000,10,10],false,0,true,[],[],0,false⟩,#[],⟨0,0,0,0⟩,1263,os⟩&&laidKept (boot_heap w.params) (absHeap (hTf w.params) 860 ⟨[],[],[],0,[],[],false,(List.toArray []),[],0,false,false,false,0,[2000,10,10],false,0,true,[],[],0,false⟩)),
  openSeen hQ hLo (importedModules (PySem.Challenge.pw_stillheap_k08_whole_small_rounds).main.body) hXt true ⟨absHeap (hTf w.params) 860 ⟨[],[],[],0,[],[],false,(List.toArray []),[],0,false,false,false,0,[2000,10,10],false,0,true,[],[],0,false⟩,#[],⟨0,0,0,0⟩,1263,os⟩,Hook.obs (kHook hK hAs sU) ⟨absHeap (hTf w.params) 860 ⟨[],[],[],0,[],[],false,(List.toArray []),[],0,false,false,false,0,[2000,10,10],false,0,true,[],[],0,false⟩,#[],⟨0,0,0,0⟩,1263,os⟩))=λ_=>(true,openGood hQ hLo,Hook.val (kHook hK hAs sU) w):=by kernel_rfl
theorem abZ:LeftO PySem.Challenge.pw_stillheap_k08_whole_small_rounds hQ hLo hXt (Hook.obs (kHook hK hAs sU)) (Hook.val (kHook hK hAs sU)) 12592 :=
 LeftO.of_pieces (H₁:=λP=>absHeap (hTf P) 860 ⟨[],[],[],0,[],[],false,(List.toArray []),[],0,false,false,false,0,[2000,10,10],false,0,true,[],[],0,false⟩) abX abY aef (by rfl) YD
end
end K08
end
section
namespace L2
open PySem PySem.Spec PyProof.Rows
section
variable{κ:Type}[DecidableEq κ]
def lM(kvs:List (κ×V))(k:κ):Option V:=(kvs.find? λkv=>decide (kv.1=k)).map (·.2)
def putK(kvs:List (κ×V))(k:κ)(v:V):List (κ×V) :=
  if(kvs.any λkv=>decide (kv.1=k))=true then kvs.map (λkv=>if kv.1=k then(kv.1,v) else kv) else kvs++[(k,v)]
def sV(kvs:List (κ×V))(k:κ):List (κ×V):=kvs.filter λkv=>decide (kv.1≠k)
theorem oA{p:κ×V}{r:List (κ×V)}{k:κ}(e:p.1=k):lM (p::r) k=some p.2:=by simp[lM,af6,e]
theorem oB{p:κ×V}{r:List (κ×V)}{k:κ}(e:¬p.1=k):lM (p::r) k=lM r k:=by simp[lM,af6,e]
theorem Bi(k:κ):∀ kvs:List (κ×V),(kvs.any λkv=>decide (kv.1=k))=(lM kvs k).isSome
  | []=>rfl
  | p::r=>by
    rw[agc];by_cases e:p.1=k
    · simp only[oA e,decide_eq_true e,Bool.true_or,Option.isSome_some]
    · rw[oB e,decide_eq_false e,Bool.false_or];exact Bi k r
theorem DJ(kvs:List (κ×V))(k:κ)(v:V):(putK kvs k v).length≤kvs.length+1:=by
  unfold putK;split
  · rw[aeV];omega
  · rw[ae3,afA,List.length_nil];omega
theorem Bj{kvs:List (κ×V)}{k:κ}(v:V)(h:lM kvs k=none):putK kvs k v=kvs++[(k,v)]:=by
  unfold putK;rw[Bi,h];exact if_neg (by decide)
theorem xY.oi{o:Option V}{u:Option Value}(r:xY o u):o.isSome=u.isSome:=by
  cases o with
  | none=>cases u with
    | none=>rfl
    | some _=>exact(show False from r).elim
  | some _=>cases u with
    | none=>exact(show False from r).elim
    | some _=>rfl
theorem xY.getD{o:Option V}{u:Option Value}{d:V}{d':Value}(r:xY o u)(rd:RelV d d'):RelV (o.getD d) (u.getD d'):=by
  cases o with
  | none=>cases u with
    | none=>exact rd
    | some _=>exact(show False from r).elim
  | some _=>cases u with
    | none=>exact(show False from r).elim
    | some _=>exact r
theorem KV.val{kvs:List (κ×V)}{vs:List (κ×Value)}(r:KV kvs vs)(k:κ):xY (lM kvs k) (valueAt vs k):=by
  unfold KV at r;induction r with
  | nil=>exact True.intro
  | @cons p q ps qs h t ih =>
    obtain⟨h1,h2⟩:=h;by_cases e:p.1=k
    · have e':q.1=k:=h1.symm.trans e
      have b:valueAt (q::qs) k=some q.2:=(by simp[valueAt,af6,e']);rw[oA e,b];exact h2
    · have e':¬q.1=k:=λz=>e (h1.trans z)
      have b:valueAt (q::qs) k=valueAt qs k:=(by simp[valueAt,af6,e']);rw[oB e,b];exact ih
theorem KV.any{kvs:List (κ×V)}{vs:List (κ×Value)}(r:KV kvs vs)(k:κ):(kvs.any λkv=>decide (kv.1=k))=vs.any λkv=>decide (kv.1=k):=by
  unfold KV at r;induction r with
  | nil=>rfl
  | cons h t ih=>rw[agc,agc,ih,h.1]
theorem KV.abH{kvs:List (κ×V)}{vs:List (κ×Value)}(r:KV kvs vs)(k:κ){y:V}{u:Value}(ry:RelV y u) :
    KV (kvs.map λkv=>if kv.1=k then(kv.1,y) else kv) (vs.map λkv=>if kv.1=k then(kv.1,u) else kv):=by
  unfold KV at r ⊢;induction r with
  | nil=>exact .nil
  | @cons p q ps qs h t ih =>
    rw[afq,afq];refine .cons ?_ ih;obtain⟨h1,h2⟩:=h;by_cases e:p.1=k
    · rw[if_pos e,if_pos (h1.symm.trans e)];exact⟨h1,ry⟩
    · rw[if_neg e,if_neg (λz=>e (h1.trans z))];exact⟨h1,h2⟩
theorem KV.put{kvs:List (κ×V)}{vs:List (κ×Value)}(r:KV kvs vs)(k:κ){y:V}{u:Value}(ry:RelV y u):KV (putK kvs k y) (stored vs k u):=by
  unfold putK stored;rw[r.any k];by_cases e:(vs.any λkv=>decide (kv.1=k))=true
  · rw[if_pos e,if_pos e];exact r.abH k ry
  · rw[if_neg e,if_neg e];exact Paired.snoc r ⟨rfl,ry⟩
theorem KV.drop{kvs:List (κ×V)}{vs:List (κ×Value)}(r:KV kvs vs)(k:κ):KV (sV kvs k) (without vs k):=by
  unfold KV at r ⊢;unfold sV without;induction r with
  | nil=>exact .nil
  | @cons p q ps qs h t ih =>
    obtain⟨h1,h2⟩:=h;rw[List.filter_cons,List.filter_cons];by_cases e:p.1=k
    · have a:¬decide (p.1≠k)=true:=by simp[e]
      have b:¬decide (q.1≠k)=true:=(by simp[h1.symm.trans e]);rw[if_neg a,if_neg b];exact ih
    · have e':¬q.1=k:=λz=>e (h1.trans z)
      have a:decide (p.1≠k)=true:=(by simp[e]);have b:decide (q.1≠k)=true:=(by simp[e']);rw[if_pos a,if_pos b];exact .cons ⟨h1,h2⟩ ih
theorem KV.keys{kvs:List (κ×V)}{vs:List (κ×Value)}(r:KV kvs vs):kvs.map (·.1)=vs.map (·.1):=by
  unfold KV at r;induction r with
  | nil=>rfl
  | cons h t ih=>rw[afq,afq,ih,h.1]
theorem KV.length{kvs:List (κ×V)}{vs:List (κ×Value)}(r:KV kvs vs):kvs.length=vs.length:=agy r
theorem Qh(kvs:List (κ×V))(k:κ):(sV kvs k).length≤kvs.length:=afJ _ _
end
theorem FL{P:Program}{w:World}{k:Key}{u:Value}(r:RelV (kV k) u):(cR P w).is k u=true:=by
  cases k with
  | inl i=>obtain⟨t,e⟩:=(show ∃ t,u=Value.int i t from r);subst e;exact Kk P w i t
  | inr x=>obtain⟨t,e⟩:=(show ∃ t,u=Value.str x t from r);subst e;exact Km P w x t
theorem HM{P:Program}{w:World}:∀ {ks:List Key} {us:List Value},Vals (ks.map kV) us→ItemsAre (cR P w) ks us
  | [],_,r=>by rw[agg]at r;cases r;exact .nil
  | k::ks,_,r=>by
    rw[afq]at r;cases r with
    | cons h t=>exact .cons (FL h) (HM t)
abbrev KT(H:Hp):List (List Key×V)→List (List Key×Addr×Value)→Prop:=Paired λp q=>p.1=q.1∧H q.2.1=some (.tup (p.1.map kV))∧RelV p.2 q.2.2
theorem KT.val{H:Hp}{kvs:List (List Key×V)}{xs:List (List Key×Addr×Value)}(r:KT H kvs xs)(k:List Key):xY (lM kvs k) ((atKey xs k).map (·.2)):=by
  induction r with
  | nil=>exact True.intro
  | @cons p q ps qs h t ih =>
    obtain⟨h1,_,h2⟩:=h;by_cases e:p.1=k
    · have e':q.1=k:=h1.symm.trans e
      have b:atKey (q::qs) k=some q.2:=(by simp[atKey,af6,e']);rw[oA e,b];exact h2
    · have e':¬q.1=k:=λz=>e (h1.trans z)
      have b:atKey (q::qs) k=atKey qs k:=(by simp[atKey,af6,e']);rw[oB e,b];exact ih
theorem KT.abH{H:Hp}{kvs:List (List Key×V)}{xs:List (List Key×Addr×Value)}(r:KT H kvs xs)(k:List Key){y:V}{u:Value}(ry:RelV y u) :
    KT H (kvs.map λkv=>if kv.1=k then(kv.1,y) else kv) (xs.map (putAt k u)):=by
  induction r with
  | nil=>exact .nil
  | @cons p q ps qs h t ih =>
    rw[afq,afq];refine .cons ?_ ih;obtain⟨h1,h2,h3⟩:=h;unfold putAt;by_cases e:p.1=k
    · rw[if_pos e,if_pos (h1.symm.trans e)];exact⟨h1,h2,ry⟩
    · rw[if_neg e,if_neg (λz=>e (h1.trans z))];exact⟨h1,h2,h3⟩
theorem KT.put{H:Hp}{kvs:List (List Key×V)}{xs:List (List Key×Addr×Value)}(r:KT H kvs xs)(k:List Key){b:Addr}{y:V}{u:Value}(hb:H b=some (.tup (k.map kV)))(ry:RelV y u) :
    KT H (putK kvs k y) (storedH xs k b u):=by
  have e:(kvs.any λkv=>decide (kv.1=k))=(atKey xs k).isSome:=by
    rw[Bi,(r.val k).oi,af0]
  unfold putK storedH;rw[e];by_cases q:(atKey xs k).isSome=true
  · rw[if_pos q,if_pos q];exact r.abH k ry
  · rw[if_neg q,if_neg q];exact Paired.snoc r ⟨rfl,hb,ry⟩
theorem KT.keeps{H H':Hp}{kvs:List (List Key×V)}{xs:List (List Key×Addr×Value)}(r:KT H kvs xs)(ht:∀ b ys,H b=some (.tup ys)→H' b=some (.tup ys)):KT H' kvs xs :=
  Paired.Ze r λ_ _ z=>⟨z.1,ht _ _ z.2.1,z.2.2⟩
section
variable{P:Program}{w:World}{H:Hp}{h:Heap}{a:Addr}
theorem XO{u:HO}(ok:HOk P w H h)(e:Rd H a u):hJ P w H h a u:=e.ok ok
theorem x8{kvs:List (Key×V)}(ok:HOk P w H h)(e:Rd H a (.dK kvs)):kvs.length≤sizeLine∧(a == sysModules)=false∧∃ vs,KV kvs vs∧h.DictOf (cR P w) a vs :=
  show hJ P w H h a (.dK kvs) from XO ok e
theorem RC{kvs:List (Key×V)}(ok:HOk P w H h)(e:H a=some (.dK kvs)):kvs.length≤sizeLine∧(a == sysModules)=false∧∃ vs,KV kvs vs∧h.DictOf (cR P w) a vs:=x8 ok (.inl e)
theorem EM{ks:List Key}(ok:HOk P w H h)(e:H a=some (.tup (ks.map kV))):(tupleKind (cR P w)).is h ks a:=by
  obtain⟨_,its,r,o,h1,h2,n,h3⟩:=(show hJ P w H h a (.tup (ks.map kV)) from ok a _ e);exact⟨o,its.toArray,n,h1,h2,h3,by simpa using HM r⟩
theorem Hr{kvs:List (List Key×V)}(ok:HOk P w H h)(e:Rd H a (.dT kvs)):kvs.length≤sizeLine∧(a == sysModules)=false ∧
    ∃ xs,KT H kvs xs∧h.DictOfH (tupleKind (cR P w)) a xs:=by
  obtain⟨z,y,xs,r,o,es,ep,h1,h2,h3,h4,h5⟩:=(show hJ P w H h a (.dT kvs) from XO ok e);refine⟨z,y,xs,r,o,es,ep,h1,h2,h3,h4,λx hx=>?_,h5⟩;have all:∀ {l:List (List Key×V)} {m:List (List Key×Addr×Value)},KT H l m→∀ x∈m,(tupleKind (cR P w)).is h x.1 x.2.1:=by
    intro l m q;induction q with
    | nil=>intro x hx;exact nomatch hx
    | @cons p q ps qs hq t ih =>
      intro x hx;rcases aff.mp hx with e|hx
      · subst e
        exact EM ok (by rw[←hq.1];exact hq.2.1)
      · exact ih x hx
  exact all r x hx
theorem ab0{kvs:List (List Key×V)}(ok:HOk P w H h)(e:H a=some (.dT kvs)):kvs.length≤sizeLine∧(a == sysModules)=false ∧
    ∃ xs,KT H kvs xs∧h.DictOfH (tupleKind (cR P w)) a xs:=Hr ok (.inl e)
end
def qc(H:Hp)(a:Addr)(y:V)(r:Option V):Prop :=
  (∃ kvs k,Rd H a (.dK kvs)∧y=kV k∧r=lM kvs k)∨∃ kvs k b,Rd H a (.dT kvs)∧y=.ref b∧H b=some (.tup (k.map kV))∧r=lM kvs k
def HN(H:Hp)(a:Addr)(y v:V)(H':Hp):Prop :=
  (∃ kvs k,H a=some (.dK kvs)∧y=kV k∧kvs.length<sizeLine∧H'=upd H a (.dK (putK kvs k v))) ∨
  ∃ kvs k b,H a=some (.dT kvs)∧y=.ref b∧H b=some (.tup (k.map kV))∧kvs.length<sizeLine∧H'=upd H a (.dT (putK kvs k v))
theorem qc.k{H:Hp}{a:Addr}{kvs:List (Key×V)}{k:Key}(e:H a=some (.dK kvs)):qc H a (kV k) (lM kvs k):=.inl ⟨kvs,k,.inl e,rfl,rfl⟩
theorem HN.k{H:Hp}{a:Addr}{kvs:List (Key×V)}{k:Key}{v:V}(e:H a=some (.dK kvs))(hl:kvs.length<sizeLine):HN H a (kV k) v (upd H a (.dK (putK kvs k v))):=.inl ⟨kvs,k,e,rfl,hl,rfl⟩
section
variable{X:Cx}{pins:List (Addr×Obj)}{σ:St}{H:Hp}{s:Shared}{a:Addr}{y v:V}{u r:Value}{o:Option V}{A:Around}{E:Value→Shared→Prop}
theorem Inv.big(I:Inv X pins σ H s):sysModules<s.heap.objs.size:=by
  have h:mainGlobals<s.heap.objs.size:=(I.mod.glob.keeps I.bk).lt;exact Nat.lt_trans (by decide) h
theorem OQ{Q:Value→Shared→Prop}(hu:A.units+1<cLine)(I:Inv X pins σ H s)(g:qc H a y (some v))(ry:RelV y u)(h:∀ w' s',Inv X pins σ H s'→RelV v w'→Q w' s') :
    wpAny (model X.prog X.w) A (getItem (.ref a) u) Q E s:=by
  rcases g with⟨kvs,k,e,ey,l⟩|⟨kvs,k,b,e,ey,eb,l⟩
  · subst ey
    obtain⟨z,hd,vs,rel,dd⟩:=x8 I.hok e;obtain⟨w',hw,rw'⟩:=xY.some_of (v:=v) (o:=valueAt vs k) (by rw[l];exact rel.val k);exact wpAny_getItem_of (FL ry) dd.mapOf hw (h w' _ (I.tok _) rw')
  · subst ey
    cases (show u=Value.ref b from ry);obtain⟨z,hd,xs,rel,dd⟩:=Hr I.hok e;obtain⟨w',hw,rw'⟩:=xY.some_of (v:=v) (o:=(atKey xs k).map (·.2)) (by rw[l];exact rel.val k);obtain⟨p,hp,hp2⟩:=afa.mp hw;refine wpAny_getItem_heap (tupleKind_room_in1 hu) (EM I.hok eb) dd hp ?_;rw[hp2];exact h w' _ (I.tok _) rw'
theorem aeg{Q:Value→Shared→Prop}(hu:A.units+1<cLine)(I:Inv X pins σ H s)(g:qc H a y o)(ry:RelV y u)(h:∀ s',Inv X pins σ H s'→Q (.bool o.isSome) s') :
    wpAny (model X.prog X.w) A (compareOp .In u (.ref a)) Q E s:=by
  rcases g with⟨kvs,k,e,ey,l⟩|⟨kvs,k,b,e,ey,eb,l⟩
  · subst ey
    obtain⟨z,hd,vs,rel,dd⟩:=x8 I.hok e;refine wpAny_in_of (FL ry) hd dd.mapOf ?_;rw[←(rel.val k).oi,←l];exact h _ (I.tok _)
  · subst ey
    cases (show u=Value.ref b from ry);obtain⟨z,hd,xs,rel,dd⟩:=Hr I.hok e;refine wpAny_in_heap (tupleKind_room_in1 hu) (EM I.hok eb) hd dd ?_;have q:=(rel.val k).oi;rw[af0]at q;rw[←q,←l];exact h _ (I.tok _)
theorem Uv{Q:Value→Shared→Prop}(hu:A.units+1<cLine)(I:Inv X pins σ H s)(g:qc H a y o)(ry:RelV y u)(h:∀ s',Inv X pins σ H s'→Q (.bool (!o.isSome)) s') :
    wpAny (model X.prog X.w) A (compareOp .NotIn u (.ref a)) Q E s:=by
  rcases g with⟨kvs,k,e,ey,l⟩|⟨kvs,k,b,e,ey,eb,l⟩
  · subst ey
    obtain⟨z,hd,vs,rel,dd⟩:=x8 I.hok e;refine wpAny_notIn_of (FL ry) hd dd.mapOf ?_;rw[←(rel.val k).oi,←l];exact h _ (I.tok _)
  · subst ey
    cases (show u=Value.ref b from ry);obtain⟨z,hd,xs,rel,dd⟩:=Hr I.hok e;refine wpAny_notIn_heap (tupleKind_room_in1 hu) (EM I.hok eb) hd dd ?_;have q:=(rel.val k).oi;rw[af0]at q;rw[←q,←l];exact h _ (I.tok _)
theorem JB{h':Heap}{t':Nat}{ob:HO}(I:Inv X pins σ H s)(mu:Mut (H a))(hs:Heap.SameBut a s.heap h')(he:∃ q,h'.get? a=some q)(new:hJ X.prog X.w (upd H a ob) h' a ob) :
    Inv X pins σ (upd H a ob) {s with heap:=h',toks:=t'} :=
  I.write (x:=a) (e:=a) mu (.inl rfl) (λb q hb z=>(hs.2 b hb).trans z) he new
theorem QY{P:Program}{w:World}{H':Hp}{h':Heap}{kvs:List (Key×V)}{vs:List (Key×Value)}(z:kvs.length≤sizeLine)(hd:(a == sysModules)=false)(rel:KV kvs vs)(dd:h'.DictOf (cR P w) a vs) :
    hJ P w H' h' a (.dK kvs):=⟨z,hd,vs,rel,dd⟩
theorem OR{H':Hp}{Q:Unit→Shared→Prop}(hu:A.units+1<cLine)(I:Inv X pins σ H s)(g:HN H a y v H')(ry:RelV y u)(rv:RelV v r)(h:∀ s',Inv X pins σ H' s'→Q () s') :
    wpAny (model X.prog X.w) A (setItem (.ref a) u r) Q E s:=by
  rcases g with⟨kvs,k,e,ey,l,eH⟩|⟨kvs,k,b,e,ey,eb,l,eH⟩
  · subst ey eH
    obtain⟨z,hd,vs,rel,dd⟩:=RC I.hok e;have hz:vs.length≤sizeLine:=(by rw[←rel.length];exact z);have hl:(putK kvs k v).length≤sizeLine:=(by have:=DJ kvs k v;omega);refine wpAny_setItem_pairs (hsz:=hz) (FL ry) dd λh' dd' hs=>h _ ?_;have he:∃ q,h'.get? a=some q:=let ⟨q,_,_,hq,_⟩:=dd';⟨q,hq⟩;exact JB I (by rw[e];exact True.intro) hs he (QY hl hd (rel.put k rv) dd')
  · subst ey eH
    cases (show u=Value.ref b from ry);obtain⟨z,hd,xs,rel,dd⟩:=ab0 I.hok e;have hz:xs.length≤sizeLine:=(by rw[←agy rel];exact z);have hl:(putK kvs k v).length≤sizeLine:=(by have:=DJ kvs k v;omega);refine wpAny_setItem_heap (hsz:=hz) (tupleKind_room_in1 hu) (EM I.hok eb) dd λh' dd' hs=>h _ ?_;obtain⟨q,es,ep,hq,h2,h3,h4,_,h5⟩:=dd';refine JB I (by rw[e];exact True.intro) hs ⟨q,hq⟩ ⟨hl,hd,_,(rel.put k eb rv).keeps λc ys ec=>?_,q,es,ep,hq,h2,h3,h4,h5⟩;rw[af (aw ec e (λz=>nomatch z))];exact ec
end
section
variable{X:Cx}{pins:List (Addr×Obj)}{σ:St}{H:Hp}{s:Shared}{a:Addr}{kvs:List (Key×V)}{k:Key}{u:Value}{A:Around}{E:Value→Shared→Prop}
theorem ab1{v:V}{more:List Value}{Q:Value→Shared→Prop}(I:Inv X pins σ H s)(e:H a=some (.dK kvs))(ry:RelV (kV k) u)(l:lM kvs k=some v)(hm:more=[]∨∃ x,more=[x])
    (h:∀ w' s',Inv X pins σ (upd H a (.dK (sV kvs k))) s'→RelV v w'→Q w' s'):wpAny (model X.prog X.w) A (call (.builtin "dict.pop") (.ref a::u::more)) Q E s:=by
  obtain⟨z,hd,vs,rel,dd⟩:=RC I.hok e;obtain⟨w',hw,rw'⟩:=xY.some_of (v:=v) (o:=valueAt vs k) (by rw[←l];exact rel.val k);have hp:(keyPart u).isSome=true:=by
    cases k with
    | inl i=>obtain⟨t,q⟩:=(show ∃ t,u=Value.int i t from ry);subst q;rfl
    | inr x=>obtain⟨t,q⟩:=(show ∃ t,u=Value.str x t from ry);subst q;rfl
  have ha:argsOk "dict.pop" ⟨.ref a::u::more,[]⟩:=by
    rcases hm with q|⟨x,q⟩
    · subst q;exact PySem.F.args_dict_pop_2 _ _
    · subst q;exact PySem.F.args_dict_pop_3 _ _ _
  refine call_meetsIn PySem.F.slot_dict_pop dd.typeIs PySem.F.entry_dict_pop ha (meets_dict_pop_there (cR X.prog X.w) a (FL ry) more hm hp)
    ⟨vs,w',dd,by rw[←rel.length];exact z,hw,λh' dd' hs=>h w' _ ?_ rw'⟩
  have he:∃ q,h'.get? a=some q:=let ⟨q,_,_,hq,_⟩:=dd';⟨q,hq⟩;exact JB I (by rw[e];exact True.intro) hs he (QY (afe (Qh kvs k) z) hd (rel.drop k) dd')
theorem ab2{Q:Value→Shared→Prop}(I:Inv X pins σ H s)(e:Rd H a (.dK kvs))(h:∀ t s',Inv X pins σ H s'→Q (.int kvs.length t) s'):wpAny (model X.prog X.w) A (call (.builtin "len") [.ref a]) Q E s:=by
  obtain⟨z,hd,vs,rel,dd⟩:=x8 I.hok e;refine call_len_dict hd dd (by rw[←rel.length];rw[sizeLine_eq]at z;omega) ?_;rw[←rel.length];exact h _ _ (I.tok _)
end
def adu(i:Expr):Prop:=∀ ov iv,subscripted i false ov iv=operate [ov,iv] (getItem ov iv)
theorem Uw{prog:Program}{w:World}{A:Around}{E:Value→Shared→Prop}{s:Shared}{env:Env}{value slice:Expr}{pos:Pos}{T id:String}{Q:Value→Shared→Prop}
    (hl:typeLookup (.type T) "__getitem__" = pure (some (.builtin id))) (hs:adu slice)
    (h:wpAny (model prog w) A (eval value env) (λo s₁=>wpAny (model prog w) A (eval slice env) (λi s₂=>s₂.TypeIs o T∧wpAny (model prog w) A (getItem o i) Q E s₂) E s₁) E s) :
    wpAny (model prog w) A (eval (.Subscript value slice pos) env) Q E s:=by
  refine Subscript_ (wpAny_mono h (λo s₁ h₁=>wpAny_mono h₁ (λi s₂ h₂=>?_) λ_ _ x=>x) λ_ _ x=>x);obtain⟨hT,h₂⟩:=h₂;unfold subscriptTail;refine wpAny_bind ?_;rw[getitemInPython_of_ne hT.not_modules];refine wpAny_bind (wpAny_specialOf hT hl ?_);have fin:wpAny (model prog w) A (subscripted slice false o i) (λr s₃=>wpAny (model prog w) A (letTemporaryGo value o r >>= λ_=>pure r) Q E s₃) E s₂:=by
    rw[hs o i];exact wpAny_operating (wpAny_mono h₂ (λr s₃ h₃=>wpAny_bind (wpAny_letTemporaryGo (wpAny_pure h₃))) λ_ _ x=>x)
  first
    | exact wpAny_pure (wpAny_bind fin)
    | exact wpAny_bind (wpAny_pure (wpAny_bind fin))
    | exact wpAny_bind fin
theorem Kp{X:Cx}{pins:List (Addr×Obj)}{σ:St}{H:Hp}{s:Shared}{a:Addr}{y:V}{o:Option V}(I:Inv X pins σ H s)(g:qc H a y o):s.TypeIs (.ref a) "dict" := by
  rcases g with⟨kvs,k,e,_,_⟩|⟨kvs,k,b,e,_,_,_⟩
  · obtain⟨_,_,vs,_,dd⟩:=x8 I.hok e
    exact dd.typeIs
  · obtain⟨_,_,xs,_,dd⟩:=Hr I.hok e
    exact dd.typeIs
def ab3(td ty:TE):TE:=λσ H Q=>td σ H λx H1=>ty σ H1 λy H2=>∃ a v,x=.ref a∧qc H2 a y (some v)∧Q v H2
def aeh(ty td:TE):TE:=λσ H Q=>ty σ H λy H1=>td σ H1 λx H2=>∃ a o,x=.ref a∧qc H2 a y o∧Q (.bl o.isSome) H2
def Ux(ty td:TE):TE:=λσ H Q=>ty σ H λy H1=>td σ H1 λx H2=>∃ a o,x=.ref a∧qc H2 a y o∧Q (.bl (!o.isSome)) H2
def ab4(td ty tv:TE):TS:=λD σ H=>tv σ H λv H1=>td σ H1 λx H2=>ty σ H2 λy H3=>∃ a H4,x=.ref a∧HN H3 a y v H4∧D.nx σ H4
section
variable{X:Cx}{o i e value:Expr}{pos pos' adV:Pos}{td ty tv:TE}
theorem qd(hu:X.A.units+1<cLine)(ho:PE X o td)(hi:PE X i ty)(hs:adu i):PE X (.Subscript o i pos) (ab3 td ty):=by
  intro pins s σ H Q I h;refine Uw PySem.F.slot_dict_getitem.lookup hs (thn (ho pins s σ H _ I h) λu s1 ⟨x,H1,I1,rx,q1⟩=>thn (hi pins s1 σ H1 _ I1 q1) λiv s2 ⟨y,H2,I2,ry,a,v,ex,g,q2⟩=>?_);subst ex;obtain rfl:u=Value.ref a:=rx;exact⟨Kp I2 g,OQ hu I2 g ry λw' s3 I3 rw'=>⟨v,H2,I3,rw',q2⟩⟩
theorem QZ(hu:X.A.units+1<cLine)(hi:PE X i ty)(ho:PE X o td):PC X .In i o (aeh ty td):=by
  intro pins s σ H Q I h;refine thn (hi pins s σ H _ I h) λiv s1 ⟨y,H1,I1,ry,q1⟩=>thn (ho pins s1 σ H1 _ I1 q1) λu s2 ⟨x,H2,I2,rx,a,ov,ex,g,q2⟩=>?_;subst ex;obtain rfl:u=Value.ref a:=rx;exact aeg hu I2 g ry λs3 I3=>⟨.bl ov.isSome,H2,I3,rfl,q2⟩
theorem j5(hu:X.A.units+1<cLine)(hi:PE X i ty)(ho:PE X o td):PC X .NotIn i o (Ux ty td):=by
  intro pins s σ H Q I h;refine thn (hi pins s σ H _ I h) λiv s1 ⟨y,H1,I1,ry,q1⟩=>thn (ho pins s1 σ H1 _ I1 q1) λu s2 ⟨x,H2,I2,rx,a,ov,ex,g,q2⟩=>?_;subst ex;obtain rfl:u=Value.ref a:=rx;exact Uv hu I2 g ry λs3 I3=>⟨.bl (!ov.isSome),H2,I3,rfl,q2⟩
theorem sP(hu:X.A.units+1<cLine)(ho:PE X o td)(hi:PE X i ty)(hv:PE X value tv)(hs:swapsWith value (some (.Subscript o i pos')) pos.line X.env=pure false) :
    PS X (.Assign [.Subscript o i pos'] value pos) (ab4 td ty tv):=by
  intro pins s σ H D I h;refine wpAny_Assign_Subscript (thn (hv pins s σ H _ I h) λr s1 ⟨v,H1,I1,rv,q1⟩=>thn (ho pins s1 σ H1 _ I1 q1) λu s2 ⟨x,H2,I2,rx,q2⟩=>thn (hi pins s2 σ H2 _ I2 q2) λiv s3 ⟨y,H3,I3,ry,a,H4,ex,g,q3⟩=>?_) hs;subst ex;obtain rfl:u=Value.ref a:=rx;exact OR hu I3 g ry rv λs4 I4=>⟨σ,H4,I4,q3⟩
end
theorem Qi{P:Program}{w:World}{H:Hp}(h:Heap)(hb:sysModules<h.objs.size):hJ P w H (h.push {cls:=.type "dict",data:=.dict #[]}) h.objs.size (.dK []) :=
  ⟨afw _,beq_eq_false_iff_ne.mpr (afi (afc hb)),[],.nil,Heap.DictOf.new h⟩
def YE:TE:=λ_ H Q=>∀ p,H p=none→Q (.ref p) (upd H p (.dK []))
section
variable{X:Cx}{pos:Pos}
theorem mO:PE X (.Dict [] [] pos) YE:=λpins s σ H Q I h =>
  wpAny_Dict_empty ⟨.ref s.heap.objs.size,_,I.laid (a:=s.heap.objs.size) (o:=.dK []) (t':=s.toks) (λ_ _ q=>ae0 _ q) (ae1 _) (Qi s.heap I.big),rfl,h _ (I.hok.fresh (ae1 _))⟩
end
structure M1(X:Cx)(o:Expr)(m:Str)(apos:Pos)(e:Expr)(xZ:Pos):Prop where
  base:attributeBase o m X.env (eval o X.env)=eval o X.env
  few:((backTo xZ (starEach [e] X.env)).all (λx=>!x.1)&&(backToKw xZ (keywordEach [] X.env)).all (λx=>x.1.isSome)
    && decide (([e]:List Expr).length+([]:List Keyword).length+(if([]:List Keyword).isEmpty then 0 else 1)<30))=true
  line:(apos.endLine == xZ.line)=true
  trees:backTo xZ (starEach [e] X.env)=[(false,eval e X.env)]
def IsD(H:Hp)(a:Addr):Prop:=(∃ kvs,Rd H a (.dK kvs))∨∃ kvs,Rd H a (.dT kvs)
theorem Q0{X:Cx}{pins:List (Addr×Obj)}{σ:St}{H:Hp}{s:Shared}{a:Addr}(I:Inv X pins σ H s)(d:IsD H a) :
    s.TypeIs (.ref a) "dict" ∧ (∀ b,Value.ref a=.ref b→∃ ob,s.heap.get? b=some ob∧ob.dict=none)∧(a == sysModules)=false:=by
  rcases d with⟨kvs,e⟩|⟨kvs,e⟩
  · obtain⟨_,hd,vs,_,dd⟩:=x8 I.hok e
    refine⟨dd.typeIs,λb q=>?_,hd⟩;cases q;obtain⟨ob,_,_,h1,h2,_⟩:=dd;exact⟨ob,h1,h2.2.1⟩
  · obtain⟨_,hd,xs,_,dd⟩:=Hr I.hok e
    refine⟨dd.typeIs,λb q=>?_,hd⟩;cases q;obtain⟨ob,_,_,h1,h2,_⟩:=dd;exact⟨ob,h1,h2.2.1⟩
section
variable{X:Cx}{pins:List (Addr×Obj)}{σ:St}{H:Hp}{s:Shared}{a:Addr}{y d:V}{u r:Value}{o:Option V}{A:Around}{E:Value→Shared→Prop}
theorem YF{Q:Value→Shared→Prop}(hu:A.units+1<cLine)(I:Inv X pins σ H s)(g:qc H a y o)(ry:RelV y u)(h:∀ w' s',Inv X pins σ H s'→RelV (o.getD .non) w'→Q w' s') :
    wpAny (model X.prog X.w) A (call (.builtin "dict.get") [.ref a,u]) Q E s:=by
  rcases g with⟨kvs,k,e,ey,l⟩|⟨kvs,k,b,e,ey,eb,l⟩
  · subst ey
    obtain⟨z,hd,vs,rel,dd⟩:=x8 I.hok e;refine call_meetsIn PySem.F.slot_dict_get dd.typeIs PySem.F.entry_dict_get (PySem.F.args_dict_get_2 _ _) (meets_dict_get (cR X.prog X.w) a (FL ry) hd) ⟨_,dd.mapOf,h _ _ (I.tok _) ?_⟩;rw[l];exact(rel.val k).getD rfl
  · subst ey
    cases (show u=Value.ref b from ry);obtain⟨z,hd,xs,rel,dd⟩:=Hr I.hok e;refine call_meetsIn PySem.F.slot_dict_get dd.typeIs PySem.F.entry_dict_get (PySem.F.args_dict_get_2 _ _) (meetsH_dict_get (tupleKind (cR X.prog X.w)) a b hd) ⟨tupleKind_room_in1 hu,k,xs,EM I.hok eb,dd,h _ _ (I.tok _) ?_⟩;rw[l];exact(rel.val k).getD rfl
end
def YG(td ty:TE):TE:=λσ H Q=>td σ H λx H1=>∃ a,x=.ref a∧IsD H1 a∧ty σ H1 λy H2=>∃ o,qc H2 a y o∧Q (o.getD .non) H2
def YH(td ty:TE):TE:=λσ H Q=>td σ H λx H1=>∃ a,x=.ref a∧IsD H1 a∧ty σ H1 λy H2=>∃ kvs k v,H2 a=some (.dK kvs)∧y=kV k∧lM kvs k=some v∧Q v (upd H2 a (.dK (sV kvs k)))
section
variable{X:Cx}{o e f:Expr}{apos xZ:Pos}{td ty tx:TE}
theorem Qj(hu:X.A.units+1<cLine)(ho:PE X o td)(he:PE X e ty)(m:M1 X o "get" apos e xZ):PE X (.Call (.Attribute o "get" apos) [e] [] xZ) (YG td ty):=by
  intro pins s σ H Q I h;refine wpAny_Call_method m.base m.few m.line PySem.F.plainAttrs_dict PySem.F.slot_dict_get PySem.F.type_dict_get (thn (ho pins s σ H _ I h) λu s1 ⟨x,H1,I1,rx,a,ex,d,q1⟩=>?_);subst ex;obtain rfl:u=Value.ref a:=rx;obtain⟨t1,t2,_⟩:=Q0 I1 d;refine⟨t1,t2,?_⟩;rw[m.trees];refine af4 rfl (agl (agu (thn (he pins s1 σ H1 _ I1 q1) λiv s2 ⟨y,H2,I2,ry,ov,g,q2⟩=>agw ?_)));exact YF hu I2 g ry λw' s3 I3 rw'=>⟨_,H2,I3,rw',q2⟩
theorem Gj(ho:PE X o td)(he:PE X e ty)(m:M1 X o "pop" apos e xZ):PE X (.Call (.Attribute o "pop" apos) [e] [] xZ) (YH td ty):=by
  intro pins s σ H Q I h;refine wpAny_Call_method m.base m.few m.line PySem.F.plainAttrs_dict PySem.F.slot_dict_pop PySem.F.type_dict_pop (thn (ho pins s σ H _ I h) λu s1 ⟨x,H1,I1,rx,a,ex,d,q1⟩=>?_);subst ex;obtain rfl:u=Value.ref a:=rx;obtain⟨t1,t2,_⟩:=Q0 I1 d;refine⟨t1,t2,?_⟩;rw[m.trees];refine af4 rfl (agl (agu (thn (he pins s1 σ H1 _ I1 q1) λiv s2 ⟨y,H2,I2,ry,kvs,k,v,ea,ey,l,q2⟩=>agw ?_)));subst ey;exact ab1 I2 ea ry l (.inl rfl) λw' s3 I3 rw'=>⟨v,_,I3,rw',q2⟩
end
section
variable{X:Cx}{pins:List (Addr×Obj)}{σ:St}{H:Hp}{s:Shared}{a:Addr}{kvs:List (Key×V)}{A:Around}{E:Value→Shared→Prop}
end
section
variable{X:Cx}{pins:List (Addr×Obj)}{σ:St}{H:Hp}{s:Shared}{a:Addr}{y:V}{u:Value}{A:Around}{E:Value→Shared→Prop}
end
end L2
namespace L2
open PySem PySem.Spec PyProof.Rows
section
variable{X:Cx}
theorem OS:vF X (.builtin "len") (λxs H Q=>∃ a kvs,xs=[V.ref a]∧H a=some (.dK kvs)∧Q (.int kvs.length) H):=by
  intro pins s σ H xs us Q I r h;obtain⟨a,kvs,rfl,ha,q⟩:=h;obtain⟨u,rfl,ru⟩:=vals1 r;cases ru;exact ab2 I (.inl ha) λt s' I'=>⟨.int kvs.length,H,I',⟨t,rfl⟩,q⟩
end
end L2
end
section
namespace LX
open PySem PySem.W
def fH(c:Value)(od:Option Addr)(fs:Array Value)(sl:Array (Option Value)):Obj:={cls:=c,dict:=od,data:=.fields fs,slots:=sl}
def YI(dd:Option Addr)(cd:ClassData)(k0 k1 k2 k3 k5:Option Value):Obj:={cls:=.type "type",dict:=dd,data:=.cls cd,slots:=#[k0,k1,k2,k3,some (.builtin "ValueError.__new__"),k5]}
structure iZ(K:Frag)(C:Addr)(cd:ClassData):Prop where
 ob:∃ dd k0 k1 k2 k3 k5,K.lookup C=some (YI dd cd k0 k1 k2 k3 k5)
 del:cd.hasDel=false
 line:∃ r,cd.mro=.ref C::r
 val:cd.mro.contains (.type "ValueError")=true
 bas:cd.mro.contains (.type "BaseException")=true
 obj:cd.mro.contains (.type "object")=true
 atr:cd.mro.contains (.type "AttributeError")=false
 nam:cd.mro.contains (.type "NameError")=false
def JV(K:Frag)(C:Addr):Bool:=match K.lookup C with
 | some ⟨.type "type",_,.cls cd,sl⟩=>(match cd.mro,sl.toList with
  | .ref D::_,[_,_,_,_,some (.builtin n),_]=>D == C&&n == "ValueError.__new__" && !cd.hasDel&&cd.mro.contains (.type "ValueError")&&cd.mro.contains (.type "BaseException") &&
    cd.mro.contains (.type "object")&&!cd.mro.contains (.type "AttributeError")&&!cd.mro.contains (.type "NameError")
  | _,_=>false)
 | _=>false
theorem mP{K:Frag}{C:Addr}(e:JV K C=true):∃ cd,clsIn K C=some cd∧iZ K C cd:=by
 unfold JV at e;split at e
 ·rename_i dd cd sl ho
  split at e
  ·rename_i D r k0 k1 k2 k3 n k5 hm hs
   simp only[agj,beq_iff_eq,Bool.not_eq_true']at e;obtain⟨⟨⟨⟨⟨⟨⟨rfl,rfl⟩,e1⟩,e2⟩,e3⟩,e4⟩,e5⟩,e6⟩:=e;obtain⟨sl⟩:=sl;simp only at hs;subst hs;exact⟨cd,by unfold clsIn;rw[ho],⟨dd,k0,k1,k2,k3,k5,ho⟩,e1,⟨r,hm⟩,e2,e3,e4,e5,e6⟩
  ·cases e
 ·cases e
section
variable{K:Frag}{C:Addr}{cd:ClassData}{M:Model}{h:Heap}
theorem iZ.cls(x:iZ K C cd):clsIn K C=some cd:=by
 obtain⟨dd,k0,k1,k2,k3,k5,e⟩:=x.ob;unfold clsIn;rw[e];rfl
theorem iZ.Gk(x:iZ K C cd):cd.mro.isEmpty=false:=by
 obtain⟨r,e⟩:=x.line;rw[e];rfl
theorem iZ.sub(x:iZ K C cd)(X:K.In h)(v:Value):Looks M h (isSubtype (.ref C) v) (cd.mro.contains v) :=
 looks_mroIn X (by unfold mroIn;rw[x.cls,Option.bind_some,if_neg (by rw[x.Gk];decide)])
theorem iZ.mro(x:iZ K C cd)(X:K.In h):Looks M h (mroOf (.ref C)) cd.mro:=(looks_clsIn X x.cls).andThen .now
theorem iZ.typ(x:iZ K C cd)(X:K.In h):Looks M h (typeOf (.ref C)) (.type "type"):=by
 obtain⟨dd,k0,k1,k2,k3,k5,e⟩:=x.ob;exact(Looks.ld (X _ _ e)).andThen .now
theorem iZ.adv(x:iZ K C cd)(X:K.In h):Looks M h (isType (.ref C)) true:=by
 obtain⟨dd,k0,k1,k2,k3,k5,e⟩:=x.ob;intro A Q E s k q;unfold isType loadHead;exact wpAny_bind (wpAny_loadPart (k _ _ (X _ _ e)) (wpAny_pure q))
theorem iZ.madeBy(x:iZ K C cd)(X:K.In h):Looks M h (Bind.madeBy (.ref C)) (some "ValueError.__new__"):=by
 obtain⟨dd,k0,k1,k2,k3,k5,e⟩:=x.ob;obtain⟨r,hr⟩:=x.line;intro A Q E s k q;unfold Bind.madeBy;refine wpAny_bind (x.mro X A _ E s k ?_);rw[hr,List.forIn_cons];refine wpAny_bind (wpAny_bind (wpAny_bind (wpAny_bind (wpAny_loadPart (k _ _ (X _ _ e)) (wpAny_pure ?_)))));exact wpAny_pure (wpAny_pure (wpAny_pure q))
theorem iZ.static(x:iZ K C cd)(X:K.In h):Looks M h (Bind.staticBase (.ref C)) (.ref C):=by
 obtain⟨r,hr⟩:=x.line;intro A Q E s k q;unfold Bind.staticBase;refine wpAny_bind (x.mro X A _ E s k ?_);rw[hr,List.forIn_cons];exact wpAny_bind (wpAny_bind (wpAny_bind (x.madeBy X A _ E s k (wpAny_pure (wpAny_pure (wpAny_pure q))))))
theorem Uy:Manifest.canonical "ValueError.__new__" = Manifest.canonical "BaseException.__new__" := PySem.F.excBase_ValueError.canon
theorem iZ.here(x:iZ K C cd)(X:K.In h):Looks M h (Bind.madeHere "BaseException.__new__" (.ref C)) () :=
 (x.static X).andThen ((x.madeBy X).andThen (Looks.of_pure (by simp only[agd,Uy,bne_self_eq_false,afD,if_false])))
end
def Back(x:Addr)(R:Result→Shared→Prop)(r:Result)(s':Shared):Prop:=match r with
 | .ok (.ret v)=>v=.none∧R (.ok (.ret (.ref x))) s'
 | .ok _=>False
 | .error e=>R (.error e) s'
abbrev Nz(C t:Addr):Obj:=fH (.ref C) none #[.ref t,.none,.none,.none,.bool false,.none] #[]
abbrev vL(vs:List Value):Obj:={cls:=.type "tuple",data:=.seq vs.toArray}
abbrev qe(h:Heap)(C:Addr)(vs:List Value):Heap:=(h.push (vL vs)).push (Nz C h.objs.size)
section
variable{prog:Program}{w:World}{A:Around}{R:Result→Shared→Prop}{h:Heap}{g:Array GenState}{d:Drawn}{t:Nat}{os:OsState}{K:Frag}{C:Addr}{cd:ClassData}{vs:List Value}
theorem Qk(x:iZ K C cd)(X:K.In h)(hv:vs.length≤sizeLine)(k:R (.ok (.ret (.ref (h.objs.size+1)))) ⟨qe h C vs,g,d,t,os⟩) :
  codeAny (model prog w) A (.call (.builtin "ValueError.__new__") ⟨.ref C::vs,[]⟩) R ⟨h,g,d,t,os⟩:=by
 have F:=PySem.F.excBase_ValueError;have st:=x.static (M:=model prog w) X;have ty:=x.adv (M:=model prog w) X;have mb:=x.madeBy (M:=model prog w) X;have hh:=x.here (M:=model prog w) X;have s1:=x.sub (M:=model prog w) X (.type "ValueError");rw[x.val]at s1;have s2:=x.sub (M:=model prog w) X (.type "AttributeError");rw[x.atr]at s2;have s3:=x.sub (M:=model prog w) X (.type "NameError");rw[x.nam]at s3;refine codeAny_call_builtin_code (Code.quiet_builtin _ F.quiet) ?_;have star:=F.noStar;simp only[checkBuiltinCall,F.newKind,F.newSplit,F.newRow]
 repeat (first|simp only[bne_self_eq_false,afD,if_false,Bool.not_true]|lk)
 refine codeAny_builtinAt F.entry ?_;unfold Builtin.«BaseException.__new__»;refine wpAt_bind ?_;show wpAt _ _ _ (stack >>= _) _ _ _;refine wpAt_bind (wpAt_stack λp below=>wpAt_of_wpAny ?_);have aeR:=F.ends;wp_walk
 refine wpAt_of_wpAny ?_;rw[F.owner]
 repeat (first|simp only[bne_self_eq_false,afD,if_false,Bool.not_true]|lk)
 rw[if_neg (by rw[ae5];omega)];obtain⟨dd,k0,k1,k2,k3,k5,ho⟩:=x.ob
 repeat lk
 refine nd_load (ae0 _ (ae0 _ (X _ _ ho))) (wpAny_pure (wpAny_pure ?_));rw[x.del,if_neg ae2];refine wpAny_pure (wpAny_pure ?_);show R _ _;rw[afY];exact k
theorem Ql{f:Addr}(x:iZ K C cd)(X:K.In h)(hi:findIn K (.ref C) "__init__" = some (some (.ref f)))(hf:typeIn K (.ref f)=some (.type "function"))(hv:vs.length≤sizeLine)
  (k:codeAny (model prog w) (A.under (.builtin "type.__call__" ⟨.ref C::vs,[]⟩)) (.call (.ref f) ⟨.ref (h.objs.size+1)::vs,[]⟩) (Back (h.objs.size+1) R) ⟨qe h C vs,g,d,t,os⟩) :
  codeAny (model prog w) A (.call (.ref C) ⟨vs,[]⟩) R ⟨h,g,d,t,os⟩:=by
 obtain⟨dd,k0,k1,k2,k3,k5,ho⟩:=x.ob;have hC:=X _ _ ho;have ht:=x.typ (M:=model prog w) X;refine codeAny_of_tree ?_;show wpAny _ _ (callAny (.ref C) _) _ _ _;refine nd_load hC ?_;show wpAny _ _ (callAny.viaDunder (.ref C) _) _ _ _;unfold callAny.viaDunder;have sp:Looks (model prog w) h (specialOf (.ref C) "__call__") (some (.builtin "type.__call__")):=ht.andThen (Looks.of_pure tc_lookup);refine wpAny_bind (sp.at ?_);dsimp only;rw[tc_bind];refine wpAny_bind (wpAny_pure (wpAny_bind (wpAny_pure ?_)));refine wpAny_pure (a:=Fin.again (.call (.builtin "type.__call__") ⟨.ref C::vs,[]⟩)) (And.intro rfl ?_);refine codeAny_call_builtin_at (Code.quiet_builtin _ (by decide +kernel)) entry_typeCall (check_slot tc_kind tc_split (ht.andThen (Looks.of_pure tc_sub)) (tc_args _ _ _) ?_);unfold Builtin.«type.__call__»;have hm:=x.mro (M:=model prog w) X;have em:=x.Gk;have mb:=x.madeBy (M:=model prog w) X
 repeat (first|simp only[em,afD,if_false]|with_reducible refine wpAny_call ?_|lk)
 refine Qk x X hv ?_;have kp:∀ b o,h.get? b=some o→(qe h C vs).get? b=some o:=λb o e=>ae0 _ (ae0 _ e);have X1:K.In (qe h C vs):=X.keeps kp;have hx:(qe h C vs).get? (h.objs.size+1)=some (Nz C h.objs.size):=by heap_get
 have t1:Looks (model prog w) (qe h C vs) (typeOf (.ref (h.objs.size+1))) (.ref C):=(Looks.ld hx).andThen .now;have s1:=x.sub (M:=model prog w) X1 (.ref C);obtain⟨r,hr⟩:=x.line;rw[show cd.mro.contains (.ref C)=true by rw[hr];simp]at s1;have i1:=looks_findIn (M:=model prog w) X1 hi;have b1:=bind_fn (M:=model prog w) X1 (.ref (h.objs.size+1)) hf;unfold isInstance callSpecial? specialOf
 repeat (first|with_reducible refine wpAny_call ?_|lk)
 refine codeAny_mono k λr s' z=>?_;rcases r with e|(v|_|_|_)<;>first|exact z|exact z.elim|skip;obtain⟨rfl,z⟩:=z;exact wpAny_pure (wpAny_pure z)
end
section
variable{prog:Program}{w:World}{A:Around}{E:Value→Shared→Prop}{h:Heap}{g:Array GenState}{d:Drawn}{t:Nat}{os:OsState}{K:Frag}{C e t0:Addr}{cd:ClassData}{vs:List Value}{od:Option Addr}{fs:Array Value}{sl:Array (Option Value)}
theorem Gm{M:Model}(he:h.get? e=some (fH (.ref C) od fs sl)):Looks M h (typeOf (.ref e)) (.ref C):=(Looks.ld he).andThen .now
theorem Kq{Q:Value→Shared→Prop}(x:iZ K C cd)(X:K.In h)(he:h.get? e=some (fH (.ref C) od fs sl))(h0:fs[0]?=some (.ref t0))(hv:vs.length≤sizeLine)
  (k:Q .none ⟨(h.push (vL vs)).update e (Obj.mapFields (·.setIfInBounds 0 (.ref h.objs.size))),g,d,t,os⟩) :
  wpAny (model prog w) A (call (.builtin "ValueError.__init__") (.ref e::vs)) Q E ⟨h,g,d,t,os⟩:=by
 have F:=PySem.F.excBase_ValueError;have ty:=Gm (M:=model prog w) he;have s1:=x.sub (M:=model prog w) X (.type "ValueError");rw[x.val]at s1;obtain⟨dd,k0,k1,k2,k3,k5,ho⟩:=x.ob;have hC:h.get? C=some ⟨.type "type",dd,.cls cd,#[k0,k1,k2,k3,some (.builtin "ValueError.__new__"),k5]⟩:=X _ _ ho;have star:=F.noStar;refine wpAny_call (codeAny_call_builtin F.init.plain F.initEntry ?_);simp only[checkBuiltinCall,F.initKind,F.initSplit,F.initRow];unfold isInstance Bind.checkArgs;refine wpAny_bind (wpAny_bind (ty.at (s1.at ?_)));simp only[afD,if_false,Bool.not_true];refine wpAny_bind (m:=Bind.printed "*" true _ _) ?_;unfold Bind.printed Bind.receiverType typeNameWhole;rw[if_neg (by decide)];dsimp only;rw[if_neg (by decide)];refine wpAny_bind (ty.at ?_);refine wpAny_bind (wpAny_bind ((looks_clsIn X x.cls).at (wpAny_pure (wpAny_pure ?_))));refine wpAny_bind (m:=if("ValueError" != "*")=true then pure "ValueError" else _) ?_;rw[if_pos star];refine wpAny_pure (wpAny_onRaise ?_);show wpAny _ _ (Bind.check _ _ _ _ []) _ _ _;rw[PyProof.Rows.check_varPos];refine wpAny_pure ?_;unfold Builtin.«BaseException.__init__»;dsimp only;rw[if_neg (by simp)];unfold newTuple Builtin.BaseException.bexcPut;have hsz:0<fs.size:=(afu.mp h0).1;have e1:=ae0 (h:=h) (vL vs) he;refine wpAny_bind (wpAny_newObj_type ?_ (by show vs.toArray.size≤sizeLine;rw[ae5];exact hv));refine wpAny_bind (wpAny_bind (wpAny_field (s:=⟨h.push (vL vs),g,d,t,os⟩) e1 rfl h0 ?_));refine wpAny_bind (wpAny_setField (s:=⟨h.push (vL vs),g,d,t,os⟩) e1 rfl hsz ?_);exact wpAny_letGo (wpAny_pure k)
end
section
variable{prog:Program}{w:World}{A:Around}{E:Value→Shared→Prop}{s:Shared}{K:Frag}
theorem Uz:findCls K (.type "ValueError") (.type "type") "__init__" = some (.val (.builtin "ValueError.__init__")):=by kernel_rfl
theorem XQ:findIn K (.type "type") "__getattribute__" = some (some (.builtin "type.__getattribute__")):=by kernel_rfl
theorem Q1{M:Model}{h:Heap}:Looks M h (typeOf (.type "ValueError")) (.type "type"):=Looks.of_pure (by kernel_rfl)
theorem YJ:subIn K (.type "type") (.type "type")=some true:=by kernel_rfl
theorem YK{M:Model}{h:Heap}:Looks M h (opaqueClassAbove (.type "ValueError")) none:=Looks.of_pure (by kernel_rfl)
theorem UA{pl:Sem Bool}{Q:Value×List Value→Shared→Prop}(X:K.In s.heap)(k:Q (.builtin "ValueError.__init__",[]) {s with toks:=s.toks+1}) :
  wpAny (model prog w) A (getMethod (.type "ValueError") "__init__" pl) Q E s:=by
 have sp:Looks (model prog w) s.heap (specialOf (.type "ValueError") "__getattribute__") (some (.builtin "type.__getattribute__")):=Q1.andThen (looks_findIn X XQ);unfold getMethod;refine wpAny_bind (sp.here ?_);dsimp only;rw[if_pos canon_tga];refine wpAny_bind (cls_open (hook:=none) X YK Q1 XQ (Looks.of_pure (by kernel_rfl)) YJ Uz ?_);refine wpAny_pure ?_;show wpAny _ _ (handedOut _) _ _ _;rw[handedOut_of (by kernel_rfl)];exact wpAny_pure (wpAny_pure k)
end
section
variable{prog:Program}{w:World}{A:Around}{E:Value→Shared→Prop}{s:Shared}{K:Frag}{env:Env}
def OT(K:Frag)(E:Value→Shared→Prop)(v:Value)(s1:Shared):Prop :=
 ∃(ea C:Addr) (cd:ClassData) (od:Option Addr) (fs:Array Value) (sl:Array (Option Value)),v=.ref ea∧s1.heap.get? ea=some (fH (.ref C) od fs sl)∧fs[1]?=some .none∧iZ K C cd∧K.In s1.heap∧E (.ref ea) s1
theorem OU{e:Expr}{pos:Pos}{Q:Flow→Shared→Prop}(hh:A.handled=none)(k:wpAny (model prog w) A (eval e env) (OT K E) E s) :
  wpAny (model prog w) A (exec (.Raise (some e) none pos) env) Q E s:=by
 show wpAny (model prog w) A (do standAt pos;raiseStmt env (some (do let v ←eval e env;standAt pos;pure v)) none) Q E s
 refine wpAny_bind (wpAny_standAt ?_);unfold raiseStmt;dsimp only;refine wpAny_bind (wpAny_bind (wpAny_mono k (λv s1 q=>wpAny_bind (wpAny_standAt (wpAny_pure ?_))) λ_ _ z=>z));obtain⟨ea,C,cd,od,fs,sl,rfl,he,h1,x,X,hE⟩:=q;obtain⟨hp,g,d,tk,os⟩:=s1;have ty:=Gm (M:=model prog w) he;have nt:Looks (model prog w) hp (isType (.ref ea)) false:=by
  intro A' Q' E' s' kk q;unfold isType loadHead;exact wpAny_bind (wpAny_loadPart (kk _ _ he) (wpAny_pure q))
 have sb:=x.sub (M:=model prog w) X (.type "BaseException");rw[x.bas]at sb;have ct:=x.typ (M:=model prog w) X;have f1:Looks (model prog w) hp (field (.ref ea) 1) .none:=looks_field he 1 h1;refine wpAny_bind (wpAny_pure ?_);dsimp only;refine wpAny_bind (wpAny_holding ?_);unfold excFromValue isExcClass isInstance
 repeat (first|simp only[afD,if_false,if_true]|lk)
 show wpAny _ _ handled _ _ _;refine wpAny_handled ?_;rw[hh];exact wpAny_throw hE
theorem Kr{ea C D:Addr}{cd cd':ClassData}{od:Option Addr}{fs:Array Value}{sl:Array (Option Value)}{h:Heap}{g:Array GenState}{d:Drawn}{t:Nat}{os:OsState}{Q:Bool→Shared→Prop}{M:Model}(x:iZ K C cd)(y:iZ K D cd')(X:K.In h)
  (he:h.get? ea=some (fH (.ref C) od fs sl)) (q:Q (cd.mro.contains (.ref D)) ⟨h,g,d,t,os⟩):wpAny M A (excMatches (.ref ea) (.ref D)) Q E ⟨h,g,d,t,os⟩:=by
 have ty:=Gm (M:=M) he;have td:=y.typ (M:=M) X;have ti:=y.adv (M:=M) X;have tn:Looks M h (isSubtype (.type "type") (.type "tuple")) false:=Looks.of_pure tc_notTuple;have yb:=y.sub (M:=M) X (.type "BaseException");rw[y.bas]at yb;have xs:=x.sub (M:=M) X (.ref D);unfold excMatches isInstance isExcClass
 repeat (first|simp only[afD,if_false,if_true,Bool.not_true]|lk)
 cases hb:cd.mro.contains (.ref D) with
 | true =>
  rw[hb]at q;simp only[if_true]
  repeat lk
  exact q
 | false =>
  rw[hb]at q;simp only[afD,if_false]
  repeat lk
  exact q
theorem OV{ea C:Addr}{fs:Array Value}{sl:Array (Option Value)}{h:Heap}(he:h.get? ea=some (fH (.ref C) none fs sl)):InstAt h ea (fH (.ref C) none fs sl) C none:=⟨he,rfl,rfl,True.intro⟩
theorem UB:(Manifest.canonical "BaseException.__getattribute__" != "object.__getattribute__")=false:=by decide +kernel
theorem Qm{ea C f:Addr}{ox:Obj}{od:Option Obj}{name:Str}{pl:Sem Bool}{Q:Value×List Value→Shared→Prop}(X:K.In s.heap)(I:InstAt s.heap ea ox C od)
  (hg:findIn K (.ref C) "__getattribute__" = some (some (.builtin "BaseException.__getattribute__"))) (hk:findIn K (.ref C) "__getattr__" = some none)
  (hf:findIn K (.ref C) name=some (some (.ref f))) (ht:typeIn K (.ref f)=some (.type "function")) (hs:shadowIn od name=some false) (k:Q (.ref f,[.ref ea]) s) :
  wpAny (model prog w) A (getMethod (.ref ea) name pl) Q E s:=by
 unfold getMethod specialOf;refine wpAny_bind (wpAny_bind (I.type.here ((looks_findIn X hg).here ?_)));dsimp only;rw[UB,if_neg ae2];refine wpAny_bind (wpAny_bind (I.type.here ((looks_findIn X hk).here ?_)));refine wpAny_bind (wpAny_bind (I.type.here ((looks_findIn X hf).here (wpAny_bind ((looks_typeIn X ht).here ?_)))));rw[if_neg (by decide +kernel)];refine wpAny_bind (wpAny_loadPart I.at_ ?_);have hd:=I.dict;cases e:ox.dict with
 | none=>exact wpAny_bind (wpAny_rule (wpAny_pure k))
 | some dx =>
  cases od with
  | none=>rw[e]at hd;exact hd.elim
  | some o =>
   rw[e]at hd;obtain⟨r,a,b⟩:=afa.mp hs;refine wpAny_bind (wpAny_bind (wpAny_loadPart hd ?_));rw[nsLook_of a];refine wpAny_pure ?_;rw[b];exact wpAny_bind (wpAny_rule (wpAny_pure k))
end
structure abI(K:Frag)(C:Addr):Prop where
 ga:findIn K (.ref C) "__getattribute__" = some (some (.builtin "BaseException.__getattribute__"))
 gt:findIn K (.ref C) "__getattr__" = some none
section
variable{prog:Program}{w:World}{A:Around}{E:Value→Shared→Prop}{h:Heap}{g:Array GenState}{d:Drawn}{t:Nat}{os:OsState}{K:Frag}{C ea:Addr}{cd:ClassData}{ox:Obj}{od:Option Obj}{name:Str}
end
section
variable{prog:Program}{w:World}{A:Around}{E:Value→Shared→Prop}{h:Heap}{g:Array GenState}{d:Drawn}{t:Nat}{os:OsState}{K:Frag}{C CH ea:Addr}{cd:ClassData}{fs:Array Value}{sl:Array (Option Value)}{name:Str}{v:Value}
end
end LX
end
section
namespace LX
open PySem
structure Kept(fr xs:List Addr)(h k:Heap):Prop where
 plain:∀ b o,h.get? b=some o→b∉fr→b∉xs→k.get? b=some o
 frame:∀ b o,h.get? b=some o→b∈fr→b∉xs→∃ sl,k.get? b=some {o with slots:=sl}
theorem Kept.trans{fr xs ys:List Addr}{h k m:Heap}(x:Kept fr xs h k)(y:Kept fr ys k m):Kept fr (xs++ys) h m where
 plain:=λb o e hb hx=>y.plain b o (x.plain b o e hb λz=>hx (afj _ z)) hb λz=>hx (aeZ _ z)
 frame:=λb o e hb hx=>by
  obtain⟨sl,e1⟩:=x.frame b o e hb λz=>hx (afj _ z);obtain⟨sm,e2⟩:=y.frame b _ e1 hb λz=>hx (aeZ _ z);exact⟨sm,e2⟩
theorem Kept.weak{fr xs ys:List Addr}{h k:Heap}(x:Kept fr xs h k)(s:∀ b o,h.get? b=some o→b∈xs→b∈ys):Kept fr ys h k :=
 ⟨λb o e hb hy=>x.plain b o e hb λz=>hy (s b o e z),λb o e hb hy=>x.frame b o e hb λz=>hy (s b o e z)⟩
abbrev gL(l:List Env):List Addr:=l.filterMap (·.frame)
section
variable{M:Model}{A:Around}{E:Value→Shared→Prop}{s:Shared}{base:Heap}{env:Env}{outer:List Env}{L e:Addr}{c:Value}{od:Option Addr}{fs:Array Value}{sl:Array (Option Value)}
theorem LF{l:List Env}(F:s.heap.FunFrames base l)(he:s.heap.get? e=some (fH c od fs sl)):e∉gL l:=λz=>by
 obtain⟨_,o,ho,hn⟩:=F.mem z;rw[he]at ho;cases ho;exact hn fs rfl
theorem FN{h:Heap}{a:Addr}{i:Nat}{x:Value}(ha:h.get? a=some (fH c od fs sl)) :
  (h.update a (Obj.mapFields (·.setIfInBounds i x))).get? a=some (fH c od (fs.setIfInBounds i x) sl):=Heap.get?_update_self _ ha rfl
theorem FO{head:Value}{had:Bool}{Q:Unit→Shared→Prop}(hA:A.frames=some (env::outer))(F:s.heap.FunFrames base (env::outer))(hL:env.frame=some L)
  (he:s.heap.get? e=some (fH c od fs sl)) (h1:1<fs.size)
  (k:∀ m T oc ts,s.heap.objs.size≤T→Kept (gL (env::outer)) [e] s.heap m→m.get? e=some (fH c od (fs.setIfInBounds 1 (.ref T)) sl)→m.get? T=some (fH oc none ts #[])→ts[3]?=some (rawInt L)→Q () {s with heap:=m}) :
  wpAny M A (do let a ←frameOf env;let pl ←entryPlaceOf L had;let b ←EntryCells.newEntry head a .none (rawInt L) .none pl;setField (.ref e) 1 b) Q E s:=by
 have ne:=LF F he;refine wpAny_bind (wpAny_frameOf_fun hA F hL λg hg=>?_);obtain⟨g0,g1,g2⟩:=hg;refine wpAny_bind (wpAny_entryPlaceOf λpl hp=>?_);unfold EntryCells.newEntry newFields;refine wpAny_bind (wpAny_newObj_type ?_ (hp.sizeOk5 _ _ _ _ _));have e1:g.get? e=some (fH c od fs sl):=(g1 e ne).trans he;have e2:=ae0 (h:=g) {cls:=.type "traceback",dict:=none,data:=.fields ([head,.ref L,.none,rawInt L,.none]++(if pl.isEmpty then List.replicate 6 Value.none else pl)).toArray} e1;refine wpAny_setField e2 rfl h1 ?_;have Te:g.objs.size≠e:=agb (ae4 e1);refine k _ g.objs.size (.type "traceback") ([head,.ref L,.none,rawInt L,.none]++(if pl.isEmpty then List.replicate 6 Value.none else pl)).toArray (Nat.le_of_eq g0.symm) ⟨λb o q hb hx=>?_,λb o q hb hx=>?_⟩ (FN e2) ?_ ?_
 ·have be:b≠e:=λz=>hx (by rw[z];exact aeX.mpr rfl)
  rw[afC _ _ (afi be)];exact ae0 _ ((g1 b hb).trans q)
 ·have be:b≠e:=λz=>hx (by rw[z];exact aeX.mpr rfl)
  obtain⟨sm,q2⟩:=g2 b o q;refine⟨sm,?_⟩;rw[afC _ _ (afi be)];exact ae0 _ q2
 ·rw[afC _ _ (afi Te)]
  exact aft g rfl
 ·first|(simp;done)|(rcases hp with rfl|⟨_,_,_,_,_,_,_,rfl⟩<;>simp)
inductive D2(h:Heap)(e:Addr)(fs:Array Value):Option Addr→Prop where
 | none (h1:fs[1]?=some .none):D2 h e fs none
 | some {T:Addr} {oc:Value} {ts:Array Value} {d:Option Addr} {sl:Array (Option Value)} (h1:fs[1]?=some (.ref T)) (ne:T≠e) (hT:h.get? T=some (fH oc d ts sl)) (h3:ts[3]?=some .none):D2 h e fs (some T)
theorem D2.size{h:Heap}{fs:Array Value}{T:Option Addr}(t:D2 h e fs T):1<fs.size:=by
 cases t with
 | none h1=>exact(afu.mp h1).1
 | some h1=>exact(afu.mp h1).1
theorem N2{T0:Option Addr}{Q:Unit→Shared→Prop}(hA:A.frames=some (env::outer))(F:s.heap.FunFrames base (env::outer))(hL:env.frame=some L)(he:s.heap.get? e=some (fH c od fs sl))(t:D2 s.heap e fs T0)
  (k:∀ m T oc ts,s.heap.objs.size≤T→Kept (gL (env::outer)) (e::T0.toList) s.heap m→m.get? e=some (fH c od (fs.setIfInBounds 1 (.ref T)) sl)→m.get? T=some (fH oc none ts #[])→ts[3]?=some (rawInt L)→Q () {s with heap:=m}) :
  wpAny M A (noteFrame (.ref e) env) Q E s:=by
 unfold noteFrame;simp only[hL];have h1s:=t.size;cases t with
 | none h1 =>
  refine wpAny_bind (wpAny_field he rfl h1 ?_);rw[if_neg (by decide)];exact FO hA F hL he h1s k
 | @some T oc ts d sm h1 ne hT h3 =>
  refine wpAny_bind (wpAny_field he rfl h1 ?_);rw[if_pos (show(Value.ref T != Value.none)=true by simp)];refine wpAny_bind (wpAny_field hT rfl h3 ?_);rw[if_neg (show ¬((Value.none == rawInt L)=true) by simp[rawInt])];have h3s:3<ts.size:=(afu.mp h3).1;refine wpAny_bind (wpAny_setField hT rfl h3s ?_);have oth:∀ b,b≠T→(s.heap.update T (Obj.mapFields (·.setIfInBounds 3 Value.none))).get? b=s.heap.get? b:=λb hb=>afC _ _ (afi hb);have nT:=LF F hT;have F1:(s.heap.update T (Obj.mapFields (·.setIfInBounds 3 Value.none))).FunFrames base (env::outer):=F.of_keeps λb o hb hn=>⟨o,(oth b λz=>by rw[z,hT]at hb;cases hb;exact hn ts rfl).trans hb,rfl⟩;refine FO (s:={s with heap:=s.heap.update T (Obj.mapFields (·.setIfInBounds 3 Value.none))}) hA F1 hL ((oth e (afi ne)).trans he) h1s λm T' oc' ts' z1 z2 z3 z4 z5=>k m T' oc' ts' ?_ ?_ z3 z4 z5
  ·have zz:(s.heap.update T (Obj.mapFields (·.setIfInBounds 3 Value.none))).objs.size=s.heap.objs.size:=(Heap.SameBut.update (h:=s.heap) (a:=T) (f:=Obj.mapFields (·.setIfInBounds 3 Value.none))).1
   rw[←zz];exact z1
  ·have kk:Kept (gL (env::outer)) [T] s.heap (s.heap.update T (Obj.mapFields (·.setIfInBounds 3 Value.none))) :=
    ⟨λb o q _ hx=>(oth b λz=>hx (by rw[z];exact aeX.mpr rfl)).trans q,λb o q _ hx=>⟨o.slots,(oth b λz=>hx (by rw[z];exact aeX.mpr rfl)).trans q⟩⟩
   refine(kk.trans z2).weak λb o _ q=>?_;simp only[afd,aeX]at q;simp only[Option.toList_some,aff,af2,or_false];exact q.symm
theorem x9{T:Addr}{oc:Value}{ts:Array Value}{d:Option Addr}{sm:Array (Option Value)}{Q:Unit→Shared→Prop}(he:s.heap.get? e=some (fH c od fs sl))(h1:fs[1]?=some (.ref T))(ne:T≠e)
  (hT:s.heap.get? T=some (fH oc d ts sm)) (h3:3<ts.size)
  (k:∀ m,(∀ b o,b≠T→s.heap.get? b=some o→m.get? b=some o)→D2 m e fs (some T)→m.get? e=some (fH c od fs sl)→Q () {s with heap:=m}):wpAny M A (setFlight (.ref e) none) Q E s:=by
 unfold setFlight;refine wpAny_bind (wpAny_field he rfl h1 ?_);rw[if_pos (show(Value.ref T != Value.none)=true by simp)];have oth:∀ b o,b≠T→s.heap.get? b=some o→(s.heap.update T (Obj.mapFields (·.setIfInBounds 3 Value.none))).get? b=some o:=λb o hb q=>(afC _ _ (afi hb)).trans q;exact wpAny_setField hT rfl h3 (k _ oth (.some h1 ne (FN hT) (by simp[h3])) (oth e _ (afi ne) he))
theorem Q2{T0:Option Addr}{Q:Unit→Shared→Prop}(hA:A.frames=some (env::outer))(F:s.heap.FunFrames base (env::outer))(hL:env.frame=some L)(he:s.heap.get? e=some (fH c od fs sl))(t:D2 s.heap e fs T0)
  (k:∀ m T fs',s.heap.objs.size≤T→Kept (gL (env::outer)) (e::T0.toList) s.heap m→m.get? e=some (fH c od fs' sl)→fs'[0]?=fs[0]?→D2 m e fs' (some T)→Q () {s with heap:=m}) :
  wpAny M A (leaving env (.ref e)) Q E s:=by
 unfold leaving;refine wpAny_bind (N2 hA F hL he t λm T oc ts z1 z2 z3 z4 z5=>?_);have Te:T≠e:=agb (afb (ae4 he) z1);have f1:(fs.setIfInBounds 1 (Value.ref T))[1]?=some (.ref T):=by
  have:=t.size
  simp[this]
 refine x9 (s:={s with heap:=m}) z3 f1 Te z4 (afu.mp z5).1 λm' q1 q2 q3=>k m' T _ z1 ⟨λb o q hb hx=>?_,λb o q hb hx=>?_⟩ q3 (by simp) q2
 ·exact q1 b o (afc (afb (ae4 q) z1)) (z2.plain b o q hb hx)
 ·obtain⟨sm,r⟩:=z2.frame b o q hb hx
  exact⟨sm,q1 b _ (afc (afb (ae4 q) z1)) r⟩
end
end LX
end
section
namespace L2
open PySem PySem.Spec PyProof.Rows LX
def ExP(fresh:Bool)(C e:Addr)(od:Option Addr)(h:Heap):Prop:=∃ fs sl t0,h.get? e=some (fH (.ref C) od fs sl)∧fs[0]?=some (.ref t0)∧(fresh=true→fs[1]?=some .none)
def exo(fresh:Bool)(C e:Addr)(od:Option Addr):HO:=.ext (ExP fresh C e od)
section
variable{P:Program}{w:World}{H:Hp}{h:Heap}{b:Bool}{C e:Addr}{od:Option Addr}
theorem NA(x:ExP b C e od h):hJ P w H h e (exo b C e od):=by
 refine⟨x,?_,λh1 h2 p k=>?_⟩
 ·obtain⟨fs,sl,t0,z,_⟩:=x
  exact⟨_,z⟩
 ·obtain⟨fs,sl,t0,z,r⟩:=p
  exact⟨fs,sl,t0,k _ z,r⟩
theorem FP(ok:HOk P w H h)(z:H e=some (exo b C e od)):ExP b C e od h:=(show hJ P w H h e (exo b C e od) from ok e _ z).1
end
def del(H:Hp)(a:Addr):Hp:=λb=>if b=a then none else H b
theorem LG{H:Hp}{a:Addr}:del H a a=none:=by unfold del;rw[if_pos rfl]
theorem vM{H:Hp}{a b:Addr}(h:b≠a):del H a b=H b:=by unfold del;rw[if_neg h]
theorem LH{H:Hp}{a b:Addr}{o:HO}(h:del H a b=some o):H b=some o∧b≠a:=by
 unfold del at h;by_cases q:b=a
 ·rw[if_pos q]at h;cases h
 ·rw[if_neg q]at h;exact⟨h,q⟩
section
variable{P:Program}{w:World}{H H':Hp}{h h':Heap}{a:Addr}
theorem HOk.keeps(ok:HOk P w H h)(k:∀ b u o,H b=some u→h.get? b=some o→h'.get? b=some o):HOk P w H h':=λb u q =>
 (ok b u q).Jv (λc v hc r=>by
  rcases hc with rfl|hc
  ·exact k c u v q r
  ·exact k c _ v hc r) (λ_ z=>z) λ_ _ z=>z
theorem HOk.del(ok:HOk P w H h)(ha:∀ y,H a≠some (.own y))(hb:∀ xs,H a≠some (.tup xs)):HOk P w (del H a) h:=λb u q=>by
 obtain⟨q1,q2⟩:=LH q;refine(ok b u q1).Jv (λ_ _ _ r=>r) (λc z=>?_) λc xs z=>?_
 ·rw[vM λe=>ha b (by rw[←e];exact z)];exact z
 ·rw[vM λe=>hb xs (by rw[←e];exact z)];exact z
theorem HOk.add(ok:HOk P w H h){o:HO}(ha:H a=none)(new:hJ P w (upd H a o) h a o):HOk P w (upd H a o) h:=λb u q=>by
 by_cases e:b=a
 ·subst e
  rw[ah]at q;cases q;exact new
 ·rw[af e]at q
  refine(ok b u q).Jv (λ_ _ _ r=>r) (λc z=>?_) λc xs z=>?_
  ·rw[af λe=>by rw[e,ha]at z;cases z];exact z
  ·rw[af λe=>by rw[e,ha]at z;cases z];exact z
end
theorem uc{h k base:Heap}:∀ {l:List Env},h.FunFrames base l→(∀ b∈frs l,∀ o,h.get? b=some o→∃ sl,k.get? b=some {o with slots:=sl})→k.FunFrames base l
 | [],_,_=>True.intro
 | env::r,⟨h1,⟨L,o,e1,e2,e3,e4⟩,h2⟩,q=>by
  have hm:L∈frs (env::r):=afM.mpr ⟨env,afg,e1⟩;obtain⟨sl,z⟩:=q L hm o e3;refine⟨h1,⟨L,_,e1,e2,z,e4⟩,uc h2 λb hb o' z'=>q b ?_ o' z'⟩;obtain⟨x,hx,hy⟩:=afM.mp hb;exact afM.mpr ⟨x,afn _ hx,hy⟩
structure Lies(P:Program)(w:World)(outer:List Env)(H H':Hp)(s:Shared)(ea C T:Addr)(od:Option Addr)(fs:Array Value)(sl:Array (Option Value))(s':Shared):Prop where
 os:s'.os=s.os
 bare:AllBare s'.gens
 un:Un (frs outer) [] H H' s.heap s'.heap
 hok:HOk P w H' s'.heap
 XR:s.heap.get? ea=none
 aei:s.heap.get? T=none
 Pp:H' ea=none
 ab5:H' T=none
 at_:s'.heap.get? ea=some (fH (.ref C) od fs sl)
 args:∃ t0,fs[0]?=some (.ref t0)
 trail:D2 s'.heap ea fs (some T)
def CXE(P:Program)(w:World):CXT:=λouter H s E e s'=>∃ ea C T od fs sl H',e=.ref ea∧Lies P w outer H H' s ea C T od fs sl s'∧E (.ref C) od H'
section
variable{X:Cx}{pins:List (Addr×Obj)}{σ:St}{H H':Hp}{s s':Shared}{ea C T:Addr}{od:Option Addr}{fs:Array Value}{sl:Array (Option Value)}
theorem Lies.frames(I:Inv X pins σ H s)(l:Lies X.prog X.w X.stack H H' s ea C T od fs sl s'):s'.heap.FunFrames X.base X.stack :=
 uc I.stack λb hb o z=>l.un.any z (I.vJ b hb) (by simp)
theorem Lies.on{m:Heap}{t':Nat}(I:Inv X pins σ H s)(l:Lies X.prog X.w X.stack H H' s ea C T od fs sl s')(k:Kept (gL X.stack) [ea,T] s'.heap m) :
  Un (frs X.stack) [] H H' s.heap m∧HOk X.prog X.w H' m:=by
 have fr:∀ b,b∈frs X.stack→H' b=none:=λb hb=>by
  obtain⟨_,o,z,_⟩:=I.stack.mem hb;exact l.un.free b o z (I.vJ b hb) (by simp)
 have ne:∀ b o,s.heap.get? b=some o→b∉[ea,T]:=λb o z q=>by
  rcases aff.mp q with e|q
  ·rw[e,l.XR]at z;cases z
  ·rw[aeX.mp q,l.aei]at z;cases z
 refine⟨⟨λb o z n hb hx=>?_,λb o z n hb hx=>?_,l.un.free,λb o z hx=>?_,l.un.AW,l.un.ER,l.un.FC⟩,?_⟩
 ·exact k.plain b o (l.un.keep b o z n hb hx) hb (ne b o z)
 ·obtain⟨s1,z1⟩:=l.un.slot b o z n hb hx
  obtain⟨s2,z2⟩:=k.frame b _ z1 hb (ne b o z);exact⟨s2,z2⟩
 ·obtain⟨o1,z1⟩:=l.un.there b o z hx
  by_cases hb:b∈gL X.stack
  ·obtain⟨s2,z2⟩:=k.frame b _ z1 hb (ne b o z)
   exact⟨_,z2⟩
  ·exact⟨_,k.plain b _ z1 hb (ne b o z)⟩
 ·refine l.hok.keeps λb u o z q=>k.plain b o q (λhb=>?_) λhx=>?_
  ·rw[fr b hb]at z;cases z
  ·rcases aff.mp hx with e|hx
   ·rw[e,l.Pp]at z;cases z
   ·rw[aeX.mp hx,l.ab5]at z;cases z
end
section
variable{P:Program}{w:World}{K:W.Frag}{mg:Str→Option Value}{base:Heap}{N:List Str}{qual:Str}{scope:Scope}{f:Addr}{cdv:Value}{A:Around}{outer:List Env}{s₀:Shared}{H₀:Hp}{E₀:XK}
abbrev cxE(P:Program)(w:World)(K:W.Frag)(mg:Str→Option Value)(base:Heap)(N:List Str)(qual:Str)(scope:Scope)(f:Addr)(cdv:Value)(A:Around)(outer:List Env)(s₀:Shared)(H₀:Hp)(E₀:XK):Cx :=
 PM (CXE P w) P w K mg base N qual scope f cdv A outer s₀ H₀ E₀
theorem Mz{pins:List (Addr×Obj)}{σ:St}{H H':Hp}{s s':Shared}{ea C T:Addr}{od:Option Addr}{fs:Array Value}{sl:Array (Option Value)}(I:Inv (cxE P w K mg base N qual scope f cdv A outer s₀ H₀ E₀) pins σ H s)
  (l:Lies P w (cxE P w K mg base N qual scope f cdv A outer s₀ H₀ E₀).stack H H' s ea C T od fs sl s') (hE:E₀ (.ref C) od H'):(cxE P w K mg base N qual scope f cdv A outer s₀ H₀ E₀).xe (.ref ea) s':=by
 refine Q2 I.ok.frames (Lies.frames I l) rfl l.at_ l.trail λm T' fs' z1 z2 z3 z4 z5=>?_;obtain⟨un,hok⟩:=l.on (t':=s'.toks) I z2;have J:Inv (cxE P w K mg base N qual scope f cdv A outer s₀ H₀ E₀) pins σ H' {s' with heap:=m}:=I.Ho l.os un hok l.bare (λb z=>absurd z (by simp));have old:∀ b o,s₀.heap.get? b=some o→∃ o',s.heap.get? b=some o':=λb o z=>I.base.there b o z (af2);have e0:s₀.heap.get? ea=none:=by
  cases q:s₀.heap.get? ea with
  | none=>rfl
  | some o =>
   obtain⟨o',z⟩:=old ea o q;rw[l.XR]at z;cases z
 have t0:s₀.heap.get? T'=none:=by
  cases q:s₀.heap.get? T' with
  | none=>rfl
  | some o =>
   obtain⟨o1,y1⟩:=old T' o q;obtain⟨o2,y2⟩:=l.un.there T' o1 y1 (by simp);exact absurd (ae4 y2) (Nat.not_lt.mpr z1)
 obtain⟨a0,ha⟩:=l.args;exact⟨ea,C,T',od,fs',sl,H',rfl,⟨J.os,J.bare,J.base,J.hok,e0,t0,l.Pp,l.hok.fresh z1,z3,⟨a0,by rw[z4];exact ha⟩,z5⟩,hE⟩
theorem aP{E:XK}(hE:∀ c od H',E c od H'→E₀ c od H'):Passes (CXE P w) (cxE P w K mg base N qual scope f cdv A outer s₀ H₀ E₀) E:=λpins σ H s e s' I h=>by
 obtain⟨ea,C,T,od,fs,sl,H',rfl,l,q⟩:=h;exact Mz I l (hE _ _ _ q)
theorem leave_new{pins:List (Addr×Obj)}{σ:St}{H:Hp}{s:Shared}{ea C:Addr}{od:Option Addr}(I:Inv (cxE P w K mg base N qual scope f cdv A outer s₀ H₀ E₀) pins σ H s)(h1:H ea=some (exo true C ea od))(h0:H₀ ea=none)
  (hE:E₀ (.ref C) od (del H ea)):(cxE P w K mg base N qual scope f cdv A outer s₀ H₀ E₀).xe (.ref ea) s:=by
 obtain⟨fs,sl,a0,z,ha,hf⟩:=FP I.hok h1;have frz:∀ b,b∈frs (cxE P w K mg base N qual scope f cdv A outer s₀ H₀ E₀).stack→H b=none:=I.vJ;have e0:s₀.heap.get? ea=none:=by
  cases q:s₀.heap.get? ea with
  | none=>rfl
  | some o =>
   have:=I.base.free ea o q h0 af2
   rw[h1]at this;cases this
 refine Q2 I.ok.frames I.stack rfl z (.none (hf rfl)) λm T' fs' z1 z2 z3 z4 z5=>?_;have hd:HOk P w (del H ea) s.heap:=I.hok.del (λy q=>by rw[h1]at q;cases q) λxs q=>by rw[h1]at q;cases q
 have hm:HOk P w (del H ea) m:=hd.keeps λb u o q r=>by
  obtain⟨q1,q2⟩:=LH q;exact z2.plain b o r (λhb=>by rw[frz b hb]at q1;cases q1) (by simpa using q2)
 have neE:∀ b o,s₀.heap.get? b=some o→b≠ea:=λb o q r=>by rw[r,e0]at q;cases q
 have t0:s₀.heap.get? T'=none:=by
  cases q:s₀.heap.get? T' with
  | none=>rfl
  | some o =>
   obtain⟨o2,y2⟩:=I.base.there T' o q af2;exact absurd (ae4 y2) (Nat.not_lt.mpr z1)
 have neL:∀ b o,s₀.heap.get? b=some o→b∈gL (cxE P w K mg base N qual scope f cdv A outer s₀ H₀ E₀).stack→b∈frs outer:=λb o q hb=>by
  rcases aff.mp (I.qK b hb) with r|r
  ·exact absurd (ae4 q) (by rw[r];exact Nat.not_lt.mpr I.ok.above)
  ·exact r
 have sub:∀ b,b∈frs outer→b∈gL (cxE P w K mg base N qual scope f cdv A outer s₀ H₀ E₀).stack:=λb hb=>by
  obtain⟨x,hx,hy⟩:=afM.mp hb;exact afM.mpr ⟨x,afn _ hx,hy⟩
 refine⟨ea,C,T',od,fs',sl,del H ea,rfl,⟨I.os,I.bare,⟨λb o q n hb hx=>?_,λb o q n hb hx=>?_,λb o q n hx=>?_,λb o q hx=>?_,λb xs q=>?_,λb o u q=>?_,λb ps q=>?_⟩,hm,e0,t0,LG,?_,z3,⟨a0,by rw[z4];exact ha⟩,z5⟩,hE⟩
 ·exact z2.plain b o (I.base.keep b o q n hb hx) (λz=>hb (neL b o q z)) (by simpa using neE b o q)
 ·obtain⟨s1,y1⟩:=I.base.slot b o q n hb hx
  obtain⟨s2,y2⟩:=z2.frame b _ y1 (sub b hb) (by simpa using neE b o q);exact⟨s2,y2⟩
 ·rw[vM (neE b o q)]
  exact I.base.free b o q n hx
 ·obtain⟨o1,y1⟩:=I.base.there b o q hx
  by_cases hb:b∈gL (cxE P w K mg base N qual scope f cdv A outer s₀ H₀ E₀).stack
  ·obtain⟨s2,y2⟩:=z2.frame b _ y1 hb (by simpa using neE b o q)
   exact⟨_,y2⟩
  ·exact⟨_,z2.plain b _ y1 hb (by simpa using neE b o q)⟩
 ·have r:=I.base.AW b xs q
  rw[vM λe=>by rw[e,h1]at r;cases r];exact r
 ·have r:=I.base.ER b o u q
  rw[vM λe=>by rw[e,h1]at r;cases r];exact r
 ·obtain⟨more,r⟩:=I.base.FC b ps q
  exact⟨more,by rw[vM λe=>by rw[e,h1]at r;cases r];exact r⟩
 ·by_cases q:T'=ea
  ·rw[q];exact LG
  ·rw[vM q];exact I.hok.fresh z1
end
theorem Fun.okE{P:Program}{w:World}{K:W.Frag}{mg:Str→Option Value}{base:Heap}{x qual:Str}{st:Stmt}{f:Addr}{fd:FuncData}{N ps:List Str}{k:Nat}{sp:Sp}(F:Fun K x qual st f fd)(S:av N ps (ar st))(len:∀ vs H Q E,sp vs H Q E→vs.length=ps.length)
  (Hq:∀(cdv:Value) (A:Around) (outer:List Env) (s:Shared) (H:Hp) (vs:List V) (Q:VK) (E:XK),mY k (A.deeper (envOfC qual (ar st) s.heap.objs.size f cdv))→sp vs H Q E →
   ∃ t,PSs (cxE P w K mg base N qual (ar st) f cdv A outer s H E) (cT st) t∧t {nx:=λ_ H'=>Q .non H',rt:=Q} (start N vs) H):Bw P w K mg base (CXE P w) (k+1) f fd ps sp:=by
 obtain⟨oc,od,kV,doc,pm,an,cdv,ct,osl,rfl,lk,hcd⟩:=F.ex;exact abT lk hcd S len λA outer s H vs Q E hr hsp=>Hq cdv A outer s H vs Q E hr hsp
def LI(X:Cx)(E:XK):Prop:=∀(pins:List (Addr×Obj)) (σ:St) (H:Hp) (s:Shared) (ea C:Addr) (od:Option Addr),Inv X pins σ H s→H ea=some (exo true C ea od)→X.H₀ ea=none→E (.ref C) od (del H ea)→X.xe (.ref ea) s
theorem kN{P:Program}{w:World}{K:W.Frag}{mg:Str→Option Value}{base:Heap}{N:List Str}{qual:Str}{scope:Scope}{f:Addr}{cdv:Value}{A:Around}{outer:List Env}{s₀:Shared}{H₀:Hp}{E₀:XK} :
  LI (cxE P w K mg base N qual scope f cdv A outer s₀ H₀ E₀) E₀:=λ_ _ _ _ _ _ _ I h1 h0 q=>leave_new I h1 h0 q
def YL(H₀:Hp)(K:W.Frag)(E:XK)(te:TE):TS:=λ_ σ H=>te σ H λv H1=>∃ ea C od,v=.ref ea∧H1 ea=some (exo true C ea od)∧(∃ cd,iZ K C cd)∧H₀ ea=none∧E (.ref C) od (del H1 ea)
section
variable{X:Cx}
theorem gm{e:Expr}{te:TE}{pos:Pos}{E:XK}(hc:X.calm=true)(hx:LI X E)(he:PE X e te):PS X (.Raise (some e) none pos) (YL X.H₀ X.K E te):=by
 intro pins s σ H D I h;refine OU (K:=X.K) (I.ok.hd hc) (thn (he pins s σ H _ I h) λu s1 ⟨v,H1,I1,r,ea,C,od,ev,h1,⟨cd,xc⟩,h0,q⟩=>?_);subst ev;obtain rfl:u=Value.ref ea:=r;obtain⟨fs,sl,a0,z,ha,hf⟩:=FP I1.hok h1;exact⟨ea,C,cd,od,fs,sl,rfl,z,hf rfl,xc,I1.kIn,hx pins σ H1 s1 ea C od I1 h1 h0 q⟩
def jI(CX:CXT)(X:Cx)(EK:St→XK):Prop:=∀(pins:List (Addr×Obj)) (σ:St) (H:Hp) (s:Shared) (e:Value) (s':Shared),Inv X pins σ H s→CX X.stack H s (EK σ) e s'→X.xe e s'
theorem Passes.x{CX:CXT}{E:XK}(h:Passes CX X E):jI CX X (λ_=>E):=λpins σ H s e s' I q=>h pins σ H s e s' I q
def XS(sp:Sp)(dvs:List V)(EK:St→XK)(t:TA):TE:=λσ H Q=>t σ H λvs H1=>sp (vs++dvs) H1 Q (EK σ)
def XT(C:Addr)(m:Str)(sp:Sp)(dvs:List V)(EK:St→XK)(ta:TE)(t:TA):TE:=λσ H Q=>ta σ H λx H1=>∃ a dx fs,x=.ref a∧H1 a=some (.ins C dx fs)∧fs.lookup m=none ∧
 t σ H1 λvs H2=>sp (x::(vs++dvs)) H2 Q (EK σ)
def aej(C:Addr)(sp:Sp)(EK:St→XK)(t:TA):TE:=λσ H Q=>t σ H λvs H1=>∀ ea,H1 ea=none→sp (.ref ea::vs) (upd H1 ea (exo true C ea none)) (λv H2=>v=.non∧Q (.ref ea) H2) (EK σ)
variable{CX:CXT}{k:Nat}{f C:Addr}{fd:FuncData}{ps:List Str}{sp:Sp}{dvs:List V}{ds:List Value}{EK:St→XK}{x m:Str}{p pos apos:Pos}{e o:Expr}{es:List Expr}{ta:TE}{t:TA}
theorem XU{pins:List (Addr×Obj)}{σ:St}{H:Hp}{s:Shared}{Q:VK}{us:List Value}{vs:List V}(F:Bw X.prog X.w X.K X.mg X.base CX k f fd ps sp)(hr:mY k X.A)(hb:Binds X.K fd ps ds)(hd:Vals dvs ds)(hx:jI CX X EK)
  (I:Inv X pins σ H s) (r:Vals vs us) (h:sp (vs++dvs) H Q (EK σ)):wpAny (model X.prog X.w) X.A (call (.ref f) us) (EP X pins σ Q) X.xe s:=by
 have r2:Vals (vs++dvs) (us++ds):=r.append hd;have hl:(us++ds).length=ps.length:=by rw[←r2.length];exact F.len _ _ _ _ h
 refine wpAny_call (codeAny_mono (F.run X.A X.stack s H ⟨us,[]⟩ (us++ds) (vs++dvs) Q (EK σ) hr I.Vr (hb s us I.kIn hl) r2 h) λr s' hq=>?_);cases r with
 | error e=>exact hx pins σ H s e s' I hq
 | ok fl =>
  cases fl with
  | ret u=>exact I.after hq
  | _=>exact False.elim hq
theorem bj(F:Bw X.prog X.w X.K X.mg X.base CX k f fd ps sp)(hr:mY k X.A)(hg:Gl X x)(hm:X.mg x=some (.ref f))(hk:PySem.W.keepIn X.K (.ref f)=true)(hb:Binds X.K fd ps ds)(hd:Vals dvs ds)(hx:jI CX X EK)
  (ha:PA X (e::es) t) (hdb:(x == ("__debug__" : Str))=false:=by decide) (he:starEach (e::es) X.env=(false,eval e X.env)::starEach es X.env:=by rfl) (hpl:(backTo pos (starEach es X.env)).any (·.1)=false:=by rfl) :
  PE X (.Call (.Name x p) (e::es) [] pos) (XS sp dvs EK t):=by
 intro pins s σ H Q I h;refine wpAny_Call_Name_kw (sM I hg hm ?_ hdb);exact PySem.W.callWith_K (h₀:=X.base) I.ok.mod.kin hk (thn (ha pos pins s σ H _ I h) λus s1 ⟨vs,H1,I1,r,q⟩=>⟨I1.kIn,XU F hr hb hd hx I1 r q⟩) he hpl
theorem aJ{pl:Sem Bool}(he:PE X o ta)(c:Cls X.K C)(hm:Meth X.K C m f)(F:Bw X.prog X.w X.K X.mg X.base CX k f fd ps sp)(hr:mY k X.A)(hb:Binds X.K fd ps ds)(hd:Vals dvs ds)(hx:jI CX X EK)(ha:PA X (e::es) t)
  (hst:starEach (e::es) X.env=(false,eval e X.env)::starEach es X.env:=by rfl) (hpl:(backTo pos (starEach es X.env)).any (·.1)=false:=by rfl)
  (ht:eval (.Call (.Attribute o m apos) (e::es) [] pos) X.env=(do
   let ov ←eval o X.env
   standAt apos.atName
   let (f,first) ←holding [ov] (getMethod ov m pl)
   callWith pos f first (backTo pos (starEach (e::es) X.env)) (backToKw pos (keywordEach [] X.env))):=by rfl) :
  PE X (.Call (.Attribute o m apos) (e::es) [] pos) (XT C m sp dvs EK ta t):=by
 intro pins s σ H Q I h;refine PySem.W.methodCall_KW (pl:=pl) (thn (he pins s σ H _ I h) λu s1 ⟨x,H1,I1,rx,a,dx,fs,ex,ea,l,q⟩=>?_) ht;subst ex;obtain rfl:u=Value.ref a:=rx;refine FJ I1 ea c hm l ?_;exact PySem.W.callWith_K (first:=[.ref a]) (h₀:=X.base) I.ok.mod.kin hm.kp (thn (ha pos pins s1 σ H1 _ I1 q) λus s2 ⟨vs,H2,I2,r,q2⟩=>⟨I2.kIn,XU (us:=.ref a::us) (vs:=.ref a::vs) F hr hb hd hx I2 (.cons rfl r) q2⟩) hst hpl
theorem cE{pl:Sem Bool}(he:PE X o ta)(c:Cls X.K C)(hm:Meth X.K C m f)(F:Bw X.prog X.w X.K X.mg X.base CX k f fd ps sp)(hr:mY k X.A)(hb:Binds X.K fd ps ds)(hd:Vals dvs ds)(hx:jI CX X EK)
  (ht:eval (.Call (.Attribute o m apos) [] [] pos) X.env=(do
   let ov ←eval o X.env
   standAt apos.atName
   let (f,first) ←holding [ov] (getMethod ov m pl)
   callWith pos f first (backTo pos (starEach [] X.env)) (backToKw pos (keywordEach [] X.env))):=by rfl) :
  PE X (.Call (.Attribute o m apos) [] [] pos) (XT C m sp dvs EK ta PL):=by
 intro pins s σ H Q I h;refine PySem.W.methodCall_KW (pl:=pl) (thn (he pins s σ H _ I h) λu s1 ⟨x,H1,I1,rx,a,dx,fs,ex,ea,l,q⟩=>?_) ht;subst ex;obtain rfl:u=Value.ref a:=rx;refine FJ I1 ea c hm l ?_;exact PySem.W.callWith_K0 (first:=[.ref a]) I1.kIn hm.kp (XU (us:=[.ref a]) (vs:=[.ref a]) F hr hb hd hx I1 (.cons rfl .nil) q)
structure MkX(K:W.Frag)(C f:Addr):Prop where
 cls:∃ cd,iZ K C cd
 init:PySem.W.findIn K (.ref C) "__init__" = some (some (.ref f))
 fn:PySem.W.isFn K (.ref f)=true
 kp:PySem.W.keepIn K (.ref C)=true
theorem UC{pins:List (Addr×Obj)}{σ:St}{H:Hp}{s:Shared}{Q:VK}{us:List Value}{vs:List V}(M:MkX X.K C f)(F:Bw X.prog X.w X.K X.mg X.base CX k f fd ps sp)(hr:mY (k+1) X.A)(hb:Binds X.K fd ps [])(hx:jI CX X EK)(hps:ps.length≤1000)
  (I:Inv X pins σ H s) (r:Vals vs us) (h:∀ ea,H ea=none→sp (.ref ea::vs) (upd H ea (exo true C ea none)) (λv H2=>v=.non∧Q (.ref ea) H2) (EK σ)) :
  wpAny (model X.prog X.w) X.A (call (.ref C) us) (EP X pins σ Q) X.xe s:=by
 have hq:=h (s.heap.objs.size+1) (I.hok.fresh (aga _));obtain⟨cd,xc⟩:=M.cls;have r2:Vals (V.ref (s.heap.objs.size+1)::vs) (Value.ref (s.heap.objs.size+1)::us):=.cons rfl r;have hl:(Value.ref (s.heap.objs.size+1)::us).length=ps.length:=by rw[←r2.length];exact F.len _ _ _ _ hq
 have hz:us.length≤sizeLine:=by rw[afA]at hl;rw[sizeLine_eq];omega
 have I2:Inv X pins σ (upd H (s.heap.objs.size+1) (exo true C (s.heap.objs.size+1) none)) {s with heap:=qe s.heap C us}:=by
  refine I.laid (t':=s.toks) (λb u q=>ae0 _ (ae0 _ q)) (aga _) (NA ⟨#[.ref s.heap.objs.size,.none,.none,.none,.bool false,.none],#[],s.heap.objs.size,?_,rfl,λ_=>rfl⟩);show(qe s.heap C us).get? (s.heap.objs.size+1)=some (Nz C s.heap.objs.size);heap_get
 obtain⟨hh,g,d,tk,os⟩:=s;refine wpAny_call (Ql xc I.kIn M.init (beq_iff_eq.mp M.fn) hz (codeAny_mono (F.run _ X.stack _ _ ⟨Value.ref (hh.objs.size+1)::us,[]⟩ (Value.ref (hh.objs.size+1)::us) _ _ (EK σ) (hr.make C us []) (I2.Vr.make C us [])
  (by have:=hb _ (Value.ref (hh.objs.size+1)::us) I2.kIn (by rw[afF];exact hl);rw[afF]at this;exact this) r2 hq) λr s' hq'=>?_))
 cases r with
 | error e=>exact hx pins σ _ _ e s' I2 hq'
 | ok fl =>
  cases fl with
  | ret u =>
   obtain⟨v,H',I3,rv,ev,q3⟩:=I2.after hq';subst ev;exact⟨rv,⟨V.ref (hh.objs.size+1),H',I3,rfl,q3⟩⟩
  | _=>exact False.elim hq'
theorem kO(M:MkX X.K C f)(F:Bw X.prog X.w X.K X.mg X.base CX k f fd ps sp)(hr:mY (k+1) X.A)(hg:Gl X x)(hm:X.mg x=some (.ref C))(hb:Binds X.K fd ps [])(hx:jI CX X EK)
  (ha:PA X (e::es) t) (hps:ps.length≤1000:=by decide) (hdb:(x == ("__debug__" : Str))=false:=by decide) (he:starEach (e::es) X.env=(false,eval e X.env)::starEach es X.env:=by rfl) (hpl:(backTo pos (starEach es X.env)).any (·.1)=false:=by rfl) :
  PE X (.Call (.Name x p) (e::es) [] pos) (aej C sp EK t):=by
 intro pins s σ H Q I h;refine wpAny_Call_Name_kw (sM I hg hm ?_ hdb);exact PySem.W.callWith_K (h₀:=X.base) I.ok.mod.kin M.kp (thn (ha pos pins s σ H _ I h) λus s1 ⟨vs,H1,I1,r,q⟩=>⟨I1.kIn,UC M F hr hb hx hps I1 r q⟩) he hpl
end
theorem Qn{H:Hp}{a:Addr}{o:HO}(h:H a=some o):upd H a o=H:=by
 funext b
 by_cases e:b=a
 ·rw[e,ah,h]
 ·rw[af e]
section
variable{X:Cx}
def tVe(K:W.Frag)(t:TA):TE:=λσ H Q=>t σ H λvs H1=>∃ ea C od r,vs=.ref ea::r∧r.length≤1000∧H1 ea=some (exo true C ea od)∧(∃ cd,iZ K C cd)∧Q .non H1
theorem ab6{p apos pos:Pos}{e:Expr}{es:List Expr}{t:TA}{pl:Sem Bool}(hg:Gl X "ValueError")(hm:X.mg "ValueError" = none)(ha:PA X (e::es) t)
  (hst:starEach (e::es) X.env=(false,eval e X.env)::starEach es X.env:=by rfl) (hpl:(backTo pos (starEach es X.env)).any (·.1)=false:=by rfl)
  (ht:eval (.Call (.Attribute (.Name "ValueError" p) "__init__" apos) (e::es) [] pos) X.env=(do
   let ov ←eval (.Name "ValueError" p) X.env
   standAt apos.atName
   let (f,first) ←holding [ov] (getMethod ov "__init__" pl)
   callWith pos f first (backTo pos (starEach (e::es) X.env)) (backToKw pos (keywordEach [] X.env))):=by rfl) :
  PE X (.Call (.Attribute (.Name "ValueError" p) "__init__" apos) (e::es) [] pos) (tVe X.K t):=by
 intro pins s σ H Q I h;refine PySem.W.methodCall_KW (pl:=pl) (Gy I hg hm PyProof.Rows.Boot.«ValueError» ?_) ht;refine UA I.kIn ?_;refine PyProof.Rows.callWith_builtin1 (thn (ha pos pins _ σ H _ (I.tok _) h) λus s1 ⟨vs,H1,I1,r,ea,C,od,rr,ev,hl,h1,⟨cd,xc⟩,q⟩=>?_) hst hpl;subst ev;cases r with
 | @cons _ u _ us' r1 r2 =>
 obtain rfl:u=Value.ref ea:=r1;obtain⟨fs,sl,a0,z,ha,hf⟩:=FP I1.hok h1;have hz:us'.length≤sizeLine:=by rw[←r2.length,sizeLine_eq];omega
 have I2:Inv X pins σ H1 {s1 with heap:=s1.heap.push (vL us')}:=I1.kept (t':=s1.toks) λb u q=>ae0 _ q;have z2:=ae0 (h:=s1.heap) (vL us') z;have hs0:0<fs.size:=(afu.mp ha).1;have I3:Inv X pins σ (upd H1 ea (exo true C ea od)) {s1 with heap:=(s1.heap.push (vL us')).update ea (Obj.mapFields (·.setIfInBounds 0 (.ref s1.heap.objs.size)))}:=by
  refine I2.write (x:=ea) (e:=ea) (t':=s1.toks) (by rw[h1];exact True.intro) (.inl rfl) (λb u hb q=>(afC _ _ (afi hb)).trans q) ⟨_,FN z2⟩ (NA ⟨_,_,s1.heap.objs.size,FN z2,by simp[hs0],λ_=>?_⟩)
  have:=hf rfl
  simpa using this
 rw[Qn h1]at I3;obtain⟨hh,g,d,tk,os⟩:=s1;exact Kq xc I1.kIn z ha hz ⟨.non,H1,I3,rfl,q⟩
abbrev TF:=St→Hp→(Hp→Prop)→Prop
def PF(X:Cx)(e:Expr)(t:TF):Prop :=
 ∀(pins:List (Addr×Obj)) (s:Shared) (σ:St) (H:Hp) (Q:Hp→Prop),Inv X pins σ H s→t σ H Q→wpAny (model X.prog X.w) X.A (eval e X.env) (λv s1=>∃ y tk H1,v=.str y tk∧y.length≤2000∧Inv X pins σ H1 s1∧Q H1) X.xe s
def PFs(X:Cx)(es:List Expr)(t:TF):Prop :=
 ∀(out:Str) (pins:List (Addr×Obj)) (s:Shared) (σ:St) (H:Hp) (Q:V→Hp→Prop),out.length+2000*es.length≤100000→Inv X pins σ H s→t σ H (λH1=>∀ y,y.length≤100000→Q (.str y) H1) →
  wpAny (model X.prog X.w) X.A (joinParts out (evalEach es X.env)) (EP X pins σ Q) X.xe s
def XW:TF:=λ_ H Q=>Q H
def aek(te:TE):TF:=λσ H Q=>te σ H λv H1=>∃ i,v=.int i∧i.natAbs.log2<1920∧Q H1
def YM(t u:TF):TF:=λσ H Q=>t σ H λH1=>u σ H1 Q
theorem LJ:(100000:Nat)≤sizeLine:=by rw[sizeLine_eq];omega
theorem iu{x j pos}(hl:x.length≤2000:=by decide +kernel):PF X (.Constant (.str x) j pos) XW:=λ_ _ _ H _ I h=>Calls.Constant_str ⟨_,_,H,rfl,hl,I.tok _,h⟩
theorem lN{e:Expr}{te:TE}{pos:Pos}(he:PE X e te):PF X (.FormattedValue e (-1) none pos) (aek te):=by
 intro pins s σ H Q I h;refine FormattedValue_plain (thn (he pins s σ H _ I h) λu s1 ⟨v,H1,I1,r,i,ev,hi,q⟩=>?_);subst ev;obtain⟨t,rfl⟩:=(show ∃ t,u=Value.int i t from r);exact formatField_int_small hi ⟨_,_,H1,rfl,afe (int_text_len_1921 hi) (by decide),I1.tok _,q⟩
theorem jJ:PFs X [] XW:=λout pins s σ H Q hl I h =>
 joinParts_nil ⟨.str out,H,I.tok _,⟨_,rfl⟩,h out (by simpa using hl)⟩ (afe (by simpa using hl) LJ)
theorem bC{e:Expr}{es:List Expr}{t u:TF}(h1:PF X e t)(h2:PFs X es u):PFs X (e::es) (YM t u):=by
 intro out pins s σ H Q hl I h;rw[afA]at hl;refine joinParts_consE (joinParts_cons (thn (h1 pins s σ H _ I h) λv s1 ⟨y,tk,H1,ev,hy,I1,q⟩=>?_));subst ev;have hz:(out++y).length+2000*es.length≤100000:=by rw[strLen_append];omega
 exact⟨afe (by omega) LJ,h2 (out++y) pins s1 σ H1 Q hz I1 q⟩
def ab7(t:TF):TE:=λσ H Q=>t σ H λH1=>∀ y,y.length≤100000→Q (.str y) H1
theorem jK{e e':Expr}{es:List Expr}{t:TF}{pos:Pos}(h:PFs X (e::e'::es) t)(hl:2000*(e::e'::es).length≤100000:=by decide):PE X (.JoinedStr (e::e'::es) pos) (ab7 t) :=
 λpins s σ H Q I q=>JoinedStr_many (h Str.empty pins s σ H Q (by have z:Str.empty.length=0:=rfl;rw[z];omega) I q)
end
abbrev Cx.JW(X:Cx)(pins:List (Addr×Obj))(E:Value→Shared→Prop):Cx:={X with xe:=E,pn:=X.pn++pins}
abbrev Cx.sW(X:Cx)(ea:Addr):Cx:={X with A:=X.A.mark (some (.ref ea)),calm:=false,xe:=λ_ _=>False}
section
variable{X:Cx}{pins:List (Addr×Obj)}{σ:St}{H:Hp}{s:Shared}{E:Value→Shared→Prop}{ea:Addr}
theorem Inv.JW(I:Inv X pins σ H s)(E:Value→Shared→Prop):Inv (X.JW pins E) [] σ H s :=
 ⟨⟨I.ok.mod,I.ok.kind,I.ok.glob,I.ok.blt,I.ok.above,I.ok.inj,I.ok.has,I.ok.cab,I.ok.hd,I.ok.frames,I.ok.stk,I.ok.exf,I.ok.bs,I.ok.bsz,I.ok.Lx,I.ok.NN,I.ok.Bv,I.ok.frf⟩,
  I.os,I.bare,I.base,I.loc,I.cell,I.free,I.lK,λp hp=>I.pin p (by simpa using hp),I.hok,I.len⟩
theorem Inv.Bz{Mo:List (Addr×Obj)}(I:Inv (X.JW pins E) Mo σ H s):Inv X pins σ H s :=
 ⟨⟨I.ok.mod,I.ok.kind,I.ok.glob,I.ok.blt,I.ok.above,I.ok.inj,I.ok.has,I.ok.cab,I.ok.hd,I.ok.frames,I.ok.stk,I.ok.exf,I.ok.bs,I.ok.bsz,I.ok.Lx,I.ok.NN,I.ok.Bv,I.ok.frf⟩,
  I.os,I.bare,I.base,I.loc,I.cell,I.free,I.lK,λp hp=>I.pin p (afj _ hp),I.hok,I.len⟩
theorem Inv.sW(I:Inv X pins σ H s)(ea:Addr):Inv (X.sW ea) pins σ H s :=
 ⟨⟨I.ok.mod,I.ok.kind,I.ok.glob,I.ok.blt,I.ok.above,I.ok.inj,I.ok.has,I.ok.cab,(λz=>nomatch z),I.ok.frames,I.ok.stk,I.ok.exf,I.ok.bs,I.ok.bsz,I.ok.Lx,I.ok.NN,I.ok.Bv,I.ok.frf⟩,
  I.os,I.bare,I.base,I.loc,I.cell,I.free,I.lK,I.pin,I.hok,I.len⟩
theorem Inv.uncaught{Y:Cx}(I:Inv (Y.sW ea) pins σ H s)(ok:Y.Ok):Inv Y pins σ H s:=⟨ok,I.os,I.bare,I.base,I.loc,I.cell,I.free,I.lK,I.pin,I.hok,I.len⟩
theorem Inv.ab8{o:HO}{c:Value}{od:Option Addr}{fs:Array Value}{sl:Array (Option Value)}(I:Inv X pins σ H s)(hn:H ea=none)(h0:X.s₀.heap.get? ea=none)(hr:s.heap.get? ea=some (fH c od fs sl))
  (hp:∀ p∈X.pn++pins,p.1≠ea) (new:hJ X.prog X.w (upd H ea o) s.heap ea o):Inv X pins σ (upd H ea o) s:=by
 have ne:∀ b u,H b=some u→b≠ea:=λb u q e=>by rw[e,hn]at q;cases q
 refine⟨I.ok,I.os,I.bare,⟨I.base.keep,I.base.slot,λb u q n hx=>?_,I.base.there,λb xs q=>?_,λb u v q=>?_,λb ps q=>?_⟩,I.loc,I.cell,?_,λx c' q=>?_,λp hq=>?_,I.hok.add hn new,I.len⟩
 ·rw[af λe=>by rw[e,h0]at q;cases q]
  exact I.base.free b u q n hx
 ·have r:=I.base.AW b xs q
  rw[af (ne b _ r)];exact r
 ·have r:=I.base.ER b u v q
  rw[af (ne b _ r)];exact r
 ·obtain⟨more,r⟩:=I.base.FC b ps q
  exact⟨more,by rw[af (ne b _ r)];exact r⟩
 ·rw[af λe=>?_]
  ·exact I.free
  ·obtain⟨m,⟨oL,es,ep,ho,hd,_⟩,_⟩:=I.loc
   rw[e,hr]at ho;cases ho;cases hd
 ·rw[af λe=>?_]
  ·exact I.lK x c' q
  ·obtain⟨v,oc,ho,hd⟩:=I.cell x c' q
   rw[e,hr]at ho;cases ho;cases hd
 ·obtain⟨e,n,z⟩:=I.pin p hq
  exact⟨e,by rw[af (hp p hq)];exact n,z⟩
end
def N3(i:Nat)(D:Ends):Ends:={nx:=λσ H=>D.nx (σ.set i none) H,rt:=D.rt,bk:=λσ H=>D.bk (σ.set i none) H,ct:=λσ H=>D.ct (σ.set i none) H}
def RD(K:W.Frag)(Dc:Addr)(i:Nat)(ts:TS)(D:Ends):St→XK:=λσ c od H=>∃ C cd,c=.ref C∧iZ K C cd∧cd.mro.contains (.ref Dc)=true∧∀ ea,H ea=none→ts (N3 i D) (σ.set i (some (.ref ea))) (upd H ea (exo false C ea od))
def ael(K:W.Frag)(Dc:Addr)(i:Nat)(tb:(St→XK)→TS)(ts:TS):TS:=λD σ H=>tb (RD K Dc i ts D) D σ H
section
variable{X:Cx}
theorem Qo{pins:List (Addr×Obj)}{σ:St}{H:Hp}{s:Shared}{E:Value→Shared→Prop}{n:Str}{i:Nat}{pos:Pos}{Q:Unit→Shared→Prop}(I:Inv X pins σ H s)(hN:X.N.Nodup)(hi:X.N[i]?=some n)(hx:X.env.scope.names.lookup n=some .local)
  (k:∀ s',Inv X pins (σ.set i none) H s'→Q () s'):wpAny (model X.prog X.w) X.A (do bindName X.env n .none;unbindBehindTheSuite X.env n pos) Q E s:=by
 obtain⟨m,hn,hl⟩:=id I.loc;have Zf:(X.env.scope.kind == .class||(X.env.scope.kind == .module&&X.env.locals != X.env.globals))=false:=by rw[I.ok.kind];rfl
 refine wpAny_nameGoes_keeps hx hn Zf λh' v hn' hs=>k _ ?_;obtain⟨oL,_,_,hoL,_⟩:=id hn;have tr:HOk X.prog X.w H h':=I.hok.keeps λb u o q r=>(hs.2 b λe=>by rw[e,I.free]at q;cases q).trans r;refine⟨I.ok,I.os,I.bare,⟨λb o e n hb hx=>?_,λb o e n hb hx=>?_,I.base.free,λb o e hx=>?_,I.base.AW,I.base.ER,I.base.FC⟩,⟨_,hn',λj y v' e1 e2 e3=>?_⟩,λy c e=>?_,I.free,I.lK,λp hp=>?_,tr,by simpa using I.len⟩
 ·exact(hs.2 b (afc (afb (ae4 e) I.ok.above))).trans (I.base.keep b o e n hb hx)
 ·obtain⟨sl,e1⟩:=I.base.slot b o e n hb hx
  exact⟨sl,(hs.2 b (afc (afb (ae4 e) I.ok.above))).trans e1⟩
 ·obtain⟨o',e1⟩:=I.base.there b o e hx
  exact⟨o',(hs.2 b (afc (afb (ae4 e) I.ok.above))).trans e1⟩
 ·by_cases hj:j=i
  ·subst hj
   rw[List.getElem?_set]at e2;simp only[if_true]at e2;split at e2<;>cases e2
  ·rw[agk (afi hj)]at e2
   obtain⟨u',r',q⟩:=hl j y v' e1 e2 e3;refine⟨u',r',?_⟩;rcases q with⟨kk,e⟩|⟨kk,c,e,z⟩
   ·refine .inl ⟨kk,?_⟩
    have:y≠n:=λe=>hj (Gh hN e1 (e ▸ hi))
    simp[this,e]
   ·exact .inr ⟨kk,c,e,z.sameBut hs (I.cne y c e)⟩
 ·obtain⟨w',z⟩:=I.cell y c e
  exact⟨w',z.sameBut hs (I.cne y c e)⟩
 ·obtain⟨e,n,ne,nf,d⟩:=I.pin p hp
  exact⟨(hs.2 p.1 ne).trans e,n,ne,nf,d⟩
theorem YN{body XX:List Stmt}{b₀:Stmt}{x n:Str}{np hpos pos:Pos}{i:Nat}{Dc:Addr}{cdD:ClassData}{tb:(St→XK)→TS}{ts:TS}(hex:X.ex=[])(hst:X.stack=X.env::X.outer)(hfr:X.env.frame=some X.env.locals)(hg:Gl X x)(hm:X.mg x=some (.ref Dc))
  (hD:iZ X.K Dc cdD) (hN:X.N.Nodup) (hi:X.N[i]?=some n) (hx:X.env.scope.names.lookup n=some .local)
  (hb:∀(pins:List (Addr×Obj)) (E:Value→Shared→Prop) (EK:St→XK),jI (CXE X.prog X.w) (X.JW pins E) EK→PSs (X.JW pins E) body (tb EK))
  (hs:∀ ea,PSs (X.sW ea) (b₀::XX) ts) (hdb:(x == ("__debug__" : Str))=false:=by decide) :
  PS X (.Try body [.ExceptHandler (some (.Name x np)) (some n) (b₀::XX) hpos] [] [] pos) (ael X.K Dc i tb ts):=by
 intro pins s σ H D I h;refine wpAny_Try_except ?_;refine wpAny_mono (hb pins (λe s₁=>∃ σ' H1 sc,Inv X pins σ' H1 sc∧CXE X.prog X.w X.stack H1 sc (RD X.K Dc i ts D σ') e s₁) (RD X.K Dc i ts D)
  (λMo σ' H1 sc e s' J q=>⟨σ',H1,sc,J.Bz,q⟩) [] s σ H D (I.JW _) h) (λfl s1 q=>?_) λe s1 q=>?_
 ·cases fl with
  | next =>
   obtain⟨σ',H',J,q⟩:=q;exact wpAny_execs_nil ⟨σ',H',J.Bz,q⟩
  | brk=>obtain⟨σ',H',J,q⟩:=q;exact⟨σ',H',J.Bz,q⟩
  | cont=>obtain⟨σ',H',J,q⟩:=q;exact⟨σ',H',J.Bz,q⟩
  | ret u=>obtain⟨v,σ',H',J,r,q⟩:=q;exact⟨v,σ',H',J.Bz,r,q⟩
 ·obtain⟨σ',H1,sc,J,ea,Cv,T,od,fs,sl,H',rfl,l,C,cd,ec,xc,hmr,q⟩:=q
  cases ec;have hA:X.A.frames=some (X.env::X.outer):=by rw[J.ok.frames,hst]
  have hF:s1.heap.FunFrames X.base (X.env::X.outer):=by rw[←hst];exact l.frames J
  have e0:X.s₀.heap.get? ea=none:=by
   cases z:X.s₀.heap.get? ea with
   | none=>rfl
   | some o =>
    obtain⟨o',z'⟩:=J.base.there ea o z (by rw[hex];exact af2);rw[l.XR]at z';cases z'
  have st:∀(m:Heap) (tk:Nat),Kept (gL X.stack) [ea,T] s1.heap m→Inv X pins σ' H' {s1 with heap:=m,toks:=tk}:=λm tk k=>by
   obtain⟨un,hok⟩:=l.on (t':=s1.toks) J k;exact J.Ho l.os un hok l.bare λb z=>absurd z (by simp)
  have pn:∀ p∈X.pn++pins,p.1≠ea:=λp hp e=>by
   obtain⟨z,_⟩:=J.pin p hp;rw[e,l.XR]at z;cases z
  refine N2 hA hF hfr l.at_ l.trail λm T' oc tsx z1 z2 z3 z4 z5=>?_;have Te:T'≠ea:=agb (afb (ae4 l.at_) z1);have f1:(fs.setIfInBounds 1 (Value.ref T'))[1]?=some (.ref T'):=by
   have:=l.trail.size
   simp[this]
  have k1:Kept (gL X.stack) [ea,T] s1.heap m:=by rw[hst];exact z2
  refine x9 (s:={s1 with heap:=m}) z3 f1 Te z4 (afu.mp z5).1 λm' q1 q2 q3=>?_;have nT:∀ b o,s1.heap.get? b=some o→b≠T':=λb o q=>afc (afb (ae4 q) z1);have k2:Kept (gL X.stack) [ea,T] s1.heap m':=⟨λb o q hb hx=>q1 b o (nT b o q) (k1.plain b o q hb hx),λb o q hb hx=>by
   obtain⟨sm,r⟩:=k1.frame b o q hb hx;exact⟨sm,q1 b _ (nT b o q) r⟩⟩
  have J2:=st m' s1.toks k2;refine wpAny_handleBy_cons (codeAny_handlers_test ?_) (by intro z;cases z);refine sM (X:=X.sW ea) (J2.sW ea) hg hm ?_ hdb;refine Kr xc hD J2.kIn q3 ?_;rw[hmr];refine codeAny_handlers_suite_as ?_;cases q2 with
  | @some _ oc2 ts2 d2 sm2 y1 y2 y3 y4 =>
  refine x9 (s:={s1 with heap:=m'}) q3 y1 y2 y3 (afu.mp y4).1 λm3 r1 r2 r3=>?_;have k3:Kept (gL X.stack) [ea,T] s1.heap m3:=⟨λb o q hb hx=>r1 b o (nT b o q) (k2.plain b o q hb hx),λb o q hb hx=>by
   obtain⟨sm,r⟩:=k2.frame b o q hb hx;exact⟨sm,r1 b _ (nT b o q) r⟩⟩
  have J3:=st m3 s1.toks k3;obtain⟨a0,ha⟩:=l.args;have J4:Inv X pins σ' (upd H' ea (exo false Cv ea od)) {s1 with heap:=m3}:=J3.ab8 l.Pp e0 r3 pn (NA ⟨_,_,a0,r3,by simpa using ha,λz=>nomatch z⟩);refine Bf (X:=X.sW ea) (J4.sW ea) hN hi (.inl hx) (v:=.ref ea) rfl (λs5 J5=>?_) (.inr hx);refine wpAny_mono (hs ea pins s5 _ _ (N3 i D) J5 (q ea l.Pp)) (λfl s6 w=>?_) λ_ _ z=>False.elim z;have off:∀ {σ6:St} {H6:Hp} {Q6:Unit→Shared→Prop},Inv (X.sW ea) pins σ6 H6 s6→(∀ s7,Inv X pins (σ6.set i none) H6 s7→Q6 () s7)→wpAny (model X.prog X.w) X.A (do bindName X.env n .none;unbindBehindTheSuite X.env n hpos) Q6 X.xe s6 :=
   λJ6 k=>Qo (J6.uncaught J.ok) hN hi hx k
  cases fl with
  | next=>obtain⟨σ6,H6,J6,w⟩:=w;exact off J6 λs7 J7=>⟨_,_,J7,w⟩
  | brk=>obtain⟨σ6,H6,J6,w⟩:=w;exact off J6 λs7 J7=>⟨_,_,J7,w⟩
  | cont=>obtain⟨σ6,H6,J6,w⟩:=w;exact off J6 λs7 J7=>⟨_,_,J7,w⟩
  | ret u=>obtain⟨v,σ6,H6,J6,r,w⟩:=w;exact off J6 λs7 J7=>⟨v,_,_,J7,r,w⟩
end
section
variable{X:Cx}
def ab9(K:W.Frag):R2:=λx y H Q=>∃ l b xs zs,x=.ref l∧y=.ref b∧SqL K H l xs∧SqL K H b zs∧xs.length+zs.length≤sizeLine∧∀ p,H p=none→Q (.ref p) (upd H p (.lst (xs++zs)))
theorem BA:OpR X (binaryOp .Add) (ab9 X.K):=by
 intro pins s σ H x y v u Q I rx ry h;obtain⟨l,b,xs,zs,rfl,rfl,hx,hy,hz,q⟩:=h;cases rx;cases ry;obtain⟨vs,r1,⟨⟨c1,d1,da1,s1⟩,n1,e1,f1,_,g1⟩,_⟩:=I.list hx;obtain⟨ws,r2,⟨⟨c2,d2,da2,s2⟩,n2,e2,f2,_,g2⟩,_⟩:=I.list hy;simp only at f1 g1 f2 g2;subst f1 g1 f2 g2;have hl:vs.length+ws.length≤sizeLine:=by rw[←r1.length,←r2.length];exact hz
 have ea:vs.toArray++ws.toArray=(vs++ws).toArray:=by simp
 refine concat_meets ⟨_,e1,rfl⟩ ⟨_,e2,rfl⟩ noFill_list_add seq_list_add PySem.F.slot_list_add PySem.F.entry_list_add (PySem.F.args_list_add_2 _ _) (list_addW l b vs.toArray ws.toArray n1 n2 d1 d2 s1 s2 (by simpa using hl)) ⟨e1,e2,?_⟩;rw[ea];exact⟨.ref _,_,I.PQ (t':=s.toks) (r1.append r2) (by rw[ae3];exact hz),rfl,q _ I.fresh⟩
end
theorem aC.upd{H:Hp}{a:Addr}{o:HO}(h:H a=none):aC H (L2.upd H a o):=λb u q=>by rw[af λe=>by rw[e,h]at q;cases q];exact q
structure LL(K:W.Frag)(C:Addr):Prop where
 cls:∃ cd,iZ K C cd
 get:abI K C
 own:PySem.W.findIn K (.ref C) "__class__" = some (some (.builtin "object.__class__"))
def DK(K:W.Frag):Sp:=λvs H Q _=>∃ ea C od x,vs=[.ref ea,x]∧H ea=some (exo true C ea od)∧(∃ cd,iZ K C cd)∧Q .non H
theorem fz{P:Program}{w:World}{X:Cx}:jI (CXE P w) X.nox (λ_ _ _ _=>False):=λ_ _ _ _ _ _ _ ⟨_,_,_,_,_,_,_,_,_,q⟩=>q.elim
theorem OW{n:Int}(h:n.natAbs<2 ^ 1920):n.natAbs.log2<1920:=by
 by_cases z:n.natAbs=0
 ·rw[z];decide
 ·exact(Nat.log2_lt z).mpr h
theorem aca{P:Program}{w:World}{outer:List Env}{H:Hp}{s:Shared}{e:Value}{s':Shared}(h:CXE P w outer H s (λ_ _ _=>False) e s'):False:=by
 obtain⟨_,_,_,_,_,_,_,_,_,q⟩:=h;exact q
end L2
end
section
namespace L2
open PySem PySem.Spec PyProof.Rows LX
section
variable{X:Cx}
variable{o e value:Expr}{f:Str}{pos pos':Pos}{ta tv:TE}
structure XY(K:W.Frag)(C:Addr)(m:Str)(f:Addr):Prop where
 rd:PySem.W.readsIn K C (.type "type")=true
 fc:PySem.W.findCls K (.ref C) (.type "type") m=some (.val (.ref f))
 ga:PySem.W.specialIn K (.ref C) "__getattribute__" = some (some (.builtin "type.__getattribute__"))
 kp:PySem.W.keepIn K (.ref f)=true
theorem YO{CX:CXT}{k:Nat}{f C:Addr}{fd:FuncData}{ps:List Str}{sp:Sp}{EK:St→XK}{x m:Str}{p apos pos:Pos}{e:Expr}{es:List Expr}{t:TA}{pl:Sem Bool}(hg:Gl X x)(hm:X.mg x=some (.ref C))(c:XY X.K C m f)(F:Bw X.prog X.w X.K X.mg X.base CX k f fd ps sp)(hr:mY k X.A)(hb:Binds X.K fd ps [])
  (hx:jI CX X EK) (ha:PA X (e::es) t) (hdb:(x == ("__debug__" : Str))=false:=by decide) (hst:starEach (e::es) X.env=(false,eval e X.env)::starEach es X.env:=by rfl) (hpl:(backTo pos (starEach es X.env)).any (·.1)=false:=by rfl)
  (ht:eval (.Call (.Attribute (.Name x p) m apos) (e::es) [] pos) X.env=(do
   let ov ←eval (.Name x p) X.env
   standAt apos.atName
   let (f,first) ←holding [ov] (getMethod ov m pl)
   callWith pos f first (backTo pos (starEach (e::es) X.env)) (backToKw pos (keywordEach [] X.env))):=by rfl) :
  PE X (.Call (.Attribute (.Name x p) m apos) (e::es) [] pos) (XS sp [] EK t):=by
 intro pins s σ H Q I h;refine PySem.W.methodCall_KW (pl:=pl) (sM I hg hm ?_ hdb) ht;refine PySem.W.method_cls I.kIn c.ga (PySem.W.cls_value I.kIn c.rd c.fc rfl ?_);exact PySem.W.callWith_K (first:=[]) (h₀:=X.base) I.ok.mod.kin c.kp (thn (ha pos pins _ σ H _ (I.tok _) h) λus s1 ⟨vs,H1,I1,r,q⟩=>⟨I1.kIn,XU F hr hb .nil hx I1 r q⟩) hst hpl
end
end L2
end
section
namespace L2
open PySem PySem.Spec PyProof.Rows LX
theorem AX{prog:Program}{w:World}{A:Around}{R:Result→Shared→Prop}{s:Shared}{elt target iter:Expr}{scope:Scope}{pos:Pos}{it acc:Value}{env:Env}(I:Nat→Shared→Prop)
  (turn:∀ n s,I n s→wpAny (model prog w) A (pyNext it) (λr s₁=>match r with
   | none=>R (.ok .next) s₁
   | some v=>wpAny (model prog w) A (letOwnedTupleGo target it v) (λ_ s5=>wpAny (model prog w) A (assign target env v) (λ_ s₂=>wpAny (model prog w) A (eval elt env) (λx s₃ =>
     wpAny (model prog w) A (call (.builtin "list.append") [acc,x]) (λ_ s₄=>∃ m,m<n∧I m s₄) (notedBy (model prog w) A env λe s'=>R (.error e) s') s₃)
     (notedBy (model prog w) A env λe s'=>R (.error e) s') s₂) (notedBy (model prog w) A env λe s'=>R (.error e) s') s5) (notedBy (model prog w) A env λe s'=>R (.error e) s') s₁) (notedBy (model prog w) A env λe s'=>R (.error e) s') s)
  (n:Nat) (h:I n s):codeAny (model prog w) A (.compLoop (.ListComp elt [⟨target,iter,[],0⟩] scope pos) 0 it acc env) R s:=by
 refine codeAny_loop rfl I (λn s hI=>?_) n h;show wpAny _ _ ((compTurn (.ListComp elt [⟨target,iter,[],0⟩] scope pos) 0 it acc env).onRaise (λx=>do noteFrame x env;theTreesLotGoes x)) _ _ s
 refine wpAny_noted ?_;rw[compTurn_list1];refine wpAny_bind (wpAny_standAt (wpAny_bind (wpAny_mono (turn n s hI) (λr s₁ h₁=>?_) λ_ _ h'=>h')));cases r with
 | none=>exact wpAny_pure h₁
 | some v =>
  refine wpAny_bind (wpAny_mono h₁ (λ_ s5 h5=>?_) λ_ _ h'=>h');exact wpAny_bind (wpAny_mono h5 (λ_ s₂ h₂=>wpAny_bind (wpAny_bind (wpAny_mono h₂ (λx s₃ h₃=>wpAny_bind (wpAny_mono h₃
   (λ_ s₄ h₄=>wpAny_pure (wpAny_pure ⟨rfl,h₄⟩)) λ_ _ h'=>h')) λ_ _ h'=>h'))) λ_ _ h'=>h')
abbrev cxC(X:Cx)(scope:Scope)(cl:List (Str×Addr))(NC:List Str)(C:Addr)(fp:List Addr)(s₀:Shared)(H₀:Hp):Cx :=
 {X with N:=NC,s₀:=s₀,H₀:=H₀,env:=compEnvC scope cl C X.env,outer:=X.stack,ex:=fp,fn:=λ_=>false,pn:=[],xe:=λ_ _=>False}
def lY(σ:St)(idx:List Nat):St:=idx.map λi=>(σ[i]?).getD none
structure vN(X:Cx)(scope:Scope)(cl:List (Str×Addr))(x:Str)(idx:List Nat)(NC:List Str):Prop where
 Q3:closureFor scope X.env=pure cl
 sub:∀ y c,cl.lookup y=some c→X.env.cells.lookup y=some c
 has:∀ y,((relabel scope X.env).names.lookup y=some .cell∨(relabel scope X.env).names.lookup y=some .free)→∃ c,cl.lookup y=some c
 EN:∀ y∈scope.names,y.2≠.cell
 kind:scope.kind=.function
 loc:∀ y∈scope.names,y.2=.local→scope.names.lookup y.1=some .local
 xl:scope.names.lookup x=some .local
 nc:NC=x::idx.map λi=>X.N.getD i x
 nd:NC.Nodup
 cap:∀ i∈idx,i<X.N.length∧((X.env.scope.names.lookup (X.N.getD i x)=some .cell∨X.env.scope.names.lookup (X.N.getD i x)=some .free)∧((relabel scope X.env).names.lookup (X.N.getD i x)=some .cell∨(relabel scope X.env).names.lookup (X.N.getD i x)=some .free))
section
variable{X:Cx}{scope:Scope}{cl:List (Str×Addr)}{x:Str}{idx:List Nat}{NC:List Str}{C:Addr}{fp:List Addr}{pins:List (Addr×Obj)}{σ:St}{H:Hp}{s:Shared}
theorem Bk{h1:Heap}{t':Nat}(c:vN X scope cl x idx NC)(I:Inv X pins σ H s)(hf:∀ b∈fp,uA X pins H b)(hlt:∀ b∈fp,b<s.heap.objs.size)(ns:h1.Ns s.heap.objs.size (λ_=>none))
  (k:∀ b o,s.heap.get? b=some o→h1.get? b=some o):Inv (cxC X scope cl NC s.heap.objs.size fp s H) [] (none::lY σ idx) H {s with heap:=h1,toks:=t'}:=by
 have sub:∀ b,b∈frs X.stack→b∈X.env.locals::X.fs:=I.qK;refine⟨⟨I.ok.mod,c.kind,I.ok.glob,I.ok.blt,ae1 _,λy z a h1 h2=>I.ok.inj y z a (c.sub _ _ h1) (c.sub _ _ h2),c.has,λy a z=>(by cases z),I.ok.hd,I.ok.frames,.inl rfl,λb hb=>⟨afc (hlt b hb),λy a q=>(hf b hb).2.2.2.2.1 y a (c.sub _ _ q)⟩,
  λb o q=>I.bs b o q,afe I.ok.bsz I.sz,λb o q hb=>?_,λb hb z=>?_,I.stack,I.vJ⟩,rfl,I.bare,Un.kept k,⟨_,ns,λi y v e1 e2 e3=>?_⟩,λy a q=>?_,I.hok.fresh (ae1 _),λy a q=>I.lK _ _ (c.sub _ _ q),λp hp=>(by cases hp),I.hok.keeps λb u o _ q=>k b o q,?_⟩
 ·rcases(hf b hb).2.2.2.1 with z|z
  ·exact I.ok.Lx b o q z
  ·exact absurd (afb (ae4 (I.ok.bs b o q).1) z) (afQ _)
 ·rcases aff.mp (sub b z) with r|r
  ·exact(hf b hb).2.1 r
  ·exact(hf b hb).2.2.1 r
 ·cases i with
  | zero=>cases e2
  | succ j =>
   have e1':(idx.map λi=>X.N.getD i x)[j]?=some y:=by
    have:(cxC X scope cl NC s.heap.objs.size fp s H).N=NC:=rfl
    rw[this,c.nc]at e1;exact e1
   have e2':(lY σ idx)[j]?=some (some v):=e2;rw[ae6]at e1';unfold lY at e2';rw[ae6]at e2';cases ei:idx[j]? with
   | none=>rw[ei]at e1';cases e1'
   | some i =>
    rw[ei]at e1' e2';simp only[agd,Option.some.injEq]at e1' e2';obtain⟨hi,h2,h3⟩:=c.cap i (ae7 ei);rw[e1']at h2 h3;have hN:X.N[i]?=some y:=by
     rw[←e1'];simp[List.getD,aeW hi]
    have hσ:σ[i]?=some (some v):=by
     cases q:σ[i]? with
     | none=>rw[q]at e2';cases e2'
     | some o=>rw[q]at e2';simp only[Option.getD_some]at e2';rw[e2']
    obtain⟨m,hn,hl⟩:=I.loc;obtain⟨u,r,l⟩:=hl i y v hN hσ (h2.elim (λz=>.inr (.inl z)) λz=>.inr (.inr z));refine⟨u,r,.inr ⟨h3,?_⟩⟩;rcases l with⟨l,_⟩|⟨_,a,ha,hc⟩
    ·exfalso
     have l':X.env.scope.names.lookup y=some .local:=l;rcases h2 with z|z<;>(rw[l']at z;cases z)
    ·obtain⟨a',ha'⟩:=c.has y h3
     have:=c.sub _ _ ha'
     rw[ha]at this;cases this;exact⟨a,ha',hc.keeps k⟩
 ·obtain⟨v,z⟩:=I.cell _ _ (c.sub _ _ q)
  exact⟨v,z.keeps k⟩
 ·show _=NC.length
  rw[c.nc];simp[lY]
def NB(J:It)(D:Addr)(τ:St)(te:TE)(Q:VK)(H:Hp):Prop:=∃ W:Nat→Nat→List V→Hp→Prop,(∃ m,W 0 m [] H)∧∀ i m ys H2,W i m ys H2→H2 D=some (.lst ys) ∧
 ((J.stop i H2∧Q (.ref D) H2)∨(J.go i H2∧ys.length<sizeLine∧∃ N:List V→Hp→Prop,(∀ zs H',N zs H'→∃ m',m'<m∧W (i+1) m' zs H')∧∀ y H3,J.yld i H2 y H3→te (some y::τ) H3 λv H4=>H4 D=some (.lst ys)∧N (ys++[v]) (upd H4 D (.lst (ys++[v])))))
def XZ(wi:TI)(idx:List Nat)(te:TE):TE:=λσ H Q=>wi σ H λJ H1=>∀ D,H1 D=none→NB J D (lY σ idx) te Q (upd H1 D (.lst []))
theorem uC{X:Cx}{pins:List (Addr×Obj)}{σ:St}{H:Hp}{s:Shared}{D:Addr}{ys:List V}{v:V}{u:Value}(I:Inv X pins σ H s)(h:H D=some (.lst ys))(hz:ys.length<sizeLine)(r:RelV v u) :
  wpAny (model X.prog X.w) X.A (call (.builtin "list.append") [.ref D,u]) (λ_ s'=>Inv X pins σ (upd H D (.lst (ys++[v]))) s') X.xe s:=by
 refine thn (lW pins s σ H (.ref D) [v] (.ref D) [u] (λ_ H'=>H'=upd H D (.lst (ys++[v]))) I rfl (.cons r .nil) ⟨D,ys,v,rfl,rfl,h,hz,rfl⟩) λw s' ⟨_,H',I',_,e⟩=>?_;rw[←e];exact I'
theorem BB{elt iter:Expr}{px pos:Pos}{wi:TI}{te:TE}(c:vN X scope cl x idx NC)(hc:X.calm=true)(hi:PI X (.Name x px) iter wi)(he:∀ C fp s₀ H₀,PE (cxC X scope cl NC C fp s₀ H₀) elt te)
  (hs:∀ x,foldedSetIterable iter X.env x=pure x:=by intro _;rfl):PE X (.ListComp elt [⟨.Name x px,iter,[],0⟩] scope pos) (XZ wi idx te):=by
 intro pins s σ H Q I h;rw[eval_ListComp];refine wpAny_comprehension_free (use:=none) rfl hs c.Q3 c.kind c.loc (thn (hi pins s σ H _ I h) λv s1 h1=>thn h1 λitv s2 h2=>?_);obtain⟨it,fp,tn,J,H2,rfl,I2,T,st2,f2,q⟩:=h2;refine wpAny_newObj_type (wpAny_newFunctionEnv c.EN (by intro y hy;simp at hy) (λh₁ hns₁ hsb₁=>?_) c.kind);dsimp only at hns₁ hsb₁ ⊢;have I3:Inv X pins σ (upd H2 s2.heap.objs.size (.lst [])) {s2 with heap:=s2.heap.push {cls:=.type "list",data:=.seq ([]:List Value).toArray},toks:=s2.toks}:=I2.PQ (ys:=[]) (its:=[]) .nil (afw _);obtain⟨W,⟨m0,w0⟩,turn⟩:=q s2.heap.objs.size I2.fresh;generalize hD:s2.heap.objs.size=D at *;generalize hH:s2.heap.push {cls:=.type "list",data:=.seq ([]:List Value).toArray}=h3 at *;have FQ:∀ b∈fp,b<D:=λb hb=>by
  obtain⟨o,e,_⟩:=T.obj _ _ st2 b hb;rw[←hD];exact ae4 e
 have hlt:∀ b∈fp,b<h3.objs.size:=λb hb=>by
  rw[←hH,afY,hD];exact af1 (FQ b hb)
 have hf:∀ b∈fp,uA X pins (upd H2 D (.lst [])) b:=λb hb=>⟨by rw[af (afc (FQ b hb))];exact(f2 b hb).1,(f2 b hb).2⟩;have kp:∀ b o,h3.get? b=some o→h₁.get? b=some o:=λb o e=>hsb₁.extBut b o (afc (ae4 e)) (ae0 _ e);have I4:Inv (cxC X scope cl NC h3.objs.size fp {s2 with heap:=h3,toks:=s2.toks} (upd H2 D (.lst []))) [] (none::lY σ idx) (upd H2 D (.lst [])) {s2 with heap:=h₁,toks:=s2.toks+([]:List (Str×Value)).length} :=
  Bk (s:={s2 with heap:=h3,toks:=s2.toks}) c I3 hf hlt hns₁ kp
 have sN:∀ {H':Hp},(∀ b∈fp,H' b=none)→∀ b∈fp,uA (cxC X scope cl NC h3.objs.size fp {s2 with heap:=h3,toks:=s2.toks} (upd H2 D (.lst []))) [] H' b:=λhn b hb =>
  ⟨hn b hb,afc (hlt b hb),λz=>(aff.mp (I3.qK b z)).elim (hf b hb).2.1 (hf b hb).2.2.1,.inl hb,λy a q=>(hf b hb).2.2.2.2.1 y a (c.sub _ _ q),λp hp=>(by cases hp)⟩
 have st1:tn 0 h₁:=T.keep 0 _ _ st2 λb hb o e=>kp b o (by rw[←hH];exact ae0 _ e);have loop:∀ s4:Shared,s4={s2 with heap:=h₁,toks:=s2.toks+([]:List (Str×Value)).length} →
   codeAny (model X.prog X.w) X.A (.compLoop (.ListComp elt [⟨.Name x px,iter,[],0⟩] scope pos) 0 (.ref it) (.ref D) (compEnvC scope cl h3.objs.size X.env)) (compPost (model X.prog X.w) X.A X.xe none (EP X pins σ Q) (.ref D) h3.objs.size) s4:=by
  rintro s4 rfl;refine AX (λn s'=>∃ i ys H' v0,Inv (cxC X scope cl NC h3.objs.size fp {s2 with heap:=h3,toks:=s2.toks} (upd H2 D (.lst []))) [] (v0::lY σ idx) H' s'∧tn i s'.heap∧(∀ b∈fp,H' b=none)∧W i n ys H')
   ?_ m0 ⟨0,[],_,none,I4,st1,λb hb=>(hf b hb).1,w0⟩
  rintro n s5 ⟨i,ys,H5,v0,I5,st5,fr5,w5⟩;obtain⟨hDl,alt⟩:=turn i n ys H5 w5;rcases alt with⟨stop,qn⟩|⟨go,hz,N,hN,step⟩
  ·refine thn (T.done (cxC X scope cl NC h3.objs.size fp {s2 with heap:=h3,toks:=s2.toks} (upd H2 D (.lst []))) rfl rfl rfl hc i [] s5 _ H5 _ I5 (sN fr5) st5 stop) λr s6 ⟨hr,I6⟩=>?_
   subst hr;obtain⟨m,ns6,_⟩:=id I6.loc;refine⟨m,ns6,λh' hs'=>⟨.ref D,H5,?_,rfl,qn⟩⟩;have J6:Inv X pins σ H5 s6:=I3.Ho (ch:=fp) I6.os I6.base I6.hok I6.bare λb hb=>⟨(hf b hb).2.2.2.1,(hf b hb).2.1,(hf b hb).2.2.2.2.1,(hf b hb).2.2.2.2.2⟩;refine J6.turned (t':=s6.toks) (it:=h3.objs.size) (λb o hb e=>hs'.extBut b o hb e) I6.free (agb I3.lt) (.inr I3.sz) (λy a q z=>?_) (λp hp z=>?_)
   ·obtain⟨v,q'⟩:=I3.cell y a q
    exact absurd q'.lt (by rw[z];exact afQ _)
   ·exact absurd (ae4 (I3.pin p hp).1) (by rw[z];exact afQ _)
  ·refine thn (T.item (cxC X scope cl NC h3.objs.size fp {s2 with heap:=h3,toks:=s2.toks} (upd H2 D (.lst []))) rfl rfl rfl hc i [] s5 _ H5 _ I5 (sN fr5) st5 go) λr s6 ⟨u,hr,h6⟩=>?_
   subst hr;refine thn h6 λ_ s7 ⟨y,H7,I7,r7,y7,st7,fr7⟩=>?_;have I7':=I7.pinned (sN fr7) (T.obj _ _ st7);have hnl:(relabel scope X.env).names.lookup x=some .local:=lookup_relabel_local c.xl;refine wpAny_mono (eh (X:=cxC X scope cl NC h3.objs.size fp {s2 with heap:=h3,toks:=s2.toks} (upd H2 D (.lst []))) (i:=0) (x:=x) (pos:=px) c.nd (by show NC[0]?=some x;rw[c.nc];rfl) (.inl hnl) (.inr hnl) _ s7 _ H7 y u
    (λσ' H'=>σ'=some y::lY σ idx∧H'=H7) I7' r7 ⟨rfl,rfl⟩) (λ_ s8 ⟨σ8,H8,I8,e8,e8'⟩=>?_) λ_ _ z=>z.elim
   subst e8 e8';refine wpAny_mono (he _ _ _ _ _ s8 _ H8 _ I8 (step y H8 y7)) (λw s9 ⟨v,H9,I9,r9,hD9,n9⟩=>?_) λ_ _ z=>z.elim;obtain⟨m',hm,w9⟩:=hN _ _ n9;refine wpAny_mono (uC (X:=(cxC X scope cl NC h3.objs.size fp {s2 with heap:=h3,toks:=s2.toks} (upd H2 D (.lst [])))) I9 hD9 hz r9) (λ_ s10 I10=>?_) λ_ _ z=>z.elim;refine⟨m',hm,i+1,ys++[v],_,some y,I10.jD,T.keep _ _ _ st7 λb hb o e=>(I10.pin (b,o) (aeZ _ (aeZ _ (dN hb e)))).1,λb hb=>?_,w9⟩;obtain⟨o,e,d⟩:=T.obj _ _ st7 b hb;exact(I10.pin (b,o) (aeZ _ (aeZ _ (dN hb e)))).2.1
 exact codeAny_compStart_list (loop _ rfl) (T.self _ 0 _ _ _ st1 (loop _ rfl))
end
section
variable{X:Cx}
theorem pK{prog:Program}{w:World}{A:Around}{R:Result→Shared→Prop}{s:Shared}{elt target iter c:Expr}{scope:Scope}{pos:Pos}{it acc:Value}{env:Env}(I:Nat→Shared→Prop)
  (turn:∀ n s,I n s→wpAny (model prog w) A (pyNext it) (λr s₁=>match r with
   | none=>R (.ok .next) s₁
   | some v=>wpAny (model prog w) A (letOwnedTupleGo target it v) (λ_ s5=>wpAny (model prog w) A (assign target env v) (λ_ s₂=>wpAny (model prog w) A (isTrue c env (eval c env)) (λok s6=>if ok=true then wpAny (model prog w) A (eval elt env) (λx s₃ =>
     wpAny (model prog w) A (call (.builtin "list.append") [acc,x]) (λ_ s₄=>∃ m,m<n∧I m s₄) (notedBy (model prog w) A env λe s'=>R (.error e) s') s₃)
     (notedBy (model prog w) A env λe s'=>R (.error e) s') s6 else ∃ m,m<n∧I m s6) (notedBy (model prog w) A env λe s'=>R (.error e) s') s₂) (notedBy (model prog w) A env λe s'=>R (.error e) s') s5) (notedBy (model prog w) A env λe s'=>R (.error e) s') s₁) (notedBy (model prog w) A env λe s'=>R (.error e) s') s)
  (n:Nat) (h:I n s):codeAny (model prog w) A (.compLoop (.ListComp elt [⟨target,iter,[c],0⟩] scope pos) 0 it acc env) R s:=by
 refine codeAny_loop rfl I (λn s hI=>?_) n h;show wpAny _ _ ((compTurn (.ListComp elt [⟨target,iter,[c],0⟩] scope pos) 0 it acc env).onRaise (λx=>do noteFrame x env;theTreesLotGoes x)) _ _ s
 refine wpAny_noted ?_;rw[compTurn_list];refine wpAny_bind (wpAny_standAt (wpAny_bind (wpAny_mono (turn n s hI) (λr s₁ h₁=>?_) λ_ _ h'=>h')));cases r with
 | none=>exact wpAny_pure h₁
 | some v =>
  refine wpAny_bind (wpAny_mono h₁ (λ_ s5 h5=>?_) λ_ _ h'=>h');refine wpAny_bind (wpAny_mono h5 (λ_ s₂ h₂=>wpAny_bind (wpAny_mono (wpAny_tests_one h₂) (λok s₃ h₃=>?_) λ_ _ h'=>h')) λ_ _ h'=>h');cases ok with
  | false=>exact wpAny_pure ⟨rfl,h₃⟩
  | true =>
   exact wpAny_bind (wpAny_bind (wpAny_mono h₃ (λx s₄ h₄=>wpAny_bind (wpAny_mono h₄ (λ_ s₅ h₅=>wpAny_pure (wpAny_pure ⟨rfl,h₅⟩)) λ_ _ h'=>h')) λ_ _ h'=>h'))
variable{scope:Scope}{cl:List (Str×Addr)}{x:Str}{idx:List Nat}{NC:List Str}{C:Addr}{fp:List Addr}{pins:List (Addr×Obj)}{σ:St}{H:Hp}{s:Shared}
def Q4(wi:TI)(idx:List Nat)(tc:TT)(te:TE):TE:=λσ H Q=>wi σ H λJ H1=>∀ D,H1 D=none→∃ W:Nat→Nat→List V→Hp→Prop,(∃ m,W 0 m [] (upd H1 D (.lst [])))∧∀ i m ys H2,W i m ys H2→H2 D=some (.lst ys) ∧
 ((J.stop i H2∧Q (.ref D) H2)∨(J.go i H2∧ys.length<sizeLine∧∃ N:List V→Hp→Prop,(∀ zs H',N zs H'→∃ m',m'<m∧W (i+1) m' zs H')∧∀ y H3,J.yld i H2 y H3→tc (some y::lY σ idx) H3 λb H4=>if b=true then te (some y::lY σ idx) H4 λv H5=>H5 D=some (.lst ys)∧N (ys++[v]) (upd H5 D (.lst (ys++[v])))
  else N ys H4))
theorem Qp{elt iter ct:Expr}{px pos:Pos}{wi:TI}{tc:TT}{te:TE}(c:vN X scope cl x idx NC)(hc:X.calm=true)(hi:PI X (.Name x px) iter wi)(ht:∀ C fp s₀ H₀,PT (cxC X scope cl NC C fp s₀ H₀) ct tc)(he:∀ C fp s₀ H₀,PE (cxC X scope cl NC C fp s₀ H₀) elt te)
  (hs:∀ x,foldedSetIterable iter X.env x=pure x:=by intro _;rfl):PE X (.ListComp elt [⟨.Name x px,iter,[ct],0⟩] scope pos) (Q4 wi idx tc te):=by
 intro pins s σ H Q I h;rw[eval_ListComp];refine wpAny_comprehension_free (use:=none) rfl hs c.Q3 c.kind c.loc (thn (hi pins s σ H _ I h) λv s1 h1=>thn h1 λitv s2 h2=>?_);obtain⟨it,fp,tn,J,H2,rfl,I2,T,st2,f2,q⟩:=h2;refine wpAny_newObj_type (wpAny_newFunctionEnv c.EN (by intro y hy;simp at hy) (λh₁ hns₁ hsb₁=>?_) c.kind);dsimp only at hns₁ hsb₁ ⊢;have I3:Inv X pins σ (upd H2 s2.heap.objs.size (.lst [])) {s2 with heap:=s2.heap.push {cls:=.type "list",data:=.seq ([]:List Value).toArray},toks:=s2.toks}:=I2.PQ (ys:=[]) (its:=[]) .nil (afw _);obtain⟨W,⟨m0,w0⟩,turn⟩:=q s2.heap.objs.size I2.fresh;generalize hD:s2.heap.objs.size=D at *;generalize hH:s2.heap.push {cls:=.type "list",data:=.seq ([]:List Value).toArray}=h3 at *;have FQ:∀ b∈fp,b<D:=λb hb=>by
  obtain⟨o,e,_⟩:=T.obj _ _ st2 b hb;rw[←hD];exact ae4 e
 have hlt:∀ b∈fp,b<h3.objs.size:=λb hb=>by
  rw[←hH,afY,hD];exact af1 (FQ b hb)
 have hf:∀ b∈fp,uA X pins (upd H2 D (.lst [])) b:=λb hb=>⟨by rw[af (afc (FQ b hb))];exact(f2 b hb).1,(f2 b hb).2⟩;have kp:∀ b o,h3.get? b=some o→h₁.get? b=some o:=λb o e=>hsb₁.extBut b o (afc (ae4 e)) (ae0 _ e);have I4:Inv (cxC X scope cl NC h3.objs.size fp {s2 with heap:=h3,toks:=s2.toks} (upd H2 D (.lst []))) [] (none::lY σ idx) (upd H2 D (.lst [])) {s2 with heap:=h₁,toks:=s2.toks+([]:List (Str×Value)).length} :=
  Bk (s:={s2 with heap:=h3,toks:=s2.toks}) c I3 hf hlt hns₁ kp
 have sN:∀ {H':Hp},(∀ b∈fp,H' b=none)→∀ b∈fp,uA (cxC X scope cl NC h3.objs.size fp {s2 with heap:=h3,toks:=s2.toks} (upd H2 D (.lst []))) [] H' b:=λhn b hb =>
  ⟨hn b hb,afc (hlt b hb),λz=>(aff.mp (I3.qK b z)).elim (hf b hb).2.1 (hf b hb).2.2.1,.inl hb,λy a q=>(hf b hb).2.2.2.2.1 y a (c.sub _ _ q),λp hp=>(by cases hp)⟩
 have st1:tn 0 h₁:=T.keep 0 _ _ st2 λb hb o e=>kp b o (by rw[←hH];exact ae0 _ e);have loop:∀ s4:Shared,s4={s2 with heap:=h₁,toks:=s2.toks+([]:List (Str×Value)).length} →
   codeAny (model X.prog X.w) X.A (.compLoop (.ListComp elt [⟨.Name x px,iter,[ct],0⟩] scope pos) 0 (.ref it) (.ref D) (compEnvC scope cl h3.objs.size X.env)) (compPost (model X.prog X.w) X.A X.xe none (EP X pins σ Q) (.ref D) h3.objs.size) s4:=by
  rintro s4 rfl;refine pK (λn s'=>∃ i ys H' v0,Inv (cxC X scope cl NC h3.objs.size fp {s2 with heap:=h3,toks:=s2.toks} (upd H2 D (.lst []))) [] (v0::lY σ idx) H' s'∧tn i s'.heap∧(∀ b∈fp,H' b=none)∧W i n ys H')
   ?_ m0 ⟨0,[],_,none,I4,st1,λb hb=>(hf b hb).1,w0⟩
  rintro n s5 ⟨i,ys,H5,v0,I5,st5,fr5,w5⟩;obtain⟨hDl,alt⟩:=turn i n ys H5 w5;rcases alt with⟨stop,qn⟩|⟨go,hz,N,hN,step⟩
  ·refine thn (T.done (cxC X scope cl NC h3.objs.size fp {s2 with heap:=h3,toks:=s2.toks} (upd H2 D (.lst []))) rfl rfl rfl hc i [] s5 _ H5 _ I5 (sN fr5) st5 stop) λr s6 ⟨hr,I6⟩=>?_
   subst hr;obtain⟨m,ns6,_⟩:=id I6.loc;refine⟨m,ns6,λh' hs'=>⟨.ref D,H5,?_,rfl,qn⟩⟩;have J6:Inv X pins σ H5 s6:=I3.Ho (ch:=fp) I6.os I6.base I6.hok I6.bare λb hb=>⟨(hf b hb).2.2.2.1,(hf b hb).2.1,(hf b hb).2.2.2.2.1,(hf b hb).2.2.2.2.2⟩;refine J6.turned (t':=s6.toks) (it:=h3.objs.size) (λb o hb e=>hs'.extBut b o hb e) I6.free (agb I3.lt) (.inr I3.sz) (λy a q z=>?_) (λp hp z=>?_)
   ·obtain⟨v,q'⟩:=I3.cell y a q
    exact absurd q'.lt (by rw[z];exact afQ _)
   ·exact absurd (ae4 (I3.pin p hp).1) (by rw[z];exact afQ _)
  ·refine thn (T.item (cxC X scope cl NC h3.objs.size fp {s2 with heap:=h3,toks:=s2.toks} (upd H2 D (.lst []))) rfl rfl rfl hc i [] s5 _ H5 _ I5 (sN fr5) st5 go) λr s6 ⟨u,hr,h6⟩=>?_
   subst hr;refine thn h6 λ_ s7 ⟨y,H7,I7,r7,y7,st7,fr7⟩=>?_;have I7':=I7.pinned (sN fr7) (T.obj _ _ st7);have hnl:(relabel scope X.env).names.lookup x=some .local:=lookup_relabel_local c.xl;refine wpAny_mono (eh (X:=cxC X scope cl NC h3.objs.size fp {s2 with heap:=h3,toks:=s2.toks} (upd H2 D (.lst []))) (i:=0) (x:=x) (pos:=px) c.nd (by show NC[0]?=some x;rw[c.nc];rfl) (.inl hnl) (.inr hnl) _ s7 _ H7 y u
    (λσ' H'=>σ'=some y::lY σ idx∧H'=H7) I7' r7 ⟨rfl,rfl⟩) (λ_ s8 ⟨σ8,H8,I8,e8,e8'⟩=>?_) λ_ _ z=>z.elim
   subst e8 e8';refine wpAny_mono (ht _ _ _ _ _ s8 _ H8 _ I8 (step y H8 y7)) (λbb s11 ⟨H11,I11,q11⟩=>?_) λ_ _ z=>z.elim;have fin:∀ {H12:Hp} {s12:Shared} {zs:List V} {m':Nat},Inv (cxC X scope cl NC h3.objs.size fp {s2 with heap:=h3,toks:=s2.toks} (upd H2 D (.lst []))) ([]++Bc fp s7.heap) (some y::lY σ idx) H12 s12→m'<n→W (i+1) m' zs H12 →
     ∃ m,m<n∧∃ i ys H' v0,Inv (cxC X scope cl NC h3.objs.size fp {s2 with heap:=h3,toks:=s2.toks} (upd H2 D (.lst []))) [] (v0::lY σ idx) H' s12∧tn i s12.heap∧(∀ b∈fp,H' b=none)∧W i m ys H':=λ{H12 s12 zs m'} I12 hm w12=>by
    refine⟨m',hm,i+1,zs,_,some y,I12.jD,T.keep _ _ _ st7 λb hb o e=>(I12.pin (b,o) (aeZ _ (aeZ _ (dN hb e)))).1,λb hb=>?_,w12⟩;obtain⟨o,e,d⟩:=T.obj _ _ st7 b hb;exact(I12.pin (b,o) (aeZ _ (aeZ _ (dN hb e)))).2.1
   cases bb with
   | false =>
    obtain⟨m',hm,w9⟩:=hN _ _ q11;exact fin I11 hm w9
   | true =>
    refine wpAny_mono (he _ _ _ _ _ s11 _ H11 _ I11 q11) (λw s9 ⟨v,H9,I9,r9,hD9,n9⟩=>?_) λ_ _ z=>z.elim;obtain⟨m',hm,w9⟩:=hN _ _ n9;refine wpAny_mono (uC (X:=(cxC X scope cl NC h3.objs.size fp {s2 with heap:=h3,toks:=s2.toks} (upd H2 D (.lst [])))) I9 hD9 hz r9) (λ_ s10 I10=>?_) λ_ _ z=>z.elim;exact fin I10 hm w9
 exact codeAny_compStart_list (loop _ rfl) (T.self _ 0 _ _ _ st1 (loop _ rfl))
end
def Ite(K:W.Frag)(a:Addr):It :=
 ⟨λi H=>∃ xs x,SqL K H a xs∧xs[i]?=some x,λi H y H'=>∃ t x,H t=none∧y=.ref t∧(∀ xs,SqL K H a xs→xs[i]?=some x)∧H'=upd H t (.tup [.int (i:Int),x]),λi H=>∃ xs,SqL K H a xs∧xs.length≤i⟩
theorem OX{P:Program}{w:World}{K:W.Frag}{es:List Expr}{x1:Nat}{pos:Pos}(a it e:Addr)(hne:e≠it) :
  Turn P w K (.Tuple es x1 pos) (Ite K a) [e,it] e (λi h=>∃ old,IsEnum h e it i old∧h.IsListIter it a i) where
 mem:=by simp
 obj:=λi h st b hb=>by
  obtain⟨old,h1,o,q,c,d⟩:=st;rcases aff.mp hb with z|z
  ·rw[z]
   exact⟨_,h1,λv z=>by
    have z':Data.fields _=Data.cell v:=z;cases z'⟩
  ·rw[aeX.mp z]
   exact⟨o,q,λv z=>by rw[d]at z;cases z⟩
 keep:=λi h h' st k=>by
  obtain⟨old,h1,h2⟩:=st;exact⟨old,k e (by simp) _ h1,h2.at λo q=>k it (by simp) o q⟩
 item:=by
  intro X hP hw hK hc i pins s σ H E I hf st hg;subst hP hw hK;obtain⟨xs,x,hq,hx⟩:=hg;obtain⟨its,rv,p,hz⟩:=I.list hq;obtain⟨u,hu,ru⟩:=rv.get hx;obtain⟨old,he,hit⟩:=st;have fr:H s.heap.objs.size=none:=I.hok.fresh (ae1 _);refine wpAny_pyNext_enum_item he hit p.isList (x:=u) (by simpa using hu) hne λh1 heo hit1 ht1 hz1 hk1=>⟨_,rfl,wpAny_letOwnedTupleGo_enum heo λh2 he2 hs2=>?_⟩;replace hs2:Heap.SameBut e h1 h2:=hs2;have hel:e<s.heap.objs.size:=ae4 he;have k2:∀ b o,b≠e→b≠it→s.heap.get? b=some o→h2.get? b=some o:=λb o z1 z2 q=>(hs2.2 b z1).trans (hk1 b o z1 z2 q);have ht2:h2.get? s.heap.objs.size=some {cls:=.type "tuple",data:=.seq #[.int i s.toks,u]}:=(hs2.2 _ (agb hel)).trans ht1;have aem:h2.IsListIter it a (i+1):=hit1.extBut hs2.extBut (afi hne);have nt:∀ b o,s.heap.get? b=some o→b≠s.heap.objs.size:=λb o q=>afc (ae4 q);have nh:∀ b v,H b=some v→b≠s.heap.objs.size:=λb v q=>aq q fr;have ne':∀ b v,H b=some v→b≠e∧b≠it:=λb v q=>⟨aq q (hf e (by simp)).1,aq q (hf it (by simp)).1⟩;refine⟨.ref s.heap.objs.size,upd H s.heap.objs.size (.tup [.int (i:Int),x]),?_,rfl,⟨_,x,fr,rfl,λys hy=>by rw[I.Ly hy hq];exact hx,rfl⟩,⟨_,he2,aem⟩,λb hb=>?_⟩
  ·refine Inv.step (s:=s) (h':=h2) (t':=s.toks+1) (H:=H) (g':=s.gens) (d':=s.drawn) (ch:=[e,it]) I (λb hb=>⟨(hf b hb).2.2.2.1,(hf b hb).2.1,(hf b hb).2.2.2.2.1,(hf b hb).2.2.2.2.2⟩)
    (λb o _ _ z q _=>k2 b o (λy=>z (by simp[y])) (λy=>z (by simp[y])) q) (λb o _ _ z q _=>⟨o.slots,k2 b o (λy=>z (by simp[y])) (λy=>z (by simp[y])) q⟩)
    (λb o _ q n=>by rw[af (nt b o q)];exact n) (λb o z q=>⟨o,k2 b o (λy=>z (by simp[y])) (λy=>z (by simp[y])) q⟩)
    (λb xs q=>by rw[af (nh b _ q)];exact q) (λb o v q=>by rw[af (nh b _ q)];exact q) (λb ps q=>⟨#[],by rw[af (nh b _ q),q];simp⟩) (λm hm=>?_) (λb v q=>?_) I.bare
   ·obtain⟨o,es',ep,ho,r⟩:=hm
    exact⟨o,es',ep,k2 _ o (afi (hf e (by simp)).2.1) (afi (hf it (by simp)).2.1) ho,r⟩
   ·by_cases z:b=s.heap.objs.size
    ·subst z
     rw[ah]at q;cases q;exact⟨by show 2≤sizeLine;decide,[.int i s.toks,u],.cons ⟨_,rfl⟩ (.cons ru .nil),_,ht2,rfl,_,rfl⟩
    ·rw[af z]at q
     refine(I.hok b v q).Jv (λc o hc w=>?_) (λc w=>by rw[af (nh c _ w)];exact w) λc xs w=>by rw[af (nh c _ w)];exact w
     rcases hc with y|y
     ·rw[y]at w ⊢
      exact k2 b o (ne' b v q).1 (ne' b v q).2 w
     ·exact k2 c o (ne' c _ y).1 (ne' c _ y).2 w
  ·have hb':b<s.heap.objs.size:=by
    rcases aff.mp hb with z|z
    ·rw[z];exact hel
    ·rw[aeX.mp z]
     obtain⟨o,q,_⟩:=hit;exact ae4 q
   rw[af (afc hb')];exact(hf b hb).1
 done:=by
  intro X hP hw hK hc i pins s σ H E I hf st hg;subst hP hw hK;obtain⟨xs,hq,hx⟩:=hg;obtain⟨its,rv,p,hz⟩:=I.list hq;obtain⟨f0,f1,f2,f3,f4,f5⟩:=hf it (by simp);have hl:=rv.length;obtain⟨old,he,hit⟩:=st;exact wpAny_pyNext_enum_end (I.ok.hd hc) he hit p.isList (by simp;omega) λh' eb=>⟨rfl,I.turned (t':=s.toks) (λb o hb q=>eb b o hb q) f0 f1 f3 f4 f5⟩
 self:=λA i s Q E st h=>by
  obtain⟨old,he,hit⟩:=st;exact wpAny_pyIter_enum he h
section
variable{X:Cx}{es:List Expr}{x1:Nat}{tp:Pos}
def acb(K:W.Frag)(ta:TA):TI:=λσ H R=>ta σ H λvs H1=>∃ a,vs=[.ref a]∧(∃ xs,SqL K H1 a xs)∧R (Ite K a) H1
theorem JC{a:Expr}{ta:TA}{p pos:Pos}(hg:Gl X "enumerate")(hm:X.mg "enumerate" = none)(ha:PA X [a] ta)(hs:starEach [a] X.env=[(false,eval a X.env)]:=by rfl):PI X (.Tuple es x1 tp) (.Call (.Name "enumerate" p) [a] [] pos) (acb X.K ta):=by
 intro pins s σ H R I h;refine Call_ (Gy I hg hm PyProof.Rows.Boot.«enumerate» (PyProof.Rows.callWith_type1 (thn (ha pos pins s σ H _ I h) λus s1 ⟨vs,H1,I1,r1,q1⟩=>?_) hs rfl));obtain⟨l,e,⟨xs,hq⟩,q⟩:=q1;subst e;cases r1 with
 | cons r rr =>
  cases rr;cases r;obtain⟨its,rv,pl,hz⟩:=I1.list hq;refine call_enumerate_list pl.isList λh' he hit hsz hk=>?_;refine wpAny_pyIter_enum he ?_;refine⟨s1.heap.objs.size+1,[s1.heap.objs.size+1,s1.heap.objs.size],_,_,H1,rfl,I1.kept (t':=s1.toks) hk,OX l s1.heap.objs.size (s1.heap.objs.size+1) (Nat.succ_ne_self _),⟨_,he,hit⟩,λb hb=>?_,q⟩;have hb':s1.heap.objs.size≤b:=by
   rcases aff.mp hb with z|z
   ·rw[z];exact aga _
   ·rw[aeX.mp z]
    exact ae1 _
  exact I1.PH hb' (I1.hok.fresh hb')
end
theorem Gn{K:W.Frag}{a:Addr}{xs:List V}{g:TG}{tb:TS}{D:Ends}{σ:St}{H:Hp}(Pv:Nat→St→Hp→Prop)(h0:Pv 0 σ H)(hl:∀ i σ H,i≤xs.length→Pv i σ H→SqL K H a xs)
  (hs:∀ i x σ H t,xs[i]?=some x→Pv i σ H→H t=none→g (.ref t) σ (upd H t (.tup [.int (i:Int),x])) λσ2 H2=>tb {D with nx:=Pv (i+1),ct:=Pv (i+1),bk:=D.nx} σ2 H2) (hd:∀ σ H,Pv xs.length σ H→D.nx σ H) :
  ∃ W:Nat→Nat→St→Hp→Prop,(∃ m,W 0 m σ H)∧∀ i m σ H,W i m σ H →
   ((Ite K a).stop i H∧D.nx σ H)∨((Ite K a).go i H∧∃ N:St→Hp→Prop,(∀ σ' H',N σ' H'→∃ m',m'<m∧W (i+1) m' σ' H')∧∀ x H',(Ite K a).yld i H x H'→g x σ H' λσ2 H2=>tb {D with nx:=N,ct:=N,bk:=D.nx} σ2 H2):=by
 refine⟨λi m σ H=>m=xs.length-i∧i≤xs.length∧Pv i σ H,⟨xs.length,by simp,afw _,h0⟩,?_⟩;rintro i m σ H ⟨rfl,hi,p⟩;by_cases hlt:i<xs.length
 ·refine .inr ⟨⟨xs,xs[i],hl i σ H hi p,aeW hlt⟩,Pv (i+1),λσ' H' p'=>⟨xs.length-(i+1),by omega,rfl,hlt,p'⟩,λx H' y=>?_⟩
  obtain⟨t,v,e1,e2,e3,e4⟩:=y;subst e2 e4;exact hs i v σ H t (e3 xs (hl i σ H hi p)) p e1
 ·have e:i=xs.length:=by omega
  subst e;exact .inl ⟨⟨xs,hl _ σ H hi p,ae1 _⟩,hd σ H p⟩
end L2
namespace L2
open PySem
theorem qv{K:W.Frag}{a:Addr}{xs:List V}{te:TE}{Q:VK}{D:Addr}{τ:St}{H:Hp}(Pv:Nat→List V→Hp→Prop)(h0:Pv 0 [] H)(hD:∀ i ys H,i≤xs.length→Pv i ys H→H D=some (.lst ys)∧ys.length=i)(hl:∀ i ys H,i≤xs.length→Pv i ys H→SqL K H a xs)(hn:xs.length≤sizeLine)
  (hs:∀ i x ys H,xs[i]?=some x→Pv i ys H→te (some x::τ) H λv H4=>H4 D=some (.lst ys)∧Pv (i+1) (ys++[v]) (upd H4 D (.lst (ys++[v])))) (hd:∀ ys H,Pv xs.length ys H→Q (.ref D) H):NB (Itl K a) D τ te Q H:=by
 refine⟨λi m ys H=>m=xs.length-i∧i≤xs.length∧Pv i ys H,⟨xs.length,by simp,afw _,h0⟩,?_⟩;rintro i m ys H2 ⟨rfl,hi,p⟩;obtain⟨hd1,hd2⟩:=hD i ys H2 hi p;refine⟨hd1,?_⟩;by_cases hlt:i<xs.length
 ·refine .inr ⟨⟨xs,xs[i],hl i ys H2 hi p,aeW hlt⟩,by omega,Pv (i+1),λzs H' p'=>⟨xs.length-(i+1),by omega,rfl,hlt,p'⟩,λy H3 e=>?_⟩
  obtain⟨e1,e2⟩:=e;subst e1;exact hs i y ys _ (e2 xs (hl i ys _ hi p)) p
 ·have e:i=xs.length:=by omega
  subst e;exact .inl ⟨⟨xs,hl _ ys H2 hi p,ae1 _⟩,hd ys H2 p⟩
end L2
end
section
namespace L2
open PySem PySem.Spec PyProof.Rows LX
def N4(sc:Scope)(names:List (Str×NameKind)):List (Str×NameKind):=names.map λ(n,k)=>if(k == .free&&sc.kind == .function&&sc.names.lookup n == some .cell) then(n,.cell) else(n,k)
def RE(sc scope:Scope)(x:Str)(ns N:List Str)(idx:List Nat):Prop :=
 (∀ y∈scope.names,y.2≠.cell)∧(∀ y∈scope.names,y.2=.local→scope.names.lookup y.1=some .local)∧scope.names.lookup x=some .local∧(∀ p∈N4 sc scope.names,p.2=.cell∨p.2=.free→p.1∈ns)∧(x::idx.map λi=>N.getD i x).Nodup ∧
 ∀ i∈idx,i<N.length∧((sc.names.lookup (N.getD i x)=some .cell∨sc.names.lookup (N.getD i x)=some .free)∧((N4 sc scope.names).lookup (N.getD i x)=some .cell∨(N4 sc scope.names).lookup (N.getD i x)=some .free))
instance (sc scope:Scope) (x:Str) (ns N:List Str) (idx:List Nat):Decidable (RE sc scope x ns N idx):=by unfold RE;infer_instance
theorem uf{y:Str}:∀ {cl:List (Str×Addr)},y∈cl.map (·.1)→∃ c,cl.lookup y=some c
 | [],h=>by simp at h
 | (n,c)::r,h=>by
  by_cases e:y=n
  ·exact⟨c,by simp[List.lookup,e]⟩
  ·have h':y∈r.map (·.1):=by
    rw[afq]at h;rcases aff.mp h with z|z
    ·exact absurd z e
    ·exact z
   obtain⟨c',q⟩:=uf h';have hb:(y == n)=false:=beq_eq_false_iff_ne.mpr e;exact⟨c',by simp only[List.lookup,hb];exact q⟩
theorem kZ{X:Cx}{sc scope:Scope}{cl:List (Str×Addr)}{x:Str}{ns N:List Str}{idx:List Nat}(hsc:X.env.scope=sc)(hN:X.N=N)(hk:scope.kind=.function)(p:RE sc scope x ns N idx)(hn:cl.map (·.1)=ns)
  (RF:closureFor scope X.env=pure cl) (abJ:∀ q∈cl,X.env.cells.lookup q.1=some q.2):vN X scope cl x idx (x::idx.map λi=>N.getD i x):=by
 obtain⟨p1,p2,p3,p4,p5,p6⟩:=p;have re:(relabel scope X.env).names=N4 sc scope.names:=by subst hsc;rfl
 subst hsc hN hn;refine⟨RF,λy c q=>abJ (y,c) (afx q),λy h=>?_,p1,hk,p2,p3,rfl,p5,λi hi=>?_⟩
 ·rw[re]at h
  refine uf ?_;rcases h with h|h
  ·exact p4 (y,.cell) (afx h) (.inl rfl)
  ·exact p4 (y,.free) (afx h) (.inr rfl)
 ·rw[re]
  exact p6 i hi
theorem ya{P:Program}{w:World}{X:Cx}:jI (CXE P w) X (λ_ _ _ _=>False):=λ_ _ _ _ _ _ _ ⟨_,_,_,_,_,_,_,_,_,q⟩=>q.elim
section
variable{X:Cx}{scope:Scope}{cl:List (Str×Addr)}{x:Str}{idx:List Nat}{NC:List Str}{pins:List (Addr×Obj)}{σ:St}{H:Hp}{s:Shared}
theorem UD{i:Nat}{y:Str}{elt iter:Expr}{px py pos JF:Pos}{wi:TI}{te:TE}(hN:X.N.Nodup)(hi':X.N[i]?=some y)(hx:X.env.scope.names.lookup y=some .local)(c:vN X scope cl x idx NC)(hc:X.calm=true)(hi:PI X (.Name x px) iter wi)
  (he:∀ C fp s₀ H₀,PE (cxC X scope cl NC C fp s₀ H₀) elt te) (hsw:swapsWith (.ListComp elt [⟨.Name x px,iter,[],0⟩] scope pos) (some (.Name y py)) JF.line X.env=pure true:=by rfl)
  (hs:∀ x,foldedSetIterable iter X.env x=pure x:=by intro _;rfl):PS X (.Assign [.Name y py] (.ListComp elt [⟨.Name x px,iter,[],0⟩] scope pos) JF) (NP (XZ wi idx te) (kU i)):=by
 intro pins s σ H D0 I h;rw[exec_Assign_Name_used _ _ _ _ hsw];refine wpAny_bind (wpAny_standAt (wpAny_bind ?_));show wpAny _ _ (do let _ ←comprehension (.ListComp elt [⟨.Name x px,iter,[],0⟩] scope pos) scope X.env _ (newList []) false (eval iter X.env) (some (assign (.Name y py) X.env))) _ _ s
 refine wpAny_bind (wpAny_mono (wpAny_comprehension_free (use:=some (assign (.Name y py) X.env)) (Q:=λ_ s'=>SP X pins D0 .next s') rfl hs c.Q3 c.kind c.loc
  (thn (hi pins s σ H _ I h) λv s1 h1=>thn h1 λitv s2 h2=>?_)) (λ_ s' hq=>wpAny_pure (wpAny_pure hq)) λ_ _ e=>e)
 obtain⟨it,fp,tn,J,H2,rfl,I2,T,st2,f2,q⟩:=h2;refine wpAny_newObj_type (wpAny_newFunctionEnv c.EN (by intro y hy;simp at hy) (λh₁ hns₁ hsb₁=>?_) c.kind);dsimp only at hns₁ hsb₁ ⊢;have I3:Inv X pins σ (upd H2 s2.heap.objs.size (.lst [])) {s2 with heap:=s2.heap.push {cls:=.type "list",data:=.seq ([]:List Value).toArray},toks:=s2.toks}:=I2.PQ (ys:=[]) (its:=[]) .nil (afw _);obtain⟨W,⟨m0,w0⟩,turn⟩:=q s2.heap.objs.size I2.fresh;generalize hD:s2.heap.objs.size=D at *;generalize hH:s2.heap.push {cls:=.type "list",data:=.seq ([]:List Value).toArray}=h3 at *;have FQ:∀ b∈fp,b<D:=λb hb=>by
  obtain⟨o,e,_⟩:=T.obj _ _ st2 b hb;rw[←hD];exact ae4 e
 have hlt:∀ b∈fp,b<h3.objs.size:=λb hb=>by
  rw[←hH,afY,hD];exact af1 (FQ b hb)
 have hf:∀ b∈fp,uA X pins (upd H2 D (.lst [])) b:=λb hb=>⟨by rw[af (afc (FQ b hb))];exact(f2 b hb).1,(f2 b hb).2⟩;have kp:∀ b o,h3.get? b=some o→h₁.get? b=some o:=λb o e=>hsb₁.extBut b o (afc (ae4 e)) (ae0 _ e);have I4:Inv (cxC X scope cl NC h3.objs.size fp {s2 with heap:=h3,toks:=s2.toks} (upd H2 D (.lst []))) [] (none::lY σ idx) (upd H2 D (.lst [])) {s2 with heap:=h₁,toks:=s2.toks+([]:List (Str×Value)).length} :=
  Bk (s:={s2 with heap:=h3,toks:=s2.toks}) c I3 hf hlt hns₁ kp
 have sN:∀ {H':Hp},(∀ b∈fp,H' b=none)→∀ b∈fp,uA (cxC X scope cl NC h3.objs.size fp {s2 with heap:=h3,toks:=s2.toks} (upd H2 D (.lst []))) [] H' b:=λhn b hb =>
  ⟨hn b hb,afc (hlt b hb),λz=>(aff.mp (I3.qK b z)).elim (hf b hb).2.1 (hf b hb).2.2.1,.inl hb,λy a q=>(hf b hb).2.2.2.2.1 y a (c.sub _ _ q),λp hp=>(by cases hp)⟩
 have st1:tn 0 h₁:=T.keep 0 _ _ st2 λb hb o e=>kp b o (by rw[←hH];exact ae0 _ e);have loop:∀ s4:Shared,s4={s2 with heap:=h₁,toks:=s2.toks+([]:List (Str×Value)).length} →
   codeAny (model X.prog X.w) X.A (.compLoop (.ListComp elt [⟨.Name x px,iter,[],0⟩] scope pos) 0 (.ref it) (.ref D) (compEnvC scope cl h3.objs.size X.env)) (compPost (model X.prog X.w) X.A X.xe (some (assign (.Name y py) X.env)) (λ_ s'=>SP X pins D0 .next s') (.ref D) h3.objs.size) s4:=by
  rintro s4 rfl;refine AX (λn s'=>∃ i ys H' v0,Inv (cxC X scope cl NC h3.objs.size fp {s2 with heap:=h3,toks:=s2.toks} (upd H2 D (.lst []))) [] (v0::lY σ idx) H' s'∧tn i s'.heap∧(∀ b∈fp,H' b=none)∧W i n ys H')
   ?_ m0 ⟨0,[],_,none,I4,st1,λb hb=>(hf b hb).1,w0⟩
  rintro n s5 ⟨i5,ys,H5,v0,I5,st5,fr5,w5⟩;obtain⟨hDl,alt⟩:=turn i5 n ys H5 w5;rcases alt with⟨stop,qn⟩|⟨go,hz,N,hN',step⟩
  ·refine thn (T.done (cxC X scope cl NC h3.objs.size fp {s2 with heap:=h3,toks:=s2.toks} (upd H2 D (.lst []))) rfl rfl rfl hc i5 [] s5 _ H5 _ I5 (sN fr5) st5 stop) λr s6 ⟨hr,I6⟩=>?_
   subst hr;obtain⟨m,ns6,_⟩:=id I6.loc;have J6:Inv X pins σ H5 s6:=I3.Ho (ch:=fp) I6.os I6.base I6.hok I6.bare λb hb=>⟨(hf b hb).2.2.2.1,(hf b hb).2.1,(hf b hb).2.2.2.2.1,(hf b hb).2.2.2.2.2⟩;have fC:uA X pins H5 h3.objs.size:=I3.PH (ae1 _) I6.free;obtain⟨o,es,ep,ho,rr⟩:=ns6;have od:∀ v,o.data≠.cell v:=λv z=>by
    rw[rr.1]at z;cases z
   show wpAny _ _ (assign (.Name y py) X.env (.ref D)) (λ_ s''=>∃ m,s''.heap.Ns h3.objs.size m∧∀ h',Heap.SameBut h3.objs.size s''.heap h'→SP X pins D0 .next {s'' with heap:=h'}) X.xe s6;have J7:=J6.pinned (fp:=[h3.objs.size]) (λb hb=>by rw[aeX.mp hb];exact fC) (λb hb=>by rw[aeX.mp hb];exact⟨o,ho,od⟩);refine wpAny_mono (eh (pos:=py) hN hi' (.inl hx) (.inr hx) _ s6 _ H5 (.ref D) (.ref D) D0.nx J7 rfl qn) (λ_ s7 ⟨σ7,H7,I7,q7⟩=>?_) (λ_ _ z=>z);have pC:=I7.pin (h3.objs.size,o) (aeZ _ (aeZ _ (dN (aeX.mpr rfl) ho)));refine⟨m,⟨o,es,ep,pC.1,rr⟩,λh' hs'=>⟨σ7,H7,?_,q7⟩⟩;exact I7.jD.turned (t':=s7.toks) (it:=h3.objs.size) (λb o hb e=>hs'.extBut b o hb e) pC.2.1 fC.2.1 fC.2.2.2.1 fC.2.2.2.2.1 fC.2.2.2.2.2
  ·refine thn (T.item (cxC X scope cl NC h3.objs.size fp {s2 with heap:=h3,toks:=s2.toks} (upd H2 D (.lst []))) rfl rfl rfl hc i5 [] s5 _ H5 _ I5 (sN fr5) st5 go) λr s6 ⟨u,hr,h6⟩=>?_
   subst hr;refine thn h6 λ_ s7 ⟨y,H7,I7,r7,y7,st7,fr7⟩=>?_;have I7':=I7.pinned (sN fr7) (T.obj _ _ st7);have hnl:(relabel scope X.env).names.lookup x=some .local:=lookup_relabel_local c.xl;refine wpAny_mono (eh (X:=cxC X scope cl NC h3.objs.size fp {s2 with heap:=h3,toks:=s2.toks} (upd H2 D (.lst []))) (i:=0) (x:=x) (pos:=px) c.nd (by show NC[0]?=some x;rw[c.nc];rfl) (.inl hnl) (.inr hnl) _ s7 _ H7 y u
    (λσ' H'=>σ'=some y::lY σ idx∧H'=H7) I7' r7 ⟨rfl,rfl⟩) (λ_ s8 ⟨σ8,H8,I8,e8,e8'⟩=>?_) λ_ _ z=>z.elim
   subst e8 e8';refine wpAny_mono (he _ _ _ _ _ s8 _ H8 _ I8 (step y H8 y7)) (λw s9 ⟨v,H9,I9,r9,hD9,n9⟩=>?_) λ_ _ z=>z.elim;obtain⟨m',hm,w9⟩:=hN' _ _ n9;refine wpAny_mono (uC (X:=(cxC X scope cl NC h3.objs.size fp {s2 with heap:=h3,toks:=s2.toks} (upd H2 D (.lst [])))) I9 hD9 hz r9) (λ_ s10 I10=>?_) λ_ _ z=>z.elim;refine⟨m',hm,i5+1,ys++[v],_,some y,I10.jD,T.keep _ _ _ st7 λb hb o e=>(I10.pin (b,o) (aeZ _ (aeZ _ (dN hb e)))).1,λb hb=>?_,w9⟩;obtain⟨o,e,d⟩:=T.obj _ _ st7 b hb;exact(I10.pin (b,o) (aeZ _ (aeZ _ (dN hb e)))).2.1
 exact codeAny_compStart_list (loop _ rfl) (T.self _ 0 _ _ _ st1 (loop _ rfl))
end
theorem N5:∀ {us:List Value} {ks:List Int},us.length=ks.length→(∀(j:Nat) (v:Value),us[j]?=some v→∃ t,v=Value.int (ks.getD j 0) t)→IntsAre us ks
 | [],[],_,_=>.nil
 | [],_::_,h,_=>by simp at h
 | _::_,[],h,_=>by simp at h
 | u::us,k::ks,h,f=>by
  obtain⟨t,e⟩:=f 0 u rfl;subst e;exact .cons k t (N5 (by simpa using h) λj v q=>f (j+1) v q)
section
variable{X:Cx}
def YQ(K:W.Frag):List V→Hp→VK→Prop:=λvs H Q=>∃(p:Addr) (ns:List Int),vs=[.ref p]∧SqL K H p (ns.map V.int)∧ns.length<64∧∀(l:Addr) (ns':List Int),H l=none→ns'.Perm ns→ns'.Pairwise (·≤·)→Q (.ref l) (upd H l (.lst (ns'.map V.int)))
theorem Ih:vF X (.builtin "sorted") (YQ X.K):=by
 rintro pins s σ H xs us Q I r ⟨p,ns,rfl,hq,h64,q⟩;obtain⟨u,rfl,ru⟩:=r.one;cases (show u=Value.ref p from ru);obtain⟨its,rv,pl,hz⟩:=I.list hq;have hI:=intsAre_of rv;have hlen:=rv.length;rw[aeV]at hlen hz;refine sorted_ints pl.isList hI (by omega) λout ns' a1 a2 a3=>?_;obtain⟨e,he⟩:=sortedAll_at s.heap its out;refine⟨.ref (s.heap.objs.size+1),_,I.laid (a:=s.heap.objs.size+1) (o:=.lst (ns'.map V.int)) (t':=s.toks) (λ_ _=>sortedAll_old) (aga _) ?_,rfl,q _ ns' (I.hok.fresh (aga _)) a2 a3⟩;refine⟨by rw[aeV,a2.length_eq];exact hz,out.toList,e,oh a1,?_⟩;rw[he]
theorem HP{P:Program}{w:World}{vs:List (Key×Value)}{ks:List Int}{acc:Array Value}(hk:vs.map (·.1)=ks.map Sum.inl)(ha:acc.size=vs.length)(h:∀(j:Nat) (v:Value),acc[j]?=some v→∃ k x,vs[j]?=some (k,x)∧(cR P w).is k v=true):IntsAre acc.toList ks:=by
 have hl:vs.length=ks.length:=by
  have:=congrArg List.length hk
  simpa using this
 refine N5 (by rw[ago];omega) λj v e=>?_;obtain⟨k,x,h1,h2⟩:=h j v (by rw[←Array.getElem?_toList];exact e);have h3:(vs.map (·.1))[j]?=some k:=by rw[ae6,h1];rfl
 rw[hk,ae6]at h3;obtain⟨i,hi,rfl⟩:=afa.mp h3;have h4:rq (.inl i) v=true:=h2;rcases cp h4 with⟨i',t,e1,e2⟩|⟨y,t,e1,_⟩
 ·injection e1 with e1
  subst e1;exact⟨t,by rw[e2];simp[List.getD,hi]⟩
 ·cases e1
end
theorem HQ{xs ys:List Int}(p:xs.Perm ys)(hx:xs.Pairwise (·≤·))(hy:ys.Pairwise (·≤·)):xs=ys :=
 p.eq_of_pairwise (λa b _ _ h1 h2=>Int.le_antisymm h1 h2) hx hy
theorem Q5{v:V}(h:mF v=true):eqV v v=true:=by
 cases v with
 | non=>rfl
 | bl b=>cases b<;>rfl
 | int n=>simp[eqV]
 | str z=>simp[eqV]
 | _=>exact absurd (show false=true from h) ae2
section
variable{X:Cx}
end
section
variable{X:Cx}{tg:Expr}
theorem PS.nox{st:Stmt}{t:TS}(h:PS X.nox st t):PS X st t:=λpins s σ H D I hw =>
 wpAny_mono (h pins s σ H D (I.Jw _) hw) (λ_ _ q=>q.sS) λ_ _ z=>False.elim z
end
section
variable{X:Cx}{scope:Scope}{cl:List (Str×Addr)}{x:Str}{idx:List Nat}{NC:List Str}{pins:List (Addr×Obj)}{σ:St}{H:Hp}{s:Shared}
theorem Qq{i:Nat}{y:Str}{elt iter ct:Expr}{px py pos JF:Pos}{wi:TI}{tc:TT}{te:TE}(hN:X.N.Nodup)(hi':X.N[i]?=some y)(hx:X.env.scope.names.lookup y=some .local)(c:vN X scope cl x idx NC)(hc:X.calm=true)(hi:PI X (.Name x px) iter wi)
  (ht:∀ C fp s₀ H₀,PT (cxC X scope cl NC C fp s₀ H₀) ct tc) (he:∀ C fp s₀ H₀,PE (cxC X scope cl NC C fp s₀ H₀) elt te) (hsw:swapsWith (.ListComp elt [⟨.Name x px,iter,[ct],0⟩] scope pos) (some (.Name y py)) JF.line X.env=pure true:=by rfl)
  (hs:∀ x,foldedSetIterable iter X.env x=pure x:=by intro _;rfl):PS X (.Assign [.Name y py] (.ListComp elt [⟨.Name x px,iter,[ct],0⟩] scope pos) JF) (NP (Q4 wi idx tc te) (kU i)):=by
 intro pins s σ H D0 I h;rw[exec_Assign_Name_used _ _ _ _ hsw];refine wpAny_bind (wpAny_standAt (wpAny_bind ?_));show wpAny _ _ (do let _ ←comprehension (.ListComp elt [⟨.Name x px,iter,[ct],0⟩] scope pos) scope X.env _ (newList []) false (eval iter X.env) (some (assign (.Name y py) X.env))) _ _ s
 refine wpAny_bind (wpAny_mono (wpAny_comprehension_free (use:=some (assign (.Name y py) X.env)) (Q:=λ_ s'=>SP X pins D0 .next s') rfl hs c.Q3 c.kind c.loc
  (thn (hi pins s σ H _ I h) λv s1 h1=>thn h1 λitv s2 h2=>?_)) (λ_ s' hq=>wpAny_pure (wpAny_pure hq)) λ_ _ e=>e)
 obtain⟨it,fp,tn,J,H2,rfl,I2,T,st2,f2,q⟩:=h2;refine wpAny_newObj_type (wpAny_newFunctionEnv c.EN (by intro y hy;simp at hy) (λh₁ hns₁ hsb₁=>?_) c.kind);dsimp only at hns₁ hsb₁ ⊢;have I3:Inv X pins σ (upd H2 s2.heap.objs.size (.lst [])) {s2 with heap:=s2.heap.push {cls:=.type "list",data:=.seq ([]:List Value).toArray},toks:=s2.toks}:=I2.PQ (ys:=[]) (its:=[]) .nil (afw _);obtain⟨W,⟨m0,w0⟩,turn⟩:=q s2.heap.objs.size I2.fresh;generalize hD:s2.heap.objs.size=D at *;generalize hH:s2.heap.push {cls:=.type "list",data:=.seq ([]:List Value).toArray}=h3 at *;have FQ:∀ b∈fp,b<D:=λb hb=>by
  obtain⟨o,e,_⟩:=T.obj _ _ st2 b hb;rw[←hD];exact ae4 e
 have hlt:∀ b∈fp,b<h3.objs.size:=λb hb=>by
  rw[←hH,afY,hD];exact af1 (FQ b hb)
 have hf:∀ b∈fp,uA X pins (upd H2 D (.lst [])) b:=λb hb=>⟨by rw[af (afc (FQ b hb))];exact(f2 b hb).1,(f2 b hb).2⟩;have kp:∀ b o,h3.get? b=some o→h₁.get? b=some o:=λb o e=>hsb₁.extBut b o (afc (ae4 e)) (ae0 _ e);have I4:Inv (cxC X scope cl NC h3.objs.size fp {s2 with heap:=h3,toks:=s2.toks} (upd H2 D (.lst []))) [] (none::lY σ idx) (upd H2 D (.lst [])) {s2 with heap:=h₁,toks:=s2.toks+([]:List (Str×Value)).length} :=
  Bk (s:={s2 with heap:=h3,toks:=s2.toks}) c I3 hf hlt hns₁ kp
 have sN:∀ {H':Hp},(∀ b∈fp,H' b=none)→∀ b∈fp,uA (cxC X scope cl NC h3.objs.size fp {s2 with heap:=h3,toks:=s2.toks} (upd H2 D (.lst []))) [] H' b:=λhn b hb =>
  ⟨hn b hb,afc (hlt b hb),λz=>(aff.mp (I3.qK b z)).elim (hf b hb).2.1 (hf b hb).2.2.1,.inl hb,λy a q=>(hf b hb).2.2.2.2.1 y a (c.sub _ _ q),λp hp=>(by cases hp)⟩
 have st1:tn 0 h₁:=T.keep 0 _ _ st2 λb hb o e=>kp b o (by rw[←hH];exact ae0 _ e);have loop:∀ s4:Shared,s4={s2 with heap:=h₁,toks:=s2.toks+([]:List (Str×Value)).length} →
   codeAny (model X.prog X.w) X.A (.compLoop (.ListComp elt [⟨.Name x px,iter,[ct],0⟩] scope pos) 0 (.ref it) (.ref D) (compEnvC scope cl h3.objs.size X.env)) (compPost (model X.prog X.w) X.A X.xe (some (assign (.Name y py) X.env)) (λ_ s'=>SP X pins D0 .next s') (.ref D) h3.objs.size) s4:=by
  rintro s4 rfl;refine pK (λn s'=>∃ i ys H' v0,Inv (cxC X scope cl NC h3.objs.size fp {s2 with heap:=h3,toks:=s2.toks} (upd H2 D (.lst []))) [] (v0::lY σ idx) H' s'∧tn i s'.heap∧(∀ b∈fp,H' b=none)∧W i n ys H')
   ?_ m0 ⟨0,[],_,none,I4,st1,λb hb=>(hf b hb).1,w0⟩
  rintro n s5 ⟨i5,ys,H5,v0,I5,st5,fr5,w5⟩;obtain⟨hDl,alt⟩:=turn i5 n ys H5 w5;rcases alt with⟨stop,qn⟩|⟨go,hz,N,hN',step⟩
  ·refine thn (T.done (cxC X scope cl NC h3.objs.size fp {s2 with heap:=h3,toks:=s2.toks} (upd H2 D (.lst []))) rfl rfl rfl hc i5 [] s5 _ H5 _ I5 (sN fr5) st5 stop) λr s6 ⟨hr,I6⟩=>?_
   subst hr;obtain⟨m,ns6,_⟩:=id I6.loc;have J6:Inv X pins σ H5 s6:=I3.Ho (ch:=fp) I6.os I6.base I6.hok I6.bare λb hb=>⟨(hf b hb).2.2.2.1,(hf b hb).2.1,(hf b hb).2.2.2.2.1,(hf b hb).2.2.2.2.2⟩;have fC:uA X pins H5 h3.objs.size:=I3.PH (ae1 _) I6.free;obtain⟨o,es,ep,ho,rr⟩:=ns6;have od:∀ v,o.data≠.cell v:=λv z=>by
    rw[rr.1]at z;cases z
   show wpAny _ _ (assign (.Name y py) X.env (.ref D)) (λ_ s''=>∃ m,s''.heap.Ns h3.objs.size m∧∀ h',Heap.SameBut h3.objs.size s''.heap h'→SP X pins D0 .next {s'' with heap:=h'}) X.xe s6;have J7:=J6.pinned (fp:=[h3.objs.size]) (λb hb=>by rw[aeX.mp hb];exact fC) (λb hb=>by rw[aeX.mp hb];exact⟨o,ho,od⟩);refine wpAny_mono (eh (pos:=py) hN hi' (.inl hx) (.inr hx) _ s6 _ H5 (.ref D) (.ref D) D0.nx J7 rfl qn) (λ_ s7 ⟨σ7,H7,I7,q7⟩=>?_) (λ_ _ z=>z);have pC:=I7.pin (h3.objs.size,o) (aeZ _ (aeZ _ (dN (aeX.mpr rfl) ho)));refine⟨m,⟨o,es,ep,pC.1,rr⟩,λh' hs'=>⟨σ7,H7,?_,q7⟩⟩;exact I7.jD.turned (t':=s7.toks) (it:=h3.objs.size) (λb o hb e=>hs'.extBut b o hb e) pC.2.1 fC.2.1 fC.2.2.2.1 fC.2.2.2.2.1 fC.2.2.2.2.2
  ·refine thn (T.item (cxC X scope cl NC h3.objs.size fp {s2 with heap:=h3,toks:=s2.toks} (upd H2 D (.lst []))) rfl rfl rfl hc i5 [] s5 _ H5 _ I5 (sN fr5) st5 go) λr s6 ⟨u,hr,h6⟩=>?_
   subst hr;refine thn h6 λ_ s7 ⟨y,H7,I7,r7,y7,st7,fr7⟩=>?_;have I7':=I7.pinned (sN fr7) (T.obj _ _ st7);have hnl:(relabel scope X.env).names.lookup x=some .local:=lookup_relabel_local c.xl;refine wpAny_mono (eh (X:=cxC X scope cl NC h3.objs.size fp {s2 with heap:=h3,toks:=s2.toks} (upd H2 D (.lst []))) (i:=0) (x:=x) (pos:=px) c.nd (by show NC[0]?=some x;rw[c.nc];rfl) (.inl hnl) (.inr hnl) _ s7 _ H7 y u
    (λσ' H'=>σ'=some y::lY σ idx∧H'=H7) I7' r7 ⟨rfl,rfl⟩) (λ_ s8 ⟨σ8,H8,I8,e8,e8'⟩=>?_) λ_ _ z=>z.elim
   subst e8 e8';refine wpAny_mono (ht _ _ _ _ _ s8 _ H8 _ I8 (step y H8 y7)) (λbb s11 ⟨H11,I11,q11⟩=>?_) λ_ _ z=>z.elim;have fin:∀ {H12:Hp} {s12:Shared} {zs:List V} {m':Nat},Inv (cxC X scope cl NC h3.objs.size fp {s2 with heap:=h3,toks:=s2.toks} (upd H2 D (.lst []))) ([]++Bc fp s7.heap) (some y::lY σ idx) H12 s12→m'<n→W (i5+1) m' zs H12 →
     ∃ m,m<n∧∃ i ys H' v0,Inv (cxC X scope cl NC h3.objs.size fp {s2 with heap:=h3,toks:=s2.toks} (upd H2 D (.lst []))) [] (v0::lY σ idx) H' s12∧tn i s12.heap∧(∀ b∈fp,H' b=none)∧W i m ys H':=λ{H12 s12 zs m'} I12 hm w12=>by
    refine⟨m',hm,i5+1,zs,_,some y,I12.jD,T.keep _ _ _ st7 λb hb o e=>(I12.pin (b,o) (aeZ _ (aeZ _ (dN hb e)))).1,λb hb=>?_,w12⟩;obtain⟨o,e,d⟩:=T.obj _ _ st7 b hb;exact(I12.pin (b,o) (aeZ _ (aeZ _ (dN hb e)))).2.1
   cases bb with
   | false =>
    obtain⟨m',hm,w9⟩:=hN' _ _ q11;exact fin I11 hm w9
   | true =>
    refine wpAny_mono (he _ _ _ _ _ s11 _ H11 _ I11 q11) (λw s9 ⟨v,H9,I9,r9,hD9,n9⟩=>?_) λ_ _ z=>z.elim;obtain⟨m',hm,w9⟩:=hN' _ _ n9;refine wpAny_mono (uC (X:=(cxC X scope cl NC h3.objs.size fp {s2 with heap:=h3,toks:=s2.toks} (upd H2 D (.lst [])))) I9 hD9 hz r9) (λ_ s10 I10=>?_) λ_ _ z=>z.elim;exact fin I10 hm w9
 exact codeAny_compStart_list (loop _ rfl) (T.self _ 0 _ _ _ st1 (loop _ rfl))
def JG(J:It)(D:Addr)(τ:St)(tc:TT)(te:TE)(Q:VK)(H:Hp):Prop:=∃ W:Nat→Nat→List V→Hp→Prop,(∃ m,W 0 m [] H)∧∀ i m ys H2,W i m ys H2→H2 D=some (.lst ys) ∧
 ((J.stop i H2∧Q (.ref D) H2)∨(J.go i H2∧ys.length<sizeLine∧∃ N:List V→Hp→Prop,(∀ zs H',N zs H'→∃ m',m'<m∧W (i+1) m' zs H')∧∀ y H3,J.yld i H2 y H3→tc (some y::τ) H3 λb H4=>if b=true then te (some y::τ) H4 λv H5=>H5 D=some (.lst ys)∧N (ys++[v]) (upd H5 D (.lst (ys++[v])))
  else N ys H4))
def Q7(wi:TI)(idx:List Nat)(tc:TT)(te:TE):TE:=λσ H Q=>wi σ H λJ H1=>∀ D,H1 D=none→JG J D (lY σ idx) tc te Q (upd H1 D (.lst []))
theorem Gp{i:Nat}{y:Str}{elt iter ct:Expr}{px py pos JF:Pos}{wi:TI}{tc:TT}{te:TE}(hN:X.N.Nodup)(hi':X.N[i]?=some y)(hx:X.env.scope.names.lookup y=some .local)(c:vN X scope cl x idx NC)(hc:X.calm=true)(hi:PI X (.Name x px) iter wi)
  (ht:∀ C fp s₀ H₀,PT (cxC X scope cl NC C fp s₀ H₀) ct tc) (he:∀ C fp s₀ H₀,PE (cxC X scope cl NC C fp s₀ H₀) elt te) (hsw:swapsWith (.ListComp elt [⟨.Name x px,iter,[ct],0⟩] scope pos) (some (.Name y py)) JF.line X.env=pure true:=by rfl)
  (hs:∀ x,foldedSetIterable iter X.env x=pure x:=by intro _;rfl):PS X (.Assign [.Name y py] (.ListComp elt [⟨.Name x px,iter,[ct],0⟩] scope pos) JF) (NP (Q7 wi idx tc te) (kU i)) :=
 Qq hN hi' hx c hc hi ht he hsw hs
theorem LM{elt iter ct:Expr}{px pos:Pos}{wi:TI}{tc:TT}{te:TE}(c:vN X scope cl x idx NC)(hc:X.calm=true)(hi:PI X (.Name x px) iter wi)(ht:∀ C fp s₀ H₀,PT (cxC X scope cl NC C fp s₀ H₀) ct tc)(he:∀ C fp s₀ H₀,PE (cxC X scope cl NC C fp s₀ H₀) elt te)
  (hs:∀ x,foldedSetIterable iter X.env x=pure x:=by intro _;rfl):PE X (.ListComp elt [⟨.Name x px,iter,[ct],0⟩] scope pos) (Q7 wi idx tc te) :=
 Qp c hc hi ht he hs
end
theorem rA{K:W.Frag}{a:Addr}{xs:List V}{tc:TT}{te:TE}{Q:VK}{D:Addr}{τ:St}{H:Hp}(Pv:Nat→List V→Hp→Prop)(h0:Pv 0 [] H)(hD:∀ i ys H,i≤xs.length→Pv i ys H→H D=some (.lst ys)∧ys.length≤i)(hl:∀ i ys H,i≤xs.length→Pv i ys H→SqL K H a xs)(hn:xs.length≤sizeLine)
  (hs:∀ i x ys H,xs[i]?=some x→Pv i ys H→tc (some x::τ) H λb H4=>if b=true then te (some x::τ) H4 λv H5=>H5 D=some (.lst ys)∧Pv (i+1) (ys++[v]) (upd H5 D (.lst (ys++[v]))) else Pv (i+1) ys H4)
  (hd:∀ ys H,Pv xs.length ys H→Q (.ref D) H):JG (Itl K a) D τ tc te Q H:=by
 refine⟨λi m ys H=>m=xs.length-i∧i≤xs.length∧Pv i ys H,⟨xs.length,by simp,afw _,h0⟩,?_⟩;rintro i m ys H2 ⟨rfl,hi,p⟩;obtain⟨d1,d2⟩:=hD i ys H2 hi p;refine⟨d1,?_⟩;have hS:=hl i ys H2 hi p;by_cases hlt:i<xs.length
 ·refine .inr ⟨⟨xs,xs[i],hS,aeW hlt⟩,by omega,Pv (i+1),λzs H' p'=>⟨xs.length-(i+1),by omega,rfl,hlt,p'⟩,λy H3 q=>?_⟩
  obtain⟨e1,e2⟩:=q;subst e1;exact hs i y ys _ (e2 xs (hl i ys _ hi p)) p
 ·have e:i=xs.length:=by omega
  subst e;exact .inl ⟨⟨xs,hS,ae1 _⟩,hd ys H2 p⟩
end L2
end
section
namespace L2
open PySem PySem.Spec PyProof.Rows LX
section
variable{P:Program}{w:World}{A:Around}{E:Value→Shared→Prop}{s:Shared}{a:Addr}{S:Int→Bool}{n:Nat}
end
end L2
end
section
namespace L2
open PySem PySem.Spec PyProof.Rows LX
section
variable{P:Program}{w:World}{A:Around}{R:Result→Shared→Prop}{I:Addr}{fp wr:List Addr}{G:Array GenState→Array GenState→Prop}{n:Nat}{p:Nat→Value→Prop}{St:Nat→Shared→Prop}
end
section
variable{P:Program}{w:World}{A:Around}{E:Value→Shared→Prop}{s:Shared}
end
section
variable{P:Program}{w:World}{A:Around}{E:Value→Shared→Prop}{s:Shared}{it a:Addr}{first:Value}{i n ep:Nat}
end
section
variable{P:Program}{w:World}{A:Around}{E:Value→Shared→Prop}{s:Shared}{it a:Addr}{first:Value}{i n ep:Nat}{es:Array (Int×Value)}{t:SetTable}
end
section
variable{P:Program}{w:World}{A:Around}{E:Value→Shared→Prop}{s:Shared}{I a:Addr}{ep:Nat}{es:Array (Int×Value)}{t:SetTable}{sl:Nat→Nat}{vs:List Value}
end
end L2
end
section
namespace L2
open PySem PySem.Spec PyProof.Rows LX PySem.W
section
variable{P:Program}{w:World}{A:Around}{E:Value→Shared→Prop}{s:Shared}{a:Addr}{ep:Nat}{es:Array (Int×Value)}{t:SetTable}
end
section
variable{P:Program}{w:World}{A:Around}{E:Value→Shared→Prop}{s:Shared}{a:Addr}{ep:Nat}{es:Array (Int×Value)}{t:SetTable}
end
section
variable{X:Cx}
end
end L2
end
section
namespace L2
open PySem PySem.Spec PyProof.Rows LX
section
variable{X:Cx}{pins:List (Addr×Obj)}{σ:St}{H:Hp}{s:Shared}{d:Addr}{kvs:List (Key×V)}
theorem Inv.frozen(I:Inv X pins σ H s)(hd:H d=some (.dK kvs)):∃ o,Inv X pins σ (upd H d (.frz o (.dK kvs))) s:=by
 obtain⟨hz,h0,vs,rel,o,es,ep,ho,r⟩:=RC I.hok hd;have nn:∀ {b:Addr},H b=none→upd H d (.frz o (.dK kvs)) b=none:=λ{b} q=>by
  rw[af λz=>by rw[z,hd]at q;cases q];exact q
 have ns:∀ {b:Addr} {u:HO},H b=some u→u≠.dK kvs→upd H d (.frz o (.dK kvs)) b=some u:=λ{b u} q n=>by
  rw[af λz=>n (by rw[z,hd]at q;exact(afo q).symm)];exact q
 refine⟨o,I.ok,I.os,I.bare,⟨I.base.keep,I.base.slot,λb ob q n e=>nn (I.base.free b ob q n e),I.base.there,λb xs q=>ns (I.base.AW b xs q) (by intro z;cases z),λb ob u q=>ns (I.base.ER b ob u q) (by intro z;cases z),λb ps q=>?_⟩,I.loc,I.cell,nn I.free,λx c q=>nn (I.lK x c q),λp hp=>?_,λa u q=>?_,I.len⟩
 ·obtain⟨more,q'⟩:=I.base.FC b ps q
  exact⟨more,ns q' (by intro z;cases z)⟩
 ·obtain⟨p1,p2,p3⟩:=I.pin p hp
  exact⟨p1,nn p2,p3⟩
 ·have st:∀ {a:Addr} {u:HO},hJ X.prog X.w H s.heap a u→hJ X.prog X.w (upd H d (.frz o (.dK kvs))) s.heap a u:=λx=>x.Jv (λ_ _ _ z=>z) (λb z=>ns z (by intro y;cases y)) λb xs z=>ns z (by intro y;cases y)
  by_cases e:a=d
  ·subst e
   rw[ah]at q;cases q;exact⟨ho,st (I.hok a _ hd)⟩
  ·rw[af e]at q
   exact st (I.hok a u q)
def aen(te:TE):TE:=λσ H Q=>te σ H λv H1=>∃ d kvs,H1 d=some (.dK kvs)∧∀ o,Q v (upd H1 d (.frz o (.dK kvs)))
theorem EO{e:Expr}{te:TE}(h:PE X e te):PE X e (aen te):=by
 intro pins s σ H Q I t;refine wpAny_mono (h pins s σ H _ I t) (λu s1 ⟨v,H1,I1,r,q⟩=>?_) λ_ _ z=>z;obtain⟨d,kvs,hd,q⟩:=q;obtain⟨o,I2⟩:=I1.frozen hd;exact⟨v,_,I2,r,q o⟩
def Itd(d:Addr)(o:Obj)(kvs:List (Key×V)):It :=
 ⟨λi H=>H d=some (.frz o (.dK kvs))∧i<kvs.length,λi H x H'=>H'=H∧∃ p,kvs[i]?=some p∧x=kV p.1,λi H=>H d=some (.frz o (.dK kvs))∧kvs.length≤i⟩
theorem YR{P:Program}{w:World}{k:Key}{u:Value}(h:(cR P w).is k u=true):RelV (kV k) u:=by
 have h4:rq k u=true:=h;rcases cp h4 with⟨i,t,e1,e2⟩|⟨y,t,e1,e2⟩
 ·subst e1 e2
  exact⟨t,rfl⟩
 ·subst e1 e2
  exact⟨t,rfl⟩
theorem ND{o:Obj}(I:Inv X pins σ H s)(hd:H d=some (.frz o (.dK kvs))){es:Array DictEntry}{ep:Nat}(eo:o.data=.dict es ep):kvs.length≤sizeLine∧(d == sysModules)=false∧∃ vs,KV kvs vs∧s.heap.DictAt (cR X.prog X.w) d vs ep:=by
 obtain⟨ho,hz,h0,vs,rel,o',es',ep',ho',c1,c2,c3⟩:=(show hJ X.prog X.w H s.heap d (.frz o (.dK kvs)) from I.hok d _ hd);have e:o'=o:=afo (ho'.symm.trans ho);subst e;rw[eo]at c2;injection c2 with e1 e2;subst e1 e2;exact⟨hz,h0,vs,rel,o',es,ho',c1,eo,c3⟩
theorem Qr{o:Obj}(I:Inv X pins σ H s)(hd:H d=some (.frz o (.dK kvs))):∃ es ep,o.data=.dict es ep:=by
 obtain⟨ho,hz,h0,vs,rel,o',es',ep',ho',c1,c2,c3⟩:=(show hJ X.prog X.w H s.heap d (.frz o (.dK kvs)) from I.hok d _ hd);have e:o'=o:=afo (ho'.symm.trans ho);subst e;exact⟨es',ep',c2⟩
theorem Q8:∀ {kvs:List (Key×V)} {vs:List (Key×Value)},KV kvs vs→∀ {i:Nat} {p:Key×V},kvs[i]?=some p→∃ x,vs[i]?=some (p.1,x)
 | _,_,.nil,_,_,h=>by simp at h
 | (k,v)::_,(k',x)::_,.cons a r,0,p,h=>by
  have h1:(k,v)=p:=by simpa using h
  subst h1;obtain⟨e,_⟩:=a;have e':k=k':=e;subst e';exact⟨x,rfl⟩
 | _::_,_::_,.cons _ r,i+1,p,h=>by
  have:=Q8 r (i:=i) (p:=p) (by simpa using h)
  simpa using this
theorem OY{P:Program}{w:World}{K:W.Frag}{tg:Expr}(d it:Addr)(o:Obj)(kvs:List (Key×V))(ne:d≠it):Turn P w K tg (Itd d o kvs) [it] it (λi h=>∃ es ep,o.data=.dict es ep∧h.IsKeyIter it d i kvs.length ep) where
 mem:=by simp
 obj:=λi h st b hb=>by
  have e:b=it:=by simpa using hb
  subst e;obtain⟨es,ep,_,o,e,c,d⟩:=st;exact⟨o,e,λv z=>by rw[d]at z;cases z⟩
 keep:=λi h h' ⟨es,ep,eo,st⟩ k=>⟨es,ep,eo,st.at λo e=>k it (by simp) o e⟩
 item:=by
  rintro X hP hw hK hc i pins s σ H E I hf ⟨es,ep,eo,st⟩ ⟨hd,hi⟩;subst hP hw hK;obtain⟨hz,h0,vs,rel,hat⟩:=ND I hd eo;have hl:=rel.length;obtain⟨x,hx⟩:=Q8 rel (aeW hi);obtain⟨f0,f1,f2,f3,f4,f5⟩:=hf it (by simp);rw[hl]at st;refine wpAny_pyNext_dict_item st hat hx λkey h' hk st' sb=>?_;have I1:Inv X pins σ H {s with heap:=h'}:=I.turned (t':=s.toks) (λb o hb e=>(sb.2 b hb).trans e) f0 f1 f3 f4 f5;exact⟨key,rfl,letGo_keyiter (s':={s with heap:=h'}) st' ⟨kV (kvs[i]'hi).1,H,I1,YR hk,⟨rfl,_,aeW hi,rfl⟩,⟨es,ep,eo,by rw[hl];exact st'⟩,λb hb=>(hf b hb).1⟩⟩
 done:=by
  rintro X hP hw hK hc i pins s σ H E I hf ⟨es,ep,eo,st⟩ ⟨hd,hi⟩;subst hP hw hK;obtain⟨hz,h0,vs,rel,hat⟩:=ND I hd eo;have hl:=rel.length;obtain⟨f0,f1,f2,f3,f4,f5⟩:=hf it (by simp);rw[hl]at st;exact wpAny_pyNext_dict_end (I.ok.hd hc) st hat (List.getElem?_eq_none (by omega)) λh' eb=>⟨rfl,I.turned (t':=s.toks) (λb o hb e=>eb b o hb e) f0 f1 f3 f4 f5⟩
 self:=λ_ _ _ _ _ ⟨_,_,_,st⟩ h=>wpAny_pyIter_keyiter st h
def acd(td:TE):TI:=λσ H R=>td σ H λx H1=>∃ d o kvs,x=.ref d∧H1 d=some (.frz o (.dK kvs))∧R (Itd d o kvs) H1
theorem vO{tg l:Expr}{tl:TE}(hl:PE X l tl):PI X tg l (acd tl):=by
 intro pins s σ H R I h;refine thn (hl pins s σ H _ I h) λv s1 ⟨x,H1,I1,r1,q1⟩=>?_;obtain⟨d,o,kvs,e,hd,q⟩:=q1;subst e;cases r1;obtain⟨es,ep,eo⟩:=Qr I1 hd;obtain⟨hz,h0,vs,rel,hat⟩:=ND I1 hd eo;have hl:=rel.length;refine wpAny_pyIter_dict h0 hat ?_;rw[←hl];refine⟨s1.heap.objs.size,[s1.heap.objs.size],_,_,H1,rfl,I1.kept (t':=s1.toks) λb o e=>ae0 _ e,OY d _ o kvs (afc hat.lt_size),⟨es,ep,eo,_,aft _ rfl,rfl,rfl⟩,λb hb=>?_,q⟩;have e:b=s1.heap.objs.size:=by simpa using hb
 subst e;exact I1.PH (ae1 _) (I1.hok.fresh (ae1 _))
end
theorem Bl{d:Addr}{o:Obj}{kvs:List (Key×V)}{g:TG}{tb:TS}{D:Ends}{σ:St}{H:Hp}(Pv:Nat→St→Hp→Prop)(h0:Pv 0 σ H)(hl:∀ i σ H,i≤kvs.length→Pv i σ H→H d=some (.frz o (.dK kvs)))
  (hs:∀ i p σ H,kvs[i]?=some p→Pv i σ H→g (kV p.1) σ H λσ2 H2=>tb {D with nx:=Pv (i+1),ct:=Pv (i+1),bk:=D.nx} σ2 H2) (hd:∀ σ H,Pv kvs.length σ H→D.nx σ H) :
  ∃ W:Nat→Nat→St→Hp→Prop,(∃ m,W 0 m σ H)∧∀ i m σ H,W i m σ H →
   ((Itd d o kvs).stop i H∧D.nx σ H)∨((Itd d o kvs).go i H∧∃ N:St→Hp→Prop,(∀ σ' H',N σ' H'→∃ m',m'<m∧W (i+1) m' σ' H')∧∀ x H',(Itd d o kvs).yld i H x H'→g x σ H' λσ2 H2=>tb {D with nx:=N,ct:=N,bk:=D.nx} σ2 H2):=by
 refine⟨λi m σ H=>m=kvs.length-i∧i≤kvs.length∧Pv i σ H,⟨kvs.length,by simp,afw _,h0⟩,?_⟩;rintro i m σ H ⟨rfl,hi,p⟩;by_cases hlt:i<kvs.length
 ·refine .inr ⟨⟨hl i σ H hi p,hlt⟩,Pv (i+1),λσ' H' p'=>⟨kvs.length-(i+1),by omega,rfl,hlt,p'⟩,λx H' y=>?_⟩
  obtain⟨e1,q,e2,e3⟩:=y;subst e1 e3;exact hs i q σ _ e2 p
 ·have e:i=kvs.length:=by omega
  subst e;exact .inl ⟨⟨hl _ σ H hi p,ae1 _⟩,hd σ H p⟩
section
variable{X:Cx}
end
section
variable{X:Cx}{pins:List (Addr×Obj)}{σ:St}{H:Hp}{s:Shared}
end
section
variable{X:Cx}
end
section
variable{X:Cx}
def YS:List V→Hp→VK→Prop:=λvs H Q=>∃(p:Addr) (kvs:List (Key×V)) (ks:List Int),vs=[.ref p]∧Rd H p (.dK kvs)∧kvs.map (·.1)=ks.map Sum.inl∧∀ l:Addr,H l=none→Q (.ref l) (upd H l (.lst (ks.map V.int)))
theorem FR(hc:X.calm=true):vF X (.type "list") YS:=by
 rintro pins s σ H xs us Q I r ⟨p,kvs,ks,rfl,hp,hk,q⟩;obtain⟨u,rfl,ru⟩:=r.one;cases (show u=Value.ref p from ru);obtain⟨hz,hd,vs,rel,dd⟩:=x8 I.hok hp;obtain⟨ep,hat⟩:=dd.dictAt;have hl:ks.length=kvs.length:=by
  have:=congrArg List.length hk
  simpa using this.symm
 refine PySem.W.kdl_call (PySem.W.kdl_dict (knd:=cR X.prog X.w) (kvs:=vs) (ep:=ep) hd) (I.ok.hd hc) hat (by rw[←rel.length];exact hz) λh' tk acc c hkp hS hacc=>?_;have hI:IntsAre acc.toList ks:=HP (by rw[←rel.keys];exact hk) hacc.1 hacc.2;refine⟨.ref s.heap.objs.size,_,I.laid (a:=s.heap.objs.size) (o:=.lst (ks.map V.int)) (t':=tk) hkp (ae1 _) ?_,rfl,q _ (I.hok.fresh (ae1 _))⟩;refine⟨by rw[aeV,hl];exact hz,acc.toList,c,oh hI,?_⟩;rw[hS]
end
section
variable{X:Cx}
end
theorem MA{d:Addr}{o:Obj}{kvs:List (Key×V)}{tc:TT}{te:TE}{Q:VK}{D:Addr}{τ:St}{H:Hp}(Pv:Nat→List V→Hp→Prop)(h0:Pv 0 [] H)(hD:∀ i ys H,i≤kvs.length→Pv i ys H→H D=some (.lst ys)∧ys.length≤i)(hl:∀ i ys H,i≤kvs.length→Pv i ys H→H d=some (.frz o (.dK kvs)))(hn:kvs.length≤sizeLine)
  (hs:∀ i p ys H,kvs[i]?=some p→Pv i ys H→tc (some (kV p.1)::τ) H λb H4=>if b=true then te (some (kV p.1)::τ) H4 λv H5=>H5 D=some (.lst ys)∧Pv (i+1) (ys++[v]) (upd H5 D (.lst (ys++[v]))) else Pv (i+1) ys H4)
  (hd:∀ ys H,Pv kvs.length ys H→Q (.ref D) H):JG (Itd d o kvs) D τ tc te Q H:=by
 refine⟨λi m ys H=>m=kvs.length-i∧i≤kvs.length∧Pv i ys H,⟨kvs.length,by simp,afw _,h0⟩,?_⟩;rintro i m ys H2 ⟨rfl,hi,p⟩;obtain⟨d1,d2⟩:=hD i ys H2 hi p;refine⟨d1,?_⟩;have hS:=hl i ys H2 hi p;by_cases hlt:i<kvs.length
 ·refine .inr ⟨⟨hS,hlt⟩,by omega,Pv (i+1),λzs H' p'=>⟨kvs.length-(i+1),by omega,rfl,hlt,p'⟩,λy H3 q=>?_⟩
  obtain⟨e1,q',e2,e3⟩:=q;subst e1 e3;exact hs i q' ys _ e2 p
 ·have e:i=kvs.length:=by omega
  subst e;exact .inl ⟨⟨hS,ae1 _⟩,hd ys H2 p⟩
section
variable{P:Program}{w:World}{A:Around}{E:Value→Shared→Prop}
end
section
variable{P:Program}{w:World}{A:Around}{R:Result→Shared→Prop}{KK:Type}[DecidableEq KK]{knd:KeyKind P w KK}
end
section
variable{P:Program}{w:World}{A:Around}{E:Value→Shared→Prop}{KK:Type}[DecidableEq KK]{knd:KeyKind P w KK}
end
section
variable{P:Program}{w:World}{A:Around}{E:Value→Shared→Prop}
end
section
variable{X:Cx}
end
section
variable{X:Cx}
end
inductive Vl where
 | a (v:V)
 | l (xs:List Vl)
 | t (xs:List Vl)
def Rp(H:Hp):Nat→V→Vl→Prop
 | 0,v,.a x=>v=x∧mF x=true
 | 0,_,.l _=>False
 | 0,_,.t _=>False
 | _+1,v,.a x=>v=x∧mF x=true
 | n+1,v,.l xs=>∃ p us,v=.ref p∧H p=some (.lst us)∧us.length=xs.length∧∀(i:Nat) (u:V) (x:Vl),us[i]?=some u→xs[i]?=some x→Rp H n u x
 | n+1,v,.t xs=>∃ p us,v=.ref p∧H p=some (.tup us)∧us.length=xs.length∧∀(i:Nat) (u:V) (x:Vl),us[i]?=some u→xs[i]?=some x→Rp H n u x
def eqD:Nat→Vl→Vl→Bool
 | _,.a x,.a y=>eqV x y
 | n+1,.l xs,.l ys=>(List.range xs.length).all (λi=>match xs[i]?,ys[i]? with|some x,some y=>eqD n x y|_,_=>true)&&xs.length == ys.length
 | n+1,.t xs,.t ys=>(List.range xs.length).all (λi=>match xs[i]?,ys[i]? with|some x,some y=>eqD n x y|_,_=>true)&&xs.length == ys.length
 | _,_,_=>false
theorem Rp.flat{H:Hp}{n:Nat}{x:V}(h:mF x=true):Rp H n x (.a x):=by cases n<;>exact⟨rfl,h⟩
theorem Rp.yc{H:Hp}{n:Nat}{v x:V}(h:Rp H n v (.a x)):v=x∧mF x=true:=by cases n<;>exact h
theorem Rp.keep{H H':Hp}:∀ {n:Nat} {v:V} {a:Vl},Rp H n v a→(∀ b u,H b=some (.lst u)→H' b=some (.lst u))→(∀ b u,H b=some (.tup u)→H' b=some (.tup u))→Rp H' n v a
 | 0,_,.a _,h,_,_=>h
 | 0,_,.l _,h,_,_=>h.elim
 | 0,_,.t _,h,_,_=>h.elim
 | _+1,_,.a _,h,_,_=>h
 | n+1,_,.l xs,⟨p,us,e,hp,hl,hi⟩,k1,k2=>⟨p,us,e,k1 _ _ hp,hl,λi u x h1 h2=>(hi i u x h1 h2).keep k1 k2⟩
 | n+1,_,.t xs,⟨p,us,e,hp,hl,hi⟩,k1,k2=>⟨p,us,e,k2 _ _ hp,hl,λi u x h1 h2=>(hi i u x h1 h2).keep k1 k2⟩
theorem Rp.same{H H':Hp}{n:Nat}{v:V}{a:Vl}(h:Rp H n v a)(s:aC H H'):Rp H' n v a:=h.keep (λ_ _ q=>s _ _ q) λ_ _ q=>s _ _ q
theorem Rp.up{H:Hp}:∀ {n:Nat} {v:V} {a:Vl},Rp H n v a→Rp H (n+1) v a
 | 0,_,.a _,h=>h
 | 0,_,.l _,h=>h.elim
 | 0,_,.t _,h=>h.elim
 | _+1,_,.a _,h=>h
 | n+1,_,.l xs,⟨p,us,e,hp,hl,hi⟩=>⟨p,us,e,hp,hl,λi u x h1 h2=>(hi i u x h1 h2).up⟩
 | n+1,_,.t xs,⟨p,us,e,hp,hl,hi⟩=>⟨p,us,e,hp,hl,λi u x h1 h2=>(hi i u x h1 h2).up⟩
theorem JX{n:Nat}{x y:V}:eqD n (.a x) (.a y)=eqV x y:=by cases n<;>rfl
theorem Q9{H:Hp}{n:Nat}{us:List V}{xs ys:List Vl}(lx:us.length=xs.length)(ly:us.length=ys.length)(h:∀(i:Nat) (x y:Vl),xs[i]?=some x→ys[i]?=some y→eqD n x y=true) :
  ((List.range xs.length).all (λi=>match xs[i]?,ys[i]? with|some x,some y=>eqD n x y|_,_=>true)&&xs.length == ys.length)=true:=by
 rw[agj];refine⟨List.all_eq_true.mpr λi hi=>?_,beq_iff_eq.mpr (by omega)⟩;have hi:=List.mem_range.mp hi;have e1:xs[i]?=some xs[i]:=aeW hi;have e2:ys[i]?=some (ys[i]'(by omega)):=aeW (by omega);simp only[e1,e2];exact h i _ _ e1 e2
theorem Bm{H:Hp}:∀ {n:Nat} {v:V} {a b:Vl},Rp H n v a→Rp H n v b→eqD n a b=true:=by
 intro n;induction n with
 | zero =>
  intro v a b ha hb;cases a with
  | a x =>
   cases b with
   | a y =>
    obtain⟨rfl,fx⟩:=ha.yc;obtain⟨rfl,_⟩:=hb.yc;rw[JX];exact Q5 fx
   | l ys=>exact hb.elim
   | t ys=>exact hb.elim
  | l xs=>exact ha.elim
  | t xs=>exact ha.elim
 | succ n ih =>
  intro v a b ha hb;cases a with
  | a x =>
   obtain⟨rfl,fx⟩:=ha.yc;cases b with
   | a y =>
    obtain⟨rfl,_⟩:=hb.yc;rw[JX];exact Q5 fx
   | l ys =>
    obtain⟨p,us,rfl,_⟩:=hb;exact absurd (show false=true from fx) ae2
   | t ys =>
    obtain⟨p,us,rfl,_⟩:=hb;exact absurd (show false=true from fx) ae2
  | l xs =>
   obtain⟨p,us,rfl,hp,hl,hi⟩:=ha;cases b with
   | a y =>
    obtain⟨e,fy⟩:=hb.yc;rw[←e]at fy;exact absurd (show false=true from fy) ae2
   | l ys =>
    obtain⟨q,ws,e,hq,ml,mi⟩:=hb;cases e;rw[hp]at hq;cases hq;exact Q9 (H:=H) hl ml λi x y e1 e2=>by
     have hiu:i<us.length:=(by rw[hl];exact(aeY.mp e1).1);exact ih (hi i _ x (aeW hiu) e1) (mi i _ y (aeW hiu) e2)
   | t ys =>
    obtain⟨q,ws,e,hq,ml,mi⟩:=hb;cases e;rw[hp]at hq;cases hq
  | t xs =>
   obtain⟨p,us,rfl,hp,hl,hi⟩:=ha;cases b with
   | a y =>
    obtain⟨e,fy⟩:=hb.yc;rw[←e]at fy;exact absurd (show false=true from fy) ae2
   | t ys =>
    obtain⟨q,ws,e,hq,ml,mi⟩:=hb;cases e;rw[hp]at hq;cases hq;exact Q9 (H:=H) hl ml λi x y e1 e2=>by
     have hiu:i<us.length:=(by rw[hl];exact(aeY.mp e1).1);exact ih (hi i _ x (aeW hiu) e1) (mi i _ y (aeW hiu) e2)
   | l ys =>
    obtain⟨q,ws,e,hq,ml,mi⟩:=hb;cases e;rw[hp]at hq;cases hq
structure RcB(A:Around)(s:Shared)(u v:Value)(b:Bool):Prop where
 eq:SeqAt.RcAt A s u v b
 ne:SeqAt.RcNeAt A s u v (!b)
theorem HR{A:Around}{s:Shared}{y x:V}{u v:Value}(ry:RelV y u)(rx:RelV x v)(fy:mF y=true)(fx:mF x=true):RcB A s u v (eqV y x):=by
 cases y with
 | non =>
  cases ry;cases x with
  | non=>cases rx;exact⟨.none_none ,.none_none ⟩
  | bl b=>cases rx;exact⟨.none_bool b,.none_bool b⟩
  | int b=>obtain⟨t,rfl⟩:=rx;exact⟨.none_int b t,.none_int b t⟩
  | str b=>obtain⟨t,rfl⟩:=rx;exact⟨.none_str b t,.none_str b t⟩
  | _=>exact absurd (show false=true from fx) ae2
 | bl a =>
  cases ry;cases x with
  | non=>cases rx;exact⟨.bool_none a,.bool_none a⟩
  | bl b=>cases rx;exact⟨.bool_bool a b,.bool_bool a b⟩
  | int b=>obtain⟨t,rfl⟩:=rx;exact⟨.bool_int a b t,.bool_int a b t⟩
  | str b=>obtain⟨t,rfl⟩:=rx;exact⟨.bool_str a b t,.bool_str a b t⟩
  | _=>exact absurd (show false=true from fx) ae2
 | int a =>
  obtain⟨t',rfl⟩:=ry;cases x with
  | non=>cases rx;exact⟨.int_none a t',.int_none a t'⟩
  | bl b=>cases rx;exact⟨.int_bool a t' b,.int_bool a t' b⟩
  | int b=>obtain⟨t,rfl⟩:=rx;exact⟨.int_int a t' b t,.int_int a t' b t⟩
  | str b=>obtain⟨t,rfl⟩:=rx;exact⟨.int_str a t' b t,.int_str a t' b t⟩
  | _=>exact absurd (show false=true from fx) ae2
 | str a =>
  obtain⟨t',rfl⟩:=ry;cases x with
  | non=>cases rx;exact⟨.str_none a t',.str_none a t'⟩
  | bl b=>cases rx;exact⟨.str_bool a t' b,.str_bool a t' b⟩
  | int b=>obtain⟨t,rfl⟩:=rx;exact⟨.str_int a t' b t,.str_int a t' b t⟩
  | str b=>obtain⟨t,rfl⟩:=rx;exact⟨.str_str a t' b t,.str_str a t' b t⟩
  | _=>exact absurd (show false=true from fx) ae2
 | _=>exact absurd (show false=true from fy) ae2
section
variable{X:Cx}{pins:List (Addr×Obj)}{σ:St}{H:Hp}{s:Shared}
theorem LN{A:Around}{x:V}{u:Value}{l:Addr}{items:Array Value}(rx:RelV x u)(fx:mF x=true)(hl:s.heap.IsList l items)(hu:A.units<cLine):RcB A s u (.ref l) false∧RcB A s (.ref l) u false∧SeqAt.EqAt A s u (.ref l) false∧SeqAt.EqAt A s (.ref l) u false:=by
 cases x with
 | non=>cases rx;exact⟨⟨.none_list hl hu,.none_list hl hu⟩,⟨.list_none hl hu,.list_none hl hu⟩,.none_list hl hu,.list_none hl hu⟩
 | bl b=>cases rx;exact⟨⟨.bool_list _ hl hu,.bool_list _ hl hu⟩,⟨.list_bool _ hl hu,.list_bool _ hl hu⟩,.bool_list _ hl hu,.list_bool _ hl hu⟩
 | int n=>obtain⟨t,rfl⟩:=rx;exact⟨⟨.int_list _ _ hl hu,.int_list _ _ hl hu⟩,⟨.list_int _ _ hl hu,.list_int _ _ hl hu⟩,.int_list _ _ hl hu,.list_int _ _ hl hu⟩
 | str z=>obtain⟨t,rfl⟩:=rx;exact⟨⟨.str_list _ _ hl hu,.str_list _ _ hl hu⟩,⟨.list_str _ _ hl hu,.list_str _ _ hl hu⟩,.str_list _ _ hl hu,.list_str _ _ hl hu⟩
 | _=>exact absurd (show false=true from fx) ae2
theorem LO{A:Around}{x:V}{u:Value}{l:Addr}{items:Array Value}(rx:RelV x u)(fx:mF x=true)(hl:s.heap.IsTuple l items)(hu:A.units<cLine):RcB A s u (.ref l) false∧RcB A s (.ref l) u false∧SeqAt.EqAt A s u (.ref l) false∧SeqAt.EqAt A s (.ref l) u false:=by
 cases x with
 | non=>cases rx;exact⟨⟨.none_tuple hl hu,.none_tuple hl hu⟩,⟨.tuple_none hl hu,.tuple_none hl hu⟩,.none_tuple hl hu,.tuple_none hl hu⟩
 | bl b=>cases rx;exact⟨⟨.bool_tuple _ hl hu,.bool_tuple _ hl hu⟩,⟨.tuple_bool _ hl hu,.tuple_bool _ hl hu⟩,.bool_tuple _ hl hu,.tuple_bool _ hl hu⟩
 | int n=>obtain⟨t,rfl⟩:=rx;exact⟨⟨.int_tuple _ _ hl hu,.int_tuple _ _ hl hu⟩,⟨.tuple_int _ _ hl hu,.tuple_int _ _ hl hu⟩,.int_tuple _ _ hl hu,.tuple_int _ _ hl hu⟩
 | str z=>obtain⟨t,rfl⟩:=rx;exact⟨⟨.str_tuple _ _ hl hu,.str_tuple _ _ hl hu⟩,⟨.tuple_str _ _ hl hu,.tuple_str _ _ hl hu⟩,.str_tuple _ _ hl hu,.tuple_str _ _ hl hu⟩
 | _=>exact absurd (show false=true from fx) ae2
theorem lst_is(I:Inv X pins σ H s){p:Addr}{us:List V}(h:H p=some (.lst us)):∃ vs,Vals us vs∧s.heap.IsList p vs.toArray:=by
 obtain⟨vs,r,⟨o,n,e,c,_,g⟩,_⟩:=I.list (SqL.of h);exact⟨vs,r,o,e,c,n,g⟩
theorem tup_is(I:Inv X pins σ H s){p:Addr}{us:List V}(h:H p=some (.tup us)):∃ vs,Vals us vs∧s.heap.IsTuple p vs.toArray:=by
 obtain⟨vs,r,t,_⟩:=I.tuple (SqT.of h);exact⟨vs,r,t⟩
theorem rcG(I:Inv X pins σ H s):∀ {n:Nat} {x y:V} {a b:Vl},Rp H n x a→Rp H n y b→∀ {A:Around} {u v:Value},RelV x u→RelV y v→A.units+n<cLine →
  SeqAt.EqAt A s u v (eqD n a b)∧(¬((∃ z,a=.a z)∧∃ z,b=.a z)→RcB A s u v (eqD n a b)):=by
 intro n;induction n with
 | zero =>
  intro x y a b ha hb A u v rx ry hu;cases a with
  | a z =>
   cases b with
   | a z' =>
    obtain⟨rfl,fx⟩:=ha.yc;obtain⟨rfl,fy⟩:=hb.yc;rw[JX];exact⟨Nx rx ry fx fy,λh=>(h ⟨⟨_,rfl⟩,_,rfl⟩).elim⟩
   | _=>exact hb.elim
  | _=>exact ha.elim
 | succ n ih =>
  intro x y a b ha hb A u v rx ry hu;have hu0:A.units<cLine:=by omega
  cases a with
  | a z =>
   obtain⟨rfl,fx⟩:=ha.yc;cases b with
   | a z' =>
    obtain⟨rfl,fy⟩:=hb.yc;rw[JX];exact⟨Nx rx ry fx fy,λh=>(h ⟨⟨_,rfl⟩,_,rfl⟩).elim⟩
   | l ys =>
    obtain⟨q,ws,rfl,hq,_⟩:=hb;obtain⟨vs,_,hl⟩:=lst_is I hq;cases ry;obtain⟨h1,_,h3,_⟩:=LN rx fx hl hu0;exact⟨h3,λ_=>h1⟩
   | t ys =>
    obtain⟨q,ws,rfl,hq,_⟩:=hb;obtain⟨vs,_,hl⟩:=tup_is I hq;cases ry;obtain⟨h1,_,h3,_⟩:=LO rx fx hl hu0;exact⟨h3,λ_=>h1⟩
  | l xs =>
   have ha':=ha;obtain⟨p,us,rfl,hp,lx,hx⟩:=ha;obtain⟨vs,r1,hl⟩:=lst_is I hp;cases rx;cases b with
   | a z' =>
    obtain⟨rfl,fy⟩:=hb.yc;obtain⟨_,h2,_,h4⟩:=LN ry fy hl hu0;exact⟨h4,λ_=>h2⟩
   | l ys =>
    have hb':=hb;obtain⟨q,ws,rfl,hq,ly,hy⟩:=hb;obtain⟨vs2,r2,hl2⟩:=lst_is I hq;cases ry;have l1:=r1.length;have l2:=r2.length;have rc:RcB A s (.ref p) (.ref q) (eqD (n+1) (.l xs) (.l ys)):=by
     by_cases hs:xs.length=ys.length
     ·have he:∀ j (h1:j<vs.toArray.size) (h2:j<vs2.toArray.size),SeqAt.EqAt A.in1 s vs.toArray[j] vs2.toArray[j] (match xs[j]?,ys[j]? with|some x,some y=>eqD n x y|_,_=>true):=λj h1 h2=>by
       simp only[ae5]at h1 h2;obtain⟨w1,z1,rz1⟩:=r1.get (i:=j) (x:=us[j]'(by omega)) (aeW (by omega));obtain⟨w2,z2,rz2⟩:=r2.get (i:=j) (x:=ws[j]'(by omega)) (aeW (by omega));have a1:vs.toArray[j]=w1:=by
        have:=(aeY.mp z1).2
        simpa using this
       have a2:vs2.toArray[j]=w2:=by
        have:=(aeY.mp z2).2
        simpa using this
       rw[a1,a2];have e1:xs[j]?=some (xs[j]'(by omega)):=aeW (by omega);have e2:ys[j]?=some (ys[j]'(by omega)):=aeW (by omega);simp only[e1,e2];exact(ih (hx j _ _ (aeW (by omega)) e1) (hy j _ _ (aeW (by omega)) e2) rz1 rz2 (by rw[Around.in1_units];omega)).1
      have e:eqD (n+1) (.l xs) (.l ys)=(List.range vs.toArray.size).all (λi=>match xs[i]?,ys[i]? with|some x,some y=>eqD n x y|_,_=>true):=by
       show(_&&_)=_;rw[beq_iff_eq.mpr hs,Bool.and_true];simp only[ae5];rw[show vs.length=xs.length by omega]
      rw[e];exact⟨.lists hl hl2 (by simp only[ae5];omega) hu0 he,.lists hl hl2 (by simp only[ae5];omega) hu0 he⟩
     ·have e:eqD (n+1) (.l xs) (.l ys)=false:=by
       show(_&&_)=_;rw[beq_eq_false_iff_ne.mpr hs,agv]
      rw[e];exact⟨.lists_lengths hl hl2 (by simp only[ae5,bne_iff_ne,ne_eq];omega) hu0,.lists_lengths hl hl2 (by simp only[ae5,bne_iff_ne,ne_eq];omega) hu0⟩
    refine⟨?_,λ_=>rc⟩;by_cases e:p=q
    ·subst e
     rw[Bm ha' hb'];exact .same _
    ·exact .of_refs e rc.eq
   | t ys =>
    obtain⟨q,ws,rfl,hq,ly,hy⟩:=hb;obtain⟨vs2,r2,hl2⟩:=tup_is I hq;cases ry;have ne:p≠q:=λe=>by rw[e,hq]at hp;cases hp
    exact⟨.of_refs ne (.list_tuple hl hl2 hu0),λ_=>⟨.list_tuple hl hl2 hu0,.list_tuple hl hl2 hu0⟩⟩
  | t xs =>
   have ha':=ha;obtain⟨p,us,rfl,hp,lx,hx⟩:=ha;obtain⟨vs,r1,hl⟩:=tup_is I hp;cases rx;cases b with
   | a z' =>
    obtain⟨rfl,fy⟩:=hb.yc;obtain⟨_,h2,_,h4⟩:=LO ry fy hl hu0;exact⟨h4,λ_=>h2⟩
   | l ys =>
    obtain⟨q,ws,rfl,hq,ly,hy⟩:=hb;obtain⟨vs2,r2,hl2⟩:=lst_is I hq;cases ry;have ne:p≠q:=λe=>by rw[e,hq]at hp;cases hp
    exact⟨.of_refs ne (.tuple_list hl hl2 hu0),λ_=>⟨.tuple_list hl hl2 hu0,.tuple_list hl hl2 hu0⟩⟩
   | t ys =>
    have hb':=hb;obtain⟨q,ws,rfl,hq,ly,hy⟩:=hb;obtain⟨vs2,r2,hl2⟩:=tup_is I hq;cases ry;have l1:=r1.length;have l2:=r2.length;have he:∀ j (h1:j<vs.toArray.size) (h2:j<vs2.toArray.size),SeqAt.EqAt A.in1 s vs.toArray[j] vs2.toArray[j] (match xs[j]?,ys[j]? with|some x,some y=>eqD n x y|_,_=>true):=λj h1 h2=>by
     simp only[ae5]at h1 h2;obtain⟨w1,z1,rz1⟩:=r1.get (i:=j) (x:=us[j]'(by omega)) (aeW (by omega));obtain⟨w2,z2,rz2⟩:=r2.get (i:=j) (x:=ws[j]'(by omega)) (aeW (by omega));have a1:vs.toArray[j]=w1:=by
      have:=(aeY.mp z1).2
      simpa using this
     have a2:vs2.toArray[j]=w2:=by
      have:=(aeY.mp z2).2
      simpa using this
     rw[a1,a2];have e1:xs[j]?=some (xs[j]'(by omega)):=aeW (by omega);have e2:ys[j]?=some (ys[j]'(by omega)):=aeW (by omega);simp only[e1,e2];exact(ih (hx j _ _ (aeW (by omega)) e1) (hy j _ _ (aeW (by omega)) e2) rz1 rz2 (by rw[Around.in1_units];omega)).1
    have e:eqD (n+1) (.t xs) (.t ys)=((List.range (min vs.toArray.size vs2.toArray.size)).all (λi=>match xs[i]?,ys[i]? with|some x,some y=>eqD n x y|_,_=>true)&&vs.toArray.size == vs2.toArray.size):=by
     show(_&&_)=_;simp only[ae5];by_cases hs:xs.length=ys.length
     ·rw[show min vs.length vs2.length=xs.length by omega,show(vs.length == vs2.length)=(xs.length == ys.length) by rw[show vs.length=xs.length by omega,show vs2.length=ys.length by omega]]
     ·rw[beq_eq_false_iff_ne.mpr hs,show(vs.length == vs2.length)=false from beq_eq_false_iff_ne.mpr (by omega),agv,agv]
    have rc:RcB A s (.ref p) (.ref q) (eqD (n+1) (.t xs) (.t ys)):=by
     rw[e];exact⟨.tuples hl hl2 hu0 he,.tuples hl hl2 hu0 he⟩
    refine⟨?_,λ_=>rc⟩;by_cases e:p=q
    ·subst e
     rw[Bm ha' hb'];exact .same _
    ·exact .of_refs e rc.eq
end
def aeo(n:Nat):R2:=λx y H Q=>∃ a b,Rp H n x a∧Rp H n y b∧Q (.bl (eqD n a b)) H
def aep(n:Nat):R2:=λx y H Q=>∃ a b,Rp H n x a∧Rp H n y b∧Q (.bl (!eqD n a b)) H
section
variable{X:Cx}
theorem YT{n:Nat}(hu:X.A.units+n<cLine):OpR X (compareOp .Eq) (aeo n):=by
 rintro pins s σ H x y v u Q I rx ry ⟨a,b,ha,hb,q⟩;by_cases h:(∃ z,a=.a z)∧∃ z,b=.a z
 ·obtain⟨⟨z,rfl⟩,z',rfl⟩:=h
  obtain⟨rfl,fx⟩:=ha.yc;obtain⟨rfl,fy⟩:=hb.yc;rw[JX]at q;exact(HR rx ry fx fy).eq _ _ _ _ ⟨.bl _,H,I,rfl,q⟩
 ·exact((rcG I ha hb rx ry hu).2 h).eq _ _ _ _ ⟨.bl _,H,I,rfl,q⟩
theorem YU{n:Nat}(hu:X.A.units+n<cLine):OpR X (compareOp .NotEq) (aep n):=by
 rintro pins s σ H x y v u Q I rx ry ⟨a,b,ha,hb,q⟩;by_cases h:(∃ z,a=.a z)∧∃ z,b=.a z
 ·obtain⟨⟨z,rfl⟩,z',rfl⟩:=h
  obtain⟨rfl,fx⟩:=ha.yc;obtain⟨rfl,fy⟩:=hb.yc;rw[JX]at q;exact(HR rx ry fx fy).ne _ _ _ _ ⟨.bl _,H,I,rfl,q⟩
 ·exact((rcG I ha hb rx ry hu).2 h).ne _ _ _ _ ⟨.bl _,H,I,rfl,q⟩
end
section
variable{X:Cx}{pins:List (Addr×Obj)}{σ:St}{H:Hp}{s:Shared}{d:Addr}{o:Obj}{u:HO}
theorem Inv.abK(I:Inv X pins σ H s)(hd:H d=some (.frz o u))(h0:∀ o u,X.H₀ d≠some (.frz o u))(nt:∀ xs,u≠.tup xs)(no:∀ x,u≠.own x)(nb:∀ ps,u≠.tbl ps):Inv X pins σ (upd H d u) s:=by
 have nn:∀ {b:Addr},H b=none→upd H d u b=none:=λ{b} q=>by
  rw[af λz=>by rw[z,hd]at q;cases q];exact q
 have ns:∀ {b:Addr} {v:HO},H b=some v→(∀ o w,v≠.frz o w)→upd H d u b=some v:=λ{b v} q n=>by
  rw[af λz=>n o u (by rw[z,hd]at q;exact(afo q).symm)];exact q
 refine⟨I.ok,I.os,I.bare,⟨I.base.keep,I.base.slot,λb ob q n e=>nn (I.base.free b ob q n e),I.base.there,λb xs q=>ns (I.base.AW b xs q) (by intro _ _ z;cases z),λb ob w q=>?_,λb ps q=>?_⟩,I.loc,I.cell,nn I.free,λx c q=>nn (I.lK x c q),λp hp=>?_,λa w q=>?_,I.len⟩
 ·have q':=I.base.ER b ob w q
  rw[af λz=>h0 ob w (by rw[←z];exact q)];exact q'
 ·obtain⟨more,q'⟩:=I.base.FC b ps q
  exact⟨more,ns q' (by intro _ _ z;cases z)⟩
 ·obtain⟨p1,p2,p3⟩:=I.pin p hp
  exact⟨p1,nn p2,p3⟩
 ·have st:∀ {a:Addr} {w:HO},hJ X.prog X.w H s.heap a w→hJ X.prog X.w (upd H d u) s.heap a w:=λx=>x.Jv (λ_ _ _ z=>z) (λb z=>ns z (by intro _ _ y;cases y)) λb xs z=>ns z (by intro _ _ y;cases y)
  by_cases e:a=d
  ·subst e
   rw[ah]at q;cases q;exact st (I.hok a _ hd).2
  ·rw[af e]at q
   exact st (I.hok a w q)
def aeq(H₀:Hp)(te:TE):TE:=λσ H Q=>te σ H λv H1=>∃ d o kvs,H1 d=some (.frz o (.dK kvs))∧(∀ o u,H₀ d≠some (.frz o u))∧Q v (upd H1 d (.dK kvs))
theorem Ra{e:Expr}{te:TE}(h:PE X e te):PE X e (aeq X.H₀ te):=by
 intro pins s σ H Q I t;refine wpAny_mono (h pins s σ H _ I t) (λu s1 ⟨v,H1,I1,r,q⟩=>?_) λ_ _ z=>z;obtain⟨d,o,kvs,hd,h0,q⟩:=q;exact⟨v,_,I1.abK hd h0 (by intro _ z;cases z) (by intro _ z;cases z) (by intro _ z;cases z),r,q⟩
def aer(H₀:Hp)(t:TS):TS:=λD σ H=>∃ d o kvs,H d=some (.frz o (.dK kvs))∧(∀ o u,H₀ d≠some (.frz o u))∧t D σ (upd H d (.dK kvs))
theorem Rb{st:Stmt}{t:TS}(h:PS X st t):PS X st (aer X.H₀ t):=by
 intro pins s σ H D I q;obtain⟨d,o,kvs,hd,h0,q⟩:=q;exact h pins s σ _ D (I.abK hd h0 (by intro _ z;cases z) (by intro _ z;cases z) (by intro _ z;cases z)) q
theorem X0:∀ {ns:List Int} {us:List Value},Vals (ns.map V.int) us→∃ ps:List (Int×Tok),us=ps.map (λp=>Value.int p.1 p.2)∧ps.map (·.1)=ns
 | [],_,.nil=>⟨[],rfl,rfl⟩
 | n::r,_,.cons h t=>by
  obtain⟨k,rfl⟩:=h;obtain⟨ps,e,e2⟩:=X0 t;exact⟨(n,k)::ps,by rw[e];rfl,by rw[afq,e2]⟩
def ace(K:W.Frag):List V→Hp→VK→Prop:=λvs H Q=>∃(p:Addr) (ns:List Int),vs=[.ref p]∧SqL K H p (ns.map V.int)∧Q (.int ns.sum) H
theorem OZ(hc:X.calm=true):vF X (.builtin "sum") (ace X.K):=by
 rintro pins s σ H xs us Q I r ⟨p,ns,rfl,hq,q⟩;obtain⟨u,rfl,ru⟩:=r.one;cases (show u=Value.ref p from ru);obtain⟨its,rv,⟨o,n,e1,e2,e3,e4⟩,hz⟩:=I.list hq;obtain⟨ps,e,ee⟩:=X0 rv;have hl:s.heap.IsList p (intItems ps.toArray):=by
  refine⟨o,e1,e2,n,?_⟩;rw[e4,e];simp[intItems]
 have hs:preSum (numAt ps.toArray) ps.toArray.size=ns.sum:=by
  rw[preSum_eq];simp only[ae5];rw[ee,ae9 (by rw[←ee,aeV];exact ae1 _)]
 refine sum_intListG (I.ok.hd hc) hl λh' tk t' hk=>⟨.int ns.sum,H,I.kept (t':=tk) hk,⟨t',by rw[hs]⟩,q⟩
end
theorem O0{d:Addr}{o:Obj}{kvs:List (Key×V)}{te:TE}{Q:VK}{D:Addr}{τ:St}{H:Hp}(Pv:Nat→List V→Hp→Prop)(h0:Pv 0 [] H)(hD:∀ i ys H,i≤kvs.length→Pv i ys H→H D=some (.lst ys)∧ys.length=i)(hl:∀ i ys H,i≤kvs.length→Pv i ys H→H d=some (.frz o (.dK kvs)))(hn:kvs.length≤sizeLine)
  (hs:∀ i p ys H,kvs[i]?=some p→Pv i ys H→te (some (kV p.1)::τ) H λv H4=>H4 D=some (.lst ys)∧Pv (i+1) (ys++[v]) (upd H4 D (.lst (ys++[v])))) (hd:∀ ys H,Pv kvs.length ys H→Q (.ref D) H):NB (Itd d o kvs) D τ te Q H:=by
 refine⟨λi m ys H=>m=kvs.length-i∧i≤kvs.length∧Pv i ys H,⟨kvs.length,by simp,afw _,h0⟩,?_⟩;rintro i m ys H2 ⟨rfl,hi,p⟩;obtain⟨d1,d2⟩:=hD i ys H2 hi p;refine⟨d1,?_⟩;have hS:=hl i ys H2 hi p;by_cases hlt:i<kvs.length
 ·refine .inr ⟨⟨hS,hlt⟩,by omega,Pv (i+1),λzs H' p'=>⟨kvs.length-(i+1),by omega,rfl,hlt,p'⟩,λy H3 q=>?_⟩
  obtain⟨e1,q',e2,e3⟩:=q;subst e1 e3;exact hs i q' ys _ e2 p
 ·have e:i=kvs.length:=by omega
  subst e;exact .inl ⟨⟨hS,ae1 _⟩,hd ys H2 p⟩
def RG:Option Key→Value→Bool
 | none,.none=>true
 | none,_=>false
 | some k,v=>rq k v
theorem iF{v:Value}(h:RG none v=true):v=.none:=by
 cases v<;>first|rfl|cases h
def aes(w:World):Option Key→Int
 | none=>reduceHash 0xFCA86420
 | some k=>acA w k
theorem O1{prog:Program}{w:World}{A:Around}{E:Value→Shared→Prop}{s:Shared}{Q:Int→Shared→Prop}(h:Q (reduceHash 0xFCA86420) {s with toks:=s.toks+1}):wpAny (model prog w) A (pyHash .none) Q E s:=by
 show wpAny _ _ (pyHashByItsType .none) Q E s;exact PySem.W.pyHash_slot (T := "NoneType") rfl F.slot_NoneType_hash F.entry_NoneType_hash (F.args_NoneType_hash_1 _) (beq_builtin_none _) (.inl rfl) (wpAny_bind (wpAny_pure (wpAny_bind (wpAny_mkInt (wpAny_pure ⟨_,_,rfl,h⟩)))))
def optKind(prog:Program)(w:World):PySem.KeyKind prog w (Option Key) where
 is:=RG
 hash:=aes w
 inj:=λv a b ha hb=>by
  cases a with
  | none =>
   obtain rfl:=iF ha;cases b with
   | none=>rfl
   | some k=>rcases cp (show rq k .none=true from hb) with⟨_,_,_,e⟩|⟨_,_,_,e⟩<;>exact nomatch e
  | some k =>
   cases b with
   | none =>
    obtain rfl:=iF hb;rcases cp (show rq k .none=true from ha) with⟨_,_,_,e⟩|⟨_,_,_,e⟩<;>exact nomatch e
   | some k'=>rw[(cR prog w).inj v k k' ha hb]
 byValue:=λk v h=>by
  cases k with
  | none=>obtain rfl:=iF h;rfl
  | some k=>exact(cR prog w).byValue k v h
 pyHash:=λ{A E s k v Q} hv h=>by
  cases k with
  | none=>obtain rfl:=iF hv;exact O1 h
  | some k=>exact(cR prog w).pyHash (k:=k) hv h
 eqBool:=λ{A E s a b u v Q} hu hv h=>by
  cases a with
  | none =>
   obtain rfl:=iF hu;cases b with
   | none=>obtain rfl:=iF hv;exact SeqAt.EqAt.same _ _ _ _ _ h
   | some k =>
    rw[decide_eq_false (by intro z;cases z)]at h;rcases cp (show rq k v=true from hv) with⟨i,t,_,rfl⟩|⟨x,t,_,rfl⟩
    ·exact SeqAt.EqAt.none_int i t _ _ _ _ h
    ·exact SeqAt.EqAt.none_str x t _ _ _ _ h
  | some k =>
   cases b with
   | none =>
    obtain rfl:=iF hv;rw[decide_eq_false (by intro z;cases z)]at h;rcases cp (show rq k u=true from hu) with⟨i,t,_,rfl⟩|⟨x,t,_,rfl⟩
    ·exact SeqAt.EqAt.int_none i t _ _ _ _ h
    ·exact SeqAt.EqAt.str_none x t _ _ _ _ h
   | some k' =>
    refine(cR prog w).eqBool (a:=k) (b:=k') hu hv ?_;have e:decide (some k=some k')=decide (k=k'):=by
     by_cases c:k=k'
     ·subst c;simp
     ·rw[decide_eq_false c,decide_eq_false (by intro z;exact c (afo z))]
    rw[←e];exact h
 «strs» := λk x t v h=>by
  cases k with
  | none=>exact nomatch iF h
  | some k=>exact(cR prog w).strs k x t v h
theorem UE{prog:Program}{w:World}{h:Heap}{a:Addr}{kvs:List (Key×Value)}(hd:h.DictOf (cR prog w) a kvs):h.MapOf (optKind prog w) a (λk=>k.bind λk=>valueAt kvs k):=by
 obtain⟨o,es,ep,ho,hc,aet,hk,hf⟩:=hd.mapOf;refine⟨o,es,ep,ho,hc,aet,λe he=>?_,λk=>?_⟩
 ·obtain⟨k,h1,h2⟩:=hk e he
  exact⟨some k,h1,h2⟩
 ·cases k with
  | none =>
   show(es.find? λe=>RG none e.key).map (·.val)=none;rw[Array.find?_eq_none.mpr λe he=>?_]
   ·rfl
   ·obtain⟨k,h1,_⟩:=hk e he
    intro z
    have:=iF z
    rw[this]at h1;rcases cp (show rq k .none=true from h1) with⟨_,_,_,e⟩|⟨_,_,_,e⟩<;>exact nomatch e
  | some k=>exact hf k
def inO(kvs:List (Key×V)):Option Key→Bool
 | none=>false
 | some k=>(lM kvs k).isSome
def abL:Option Key→V
 | none=>.non
 | some k=>kV k
section
variable{X:Cx}{i o:Expr}{ty td:TE}
def acf(ty td:TE):TE:=λσ H Q=>ty σ H λy H1=>td σ H1 λx H2=>∃ a kvs k,x=.ref a∧y=abL k∧Rd H2 a (.dK kvs)∧Q (.bl (inO kvs k)) H2
theorem YV{P:Program}{w:World}{k:Option Key}{u:Value}(r:RelV (abL k) u):(optKind P w).is k u=true:=by
 cases k with
 | none=>cases r;rfl
 | some k=>exact FL (P:=P) (w:=w) r
theorem UG(hi:PE X i ty)(ho:PE X o td):PC X .In i o (acf ty td):=by
 intro pins s σ H Q I h;refine thn (hi pins s σ H _ I h) λiv s1 ⟨y,H1,I1,ry,q1⟩=>thn (ho pins s1 σ H1 _ I1 q1) λu s2 ⟨x,H2,I2,rx,a,kvs,k,ex,ey,g,q2⟩=>?_;subst ex ey;cases (show u=Value.ref a from rx);obtain⟨z,hd,vs,rel,dd⟩:=x8 I2.hok g;refine wpAny_in_of (YV (P:=X.prog) (w:=X.w) ry) hd (UE dd) ?_;have e:(k.bind λk=>valueAt vs k).isSome=inO kvs k:=by
  cases k with
  | none=>rfl
  | some k=>exact(rel.val k).oi.symm
 rw[e];exact⟨.bl (inO kvs k),H2,I2.tok _,rfl,q2⟩
end
section
variable{X:Cx}{K:W.Frag}
theorem UH{e:Expr}{f:Str}{pos:Pos}{ta:TE}(hK:X.K=K)(he:PE X e ta)(hb:attributeBase e f X.env (eval e X.env)=eval e X.env):PE X (.Attribute e f pos) (acJ K ta f):=by
 subst hK;exact aH he hb
def acg(K:W.Frag):List V→Hp→VK→Prop:=λxs H Q=>∃ p ys,xs=[V.ref p]∧(SqL K H p ys∨SqT K H p ys)∧Q (.int (ys.length:Int)) H
theorem O2(hK:X.K=K):vF X (.builtin "len") (acg K):=by
 subst hK;exact iC
end
structure Pq(k:Nat)(A:Around):Prop where
 dp:A.depth+3*k+5<recursionLimit
 un:A.units+16*k+200<cLine
theorem mY.r0{j k:Nat}{A:Around}(r:mY k A)(h:j≤k):Pq j A:=⟨by have:=r.dp;omega,by have:=r.un;omega⟩
structure MB(P:Program)(w:World)(K:W.Frag)(mg:Str→Option Value)(base:Heap)(CX:CXT)(k:Nat)(f:Addr)(fd:FuncData)(ps:List Str)(sp:Sp):Prop where
 len:∀ vs H Q E,sp vs H Q E→vs.length=ps.length
 run:∀(A:Around) (outer:List Env) (s:Shared) (H:Hp) (args:Args) (us:List Value) (vs:List V) (Q:VK) (E:XK),Pq k A→Mw P w K mg base A outer s H→BindsTo s fd args (ps.zip us)→Vals vs us→sp vs H Q E →
  codeAny (model P w) A (.call (.ref f) args) (CR CX outer P w H s Q E) s
def cx0(CX:CXT)(P:Program)(w:World)(K:W.Frag)(mg:Str→Option Value)(base:Heap)(N:List Str)(qual:Str)(scope:Scope)(f:Addr)(cd:Value)(A:Around)(outer:List Env)(s:Shared)(H:Hp)(E:XK):Cx:={PM CX P w K mg base N qual scope f cd A outer s H E with calm:=false}
theorem YW{CX:CXT}{P:Program}{w:World}{K:W.Frag}{mg:Str→Option Value}{base:Heap}{k:Nat}{f:Addr}{name qual:Str}{params:Arguments}{body:List Stmt}{scope:Scope}{dV kV doc pm cdv ct oc:Value}{an od:Option Addr}
  {osl:Array (Option Value)} {N ps:List Str} {sp:Sp} (lk:K.lookup f=some ⟨oc,od,.func (PySem.W.fnOf name qual params body scope dV kV doc pm an cdv ct),osl⟩) (hcd:PySem.W.codeIn K cdv qual=true) (S:av N ps scope)
  (len:∀ vs H Q E,sp vs H Q E→vs.length=ps.length)
  (Hq:∀(A:Around) (outer:List Env) (s:Shared) (H:Hp) (vs:List V) (Q:VK) (E:XK),sp vs H Q E →
   ∃ t,PSs (cx0 CX P w K mg base N qual scope f cdv A outer s H E) body t∧t {nx:=λ_ H'=>Q .non H',rt:=Q} (start N vs) H) :
  MB P w K mg base CX (k+1) f (PySem.W.fnOf name qual params body scope dV kV doc pm an cdv ct) ps sp:=by
 refine⟨len,λA outer s H args us vs Q E hr e0 hb r hsp=>?_⟩;have hl:=len _ _ _ _ hsp;have KX:K.In s.heap:=e0.mod.kin.keeps λb o e=>(e0.bs b o e).1;have lim:s.heap.NoLimit:=e0.mod.nolimit.keeps λb o e=>(e0.bs b o e).1;have Ry:∀ y∈ps.zip us,scope.names.lookup y.1=some .local∨(scope.names.lookup y.1=some .cell∧((cellsFrom (s.heap.objs.size+1) scope.names []).lookup y.1).isSome=true):=λ⟨n,v⟩ hy=>by
  rcases S.par n (agq hy).1 with q|q
  ·exact .inl q
  ·exact .inr ⟨q,PySem.W.cellsFrom_some _ _ _ (.inl q)⟩
 have dep:A.depth<recursionLimit:=by have:=hr.dp;omega
 refine codeAny_call_function dep (KX _ _ lk) rfl S.co S.gen rfl (PySem.W.codeRec_of KX hcd) (hb _ _ _ _ ?_);refine wpAny_newFunctionEnv_cells S.kind Ry λenv he s1 x=>?_;subst he;refine⟨lim.keeps x.toInCall.keep,codeAny_func ?_⟩;obtain⟨t,ht,hq⟩:=Hq A outer s H vs Q E hsp;have I:Inv (cx0 CX P w K mg base N qual scope f cdv A outer s H E) [] (start N vs) H s1:=by
  have e1:Mw P w K mg base ({A with handled:=none}:Around) outer s H:=⟨e0.frames,e0.mod,e0.bs,e0.bsz,e0.Bv,e0.frf,e0.hok,e0.bare⟩;have J:=HK (CX:=CX) (E:=E) (A:={A with handled:=none}) S rfl e1 hl r x;exact⟨⟨J.ok.mod,J.ok.kind,J.ok.glob,J.ok.blt,J.ok.above,J.ok.inj,J.ok.has,J.ok.cab,(λh=>absurd h (by show ¬false=true;decide)),Around.frames_deeper e0.frames,J.ok.stk,J.ok.exf,J.ok.bs,J.ok.bsz,J.ok.Lx,J.ok.NN,J.ok.Bv,J.ok.frf⟩,J.os,J.bare,J.base,J.loc,J.cell,J.free,J.lK,J.pin,J.hok,J.len⟩
 refine wpAny_mono (ht [] s1 (start N vs) H _ I hq) (λfl s' hs=>?_) λe s' hs=>hs;have fin:∀ {σ':St} {H':Hp} {v:V} {u:Value},Inv (cx0 CX P w K mg base N qual scope f cdv A outer s H E) [] σ' H' s'→RelV v u→Q v H'→CE outer P w H s Q u s' :=
  λ{σ' H' v u} J rv q=>⟨v,H',J.os,J.bare,J.base,J.hok,rv,q⟩
 cases fl with
 | ret u =>
  obtain⟨v,σ',H',J,rv,q⟩:=hs;exact fin J rv q
 | next =>
  obtain⟨σ',H',J,q⟩:=hs;exact fin (v:=V.non) (u:=Value.none) J rfl q
 | brk =>
  obtain⟨_,_,_,q⟩:=hs;exact False.elim q
 | cont =>
  obtain⟨_,_,_,q⟩:=hs;exact False.elim q
theorem Fun.ok0{P:Program}{w:World}{K:W.Frag}{mg:Str→Option Value}{base:Heap}{x qual:Str}{st:Stmt}{f:Addr}{fd:FuncData}{N ps:List Str}{k:Nat}{sp:Sp}(F:Fun K x qual st f fd)(S:av N ps (ar st))(len:∀ vs H Q E,sp vs H Q E→vs.length=ps.length)
  (Hq:∀(cdv:Value) (A:Around) (outer:List Env) (s:Shared) (H:Hp) (vs:List V) (Q:VK) (E:XK),sp vs H Q E →
   ∃ t,PSs (cx0 (CXE P w) P w K mg base N qual (ar st) f cdv A outer s H E) (cT st) t∧t {nx:=λ_ H'=>Q .non H',rt:=Q} (start N vs) H):MB P w K mg base (CXE P w) (k+1) f fd ps sp:=by
 obtain⟨oc,od,kV,doc,pm,an,cdv,ct,osl,rfl,lk,hcd⟩:=F.ex;exact YW lk hcd S len λA outer s H vs Q E hsp=>Hq cdv A outer s H vs Q E hsp
section
variable{X:Cx}{o:Expr}{ta:TE}
theorem ach{CX:CXT}{k:Nat}{f:Addr}{fd:FuncData}{ps:List Str}{sp:Sp}{ds:List Value}{dvs:List V}{EK:St→XK}{pins:List (Addr×Obj)}{σ:St}{H:Hp}{s:Shared}{Q:VK}{us:List Value}{vs:List V}(F:MB X.prog X.w X.K X.mg X.base CX k f fd ps sp)(hr:Pq k X.A)(hb:Binds X.K fd ps ds)(hd:Vals dvs ds)(hx:jI CX X EK)
  (I:Inv X pins σ H s) (r:Vals vs us) (h:sp (vs++dvs) H Q (EK σ)):wpAny (model X.prog X.w) X.A (call (.ref f) us) (EP X pins σ Q) X.xe s:=by
 have r2:Vals (vs++dvs) (us++ds):=r.append hd;have hl:(us++ds).length=ps.length:=by rw[←r2.length];exact F.len _ _ _ _ h
 refine wpAny_call (codeAny_mono (F.run X.A X.stack s H ⟨us,[]⟩ (us++ds) (vs++dvs) Q (EK σ) hr I.Vr (hb s us I.kIn hl) r2 h) λr s' hq=>?_);cases r with
 | error e=>exact hx pins σ H s e s' I hq
 | ok fl =>
  cases fl with
  | ret u=>exact I.after hq
  | _=>exact False.elim hq
structure Rf(P:Program)(w:World)(K:W.Frag)(mg:Str→Option Value)(base:Heap)(CX:CXT)(k:Nat)(m:Str)(C:Addr)(sp:Sp):Prop where
 ex:∃ f fd ps,Meth K C m f∧MB P w K mg base CX k f fd ps sp∧Binds K fd ps []
def N6(P:Program)(w:World)(K:W.Frag)(mg:Str→Option Value)(base:Heap)(CX:CXT)(k:Nat)(m:Str)(EK:St→XK)(ta:TE):TE:=λσ H Q=>ta σ H λx H1=>∃ b a C sp,x=.ref a∧H1 a=some (exo b C a none)∧abI K C ∧
 Rf P w K mg base CX k m C sp∧sp [x] H1 Q (EK σ)
theorem O3{CX:CXT}{k:Nat}{EK:St→XK}{m:Str}{pos apos:Pos}{pl:Sem Bool}(he:PE X o ta)(hr:Pq k X.A)(hx:jI CX X EK)
  (ht:eval (.Call (.Attribute o m apos) [] [] pos) X.env=(do
   let ov ←eval o X.env
   standAt apos.atName
   let (f,first) ←holding [ov] (getMethod ov m pl)
   callWith pos f first (backTo pos (starEach [] X.env)) (backToKw pos (keywordEach [] X.env))):=by rfl) :
  PE X (.Call (.Attribute o m apos) [] [] pos) (N6 X.prog X.w X.K X.mg X.base CX k m EK ta):=by
 intro pins s σ H Q I h;refine PySem.W.methodCall_KW (pl:=pl) (thn (he pins s σ H _ I h) λu s1 ⟨x,H1,I1,rx,b,a,C,sp,ex,ea,g,md,q⟩=>?_) ht;subst ex;obtain rfl:u=Value.ref a:=rx;obtain⟨f,fd,ps,mt,F,hb⟩:=md.ex;obtain⟨fs,sl,a0,z,_⟩:=FP I1.hok ea;have fin:wpAny (model X.prog X.w) X.A (callWith pos (.ref f) [.ref a] (backTo pos (starEach [] X.env)) (backToKw pos (keywordEach [] X.env))) (EP X pins σ Q) X.xe s1 :=
  PySem.W.callWith_K0 (first:=[.ref a]) I1.kIn mt.kp (ach (us:=[.ref a]) (vs:=[.ref a]) (dvs:=[]) (ds:=[]) F hr hb .nil hx I1 (.cons rfl .nil) q)
 exact Qm I1.kIn (OV z) g.ga g.gt mt.at_ (beq_iff_eq.mp mt.fn) rfl fin
end
def nsE:Expr→Bool
 | .Starred ..=>false
 | _=>true
theorem UI{e:Expr}{es:List Expr}{env:Env}(h:nsE e=true):starEach (e::es) env=(false,eval e env)::starEach es env:=by
 cases e<;>first|rfl|cases h
theorem iL{X:Cx}{e:Expr}{es:List Expr}{te:TE}{t:TA}(ha:PE X e te)(hr:PA X es t)(hs:nsE e=true:=by rfl):PA X (e::es) (rz te t):=ae ha hr (UI hs)
theorem UJ{es:List Expr}{p:Pos}{t:Option Expr}{l:Nat}{env:Env}:swapsWith (.List es p) t l env=pure false:=rfl
theorem UK{X:Cx}{i:Nat}{x:Str}{es:List Expr}{p:Pos}{te:TE}{pos' pos:Pos}(hN:X.N.Nodup)(hi:X.N[i]?=some x)(hx:Loc X.env.scope x)(he:PE X (.List es p) te)(hf:X.fn x=true∨X.env.scope.names.lookup x=some .local:=by first|exact .inl rfl|exact .inr rfl|assumption) :
  PS X (.Assign [.Name x pos'] (.List es p) pos) (NP te (kU i)):=bF hN hi hx he UJ hf
theorem HU:∀(f n r:Nat),n≤f→r≤1→minRun' f n r≤max 64 (n+r)
 | 0,n,r,_,_=>Nat.le_max_right _ _
 | f+1,n,r,h,hr=>by
  rw[minRun'_succ];by_cases c:n<64
  ·rw[if_pos c];exact Nat.le_max_right _ _
  ·rw[if_neg c]
   have:=HU f (n/2) (max r (n%2)) (by omega) (by omega)
   omega
theorem Ks{n:Nat}:¬n<minRun' n n 0:=by
 by_cases c:n<64
 ·cases n with
  | zero=>show ¬0<0+0;omega
  | succ f=>rw[minRun'_succ,if_pos c];omega
 ·have:=HU n n 0 (ae1 _) (by omega)
  omega
section
variable{prog:Program}{w:World}{A:Around}{E:Value→Shared→Prop}{s:Shared}{a₀:Array Keyed}
theorem Kt{st:SortSt}{m:Nat}{Q:Option Nat→SortSt→Prop}(ik:IntKeys a₀)(h:m≤a₀.size)(h1:1≤m)(B:SBase a₀ st)(up:SortedTo (arrOf st) m)(q:Q (some m) st):wpS (model prog w) A E s (countRun' 0 m) Q st:=by
 rw[countRun0_eq];refine wpS_bind (wpS_ascLoop ik h (ae1 1) h1 B (λi j a b=>up i j a (by omega)) λn n1 n2 _ o=>?_);have e:n=m:=by
  rcases o with o|o
  ·exact o
  ·by_cases c:n=m
   ·exact c
   ·have:=up (n-1) n (by omega) (by omega)
    omega
 subst e;dsimp only;rw[if_pos (by simp)];exact wpS_pure q
theorem MC{st:SortSt}{Q:Unit→SortSt→Prop}(ik:IntKeys a₀)(B:SBase a₀ st)(n2:2≤a₀.size)(up:SortedTo (arrOf st) a₀.size)
  (q:∀ st',(arrOf st').Perm a₀→failedOf st'=none→SortedTo (arrOf st') a₀.size→Q () st'):wpS (model prog w) A E s sortRuns' Q st:=by
 rw[sortRuns'_eq];refine wpS_bind (wpS_get ?_);dsimp only;have mr:¬a₀.size<minRun' a₀.size a₀.size 0:=Ks;simp only[B.size];refine wpS_bind (wpS_mono (wpS_forRange (I:=λx c st'=>(x=0∧c=(none,0)∧st'=st)∨(1≤x∧c=(none,a₀.size)∧SDone a₀ st')) (Q:=λc st'=>c=(none,a₀.size)∧SDone a₀ st') ?one ?all (.inl ⟨rfl,rfl,rfl⟩)) ?rest)
 case all =>
  rintro c st' (⟨z,_,_⟩|⟨_,hc,d⟩)
  ·omega
  ·exact⟨hc,d⟩
 case one =>
  rintro x c st' _ hx (⟨rfl,rfl,rfl⟩|⟨_,rfl,d⟩)
  ·dsimp only
   rw[if_neg (by omega)];simp only[Nat.sub_zero,Nat.zero_add];refine wpS_bind (Kt ik (ae1 _) (by omega) B up ?_);dsimp only;rw[if_neg mr];refine wpS_bind (wpS_get ?_);rw[show(pendingOf st').back?=none by rw[B.pend];rfl];dsimp only;exact wpS_bind (wpS_modify (wpS_pure (.inr ⟨by omega,rfl,B.done up⟩)))
  ·dsimp only
   rw[if_pos (ae1 _)];exact wpS_pure ⟨rfl,d⟩
 case rest =>
  rintro c st' ⟨rfl,d⟩;dsimp only;refine wpS_bind (wpS_mono (wpS_forRange (I:=λ_ c st2=>st2=st'∧c=(none,())) (Q:=λc st2=>st2=st'∧c=(none,())) ?_ (λ_ _ z=>z) ⟨rfl,rfl⟩) ?_)
  ·rintro x c st2 _ _ ⟨rfl,rfl⟩
   refine wpS_bind (wpS_get ?_);rw[if_pos (show(pendingOf st2).size≤1 by rw[d.2.2.1];exact ae1 1)];exact wpS_pure ⟨rfl,rfl⟩
  ·rintro c st2 ⟨rfl,rfl⟩
   exact wpS_pure (q _ d.1 d.2.1 d.2.2.2)
theorem N7:∀ {vs:List Value} {ns:List Int},IntsAre vs ns→∀(i:Nat) (h:i<vs.length) (h':i<ns.length),numOf vs[i]=ns[i]
 | _,_,.nil,i,h,_=>absurd h (agC _)
 | _,_,.cons k t r,0,_,_=>rfl
 | _,_,.cons k t r,i+1,h,h'=>N7 r i (Nat.lt_of_succ_lt_succ h) (Nat.lt_of_succ_lt_succ h')
theorem Qs{vs:List Value}{ns:List Int}(hI:IntsAre vs ns)(up:ns.Pairwise (·≤·)):SortedTo (pairsOf vs) (pairsOf vs).size:=by
 intro i j ij hj;have hl:=hI.length;have hs:=pairsOf_size vs;rw[K_eq (by omega),K_eq (by omega)];have hi2:i<ns.length:=by omega
 have hj2:j<ns.length:=by omega
 have e:∀(k:Nat) (h:k<(pairsOf vs).size) (h':k<ns.length),numOf (pairsOf vs)[k].1=ns[k]:=λk h h'=>by
  have:(pairsOf vs)[k].1=vs[k]'(by omega):=by simp[pairsOf]
  rw[this];exact N7 hI k (by omega) h'
 rw[e i (by omega) hi2,e j (by omega) hj2];rcases afX i j with c|c
 ·exact List.pairwise_iff_getElem.mp up i j hi2 hj2 c
 ·have:i=j:=by omega
  subst this;exact afH _
theorem AY{a:Addr}{vs:List Value}{ns:List Int}{n:Nat}{P:Fin→Shared→Prop}(ho:s.heap.get? a=some (seqObj "list" vs.toArray n))(hI:IntsAre vs ns)(few:vs.length≤20000)(up:ns.Pairwise (·≤·))
  (h:∀(out:Array Value) (ns':List Int),IntsAre out.toList ns'→ns'.Perm ns→ns'.Pairwise (·≤·)→P (.done (.ret .none)) {s with heap:=sortedHeap s.heap a vs out}):wpAny (model prog w) A (Builtin.«list.sort» ⟨[.ref a],[]⟩) P E s:=by
 have hz:vs.length≤sizeLine:=agt (afS few (by decide));rw[list_sort_plain];have la:a<s.heap.objs.size:=ae4 ho;refine wpAny_bind (listItems_at ho rfl (wpAny_bind (listUpdate_at ho rfl ?_ (by rw[ae5];exact hz) (afw _))));obtain⟨e1,g1⟩:∃ e1,(s.heap.update a (Obj.mapSeq λ_=>#[])).get? a=some (seqObj "list" #[] e1):=⟨_,get?_update_seq ho (λ_=>#[])⟩;refine wpAny_bind (seqEpoch_at g1 rfl (wpAny_bind (wpAny_newTuple (wpAny_bind (wpAny_newList (wpAny_holding ?_) (afw _))) (by show vs.length≤_;exact hz))));have g6:(((s.heap.update a (Obj.mapSeq λ_=>#[])).push (seqObj "tuple" vs.toArray 0)).push (seqObj "list" #[] 0)).get? a=some (seqObj "list" #[] e1):=ae0 _ (ae0 _ g1);show wpAny (model prog w) A _ P E {s with heap:=((s.heap.update a (Obj.mapSeq λ_=>#[])).push (seqObj "tuple" vs.toArray 0)).push (seqObj "list" #[] 0)};dsimp only;have zs:(pairsOf vs).size=vs.length:=pairsOf_size vs;have fin:∀ st':SortSt,(arrOf st').Perm (pairsOf vs)→SortedTo (arrOf st') (pairsOf vs).size→P (.done (.ret .none)) {s with heap:=sortedHeap s.heap a vs ((arrOf st').map (·.2))}:=λst' hp hs=>by
  obtain⟨ns',q1,q2,q3⟩:=sorted_out hI hp hs;exact h _ ns' q1 q2 q3
 have up0:=Qs hI up;by_cases c:vs.toArray.size<2
 ·rw[if_pos c,if_pos c]
  refine wpAny_bind (wpAny_pure ?_);rw[StateT.run_pure];refine wpAny_bind (wpAny_pure ?_);dsimp only;refine wpAny_bind (seqEpoch_at g6 rfl (wpAny_bind (listUpdate_at g6 rfl ?_ (hsz2:=by rw[Array.size_map];show(pairsOf vs).size≤_;rw[zs];omega))));simp only[bne_self_eq_false,afD,if_false];exact wpAny_pure (fin (SortSt.mk' general' (vs.toArray.zip vs.toArray) #[] 7 none) (Array.Perm.refl _) up0)
 ·rw[if_neg c,if_neg c]
  obtain⟨v1,v2,r,rfl⟩:∃ v1 v2 r,vs=v1::v2::r:=by
   match vs,c with
   | [],c=>simp at c
   | [_],c=>simp at c
   | v1::v2::r,_=>exact⟨v1,v2,r,rfl⟩
  rw[keyKind_ints hI];refine wpAny_bind (wpAny_pure (wpAny_bind (wpAny_mono (MC (a₀:=pairsOf (v1::v2::r)) (st:=SortSt.mk' oneType' ((v1::v2::r).toArray.zip (v1::v2::r).toArray) #[] 7 none)
   (Q:=λ_ st'=>(arrOf st').Perm (pairsOf (v1::v2::r))∧failedOf st'=none∧SortedTo (arrOf st') (pairsOf (v1::v2::r)).size) hI.intKeys ⟨Array.Perm.refl _,rfl,rfl,rfl⟩ (by rw[zs];simp) up0 λst' a1 a2 a3=>⟨a1,a2,a3⟩) ?_ λ_ _ e=>e)))
  rintro⟨⟨⟩,st'⟩ s' ⟨rfl,hp,hf,hs⟩;dsimp only;refine wpAny_bind (seqEpoch_at g6 rfl (wpAny_bind (listUpdate_at g6 rfl ?_ (hsz2:=afe (Nat.le_of_eq ((Array.size_map ..).trans (hp.size_eq.trans zs))) (Nat.le_succ_of_le hz)))));rw[hf];simp only[bne_self_eq_false,afD,if_false];exact wpAny_pure (fin st' hp hs)
end
section
variable{X:Cx}
def Qt:List V→Hp→VK→Prop:=λvs H Q=>∃(p:Addr) (kvs:List (Key×V)) (ks:List Int),vs=[.ref p]∧Rd H p (.dK kvs)∧kvs.map (·.1)=ks.map Sum.inl∧ks.length≤20000∧ks.Pairwise (·≤·)∧∀(l:Addr),H l=none→Q (.ref l) (upd H l (.lst (ks.map V.int)))
theorem AZ(hc:X.calm=true):vF X (.builtin "sorted") Qt:=by
 rintro pins s σ H xs us Q I r ⟨p,kvs,ks,rfl,hp,hk,few,up,q⟩;obtain⟨u,rfl,ru⟩:=r.one;cases (show u=Value.ref p from ru);obtain⟨hz,hd,vs,rel,dd⟩:=x8 I.hok hp;obtain⟨ep,hat⟩:=dd.dictAt;have hh:=I.ok.hd hc;have hl:ks.length=kvs.length:=by
  have:=congrArg List.length hk
  simpa using this.symm
 refine Calls.call_function_entry kind_sorted plain_sorted entry_sorted (args_sorted1 _) ?_;unfold Builtin.«sorted»;refine wpAny_bind (m:=checkCount "sorted" 1 1 _) (wpAny_pure ?_);refine wpAny_bind (PySem.W.kdu_collect (A:=X.A.in1) (PySem.W.kdl_dict (knd:=cR X.prog X.w) (kvs:=vs) (ep:=ep) hd) hh hat (by rw[←rel.length];exact hz) λh' tk acc hkp hacc=>?_);have hI:IntsAre acc.toList ks:=HP (by rw[←rel.keys];exact hk) hacc.1 hacc.2;have hlen:=hI.length;have I1:Inv X pins σ H {s with heap:=h',toks:=tk}:=I.kept (t':=tk) hkp;refine wpAny_bind (wpAny_newList ?_ (by show acc.toList.length≤sizeLine;rw[hlen,hl];exact hz));have hoL:(h'.push (seqObj "list" acc.toList.toArray 0)).get? h'.objs.size=some (seqObj "list" acc.toList.toArray 0):=aft _ rfl;show wpAny _ _ _ _ _ {s with heap:=h'.push (seqObj "list" acc.toList.toArray 0),toks:=tk};refine wpAny_bind (wpAny_holding (wpAny_call_entry slot_list_sort ⟨_,hoL,rfl⟩ entry_list_sort (AY hoL hI (by omega) up λout ns' a1 a2 a3=>⟨_,rfl,?_⟩) (args_list_sort _)));refine wpAny_pure ⟨_,rfl,?_⟩;cases HQ a2 a3 up;obtain⟨e,he⟩:=sortedHeap_at (out:=out) hoL;refine⟨.ref h'.objs.size,_,I1.laid (a:=h'.objs.size) (o:=.lst (ks.map V.int)) (t':=tk) (λb o hb=>?_) (ae1 _) ?_,rfl,q _ (I1.hok.fresh (ae1 _))⟩
 ·have hlt:=ae4 hb
  rw[sortedHeap_old (afc hlt) (by rw[size_push'];exact af1 hlt),Heap.get?_push_ne _ _ _ (afc hlt)];exact hb
 ·refine⟨by rw[aeV,hl];exact hz,out.toList,e,oh a1,?_⟩
  rw[he]
def UL(K:W.Frag):List V→Hp→VK→Prop:=λvs H Q=>∃(p:Addr) (ns:List Int),vs=[.ref p]∧SqL K H p (ns.map V.int)∧ns.length≤20000∧ns.Pairwise (·≤·)∧∀(l:Addr),H l=none→Q (.ref l) (upd H l (.lst (ns.map V.int)))
theorem Ku:vF X (.builtin "sorted") (UL X.K):=by
 rintro pins s σ H xs us Q I r ⟨p,ns,rfl,hq,few,up,q⟩;obtain⟨u,rfl,ru⟩:=r.one;cases (show u=Value.ref p from ru);obtain⟨its,rv,pl,hz⟩:=I.list hq;have hI:=intsAre_of rv;have hlen:=rv.length;rw[aeV]at hlen hz;refine Calls.call_function_entry kind_sorted plain_sorted entry_sorted (args_sorted1 _) ?_;unfold Builtin.«sorted»;refine wpAny_bind (m:=checkCount "sorted" 1 1 _) (wpAny_pure ?_);have iz:its.length≤sizeLine:=by omega
 refine wpAny_bind (collect_list pl.isList ?_ iz);refine wpAny_bind (wpAny_newList ?_ iz);have sz:((s.heap.push (seqObj "list" #[] 0)).update s.heap.objs.size (Obj.mapSeq (·++its.toArray))).objs.size=s.heap.objs.size+1:=by rw[Heap.size_update,size_push']
 have hoL:(((s.heap.push (seqObj "list" #[] 0)).update s.heap.objs.size (Obj.mapSeq (·++its.toArray))).push (seqObj "list" its.toArray 0)).get? (s.heap.objs.size+1)=some (seqObj "list" its.toArray 0):=by rw[←sz];exact aft _ rfl
 show wpAny _ _ _ _ _ {s with heap:=((s.heap.push (seqObj "list" #[] 0)).update s.heap.objs.size (Obj.mapSeq (·++its.toArray))).push (seqObj "list" its.toArray 0)};rw[sz];refine wpAny_bind (wpAny_holding (wpAny_call_entry slot_list_sort ⟨_,hoL,rfl⟩ entry_list_sort (AY hoL hI (by omega) up λout ns' a1 a2 a3=>⟨_,rfl,?_⟩) (args_list_sort _)));refine wpAny_pure ⟨_,rfl,?_⟩;cases HQ a2 a3 up;obtain⟨e,he⟩:=sortedAll_at s.heap its out;refine⟨.ref (s.heap.objs.size+1),_,I.laid (a:=s.heap.objs.size+1) (o:=.lst (ns.map V.int)) (t':=s.toks) (λ_ _=>sortedAll_old) (aga _) ?_,rfl,q _ (I.hok.fresh (aga _))⟩;refine⟨by rw[aeV];exact hz,out.toList,e,oh a1,?_⟩;show(sortedAll s.heap its out).get? _=_;rw[he]
end
section
variable{X:Cx}
def aeu(H₀:Hp)(t:TS):TS:=λD σ H=>t {D with nx:=λσ1 H1=>∃ d o kvs,H1 d=some (.frz o (.dK kvs))∧(∀ o u,H₀ d≠some (.frz o u))∧D.nx σ1 (upd H1 d (.dK kvs))} σ H
theorem UM{st:Stmt}{t:TS}(h:PS X st t):PS X st (aeu X.H₀ t):=by
 intro pins s σ H D I q;refine thn (h pins s σ H _ I q) λf s1 z=>?_;cases f with
 | next =>
  obtain⟨σ1,H1,I1,d,o,kvs,hd,h0,q⟩:=z;exact⟨σ1,_,I1.abK hd h0 (by intro _ z;cases z) (by intro _ z;cases z) (by intro _ z;cases z),q⟩
 | ret v=>exact z
 | brk=>exact z
 | cont=>exact z
theorem RH{n:Option Int}{zs:List Int}{f:Option Int→V}(hf:f none=.non)(hs:∀ t,f (some t)=.int t):inV (f n) (zs.map V.int)=(match n with|none=>false|some t=>decide (t∈zs)):=by
 unfold inV;cases n with
 | none =>
  rw[hf];show _=false;rw[List.any_map];refine List.any_eq_false.mpr λz _=>?_;simp[eqV]
 | some t =>
  rw[hs,List.any_map];show _=decide (t∈zs);induction zs with
  | nil=>rfl
  | cons a r ih =>
   rw[agc,ih];by_cases e:a=t
   ·subst e
    simp[eqV]
   ·have:(t∈a::r)↔t∈r:=by
     rw[aff];exact⟨λh=>h.elim (λz=>absurd z.symm e) id,.inr⟩
    simp[eqV,e,this]
end
theorem YX{X:Cx}{i:Nat}{x:Str}{st:Stmt}{t0 t1 t2:TE}(hh:∃ es p q1 q2,st=.Assign [.Name x q1] (.List es p) q2∧∃ e0 e1 e2,es=[e0,e1,e2]∧(PE X e0 t0∧nsE e0=true)∧(PE X e1 t1∧nsE e1=true)∧(PE X e2 t2∧nsE e2=true))(hN:X.N.Nodup)(hi:X.N[i]?=some x)(hx:Loc X.env.scope x)(hf:X.fn x=true∨X.env.scope.names.lookup x=some .local) :
  PS X st (NP (acK (rz t0 (rz t1 (rz t2 PL)))) (kU i)):=by
 obtain⟨es,p,q1,q2,rfl,e0,e1,e2,rfl,⟨h0,n0⟩,⟨h1,n1⟩,⟨h2,n2⟩⟩:=hh;exact UK hN hi hx (j4 (iL h0 (iL h1 (iL h2 ao n2) n1) n0)) hf
theorem k6{H:Hp}{l:Addr}{o:HO}(_:aC H (upd H l o)):upd H l o l=some o:=ah
section
variable{X:Cx}
end
structure BC(X:Cx)(scope:Scope)(cl:List (Str×Addr))(xs:List Str)(idx:List Nat)(NC:List Str):Prop where
 Q3:closureFor scope X.env=pure cl
 sub:∀ y c,cl.lookup y=some c→X.env.cells.lookup y=some c
 has:∀ y,((relabel scope X.env).names.lookup y=some .cell∨(relabel scope X.env).names.lookup y=some .free)→∃ c,cl.lookup y=some c
 EN:∀ y∈scope.names,y.2≠.cell
 kind:scope.kind=.function
 loc:∀ y∈scope.names,y.2=.local→scope.names.lookup y.1=some .local
 xl:∀ x∈xs,scope.names.lookup x=some .local
 nc:NC=xs++idx.map λi=>X.N.getD i ""
 nd:NC.Nodup
 cap:∀ i∈idx,i<X.N.length∧((X.env.scope.names.lookup (X.N.getD i "")=some .cell∨X.env.scope.names.lookup (X.N.getD i "")=some .free)∧((relabel scope X.env).names.lookup (X.N.getD i "")=some .cell∨(relabel scope X.env).names.lookup (X.N.getD i "")=some .free))
section
variable{X:Cx}{scope:Scope}{cl:List (Str×Addr)}{xs:List Str}{idx:List Nat}{NC:List Str}{C:Addr}{fp:List Addr}{pins:List (Addr×Obj)}{σ:St}{H:Hp}{s:Shared}
theorem O4{h1:Heap}{t':Nat}(c:BC X scope cl xs idx NC)(I:Inv X pins σ H s)(hf:∀ b∈fp,uA X pins H b)(hlt:∀ b∈fp,b<s.heap.objs.size)(ns:h1.Ns s.heap.objs.size (λ_=>none))
  (k:∀ b o,s.heap.get? b=some o→h1.get? b=some o):Inv (cxC X scope cl NC s.heap.objs.size fp s H) [] (xs.map (λ_=>none)++lY σ idx) H {s with heap:=h1,toks:=t'}:=by
 have sub:∀ b,b∈frs X.stack→b∈X.env.locals::X.fs:=I.qK;refine⟨⟨I.ok.mod,c.kind,I.ok.glob,I.ok.blt,ae1 _,λy z a h1 h2=>I.ok.inj y z a (c.sub _ _ h1) (c.sub _ _ h2),c.has,λy a z=>(by cases z),I.ok.hd,I.ok.frames,.inl rfl,λb hb=>⟨afc (hlt b hb),λy a q=>(hf b hb).2.2.2.2.1 y a (c.sub _ _ q)⟩,
  λb o q=>I.bs b o q,afe I.ok.bsz I.sz,λb o q hb=>?_,λb hb z=>?_,I.stack,I.vJ⟩,rfl,I.bare,Un.kept k,⟨_,ns,λi y v e1 e2 e3=>?_⟩,λy a q=>?_,I.hok.fresh (ae1 _),λy a q=>I.lK _ _ (c.sub _ _ q),λp hp=>(by cases hp),I.hok.keeps λb u o _ q=>k b o q,?_⟩
 ·rcases(hf b hb).2.2.2.1 with z|z
  ·exact I.ok.Lx b o q z
  ·exact absurd (afb (ae4 (I.ok.bs b o q).1) z) (afQ _)
 ·rcases aff.mp (sub b z) with r|r
  ·exact(hf b hb).2.1 r
  ·exact(hf b hb).2.2.1 r
 ·rcases afX i xs.length with ci|ci
  ·rw[afy (by rw[aeV];exact ci),ae6,aeW ci]at e2
   cases e2
  ·obtain⟨j,rfl⟩:∃ j,i=xs.length+j:=⟨i-xs.length,by omega⟩
   have e1':(idx.map λi=>X.N.getD i "")[j]?=some y:=by
    have:(cxC X scope cl NC s.heap.objs.size fp s H).N=NC:=rfl
    rw[this,c.nc,afr (Nat.le_add_right _ _),Nat.add_sub_cancel_left]at e1;exact e1
   have e2':(lY σ idx)[j]?=some (some v):=by
    rw[afr (by rw[aeV];exact Nat.le_add_right _ _),aeV,Nat.add_sub_cancel_left]at e2;exact e2
   rw[ae6]at e1';unfold lY at e2';rw[ae6]at e2';cases ei:idx[j]? with
   | none=>rw[ei]at e1';cases e1'
   | some i =>
    rw[ei]at e1' e2';simp only[agd,Option.some.injEq]at e1' e2';obtain⟨hi,h2,h3⟩:=c.cap i (ae7 ei);rw[e1']at h2 h3;have hN:X.N[i]?=some y:=by
     rw[←e1'];simp[List.getD,aeW hi]
    have hσ:σ[i]?=some (some v):=by
     cases q:σ[i]? with
     | none=>rw[q]at e2';cases e2'
     | some o=>rw[q]at e2';simp only[Option.getD_some]at e2';rw[e2']
    obtain⟨m,hn,hl⟩:=I.loc;obtain⟨u,r,l⟩:=hl i y v hN hσ (h2.elim (λz=>.inr (.inl z)) λz=>.inr (.inr z));refine⟨u,r,.inr ⟨h3,?_⟩⟩;rcases l with⟨l,_⟩|⟨_,a,ha,hc⟩
    ·exfalso
     have l':X.env.scope.names.lookup y=some .local:=l;rcases h2 with z|z<;>(rw[l']at z;cases z)
    ·obtain⟨a',ha'⟩:=c.has y h3
     have:=c.sub _ _ ha'
     rw[ha]at this;cases this;exact⟨a,ha',hc.keeps k⟩
 ·obtain⟨v,z⟩:=I.cell _ _ (c.sub _ _ q)
  exact⟨v,z.keeps k⟩
 ·show _=NC.length
  rw[c.nc];simp[lY]
theorem JY(c:BC X scope cl xs idx NC){C:Addr}{fp:List Addr}{s₀:Shared}{H₀:Hp}{i:Nat}{x:Str}{p:Pos}(h:xs[i]?=some x):PG (cxC X scope cl NC C fp s₀ H₀) (.Name x p) (kU i):=by
 have hnl:(relabel scope X.env).names.lookup x=some .local:=lookup_relabel_local (c.xl x (ae7 h));exact eh (X:=cxC X scope cl NC C fp s₀ H₀) (i:=i) (x:=x) (pos:=p) c.nd (by show NC[i]?=some x;rw[c.nc,afy (aeY.mp h).1];exact h) (.inl hnl) (.inr hnl)
def N8(J:It)(D:Addr)(k:Nat)(τ:St)(g:TG)(tc:TT)(te:TE)(Q:VK)(H:Hp):Prop:=∃ W:Nat→Nat→List V→Hp→Prop,(∃ m,W 0 m [] H)∧∀ i m ys H2,W i m ys H2→H2 D=some (.lst ys) ∧
 ((J.stop i H2∧Q (.ref D) H2)∨(J.go i H2∧ys.length<sizeLine∧∃ N:List V→Hp→Prop,(∀ zs H',N zs H'→∃ m',m'<m∧W (i+1) m' zs H')∧∀ y H3,J.yld i H2 y H3→∀ vs:St,vs.length=k→g y (vs++τ) H3 λσ2 H4=>∃ ws:St,ws.length=k∧σ2=ws++τ∧tc (ws++τ) H4 λb H5=>if b=true then te (ws++τ) H5 λv H6=>H6 D=some (.lst ys)∧N (ys++[v]) (upd H6 D (.lst (ys++[v])))
  else N ys H5))
def YY(k:Nat)(wi:TI)(idx:List Nat)(g:TG)(tc:TT)(te:TE):TE:=λσ H Q=>wi σ H λJ H1=>∀ D,H1 D=none→N8 J D k (lY σ idx) g tc te Q (upd H1 D (.lst []))
theorem Qu{i:Nat}{y:Str}{elt iter ct tgt:Expr}{py pos JF:Pos}{g:TG}{wi:TI}{tc:TT}{te:TE}(hN:X.N.Nodup)(hi':X.N[i]?=some y)(hx:X.env.scope.names.lookup y=some .local)(c:BC X scope cl xs idx NC)(hc:X.calm=true)(hi:PI X tgt iter wi)(hg:BC X scope cl xs idx NC→∀ C fp s₀ H₀,PG (cxC X scope cl NC C fp s₀ H₀) tgt g)
  (ht:∀ C fp s₀ H₀,PT (cxC X scope cl NC C fp s₀ H₀) ct tc) (he:∀ C fp s₀ H₀,PE (cxC X scope cl NC C fp s₀ H₀) elt te) (hsw:swapsWith (.ListComp elt [⟨tgt,iter,[ct],0⟩] scope pos) (some (.Name y py)) JF.line X.env=pure true:=by rfl)
  (hs:∀ x,foldedSetIterable iter X.env x=pure x:=by intro _;rfl):PS X (.Assign [.Name y py] (.ListComp elt [⟨tgt,iter,[ct],0⟩] scope pos) JF) (NP (YY xs.length wi idx g tc te) (kU i)):=by
 intro pins s σ H D0 I h;rw[exec_Assign_Name_used _ _ _ _ hsw];refine wpAny_bind (wpAny_standAt (wpAny_bind ?_));show wpAny _ _ (do let _ ←comprehension (.ListComp elt [⟨tgt,iter,[ct],0⟩] scope pos) scope X.env _ (newList []) false (eval iter X.env) (some (assign (.Name y py) X.env))) _ _ s
 refine wpAny_bind (wpAny_mono (wpAny_comprehension_free (use:=some (assign (.Name y py) X.env)) (Q:=λ_ s'=>SP X pins D0 .next s') rfl hs c.Q3 c.kind c.loc
  (thn (hi pins s σ H _ I h) λv s1 h1=>thn h1 λitv s2 h2=>?_)) (λ_ s' hq=>wpAny_pure (wpAny_pure hq)) λ_ _ e=>e)
 obtain⟨it,fp,tn,J,H2,rfl,I2,T,st2,f2,q⟩:=h2;refine wpAny_newObj_type (wpAny_newFunctionEnv c.EN (by intro y hy;simp at hy) (λh₁ hns₁ hsb₁=>?_) c.kind);dsimp only at hns₁ hsb₁ ⊢;have I3:Inv X pins σ (upd H2 s2.heap.objs.size (.lst [])) {s2 with heap:=s2.heap.push {cls:=.type "list",data:=.seq ([]:List Value).toArray},toks:=s2.toks}:=I2.PQ (ys:=[]) (its:=[]) .nil (afw _);obtain⟨W,⟨m0,w0⟩,turn⟩:=q s2.heap.objs.size I2.fresh;generalize hD:s2.heap.objs.size=D at *;generalize hH:s2.heap.push {cls:=.type "list",data:=.seq ([]:List Value).toArray}=h3 at *;have FQ:∀ b∈fp,b<D:=λb hb=>by
  obtain⟨o,e,_⟩:=T.obj _ _ st2 b hb;rw[←hD];exact ae4 e
 have hlt:∀ b∈fp,b<h3.objs.size:=λb hb=>by
  rw[←hH,afY,hD];exact af1 (FQ b hb)
 have hf:∀ b∈fp,uA X pins (upd H2 D (.lst [])) b:=λb hb=>⟨by rw[af (afc (FQ b hb))];exact(f2 b hb).1,(f2 b hb).2⟩;have kp:∀ b o,h3.get? b=some o→h₁.get? b=some o:=λb o e=>hsb₁.extBut b o (afc (ae4 e)) (ae0 _ e);have I4:Inv (cxC X scope cl NC h3.objs.size fp {s2 with heap:=h3,toks:=s2.toks} (upd H2 D (.lst []))) [] (xs.map (λ_=>none)++lY σ idx) (upd H2 D (.lst [])) {s2 with heap:=h₁,toks:=s2.toks+([]:List (Str×Value)).length} :=
  O4 (s:={s2 with heap:=h3,toks:=s2.toks}) c I3 hf hlt hns₁ kp
 have sN:∀ {H':Hp},(∀ b∈fp,H' b=none)→∀ b∈fp,uA (cxC X scope cl NC h3.objs.size fp {s2 with heap:=h3,toks:=s2.toks} (upd H2 D (.lst []))) [] H' b:=λhn b hb =>
  ⟨hn b hb,afc (hlt b hb),λz=>(aff.mp (I3.qK b z)).elim (hf b hb).2.1 (hf b hb).2.2.1,.inl hb,λy a q=>(hf b hb).2.2.2.2.1 y a (c.sub _ _ q),λp hp=>(by cases hp)⟩
 have st1:tn 0 h₁:=T.keep 0 _ _ st2 λb hb o e=>kp b o (by rw[←hH];exact ae0 _ e);have loop:∀ s4:Shared,s4={s2 with heap:=h₁,toks:=s2.toks+([]:List (Str×Value)).length} →
   codeAny (model X.prog X.w) X.A (.compLoop (.ListComp elt [⟨tgt,iter,[ct],0⟩] scope pos) 0 (.ref it) (.ref D) (compEnvC scope cl h3.objs.size X.env)) (compPost (model X.prog X.w) X.A X.xe (some (assign (.Name y py) X.env)) (λ_ s'=>SP X pins D0 .next s') (.ref D) h3.objs.size) s4:=by
  rintro s4 rfl;refine pK (λn s'=>∃ i ys H' vs,vs.length=xs.length∧Inv (cxC X scope cl NC h3.objs.size fp {s2 with heap:=h3,toks:=s2.toks} (upd H2 D (.lst []))) [] (vs++lY σ idx) H' s'∧tn i s'.heap∧(∀ b∈fp,H' b=none)∧W i n ys H')
   ?_ m0 ⟨0,[],_,xs.map (λ_=>none),aeV _,I4,st1,λb hb=>(hf b hb).1,w0⟩
  rintro n s5 ⟨i5,ys,H5,vs,lvs,I5,st5,fr5,w5⟩;obtain⟨hDl,alt⟩:=turn i5 n ys H5 w5;rcases alt with⟨stop,qn⟩|⟨go,hz,N,hN',step⟩
  ·refine thn (T.done (cxC X scope cl NC h3.objs.size fp {s2 with heap:=h3,toks:=s2.toks} (upd H2 D (.lst []))) rfl rfl rfl hc i5 [] s5 _ H5 _ I5 (sN fr5) st5 stop) λr s6 ⟨hr,I6⟩=>?_
   subst hr;obtain⟨m,ns6,_⟩:=id I6.loc;have J6:Inv X pins σ H5 s6:=I3.Ho (ch:=fp) I6.os I6.base I6.hok I6.bare λb hb=>⟨(hf b hb).2.2.2.1,(hf b hb).2.1,(hf b hb).2.2.2.2.1,(hf b hb).2.2.2.2.2⟩;have fC:uA X pins H5 h3.objs.size:=I3.PH (ae1 _) I6.free;obtain⟨o,es,ep,ho,rr⟩:=ns6;have od:∀ v,o.data≠.cell v:=λv z=>by
    rw[rr.1]at z;cases z
   show wpAny _ _ (assign (.Name y py) X.env (.ref D)) (λ_ s''=>∃ m,s''.heap.Ns h3.objs.size m∧∀ h',Heap.SameBut h3.objs.size s''.heap h'→SP X pins D0 .next {s'' with heap:=h'}) X.xe s6;have J7:=J6.pinned (fp:=[h3.objs.size]) (λb hb=>by rw[aeX.mp hb];exact fC) (λb hb=>by rw[aeX.mp hb];exact⟨o,ho,od⟩);refine wpAny_mono (eh (pos:=py) hN hi' (.inl hx) (.inr hx) _ s6 _ H5 (.ref D) (.ref D) D0.nx J7 rfl qn) (λ_ s7 ⟨σ7,H7,I7,q7⟩=>?_) (λ_ _ z=>z);have pC:=I7.pin (h3.objs.size,o) (aeZ _ (aeZ _ (dN (aeX.mpr rfl) ho)));refine⟨m,⟨o,es,ep,pC.1,rr⟩,λh' hs'=>⟨σ7,H7,?_,q7⟩⟩;exact I7.jD.turned (t':=s7.toks) (it:=h3.objs.size) (λb o hb e=>hs'.extBut b o hb e) pC.2.1 fC.2.1 fC.2.2.2.1 fC.2.2.2.2.1 fC.2.2.2.2.2
  ·refine thn (T.item (cxC X scope cl NC h3.objs.size fp {s2 with heap:=h3,toks:=s2.toks} (upd H2 D (.lst []))) rfl rfl rfl hc i5 [] s5 _ H5 _ I5 (sN fr5) st5 go) λr s6 ⟨u,hr,h6⟩=>?_
   subst hr;refine thn h6 λ_ s7 ⟨y,H7,I7,r7,y7,st7,fr7⟩=>?_;have I7':=I7.pinned (sN fr7) (T.obj _ _ st7);refine wpAny_mono (hg c h3.objs.size fp {s2 with heap:=h3,toks:=s2.toks} (upd H2 D (.lst [])) _ s7 _ H7 y u _ I7' r7 (step y H7 y7 vs lvs)) (λ_ s8 ⟨σ8,H8,I8,ws,lws,e8,st8⟩=>?_) λ_ _ z=>z.elim;subst e8;refine wpAny_mono (ht _ _ _ _ _ s8 _ H8 _ I8 st8) (λbb s11 ⟨H11,I11,q11⟩=>?_) λ_ _ z=>z.elim;have fin:∀ {H12:Hp} {s12:Shared} {zs:List V} {m':Nat},Inv (cxC X scope cl NC h3.objs.size fp {s2 with heap:=h3,toks:=s2.toks} (upd H2 D (.lst []))) ([]++Bc fp s7.heap) (ws++lY σ idx) H12 s12→m'<n→W (i5+1) m' zs H12 →
     ∃ m,m<n∧∃ i ys H' vs,vs.length=xs.length∧Inv (cxC X scope cl NC h3.objs.size fp {s2 with heap:=h3,toks:=s2.toks} (upd H2 D (.lst []))) [] (vs++lY σ idx) H' s12∧tn i s12.heap∧(∀ b∈fp,H' b=none)∧W i m ys H':=λ{H12 s12 zs m'} I12 hm w12=>by
    refine⟨m',hm,i5+1,zs,_,ws,lws,I12.jD,T.keep _ _ _ st7 λb hb o e=>(I12.pin (b,o) (aeZ _ (aeZ _ (dN hb e)))).1,λb hb=>?_,w12⟩;obtain⟨o,e,d⟩:=T.obj _ _ st7 b hb;exact(I12.pin (b,o) (aeZ _ (aeZ _ (dN hb e)))).2.1
   cases bb with
   | false =>
    obtain⟨m',hm,w9⟩:=hN' _ _ q11;exact fin I11 hm w9
   | true =>
    refine wpAny_mono (he _ _ _ _ _ s11 _ H11 _ I11 q11) (λw s9 ⟨v,H9,I9,r9,hD9,n9⟩=>?_) λ_ _ z=>z.elim;obtain⟨m',hm,w9⟩:=hN' _ _ n9;refine wpAny_mono (uC (X:=(cxC X scope cl NC h3.objs.size fp {s2 with heap:=h3,toks:=s2.toks} (upd H2 D (.lst [])))) I9 hD9 hz r9) (λ_ s10 I10=>?_) λ_ _ z=>z.elim;exact fin I10 hm w9
 exact codeAny_compStart_list (loop _ rfl) (T.self _ 0 _ _ _ st1 (loop _ rfl))
end
def NG(sc scope:Scope)(xs:List Str)(ns N:List Str)(idx:List Nat):Prop :=
 (∀ y∈scope.names,y.2≠.cell)∧(∀ y∈scope.names,y.2=.local→scope.names.lookup y.1=some .local)∧(∀ x∈xs,scope.names.lookup x=some .local)∧(∀ p∈N4 sc scope.names,p.2=.cell∨p.2=.free→p.1∈ns)∧(xs++idx.map λi=>N.getD i "").Nodup ∧
 ∀ i∈idx,i<N.length∧((sc.names.lookup (N.getD i "")=some .cell∨sc.names.lookup (N.getD i "")=some .free)∧((N4 sc scope.names).lookup (N.getD i "")=some .cell∨(N4 sc scope.names).lookup (N.getD i "")=some .free))
instance (sc scope:Scope) (xs:List Str) (ns N:List Str) (idx:List Nat):Decidable (NG sc scope xs ns N idx):=by unfold NG;infer_instance
theorem Qv{X:Cx}{sc scope:Scope}{cl:List (Str×Addr)}{xs:List Str}{ns N:List Str}{idx:List Nat}(hsc:X.env.scope=sc)(hN:X.N=N)(hk:scope.kind=.function)(p:NG sc scope xs ns N idx)(hn:cl.map (·.1)=ns)
  (RF:closureFor scope X.env=pure cl) (abJ:∀ q∈cl,X.env.cells.lookup q.1=some q.2):BC X scope cl xs idx (xs++idx.map λi=>N.getD i ""):=by
 obtain⟨p1,p2,p3,p4,p5,p6⟩:=p;have re:(relabel scope X.env).names=N4 sc scope.names:=by subst hsc;rfl
 subst hsc hN hn;refine⟨RF,λy c q=>abJ (y,c) (afx q),λy h=>?_,p1,hk,p2,p3,rfl,p5,λi hi=>?_⟩
 ·rw[re]at h
  refine uf ?_;rcases h with h|h
  ·exact p4 (y,.cell) (afx h) (.inl rfl)
  ·exact p4 (y,.free) (afx h) (.inr rfl)
 ·rw[re]
  exact p6 i hi
theorem MD{K:W.Frag}{a:Addr}{xs:List V}{k:Nat}{g:TG}{tc:TT}{te:TE}{Q:VK}{D:Addr}{τ:St}{H:Hp}(Pv:Nat→List V→Hp→Prop)(h0:Pv 0 [] H)(hD:∀ i ys H,i≤xs.length→Pv i ys H→H D=some (.lst ys)∧ys.length≤i)(hl:∀ i ys H,i≤xs.length→Pv i ys H→SqL K H a xs)(hn:xs.length≤sizeLine)
  (hs:∀ i x ys H,xs[i]?=some x→Pv i ys H→∀ vs:St,vs.length=k→g x (vs++τ) H λσ2 H4=>∃ ws:St,ws.length=k∧σ2=ws++τ∧tc (ws++τ) H4 λb H5=>if b=true then te (ws++τ) H5 λv H6=>H6 D=some (.lst ys)∧Pv (i+1) (ys++[v]) (upd H6 D (.lst (ys++[v]))) else Pv (i+1) ys H5)
  (hd:∀ ys H,Pv xs.length ys H→Q (.ref D) H):N8 (Itl K a) D k τ g tc te Q H:=by
 refine⟨λi m ys H=>m=xs.length-i∧i≤xs.length∧Pv i ys H,⟨xs.length,by simp,afw _,h0⟩,?_⟩;rintro i m ys H2 ⟨rfl,hi,p⟩;obtain⟨d1,d2⟩:=hD i ys H2 hi p;refine⟨d1,?_⟩;have hS:=hl i ys H2 hi p;by_cases hlt:i<xs.length
 ·refine .inr ⟨⟨xs,xs[i],hS,aeW hlt⟩,by omega,Pv (i+1),λzs H' p'=>⟨xs.length-(i+1),by omega,rfl,hlt,p'⟩,λy H3 q=>?_⟩
  obtain⟨e1,e2⟩:=q;subst e1;exact hs i y ys _ (e2 xs (hl i ys _ hi p)) p
 ·have e:i=xs.length:=by omega
  subst e;exact .inl ⟨⟨xs,hS,ae1 _⟩,hd ys H2 p⟩
end L2
end
section
namespace K08
open PySem L2 LX
abbrev i0:Stmt:=inClass (top 2) 0
abbrev qf:Stmt:=inClass (top 3) 0
abbrev qg:Stmt:=inClass (top 4) 0
abbrev oI:Stmt:=inClass (top 5) 0
abbrev oJ:Stmt:=inClass (top 6) 0
abbrev rB:Stmt:=inClass (top 7) 0
abbrev kR:Stmt:=inClass (top 8) 0
abbrev qh:Stmt:=inClass (top 9) 0
abbrev qi:Stmt:=inClass (top 10) 0
abbrev qj:Stmt:=inClass (top 11) 0
abbrev nU:Stmt:=top 19
abbrev pL:Stmt:=top 20
abbrev Dz:Stmt:=top 21
abbrev yd:Stmt:=top 22
abbrev k7:Stmt:=top 23
abbrev nV:Stmt:=top 24
abbrev nW:Stmt:=top 25
abbrev mG:Stmt:=top 26
abbrev k8:Stmt:=top 27
abbrev k9:Stmt:=inClass (top 29) 0
abbrev mI:Stmt:=inClass (top 29) 1
abbrev j9:Stmt:=inClass (top 29) 2
abbrev ug:Stmt:=inClass (top 29) 3
abbrev qS:Stmt:=inClass (top 29) 4
abbrev nX:Stmt:=inClass (top 29) 5
abbrev qT:Stmt:=inClass (top 29) 6
abbrev pM:Stmt:=inClass (top 29) 7
abbrev ka:Stmt:=inClass (top 29) 9
abbrev i3:Stmt:=inClass (top 32) 0
abbrev lh:Stmt:=inClass (top 32) 1
abbrev jE:Stmt:=inClass (top 32) 2
abbrev jT:Stmt:=inClass (top 32) 4
abbrev lj:Stmt:=inClass (top 32) 6
abbrev qU:Stmt:=top 34
abbrev i4:Stmt:=inClass (top 36) 0
abbrev lp:Stmt:=inClass (top 36) 1
abbrev kc:Stmt:=inClass (top 36) 2
abbrev iJ:Stmt:=inClass (top 36) 3
abbrev hW:Stmt:=inClass (top 36) 4
abbrev mJ:Stmt:=inClass (top 38) 0
abbrev lq:Stmt:=inClass (top 38) 1
abbrev uh:Stmt:=inClass (top 38) 2
abbrev qV:Stmt:=inClass (top 38) 3
abbrev ui:Stmt:=inClass (top 38) 4
abbrev uj:Stmt:=inClass (top 38) 5
abbrev pN:Stmt:=inClass (top 38) 6
abbrev uk:Stmt:=inClass (top 38) 7
abbrev ke:Stmt:=inClass (top 38) 8
abbrev um:Stmt:=inClass (top 38) 9
abbrev hX:Stmt:=inClass (top 38) 10
abbrev pO:Stmt:=inClass (top 38) 11
abbrev jF:Stmt:=inClass (top 38) 12
abbrev hZ:Stmt:=inClass (top 38) 15
abbrev gQ:Stmt:=inClass (top 38) 16
abbrev pP:Stmt:=top 39
abbrev i6:Stmt:=inClass (top 41) 0
abbrev lA:Stmt:=inClass (top 41) 1
abbrev lB:Stmt:=inClass (top 41) 2
abbrev lC:Stmt:=inClass (top 41) 4
abbrev kf:Stmt:=inClass (top 41) 5
abbrev jU:Stmt:=inClass (top 41) 6
abbrev lD:Stmt:=inClass (top 41) 8
abbrev kg:Stmt:=inClass (top 41) 9
abbrev kh:Stmt:=inClass (top 41) 10
abbrev mK:Stmt:=inClass (top 41) 11
abbrev i7:Stmt:=inClass (top 41) 12
abbrev ki:Stmt:=inClass (top 41) 13
abbrev kj:Stmt:=inClass (top 41) 14
abbrev jV:Stmt:=inClass (top 41) 15
abbrev iK:Stmt:=inClass (top 41) 16
abbrev jW:Stmt:=inClass (top 41) 17
abbrev jG:Stmt:=inClass (top 41) 18
abbrev jX:Stmt:=inClass (top 41) 19
abbrev lE:Stmt:=inClass (top 41) 20
abbrev lF:Stmt:=inClass (top 41) 21
abbrev km:Stmt:=inClass (top 41) 22
abbrev nY:Stmt:=top 43
abbrev uo:Stmt:=top 44
abbrev qW:Stmt:=top 45
abbrev uq:Stmt:=top 46
abbrev pk:Stmt:=top 47
abbrev lO:Stmt:=top 48
abbrev ye:Stmt:=top 49
abbrev ur:Stmt:=top 50
abbrev bL:Stmt:=top 51
abbrev dq:Stmt:=top 52
abbrev oo:Stmt:=top 53
structure Ad where
 aM:Addr
 cJ:Addr
 bE:Addr
 eE:Addr
 eO:Addr
 bM:Addr
 eW:Addr
 iW:Addr
 gH:Addr
 gI:Addr
 a6:Addr
 aE:Addr
 aD:Addr
 aY:Addr
 aa:Addr
 aj:Addr
 aB:FuncData
 cK:Addr
 fI:FuncData
 cL:Addr
 fJ:FuncData
 cc:Addr
 fe:FuncData
 cf:Addr
 fg:FuncData
 dj:Addr
 gn:FuncData
 bh:Addr
 c5:FuncData
 cM:Addr
 fK:FuncData
 cN:Addr
 fL:FuncData
 eL:Addr
 je:FuncData
 d8:Addr
 i9:FuncData
 de:Addr
 gJ:FuncData
 iX:Addr
 oj:FuncData
 gM:Addr
 lP:FuncData
 b5:Addr
 fM:FuncData
 bp:Addr
 cD:FuncData
 da:Addr
 hG:FuncData
 cF:Addr
 gp:FuncData
 cO:Addr
 gR:FuncData
 dA:Addr
 gS:FuncData
 cG:Addr
 fA:FuncData
 bO:Addr
 dR:FuncData
 eZ:Addr
 iw:FuncData
 gC:Addr
 kD:FuncData
 eX:Addr
 ja:FuncData
 eU:Addr
 iD:FuncData
 fN:Addr
 jL:FuncData
 ba:Addr
 cg:FuncData
 bR:Addr
 eP:FuncData
 dB:Addr
 gT:FuncData
 b6:Addr
 fB:FuncData
 cw:Addr
 fY:FuncData
 dC:Addr
 gU:FuncData
 fF:Addr
 kF:FuncData
 bS:Addr
 eQ:FuncData
 dD:Addr
 gW:FuncData
 cU:Addr
 gx:FuncData
 bH:Addr
 eD:FuncData
 cx:Addr
 fZ:FuncData
 cH:Addr
 iG:FuncData
 b7:Addr
 gX:FuncData
 fT:Addr
 lZ:FuncData
 eV:Addr
 kG:FuncData
 fU:Addr
 l7:FuncData
 fV:Addr
 l8:FuncData
 dW:Addr
 jM:FuncData
 fW:Addr
 l9:FuncData
 bP:Addr
 gy:FuncData
 fX:Addr
 me:FuncData
 bD:Addr
 f7:FuncData
 di:Addr
 iM:FuncData
 aS:Addr
 cQ:FuncData
 bg:Addr
 eG:FuncData
 bt:Addr
 eM:FuncData
 eR:Addr
 jN:FuncData
 bT:Addr
 eS:FuncData
 dE:Addr
 gY:FuncData
 dF:Addr
 gZ:FuncData
 eN:Addr
 jf:FuncData
 dS:Addr
 iP:FuncData
 dr:Addr
 h9:FuncData
 dG:Addr
 g4:FuncData
 bB:Addr
 cV:FuncData
 cW:Addr
 gz:FuncData
 el:Addr
 iH:FuncData
 bw:Addr
 dw:FuncData
 ck:Addr
 fi:FuncData
 cX:Addr
 gA:FuncData
 bW:Addr
 eI:FuncData
 aW:Addr
 b8:FuncData
 bX:Addr
 eJ:FuncData
 bI:Addr
 dX:FuncData
 cy:Addr
 f9:FuncData
 dH:Addr
 g5:FuncData
 dI:Addr
 g7:FuncData
 cY:Addr
 gB:FuncData
 d9:Addr
 jb:FuncData
 gD:Addr
 mh:FuncData
 fG:Addr
 kH:FuncData
 gE:Addr
 mj:FuncData
 gF:Addr
 mx:FuncData
 dY:Addr
 iN:FuncData
 iI:Addr
 oq:FuncData
 gG:Addr
 mz:FuncData
 cP:Addr
 kI:FuncData
 bY:Addr
 gb:FuncData
 Bn:Addr
 ME:FuncData
 FT:Tok
 m9:Tok
 lQ:Tok
 ng:Tok
 nj:Tok
 nk:Tok
 kq:Tok
structure Txt(K:W.Frag)(mg:Str→Option Value)(D:Ad):Prop where
 h:∃ cd,iZ K D.aM cd
 mH:mg "HeapError" = some (.ref D.aM)
 mB:mg "BadCount" = some (.ref D.cJ)
 pq:LL K D.cJ
 mC:MkX K D.cJ D.aj
 Ve:PySem.W.kitOne K (.ref D.cJ) (.type "ValueError")=some true
 Ii:∃ cd,iZ K D.cJ cd∧cd.mro.contains (.ref D.aM)=true
 Kv:Meth K D.cJ "called" D.cf
 yh:mg "BadHand" = some (.ref D.bE)
 j2:LL K D.bE
 yi:MkX K D.bE D.aj
 X2:PySem.W.kitOne K (.ref D.bE) (.type "ValueError")=some true
 Kw:∃ cd,iZ K D.bE cd∧cd.mro.contains (.ref D.aM)=true
 MF:Meth K D.bE "called" D.cK
 MG:mg "BadName" = some (.ref D.eE)
 yj:LL K D.eE
 MH:MkX K D.eE D.aj
 X3:PySem.W.kitOne K (.ref D.eE) (.type "ValueError")=some true
 Kx:∃ cd,iZ K D.eE cd∧cd.mro.contains (.ref D.aM)=true
 MI:Meth K D.eE "called" D.cL
 Ky:mg "BadField" = some (.ref D.eO)
 uu:LL K D.eO
 Kz:MkX K D.eO D.aj
 Vf:PySem.W.kitOne K (.ref D.eO) (.type "ValueError")=some true
 Ij:∃ cd,iZ K D.eO cd∧cd.mro.contains (.ref D.aM)=true
 KA:Meth K D.eO "called" D.cc
 D3:mg "TooManyWords" = some (.ref D.bM)
 rC:LL K D.bM
 D4:MkX K D.bM D.aj
 Pr:PySem.W.kitOne K (.ref D.bM) (.type "ValueError")=some true
 BD:∃ cd,iZ K D.bM cd∧cd.mro.contains (.ref D.aM)=true
 D5:Meth K D.bM "called" D.bh
 MJ:mg "BadView" = some (.ref D.eW)
 MK:LL K D.eW
 ML:MkX K D.eW D.aj
 X4:PySem.W.kitOne K (.ref D.eW) (.type "ValueError")=some true
 Vg:∃ cd,iZ K D.eW cd∧cd.mro.contains (.ref D.aM)=true
 X5:Meth K D.eW "called" D.eL
 O5:mg "NoRoom" = some (.ref D.iW)
 HV:LL K D.iW
 O6:MkX K D.iW D.aj
 Zc:PySem.W.kitOne K (.ref D.iW) (.type "ValueError")=some true
 MM:∃ cd,iZ K D.iW cd∧cd.mro.contains (.ref D.aM)=true
 O7:Meth K D.iW "called" D.dj
 MN:mg "RoundOn" = some (.ref D.gH)
 FU:LL K D.gH
 MO:MkX K D.gH D.aj
 X6:PySem.W.kitOne K (.ref D.gH) (.type "ValueError")=some true
 KC:∃ cd,iZ K D.gH cd∧cd.mro.contains (.ref D.aM)=true
 MP:Meth K D.gH "called" D.cM
 MQ:mg "NoRound" = some (.ref D.gI)
 FV:LL K D.gI
 MR:MkX K D.gI D.aj
 X7:PySem.W.kitOne K (.ref D.gI) (.type "ValueError")=some true
 KD:∃ cd,iZ K D.gI cd∧cd.mro.contains (.ref D.aM)=true
 MS:Meth K D.gI "called" D.cN
 Qw:mg "Hands" = some (.ref D.a6)
 aZ:Cls K D.a6
 Gq:Mk K D.a6 D.dA
 cz:e7 K D.a6 "words_held"
 lG:Meth K D.a6 "word_in" D.cG
 jY:Meth K D.a6 "all_words" D.bO
 nr:Meth K D.a6 "put" D.eZ
 GF:Meth K D.a6 "copy" D.gC
 D6:Meth K D.a6 "number" D.eX
 pQ:Meth K D.a6 "kind" D.eU
 EU:Meth K D.a6 "value" D.fN
 gc:Meth K D.a6 "thing_due" D.ba
 Ik:mg "WordTable" = some (.ref D.aE)
 bG:Cls K D.aE
 qX:Mk K D.aE D.bR
 bo:e7 K D.aE "words_borne"
 hR:e7 K D.aE "words_said"
 yv:Meth K D.aE "bear" D.dB
 sX:Meth K D.aE "word_of" D.b6
 uD:Meth K D.aE "settle" D.cw
 yw:Meth K D.aE "said" D.dC
 Il:mg "NameTable" = some (.ref D.aD)
 dZ:Cls K D.aD
 qY:Mk K D.aD D.bS
 b4:e7 K D.aD "things_named"
 yx:Meth K D.aD "name" D.dD
 wa:Meth K D.aD "named" D.cU
 qw:Meth K D.aD "all_named" D.bH
 uE:Meth K D.aD "settle" D.cx
 UN:mg "Heap" = some (.ref D.aY)
 abM:Cls K D.aY
 N9:Mk K D.aY D.cH
 Mg:e7 K D.aY "makes_young"
 Pt:e7 K D.aY "in_hands"
 Nm:e7 K D.aY "weak_names"
 Nn:e7 K D.aY "last_words"
 Mh:e7 K D.aY "fields_held"
 LP:e7 K D.aY "young_things"
 Np:e7 K D.aY "next_thing"
 Nq:Meth K D.aY "add_thing" D.b7
 RN:Meth K D.aY "load" D.fT
 Rg:Meth K D.aY "store" D.eV
 RO:Meth K D.aY "copy" D.fU
 RP:Meth K D.aY "drop" D.fV
 PY:Meth K D.aY "number" D.dW
 RQ:Meth K D.aY "name" D.fW
 Mi:Meth K D.aY "read_thing" D.bP
 RR:Meth K D.aY "word" D.fX
 LQ:Meth K D.aY "small_round" D.bD
 PZ:Meth K D.aY "let_go" D.di
 JZ:Meth K D.aY "look_at_held" D.aS
 LR:Meth K D.aY "words_among" D.bg
 Nr:Meth K D.aY "led_among" D.bt
 UO:XY K D.aY "__init__" D.cH
 Im:mg "IdealHeap" = some (.ref D.aa)
 ab:Cls K D.aa
 qZ:Mk K D.aa D.bT
 gP:e7 K D.aa "makes_young"
 ay:e7 K D.aa "in_hands"
 dP:e7 K D.aa "weak_names"
 dQ:e7 K D.aa "last_words"
 az:e7 K D.aa "fields_held"
 a5:e7 K D.aa "young_things"
 fE:e7 K D.aa "next_thing"
 j6:e7 K D.aa "young_room"
 oK:e7 K D.aa "limit"
 aX:e7 K D.aa "doomed_things"
 dz:e7 K D.aa "in_round"
 qx:Meth K D.aa "add_thing" D.b7
 yy:Meth K D.aa "load" D.fT
 wc:Meth K D.aa "store" D.eV
 yz:Meth K D.aa "copy" D.fU
 yA:Meth K D.aa "drop" D.fV
 uF:Meth K D.aa "number" D.dW
 yB:Meth K D.aa "name" D.fW
 pX:Meth K D.aa "read_thing" D.bP
 yC:Meth K D.aa "word" D.fX
 oW:Meth K D.aa "small_round" D.bD
 mQ:Meth K D.aa "let_go" D.di
 gk:Meth K D.aa "look_at_held" D.aS
 jH:Meth K D.aa "words_among" D.bg
 hU:Meth K D.aa "led_among" D.bt
 yD:Meth K D.aa "make" D.dE
 yE:Meth K D.aa "read" D.dF
 Nu:Meth K D.aa "kind" D.eN
 Mj:Meth K D.aa "value" D.dS
 LS:Meth K D.aa "fields" D.dr
 yF:Meth K D.aa "held" D.dG
 gf:Meth K D.aa "small" D.bB
 we:Meth K D.aa "begin" D.cW
 BE:Meth K D.aa "end" D.el
 kT:Meth K D.aa "round_on" D.bw
 nI:Meth K D.aa "hands" D.ck
 wg:Meth K D.aa "names" D.cX
 mR:Meth K D.aa "things" D.bW
 hV:Meth K D.aa "fields_of" D.aW
 mT:Meth K D.aa "is_old" D.bX
 i8:Meth K D.aa "word_of" D.bI
 uG:Meth K D.aa "doomed" D.cy
 yG:Meth K D.aa "said" D.dH
 yI:Meth K D.aa "made" D.dI
 wj:Meth K D.aa "spare" D.cY
 EV:mg "number_value" = some (.ref D.d8)
 nZ:PySem.W.keepIn K (.ref D.d8)=true
 pR:mg "thing_value" = some (.ref D.de)
 jO:PySem.W.keepIn K (.ref D.de)=true
 HW:mg "kind_of" = some (.ref D.iX)
 vH:PySem.W.keepIn K (.ref D.iX)=true
 FW:mg "words_of" = some (.ref D.gM)
 rG:PySem.W.keepIn K (.ref D.gM)=true
 qk:mg "look_at_number" = some (.ref D.b5)
 jg:PySem.W.keepIn K (.ref D.b5)=true
 gi:mg "look_at_hand" = some (.ref D.bp)
 ed:PySem.W.keepIn K (.ref D.bp)=true
 ud:mg "look_at_name" = some (.ref D.da)
 kr:PySem.W.keepIn K (.ref D.da)=true
 rH:mg "look_at_field" = some (.ref D.cF)
 jQ:PySem.W.keepIn K (.ref D.cF)=true
 BF:mg "look_at_limits" = some (.ref D.cO)
 lH:PySem.W.keepIn K (.ref D.cO)=true
 Io:mg "last_steps" = some (.ref D.fF)
 ra:PySem.W.keepIn K (.ref D.fF)=true
 vP:mg "thing_among" = some (.ref D.eR)
 lR:PySem.W.keepIn K (.ref D.eR)=true
 EW:mg "_law_numbers" = some (.ref D.d9)
 oa:PySem.W.keepIn K (.ref D.d9)=true
 KG:mg "_law_deed" = some (.ref D.gD)
 uv:PySem.W.keepIn K (.ref D.gD)=true
 Ip:mg "_law_plain" = some (.ref D.fG)
 rf:PySem.W.keepIn K (.ref D.fG)=true
 KH:mg "_law_done" = some (.ref D.gE)
 uw:PySem.W.keepIn K (.ref D.gE)=true
 ux:mg "_law_told" = some (.ref D.gF)
 mD:PySem.W.keepIn K (.ref D.gF)=true
 pS:mg "_law_things" = some (.ref D.dY)
 jP:PySem.W.keepIn K (.ref D.dY)=true
 MT:mg "_law_led" = some (.ref D.iI)
 yl:PySem.W.keepIn K (.ref D.iI)=true
 KI:mg "_law_heap" = some (.ref D.gG)
 uy:PySem.W.keepIn K (.ref D.gG)=true
 Iq:mg "_law_deeds" = some (.ref D.cP)
 rg:PySem.W.keepIn K (.ref D.cP)=true
 nJ:mg "_law_small_right" = some (.ref D.bY)
 ia:PySem.W.keepIn K (.ref D.bY)=true
 aeS:mg "law" = some (.ref D.Bn)
 X8:PySem.W.keepIn K (.ref D.Bn)=true
 Bo:mg "len" = none
 FX:mg "range" = none
 sY:mg "list" = none
 qN:mg "sorted" = none
 RI:mg "sum" = none
 RJ:mg "abs" = none
 mE:mg "enumerate" = none
 rh:mg "ValueError" = none
 FY:mg "HANDS" = some (.int 8 D.FT)
 nu:mg "WEAK_NAMES" = some (.int 8 D.m9)
 pT:mg "MOST_FIELDS" = some (.int 6 D.lQ)
 nv:mg "LEAST_ROOM" = some (.int 7 D.ng)
 rj:mg "MOST_YOUNG" = some (.int 64 D.nj)
 rk:mg "MOST_LIMIT" = some (.int 400 D.nk)
 ku:mg "MOST_BEARERS" = some (.int 12 D.kq)
structure Ok(P:Program)(w:World)(K:W.Frag)(mg:Str→Option Value)(base:Heap)(n:Nat)(f:Addr)(fd:FuncData)(ps:List Str)(sp:Sp):Prop where
 g:Bw P w K mg base (CXE P w) n f fd ps sp
 b:Binds K fd ps []
inductive Wd where
 | no
 | num (x:Int)
 | th (t:Int)
 deriving DecidableEq
def Wd.kind:Wd→Str
 | .no => "none"
 | .num _ => "number"
 | .th _ => "thing"
def Wd.vl:Wd→Vl
 | .no=>.a .non
 | .num x=>.t [.a (.str "number"),.a (.int x)]
 | .th t=>.t [.a (.str "thing"),.a (.int t)]
def WV(H:Hp)(v:V):Wd→Prop
 | .no=>v=.non
 | .num x=>∃ t,v=.ref t∧H t=some (.tup [.str "number",.int x])
 | .th x=>∃ t,v=.ref t∧H t=some (.tup [.str "thing",.int x])
def fv(H H':Hp):Prop:=∀ t us,H t=some (.tup us)→H' t=some (.tup us)
theorem fv.of{H H':Hp}(s:aC H H'):fv H H':=λt us q=>s _ _ q
theorem fv.trans{H H1 H2:Hp}(a:fv H H1)(b:fv H1 H2):fv H H2:=λt us q=>b t us (a t us q)
theorem fv.set{H:Hp}{c:Addr}{u o:HO}(h:H c=some u)(n:∀ xs,u≠.tup xs):fv H (upd H c o):=λt us q=>by
 rw[af λe=>by rw[e,h]at q;exact n us (afo q)];exact q
theorem WV.keep{H H':Hp}{v:V}{w:Wd}(h:WV H v w)(s:fv H H'):WV H' v w:=by
 cases w with
 | no=>exact h
 | num n=>obtain⟨t,e,q⟩:=h;exact⟨t,e,s _ _ q⟩
 | th n=>obtain⟨t,e,q⟩:=h;exact⟨t,e,s _ _ q⟩
theorem Rh{H:Hp}{t:Addr}{z:Str}{n:Int}(h:H t=some (.tup [.str z,.int n])):Rp H 1 (.ref t) (.t [.a (.str z),.a (.int n)]):=by
 refine⟨t,_,rfl,h,rfl,λi u x h1 h2=>?_⟩
 match i,h1,h2 with
 | 0,h1,h2=>cases h1;cases h2;exact⟨rfl,rfl⟩
 | 1,h1,h2=>cases h1;cases h2;exact⟨rfl,rfl⟩
 | i+2,h1,_=>simp at h1
theorem WV.rp{H:Hp}{v:V}{w:Wd}(h:WV H v w):Rp H 1 v w.vl:=by
 cases w with
 | no=>exact⟨h,rfl⟩
 | num n=>obtain⟨t,rfl,q⟩:=h;exact Rh q
 | th n=>obtain⟨t,rfl,q⟩:=h;exact Rh q
def Rel(H:Hp)(xs:List V)(ws:List Wd):Prop:=xs.length=ws.length∧∀(i:Nat) (v:V) (w:Wd),xs[i]?=some v→ws[i]?=some w→WV H v w
theorem Rel.keep{H H':Hp}{xs:List V}{ws:List Wd}(h:Rel H xs ws)(s:fv H H'):Rel H' xs ws:=⟨h.1,λi v w a b=>(h.2 i v w a b).keep s⟩
theorem Rel.get{H:Hp}{xs:List V}{ws:List Wd}(h:Rel H xs ws){i:Nat}(hi:i<ws.length):∃ v,xs[i]?=some v∧WV H v ws[i] :=
 ⟨_,aeW (by rw[h.1];exact hi),h.2 i _ _ (aeW (by rw[h.1];exact hi)) (aeW hi)⟩
theorem Rel.set{H:Hp}{xs:List V}{ws:List Wd}{i:Nat}{v:V}{w:Wd}(h:Rel H xs ws)(hv:WV H v w):Rel H (xs.set i v) (ws.set i w):=by
 refine⟨by rw[afZ,afZ];exact h.1,λj u y a b=>?_⟩;rw[List.getElem?_set]at a b;by_cases e:i=j
 ·subst e
  simp only[if_true]at a b;split at a
  ·split at b
   ·cases a;cases b;exact hv
   ·cases b
  ·cases a
 ·rw[if_neg e]at a b
  exact h.2 j u y a b
theorem Rel.nil{H:Hp}{n:Nat}:Rel H (List.replicate n .non) (List.replicate n .no):=⟨by simp,λi v w a b=>by
 rw[afK (ae7 a),afK (ae7 b)];rfl⟩
def nmV:Option Int→V
 | none=>.non
 | some t=>.int t
structure HS where
 my:Bool
 bq:List Wd
 names:List (Option Int)
 aR:List (Int×Int)
 ot:List Int
 aN:List (Int×List Wd)
 yng:List Int
 nxt:Int
 room:Int
 limit:Int
 dO:List Int
 rnd:Bool
structure HA where
 dx:Addr
 hd:Addr
 hdx:Addr
 hl:Addr
 hx:List V
 nt:Addr
 ntx:Addr
 nl:Addr
 wt:Addr
 wtx:Addr
 wb:Addr
 wl:Addr
 fh:Addr
 fa:Int→Addr
 fx:Int→List V
 yg:Addr
 dm:Addr
def atts(A:HA)(s:HS):List (Str×V):=[("makes_young",.bl s.my),("in_hands",.ref A.hd),("weak_names",.ref A.nt),("last_words",.ref A.wt),("fields_held",.ref A.fh),("young_things",.ref A.yg),("next_thing",.int s.nxt),("young_room",.int s.room),("limit",.int s.limit),("doomed_things",.ref A.dm),("in_round",.bl s.rnd)]
theorem X9{A:HA}{s:HS}:(atts A s).lookup ("makes_young" : Str)=some (.bl s.my):=by kernel_rfl
theorem ny{A:HA}{s:HS}:(atts A s).lookup ("in_hands" : Str)=some (.ref A.hd):=by kernel_rfl
theorem Pu{A:HA}{s:HS}:(atts A s).lookup ("weak_names" : Str)=some (.ref A.nt):=by kernel_rfl
theorem Pw{A:HA}{s:HS}:(atts A s).lookup ("last_words" : Str)=some (.ref A.wt):=by kernel_rfl
theorem qt{A:HA}{s:HS}:(atts A s).lookup ("fields_held" : Str)=some (.ref A.fh):=by kernel_rfl
theorem Ka{A:HA}{s:HS}:(atts A s).lookup ("young_things" : Str)=some (.ref A.yg):=by kernel_rfl
theorem Yb{A:HA}{s:HS}:(atts A s).lookup ("next_thing" : Str)=some (.int s.nxt):=by kernel_rfl
theorem aci{A:HA}{s:HS}:(atts A s).lookup ("young_room" : Str)=some (.int s.room):=by kernel_rfl
theorem acj{A:HA}{s:HS}:(atts A s).lookup ("limit" : Str)=some (.int s.limit):=by kernel_rfl
theorem Kb{A:HA}{s:HS}:(atts A s).lookup ("doomed_things" : Str)=some (.ref A.dm):=by kernel_rfl
theorem RK{A:HA}{s:HS}:(atts A s).lookup ("in_round" : Str)=some (.bl s.rnd):=by kernel_rfl
theorem ack{A:HA}{s:HS}{n:Int}:iE "next_thing" (.int n) (atts A s)=atts A {s with nxt:=n}:=by kernel_rfl
theorem acm{A:HA}{s:HS}{b:Bool}:iE "in_round" (.bl b) (atts A s)=atts A {s with rnd:=b}:=by kernel_rfl
theorem acn{A:HA}{s:HS}{a:Addr}:iE "young_things" (.ref a) (atts A s)=atts {A with yg:=a} s:=by kernel_rfl
theorem aco{A:HA}{s:HS}{a:Addr}:iE "doomed_things" (.ref a) (atts A s)=atts {A with dm:=a} s:=by kernel_rfl
def bkv(p:Int×Int):Key×V:=(Sum.inl p.1,.int p.2)
def tkv(t:Int):Key×V:=(Sum.inl t,.bl true)
def fkv(A:HA)(p:Int×List Wd):Key×V:=(Sum.inl p.1,.ref (A.fa p.1))
structure IH(D:Ad)(H:Hp)(x:Addr)(A:HA)(s:HS):Prop where
 ax:H x=some (.ins D.aa A.dx (atts A s))
 ahd:H A.hd=some (.ins D.a6 A.hdx [("words_held",.ref A.hl)])
 ahl:H A.hl=some (.lst A.hx)
 rhl:Rel H A.hx s.bq
 ant:H A.nt=some (.ins D.aD A.ntx [("things_named",.ref A.nl)])
 anl:H A.nl=some (.lst (s.names.map nmV))
 awt:H A.wt=some (.ins D.aE A.wtx [("words_borne",.ref A.wb),("words_said",.ref A.wl)])
 awb:H A.wb=some (.dK (s.aR.map bkv))
 awl:H A.wl=some (.lst (s.ot.map V.int))
 afh:H A.fh=some (.dK (s.aN.map (fkv A)))
 afl:∀ t ws,(t,ws)∈s.aN→H (A.fa t)=some (.lst (A.fx t))∧Rel H (A.fx t) ws
 ayg:H A.yg=some (.dK (s.yng.map tkv))
 adm:H A.dm=some (.dK (s.dO.map tkv))
 nhn:A.hd≠A.nt
 l1:A.hl≠A.nl
 l2:A.hl≠A.wl
 l3:A.nl≠A.wl
 l4:∀ t ws,(t,ws)∈s.aN→A.fa t≠A.hl∧A.fa t≠A.nl∧A.fa t≠A.wl
 l5:∀ t ws t' ws',(t,ws)∈s.aN→(t',ws')∈s.aN→A.fa t=A.fa t'→t=t'
 d1:A.wb≠A.fh
 d2:A.wb≠A.yg
 d3:A.wb≠A.dm
 d4:A.fh≠A.yg
 d5:A.fh≠A.dm
 d6:A.yg≠A.dm
inductive bU(x:Addr)(A:HA)(s:HS):Addr→Prop where
 | x:bU x A s x
 | hd:bU x A s A.hd
 | hl:bU x A s A.hl
 | nt:bU x A s A.nt
 | nl:bU x A s A.nl
 | wt:bU x A s A.wt
 | wb:bU x A s A.wb
 | wl:bU x A s A.wl
 | fh:bU x A s A.fh
 | yg:bU x A s A.yg
 | dm:bU x A s A.dm
 | fl {t:Int} {ws:List Wd}:(t,ws)∈s.aN→bU x A s (A.fa t)
theorem lS{C d C' d':Addr}{fs gs:List (Str×V)}(h:fs.length≠gs.length):HO.ins C d fs≠HO.ins C' d' gs:=λe=>by
 injection e with _ _ e;exact h (congrArg List.length e)
section
variable{D:Ad}{H H' H1 H2:Hp}{x:Addr}{A A':HA}{s s':HS}
theorem IH.is(J:IH D H x A s){b:Addr}(f:bU x A s b):∃ u,H b=some u∧∀ xs,u≠.tup xs:=by
 cases f with
 | x=>exact⟨_,J.ax,λ_ z=>nomatch z⟩
 | hd=>exact⟨_,J.ahd,λ_ z=>nomatch z⟩
 | hl=>exact⟨_,J.ahl,λ_ z=>nomatch z⟩
 | nt=>exact⟨_,J.ant,λ_ z=>nomatch z⟩
 | nl=>exact⟨_,J.anl,λ_ z=>nomatch z⟩
 | wt=>exact⟨_,J.awt,λ_ z=>nomatch z⟩
 | wb=>exact⟨_,J.awb,λ_ z=>nomatch z⟩
 | wl=>exact⟨_,J.awl,λ_ z=>nomatch z⟩
 | fh=>exact⟨_,J.afh,λ_ z=>nomatch z⟩
 | yg=>exact⟨_,J.ayg,λ_ z=>nomatch z⟩
 | dm=>exact⟨_,J.adm,λ_ z=>nomatch z⟩
 | fl m=>exact⟨_,(J.afl _ _ m).1,λ_ z=>nomatch z⟩
theorem IH.keep(J:IH D H x A s)(k:∀ b u,bU x A s b→H b=some u→H' b=some u)(t:fv H H'):IH D H' x A s :=
 ⟨k _ _ .x J.ax,k _ _ .hd J.ahd,k _ _ .hl J.ahl,J.rhl.keep t,k _ _ .nt J.ant,k _ _ .nl J.anl,k _ _ .wt J.awt,k _ _ .wb J.awb,k _ _ .wl J.awl,k _ _ .fh J.afh,λu ws m=>⟨k _ _ (.fl m) (J.afl _ _ m).1,(J.afl _ _ m).2.keep t⟩,k _ _ .yg J.ayg,k _ _ .dm J.adm,
  J.nhn,J.l1,J.l2,J.l3,J.l4,J.l5,J.d1,J.d2,J.d3,J.d4,J.d5,J.d6⟩
theorem IH.same(J:IH D H x A s)(k:aC H H'):IH D H' x A s:=J.keep (λ_ _ _ q=>k _ _ q) (fv.of k)
structure Fr(F:Addr→Prop)(H:Hp)(F':Addr→Prop)(H':Hp):Prop where
 ext:∀ b u,¬F b→H b=some u→H' b=some u
 grow:∀ b,F' b→F b∨H b=none
 all:∀ b u,H b=some u→∃ u',H' b=some u'
 tup:fv H H'
variable{F F' F1 F2:Addr→Prop}
theorem Fr.trans(a:Fr F H F1 H1)(b:Fr F1 H1 F2 H2):Fr F H F2 H2 where
 ext:=λc u n q=>b.ext c u (λf=>(a.grow c f).elim n λe=>by rw[e]at q;cases q) (a.ext c u n q)
 grow:=λc f=>(b.grow c f).elim (λf1=>a.grow c f1) λe=>by
  cases q:H c with
  | none=>exact .inr rfl
  | some u=>obtain⟨u',q'⟩:=a.all c u q;rw[e]at q';cases q'
 all:=λc u q=>by obtain⟨u',q'⟩:=a.all c u q;exact b.all c u' q'
 tup:=a.tup.trans b.tup
theorem Fr.same(k:aC H H'):Fr F H F H':=⟨λ_ _ _ q=>k _ _ q,λ_ f=>.inl f,λb u q=>⟨u,k _ _ q⟩,fv.of k⟩
theorem Fr.refl:Fr F H F H:=Fr.same λ_ _ q=>q
theorem Fr.none(a:Fr F H F' H'){b:Addr}(h:H' b=none):H b=none:=by
 cases q:H b with
 | none=>rfl
 | some u=>obtain⟨u',q'⟩:=a.all b u q;rw[h]at q';cases q'
theorem Fr.set{b:Addr}{u o:HO}(f:F b)(hb:H b=some u)(n:∀ xs,u≠.tup xs)(g:∀ c,F' c→F c):Fr F H F' (upd H b o) where
 ext:=λc v nf q=>by rw[af λe=>nf (by rw[e];exact f)];exact q
 grow:=λc f=>.inl (g c f)
 all:=λc v q=>by
  by_cases e:c=b
  ·exact⟨o,by rw[e];exact ah⟩
  ·exact⟨v,by rw[af e];exact q⟩
 tup:=fv.set hb n
theorem Fr.out(a:Fr F H F' H'){b:Addr}{u:HO}(n:¬F b)(q:H b=some u):H' b=some u∧¬F' b:=⟨a.ext b u n q,λf=>(a.grow b f).elim n λe=>by rw[e]at q;cases q⟩
theorem IH.PR(J:IH D H x A s){xs:List V}{ws:List Wd}(r:Rel H xs ws):IH D (upd H A.hl (.lst xs)) x {A with hx:=xs} {s with bq:=ws}∧Fr (bU x A s) H (bU x {A with hx:=xs} {s with bq:=ws}) (upd H A.hl (.lst xs)):=by
 have tk:fv H (upd H A.hl (.lst xs)):=fv.set J.ahl (λ_ z=>nomatch z);refine⟨⟨(by rw[af (aw J.ax J.ahl (by intro z;cases z))];exact J.ax),(by rw[af (aw J.ahd J.ahl (by intro z;cases z))];exact J.ahd),ah,r.keep tk,(by rw[af (aw J.ant J.ahl (by intro z;cases z))];exact J.ant),(by rw[af (afi J.l1)];exact J.anl),(by rw[af (aw J.awt J.ahl (by intro z;cases z))];exact J.awt),(by rw[af (aw J.awb J.ahl (by intro z;cases z))];exact J.awb),(by rw[af (afi J.l2)];exact J.awl),(by rw[af (aw J.afh J.ahl (by intro z;cases z))];exact J.afh),(λt ws m=>⟨by rw[af (J.l4 _ _ m).1];exact(J.afl _ _ m).1,(J.afl _ _ m).2.keep tk⟩),(by rw[af (aw J.ayg J.ahl (by intro z;cases z))];exact J.ayg),(by rw[af (aw J.adm J.ahl (by intro z;cases z))];exact J.adm),J.nhn,J.l1,J.l2,J.l3,J.l4,J.l5,J.d1,J.d2,J.d3,J.d4,J.d5,J.d6⟩,Fr.set .hl J.ahl (λ_ z=>nomatch z) (λc f=>?_)⟩;cases f with
 | x=>exact .x
 | hd=>exact .hd
 | hl=>exact .hl
 | nt=>exact .nt
 | nl=>exact .nl
 | wt=>exact .wt
 | wb=>exact .wb
 | wl=>exact .wl
 | fh=>exact .fh
 | yg=>exact .yg
 | dm=>exact .dm
 | fl m=>exact .fl m
theorem IH.aev(J:IH D H x A s){ns:List (Option Int)}:IH D (upd H A.nl (.lst (ns.map nmV))) x A {s with names:=ns}∧Fr (bU x A s) H (bU x A {s with names:=ns}) (upd H A.nl (.lst (ns.map nmV))):=by
 have tk:fv H (upd H A.nl (.lst (ns.map nmV))):=fv.set J.anl (λ_ z=>nomatch z);refine⟨⟨(by rw[af (aw J.ax J.anl (by intro z;cases z))];exact J.ax),(by rw[af (aw J.ahd J.anl (by intro z;cases z))];exact J.ahd),(by rw[af J.l1];exact J.ahl),J.rhl.keep tk,(by rw[af (aw J.ant J.anl (by intro z;cases z))];exact J.ant),ah,(by rw[af (aw J.awt J.anl (by intro z;cases z))];exact J.awt),(by rw[af (aw J.awb J.anl (by intro z;cases z))];exact J.awb),(by rw[af (afi J.l3)];exact J.awl),(by rw[af (aw J.afh J.anl (by intro z;cases z))];exact J.afh),(λt ws m=>⟨by rw[af (J.l4 _ _ m).2.1];exact(J.afl _ _ m).1,(J.afl _ _ m).2.keep tk⟩),(by rw[af (aw J.ayg J.anl (by intro z;cases z))];exact J.ayg),(by rw[af (aw J.adm J.anl (by intro z;cases z))];exact J.adm),J.nhn,J.l1,J.l2,J.l3,J.l4,J.l5,J.d1,J.d2,J.d3,J.d4,J.d5,J.d6⟩,Fr.set .nl J.anl (λ_ z=>nomatch z) (λc f=>?_)⟩;cases f with
 | x=>exact .x
 | hd=>exact .hd
 | hl=>exact .hl
 | nt=>exact .nt
 | nl=>exact .nl
 | wt=>exact .wt
 | wb=>exact .wb
 | wl=>exact .wl
 | fh=>exact .fh
 | yg=>exact .yg
 | dm=>exact .dm
 | fl m=>exact .fl m
theorem IH.adw(J:IH D H x A s){bs:List (Int×Int)}:IH D (upd H A.wb (.dK (bs.map bkv))) x A {s with aR:=bs}∧Fr (bU x A s) H (bU x A {s with aR:=bs}) (upd H A.wb (.dK (bs.map bkv))):=by
 have tk:fv H (upd H A.wb (.dK (bs.map bkv))):=fv.set J.awb (λ_ z=>nomatch z);refine⟨⟨(by rw[af (aw J.ax J.awb (by intro z;cases z))];exact J.ax),(by rw[af (aw J.ahd J.awb (by intro z;cases z))];exact J.ahd),(by rw[af (aw J.ahl J.awb (by intro z;cases z))];exact J.ahl),J.rhl.keep tk,(by rw[af (aw J.ant J.awb (by intro z;cases z))];exact J.ant),(by rw[af (aw J.anl J.awb (by intro z;cases z))];exact J.anl),(by rw[af (aw J.awt J.awb (by intro z;cases z))];exact J.awt),ah,(by rw[af (aw J.awl J.awb (by intro z;cases z))];exact J.awl),(by rw[af (afi J.d1)];exact J.afh),(λt ws m=>⟨by rw[af (aw (J.afl _ _ m).1 J.awb (by intro z;cases z))];exact(J.afl _ _ m).1,(J.afl _ _ m).2.keep tk⟩),(by rw[af (afi J.d2)];exact J.ayg),(by rw[af (afi J.d3)];exact J.adm),J.nhn,J.l1,J.l2,J.l3,J.l4,J.l5,J.d1,J.d2,J.d3,J.d4,J.d5,J.d6⟩,Fr.set .wb J.awb (λ_ z=>nomatch z) (λc f=>?_)⟩;cases f with
 | x=>exact .x
 | hd=>exact .hd
 | hl=>exact .hl
 | nt=>exact .nt
 | nl=>exact .nl
 | wt=>exact .wt
 | wb=>exact .wb
 | wl=>exact .wl
 | fh=>exact .fh
 | yg=>exact .yg
 | dm=>exact .dm
 | fl m=>exact .fl m
theorem IH.aew(J:IH D H x A s){zs:List Int}:IH D (upd H A.wl (.lst (zs.map V.int))) x A {s with ot:=zs}∧Fr (bU x A s) H (bU x A {s with ot:=zs}) (upd H A.wl (.lst (zs.map V.int))):=by
 have tk:fv H (upd H A.wl (.lst (zs.map V.int))):=fv.set J.awl (λ_ z=>nomatch z);refine⟨⟨(by rw[af (aw J.ax J.awl (by intro z;cases z))];exact J.ax),(by rw[af (aw J.ahd J.awl (by intro z;cases z))];exact J.ahd),(by rw[af J.l2];exact J.ahl),J.rhl.keep tk,(by rw[af (aw J.ant J.awl (by intro z;cases z))];exact J.ant),(by rw[af J.l3];exact J.anl),(by rw[af (aw J.awt J.awl (by intro z;cases z))];exact J.awt),(by rw[af (aw J.awb J.awl (by intro z;cases z))];exact J.awb),ah,(by rw[af (aw J.afh J.awl (by intro z;cases z))];exact J.afh),(λt ws m=>⟨by rw[af (J.l4 _ _ m).2.2];exact(J.afl _ _ m).1,(J.afl _ _ m).2.keep tk⟩),(by rw[af (aw J.ayg J.awl (by intro z;cases z))];exact J.ayg),(by rw[af (aw J.adm J.awl (by intro z;cases z))];exact J.adm),J.nhn,J.l1,J.l2,J.l3,J.l4,J.l5,J.d1,J.d2,J.d3,J.d4,J.d5,J.d6⟩,Fr.set .wl J.awl (λ_ z=>nomatch z) (λc f=>?_)⟩;cases f with
 | x=>exact .x
 | hd=>exact .hd
 | hl=>exact .hl
 | nt=>exact .nt
 | nl=>exact .nl
 | wt=>exact .wt
 | wb=>exact .wb
 | wl=>exact .wl
 | fh=>exact .fh
 | yg=>exact .yg
 | dm=>exact .dm
 | fl m=>exact .fl m
theorem IH.aex(J:IH D H x A s){ts:List Int}:IH D (upd H A.yg (.dK (ts.map tkv))) x A {s with yng:=ts}∧Fr (bU x A s) H (bU x A {s with yng:=ts}) (upd H A.yg (.dK (ts.map tkv))):=by
 have tk:fv H (upd H A.yg (.dK (ts.map tkv))):=fv.set J.ayg (λ_ z=>nomatch z);refine⟨⟨(by rw[af (aw J.ax J.ayg (by intro z;cases z))];exact J.ax),(by rw[af (aw J.ahd J.ayg (by intro z;cases z))];exact J.ahd),(by rw[af (aw J.ahl J.ayg (by intro z;cases z))];exact J.ahl),J.rhl.keep tk,(by rw[af (aw J.ant J.ayg (by intro z;cases z))];exact J.ant),(by rw[af (aw J.anl J.ayg (by intro z;cases z))];exact J.anl),(by rw[af (aw J.awt J.ayg (by intro z;cases z))];exact J.awt),(by rw[af J.d2];exact J.awb),(by rw[af (aw J.awl J.ayg (by intro z;cases z))];exact J.awl),(by rw[af J.d4];exact J.afh),(λt ws m=>⟨by rw[af (aw (J.afl _ _ m).1 J.ayg (by intro z;cases z))];exact(J.afl _ _ m).1,(J.afl _ _ m).2.keep tk⟩),ah,(by rw[af (afi J.d6)];exact J.adm),J.nhn,J.l1,J.l2,J.l3,J.l4,J.l5,J.d1,J.d2,J.d3,J.d4,J.d5,J.d6⟩,Fr.set .yg J.ayg (λ_ z=>nomatch z) (λc f=>?_)⟩;cases f with
 | x=>exact .x
 | hd=>exact .hd
 | hl=>exact .hl
 | nt=>exact .nt
 | nl=>exact .nl
 | wt=>exact .wt
 | wb=>exact .wb
 | wl=>exact .wl
 | fh=>exact .fh
 | yg=>exact .yg
 | dm=>exact .dm
 | fl m=>exact .fl m
theorem IH.adx(J:IH D H x A s){ts:List Int}:IH D (upd H A.dm (.dK (ts.map tkv))) x A {s with dO:=ts}∧Fr (bU x A s) H (bU x A {s with dO:=ts}) (upd H A.dm (.dK (ts.map tkv))):=by
 have tk:fv H (upd H A.dm (.dK (ts.map tkv))):=fv.set J.adm (λ_ z=>nomatch z);refine⟨⟨(by rw[af (aw J.ax J.adm (by intro z;cases z))];exact J.ax),(by rw[af (aw J.ahd J.adm (by intro z;cases z))];exact J.ahd),(by rw[af (aw J.ahl J.adm (by intro z;cases z))];exact J.ahl),J.rhl.keep tk,(by rw[af (aw J.ant J.adm (by intro z;cases z))];exact J.ant),(by rw[af (aw J.anl J.adm (by intro z;cases z))];exact J.anl),(by rw[af (aw J.awt J.adm (by intro z;cases z))];exact J.awt),(by rw[af J.d3];exact J.awb),(by rw[af (aw J.awl J.adm (by intro z;cases z))];exact J.awl),(by rw[af J.d5];exact J.afh),(λt ws m=>⟨by rw[af (aw (J.afl _ _ m).1 J.adm (by intro z;cases z))];exact(J.afl _ _ m).1,(J.afl _ _ m).2.keep tk⟩),(by rw[af J.d6];exact J.ayg),ah,J.nhn,J.l1,J.l2,J.l3,J.l4,J.l5,J.d1,J.d2,J.d3,J.d4,J.d5,J.d6⟩,Fr.set .dm J.adm (λ_ z=>nomatch z) (λc f=>?_)⟩;cases f with
 | x=>exact .x
 | hd=>exact .hd
 | hl=>exact .hl
 | nt=>exact .nt
 | nl=>exact .nl
 | wt=>exact .wt
 | wb=>exact .wb
 | wl=>exact .wl
 | fh=>exact .fh
 | yg=>exact .yg
 | dm=>exact .dm
 | fl m=>exact .fl m
theorem IH.aey(J:IH D H x A s){n:Int}:IH D (upd H x (.ins D.aa A.dx (iE "next_thing" (.int n) (atts A s)))) x A {s with nxt:=n}∧Fr (bU x A s) H (bU x A {s with nxt:=n}) (upd H x (.ins D.aa A.dx (iE "next_thing" (.int n) (atts A s)))):=by
 have tk:fv H (upd H x (.ins D.aa A.dx (iE "next_thing" (.int n) (atts A s)))):=fv.set J.ax (λ_ z=>nomatch z);refine⟨⟨(by rw[ah,ack]),(by rw[af (aw J.ahd J.ax (lS (show(1:Nat)≠11 by decide)))];exact J.ahd),(by rw[af (aw J.ahl J.ax (by intro z;cases z))];exact J.ahl),J.rhl.keep tk,(by rw[af (aw J.ant J.ax (lS (show(1:Nat)≠11 by decide)))];exact J.ant),(by rw[af (aw J.anl J.ax (by intro z;cases z))];exact J.anl),(by rw[af (aw J.awt J.ax (lS (show(2:Nat)≠11 by decide)))];exact J.awt),(by rw[af (aw J.awb J.ax (by intro z;cases z))];exact J.awb),(by rw[af (aw J.awl J.ax (by intro z;cases z))];exact J.awl),(by rw[af (aw J.afh J.ax (by intro z;cases z))];exact J.afh),(λt ws m=>⟨by rw[af (aw (J.afl _ _ m).1 J.ax (by intro z;cases z))];exact(J.afl _ _ m).1,(J.afl _ _ m).2.keep tk⟩),(by rw[af (aw J.ayg J.ax (by intro z;cases z))];exact J.ayg),(by rw[af (aw J.adm J.ax (by intro z;cases z))];exact J.adm),J.nhn,J.l1,J.l2,J.l3,J.l4,J.l5,J.d1,J.d2,J.d3,J.d4,J.d5,J.d6⟩,Fr.set .x J.ax (λ_ z=>nomatch z) (λc f=>?_)⟩;cases f with
 | x=>exact .x
 | hd=>exact .hd
 | hl=>exact .hl
 | nt=>exact .nt
 | nl=>exact .nl
 | wt=>exact .wt
 | wb=>exact .wb
 | wl=>exact .wl
 | fh=>exact .fh
 | yg=>exact .yg
 | dm=>exact .dm
 | fl m=>exact .fl m
theorem IH.ady(J:IH D H x A s){n:Bool}:IH D (upd H x (.ins D.aa A.dx (iE "in_round" (.bl n) (atts A s)))) x A {s with rnd:=n}∧Fr (bU x A s) H (bU x A {s with rnd:=n}) (upd H x (.ins D.aa A.dx (iE "in_round" (.bl n) (atts A s)))):=by
 have tk:fv H (upd H x (.ins D.aa A.dx (iE "in_round" (.bl n) (atts A s)))):=fv.set J.ax (λ_ z=>nomatch z);refine⟨⟨(by rw[ah,acm]),(by rw[af (aw J.ahd J.ax (lS (show(1:Nat)≠11 by decide)))];exact J.ahd),(by rw[af (aw J.ahl J.ax (by intro z;cases z))];exact J.ahl),J.rhl.keep tk,(by rw[af (aw J.ant J.ax (lS (show(1:Nat)≠11 by decide)))];exact J.ant),(by rw[af (aw J.anl J.ax (by intro z;cases z))];exact J.anl),(by rw[af (aw J.awt J.ax (lS (show(2:Nat)≠11 by decide)))];exact J.awt),(by rw[af (aw J.awb J.ax (by intro z;cases z))];exact J.awb),(by rw[af (aw J.awl J.ax (by intro z;cases z))];exact J.awl),(by rw[af (aw J.afh J.ax (by intro z;cases z))];exact J.afh),(λt ws m=>⟨by rw[af (aw (J.afl _ _ m).1 J.ax (by intro z;cases z))];exact(J.afl _ _ m).1,(J.afl _ _ m).2.keep tk⟩),(by rw[af (aw J.ayg J.ax (by intro z;cases z))];exact J.ayg),(by rw[af (aw J.adm J.ax (by intro z;cases z))];exact J.adm),J.nhn,J.l1,J.l2,J.l3,J.l4,J.l5,J.d1,J.d2,J.d3,J.d4,J.d5,J.d6⟩,Fr.set .x J.ax (λ_ z=>nomatch z) (λc f=>?_)⟩;cases f with
 | x=>exact .x
 | hd=>exact .hd
 | hl=>exact .hl
 | nt=>exact .nt
 | nl=>exact .nl
 | wt=>exact .wt
 | wb=>exact .wb
 | wl=>exact .wl
 | fh=>exact .fh
 | yg=>exact .yg
 | dm=>exact .dm
 | fl m=>exact .fl m
def oM(fs:List (Int×List Wd))(t:Int)(ws:List Wd):List (Int×List Wd):=fs.map λp=>if p.1=t then(t,ws) else p
theorem Bp{fs:List (Int×List Wd)}{t t':Int}{ws ws':List Wd}(m:(t',ws')∈oM fs t ws):∃ w0,(t',w0)∈fs∧t'=t':=by
 obtain⟨q,mq,e⟩:=afk.mp m;by_cases c:q.1=t
 ·rw[if_pos c]at e
  cases e;exact⟨q.2,by rw[←c];exact mq,rfl⟩
 ·rw[if_neg c]at e
  subst e;exact⟨_,mq,rfl⟩
theorem Qx{A:HA}{fs:List (Int×List Wd)}{t:Int}{ws:List Wd}{xs:Int→List V}:(oM fs t ws).map (fkv {A with fx:=xs})=fs.map (fkv A):=by
 unfold oM;rw[afE];refine afP λp hp=>?_;show fkv {A with fx:=xs} (if p.1=t then(t,ws) else p)=fkv A p;by_cases c:p.1=t
 ·rw[if_pos c];unfold fkv;rw[c]
 ·rw[if_neg c];rfl
theorem IH.aez(J:IH D H x A s){t:Int}{w0:List Wd}(m:(t,w0)∈s.aN){xs:List V}{ws:List Wd}(r:Rel H xs ws):IH D (upd H (A.fa t) (.lst xs)) x {A with fx:=λu=>if u=t then xs else A.fx u} {s with aN:=oM s.aN t ws}∧Fr (bU x A s) H (bU x {A with fx:=λu=>if u=t then xs else A.fx u} {s with aN:=oM s.aN t ws}) (upd H (A.fa t) (.lst xs)):=by
 have tk:fv H (upd H (A.fa t) (.lst xs)):=fv.set (J.afl _ _ m).1 (λ_ z=>nomatch z);refine⟨⟨(by rw[af (afi (aw (J.afl _ _ m).1 J.ax (by intro z;cases z)))];exact J.ax),(by rw[af (afi (aw (J.afl _ _ m).1 J.ahd (by intro z;cases z)))];exact J.ahd),(by rw[af (afi (J.l4 _ _ m).1)];exact J.ahl),J.rhl.keep tk,(by rw[af (afi (aw (J.afl _ _ m).1 J.ant (by intro z;cases z)))];exact J.ant),(by rw[af (afi (J.l4 _ _ m).2.1)];exact J.anl),(by rw[af (afi (aw (J.afl _ _ m).1 J.awt (by intro z;cases z)))];exact J.awt),(by rw[af (afi (aw (J.afl _ _ m).1 J.awb (by intro z;cases z)))];exact J.awb),(by rw[af (afi (J.l4 _ _ m).2.2)];exact J.awl),(by rw[af (afi (aw (J.afl _ _ m).1 J.afh (by intro z;cases z))),Qx];exact J.afh),(λt' ws' m'=>by
  obtain⟨q,mq,e⟩:=afk.mp m';by_cases c:q.1=t
  ·rw[if_pos c]at e
   cases e;dsimp only;rw[if_pos rfl];exact⟨ah,r.keep tk⟩
  ·rw[if_neg c]at e
   subst e;dsimp only;rw[if_neg c];exact⟨by rw[af λz=>c (J.l5 _ _ _ _ mq m z)];exact(J.afl _ _ mq).1,(J.afl _ _ mq).2.keep tk⟩),(by rw[af (afi (aw (J.afl _ _ m).1 J.ayg (by intro z;cases z)))];exact J.ayg),(by rw[af (afi (aw (J.afl _ _ m).1 J.adm (by intro z;cases z)))];exact J.adm),J.nhn,J.l1,J.l2,J.l3,(λt' ws' m'=>by obtain⟨q,mq,e1⟩:=Bp m';rw[←e1];exact J.l4 _ _ mq),(λt1 w1 t2 w2 m1 m2 z=>by obtain⟨q1,mq1,e1⟩:=Bp m1;obtain⟨q2,mq2,e2⟩:=Bp m2;rw[←e1,←e2]at z ⊢;exact J.l5 _ _ _ _ mq1 mq2 z),J.d1,J.d2,J.d3,J.d4,J.d5,J.d6⟩,Fr.set (.fl m) (J.afl _ _ m).1 (λ_ z=>nomatch z) (λc f=>?_)⟩
 cases f with
 | x=>exact .x
 | hd=>exact .hd
 | hl=>exact .hl
 | nt=>exact .nt
 | nl=>exact .nl
 | wt=>exact .wt
 | wb=>exact .wb
 | wl=>exact .wl
 | fh=>exact .fh
 | yg=>exact .yg
 | dm=>exact .dm
 | fl m'=>obtain⟨w0,m0,_⟩:=Bp m';exact .fl m0
theorem IH.fresh(J:IH D H x A s){b:Addr}(h:H b=none):¬bU x A s b:=λf=>by
 obtain⟨u,q,_⟩:=J.is f;rw[h]at q;cases q
theorem IH.acp(J:IH D H x A s){t:Int}{b:Addr}{xs:List V}{ws:List Wd}(hb:H b=none)(hn:∀ w,(t,w)∉s.aN)(r:Rel H xs ws) :
  IH D (upd (upd H b (.lst xs)) A.fh (.dK (s.aN.map (fkv A)++[(Sum.inl t,.ref b)]))) x {A with fa:=λu=>if u=t then b else A.fa u,fx:=λu=>if u=t then xs else A.fx u} {s with aN:=s.aN++[(t,ws)]} ∧
  Fr (bU x A s) H (bU x {A with fa:=λu=>if u=t then b else A.fa u,fx:=λu=>if u=t then xs else A.fx u} {s with aN:=s.aN++[(t,ws)]}) (upd (upd H b (.lst xs)) A.fh (.dK (s.aN.map (fkv A)++[(Sum.inl t,.ref b)]))):=by
 have s1:aC H (upd H b (.lst xs)):=aC.upd hb;have nb:∀ {c:Addr} {u:HO},H c=some u→c≠b:=λq=>aq q hb;have J1:=J.same s1;have tk:fv (upd H b (.lst xs)) (upd (upd H b (.lst xs)) A.fh (.dK (s.aN.map (fkv A)++[(Sum.inl t,.ref b)]))):=fv.set J1.afh (λ_ z=>nomatch z);have tk0:fv H (upd (upd H b (.lst xs)) A.fh (.dK (s.aN.map (fkv A)++[(Sum.inl t,.ref b)]))):=(fv.of s1).trans tk;have kt:∀ {t':Int} {w:List Wd},(t',w)∈s.aN→t'≠t:=λm e=>hn _ (by rw[←e];exact m);have mm:∀ {t':Int} {w:List Wd},(t',w)∈s.aN++[(t,ws)]→(t',w)∈s.aN∨(t'=t∧w=ws):=λm=>by
  rcases afd.mp m with m|m
  ·exact .inl m
  ·cases aeX.mp m;exact .inr ⟨rfl,rfl⟩
 have bf:b≠A.fh:=afi (nb J.afh);have fk:(s.aN++[(t,ws)]).map (fkv {A with fa:=λu=>if u=t then b else A.fa u,fx:=λu=>if u=t then xs else A.fx u})=s.aN.map (fkv A)++[(Sum.inl t,.ref b)]:=by
  rw[ae8];congr 1
  ·refine afP λp hp=>?_
   unfold fkv;simp only;rw[if_neg (kt (t':=p.1) (w:=p.2) hp)]
  ·simp only[afq,agg,fkv,if_true]
 refine⟨⟨(by rw[af (aw J.ax J.afh (by intro z;cases z))];exact J1.ax),(by rw[af (aw J.ahd J.afh (by intro z;cases z))];exact J1.ahd),(by rw[af (aw J.ahl J.afh (by intro z;cases z))];exact J1.ahl),J.rhl.keep tk0,(by rw[af (aw J.ant J.afh (by intro z;cases z))];exact J1.ant),(by rw[af (aw J.anl J.afh (by intro z;cases z))];exact J1.anl),(by rw[af (aw J.awt J.afh (by intro z;cases z))];exact J1.awt),(by rw[af J.d1];exact J1.awb),(by rw[af (aw J.awl J.afh (by intro z;cases z))];exact J1.awl),(by rw[fk];exact ah),(λt' w m=>by
  rcases mm m with m|⟨e1,e2⟩
  ·show _=_∧_
   simp only[if_neg (kt m)];exact⟨by rw[af (aw (J.afl _ _ m).1 J.afh (by intro z;cases z))];exact s1 _ _ (J.afl _ _ m).1,(J.afl _ _ m).2.keep tk0⟩
  ·subst e1 e2
   simp only[if_true];exact⟨by rw[af bf];exact ah,r.keep tk0⟩),(by rw[af (afi J.d4)];exact J1.ayg),(by rw[af (afi J.d5)];exact J1.adm),J.nhn,J.l1,J.l2,J.l3,(λt' w m=>by
  rcases mm m with m|⟨e1,e2⟩
  ·simp only[if_neg (kt m)]
   exact J.l4 _ _ m
  ·subst e1
   simp only[if_true];exact⟨afi (nb J.ahl),afi (nb J.anl),afi (nb J.awl)⟩),(λt1 w1 t2 w2 m1 m2 z=>by
  simp only at z;rcases mm m1 with m1|⟨e1,_⟩
  ·rw[if_neg (kt m1)]at z
   rcases mm m2 with m2|⟨e2,_⟩
   ·rw[if_neg (kt m2)]at z
    exact J.l5 _ _ _ _ m1 m2 z
   ·rw[if_pos e2]at z
    exact absurd z (nb (J.afl _ _ m1).1)
  ·rw[if_pos e1]at z
   rcases mm m2 with m2|⟨e2,_⟩
   ·rw[if_neg (kt m2)]at z
    exact absurd z.symm (nb (J.afl _ _ m2).1)
   ·rw[e1,e2]),J.d1,J.d2,J.d3,J.d4,J.d5,J.d6⟩,?_⟩
 refine⟨λc u nf q=>?_,λc f=>?_,λc u q=>?_,tk0⟩
 ·rw[af λe=>nf (by rw[e];exact .fh)]
  exact s1 _ _ q
 ·cases f with
  | x=>exact .inl .x
  | hd=>exact .inl .hd
  | hl=>exact .inl .hl
  | nt=>exact .inl .nt
  | nl=>exact .inl .nl
  | wt=>exact .inl .wt
  | wb=>exact .inl .wb
  | wl=>exact .inl .wl
  | fh=>exact .inl .fh
  | yg=>exact .inl .yg
  | dm=>exact .inl .dm
  | @fl t' w m =>
   rcases mm m with m|⟨e,_⟩
   ·refine .inl ?_
    show bU x A s (if t'=t then b else A.fa t');rw[if_neg (kt m)];exact .fl m
   ·refine .inr ?_
    show H (if t'=t then b else A.fa t')=none;rw[if_pos e];exact hb
 ·by_cases e:c=A.fh
  ·exact⟨_,by rw[e];exact ah⟩
  ·exact⟨u,by rw[af e];exact s1 _ _ q⟩
end
section
variable{P:Program}{w:World}{K:W.Frag}{mg:Str→Option Value}{base:Heap}{D:Ad}
theorem vQ{t u:TS}{D:Ends}{σ:St}{H:Hp}(h:∀ N:St→Hp→Prop,(∀ σ' H',u D σ' H'→N σ' H')→t {D with nx:=N} σ H):Jy t u D σ H:=h (u D) (λ_ _ q=>q)
theorem YZ{t:TT}{b e:TS}{D:Ends}{σ:St}{H:Hp}(h:∀ B:St→Hp→Prop,(∀ σ' H',b D σ' H'→B σ' H')→t σ H λc H1=>if c=true then B σ H1 else e D σ H1):acC t b e D σ H:=h (b D) (λ_ _ q=>q)
structure Ok0(P:Program)(w:World)(K:W.Frag)(mg:Str→Option Value)(base:Heap)(n:Nat)(f:Addr)(fd:FuncData)(ps:List Str)(sp:Sp):Prop where
 g:MB P w K mg base (CXE P w) n f fd ps sp
 b:Binds K fd ps []
theorem Y0{P:Program}{w:World}{X:Cx}:Passes (CXE P w) X (λ_ _ _=>False):=λ_ _ _ _ _ _ _ ⟨_,_,_,_,_,_,_,_,_,q⟩=>q.elim
theorem dt{H0 H:Hp}{K:W.Frag}{E E2:XK}{C:Addr}{y:Str}(ec:LL K C)(h0:∀ b,H b=none→H0 b=none)(k:∀ H',aC H H'→E (.ref C) none H')(ea:Addr)(hea:H ea=none) :
  DK K [.ref ea,.str y] (upd H ea (exo true C ea none)) (λv H2=>v=.non∧(λ(v:V) (H1:Hp)=>∃ ea C od,v=.ref ea∧H1 ea=some (exo true C ea od)∧(∃ cd,iZ K C cd)∧H0 ea=none∧E (.ref C) od (del H1 ea)) (.ref ea) H2) E2:=by
 refine⟨ea,C,none,.str y,rfl,ah,ec.cls,rfl,ea,C,none,rfl,ah,ec.cls,h0 _ hea,k _ λb o q=>?_⟩;have nb:b≠ea:=λe=>by rw[e,hea]at q;cases q
 rw[vM nb,af nb];exact q
def Bad(C:Addr)(H:Hp)(E:XK):Prop:=∀ H',aC H H'→E (.ref C) none H'
theorem Bad.same{C:Addr}{H H1:Hp}{E:XK}(k:Bad C H E)(s:aC H H1):Bad C H1 E:=λH' s'=>k H' (s.trans s')
def Sm(n:Int):Prop:=n.natAbs.log2<1920
theorem Sm.of{n:Int}(h0:-1000000≤n)(h1:n≤1000000):Sm n:=OW (Nat.lt_trans (show n.natAbs<2000000 by omega) (by decide))
def wat(ws:List Wd)(h:Int):Option Wd:=if 0≤h∧h<8 then ws[h.toNat]? else none
theorem qO{ws:List Wd}{h:Int}{wd:Wd}(e:wat ws h=some wd):0≤h∧h<8∧ws[h.toNat]?=some wd:=by
 unfold wat at e;by_cases g:0≤h∧h<8
 ·rw[if_pos g]at e;exact⟨g.1,g.2,e⟩
 ·rw[if_neg g]at e;cases e
theorem Qy{ws:List Wd}{h:Int}(l:ws.length=8)(e:wat ws h=none):¬(0≤h∧h<8):=λg=>by
 unfold wat at e;rw[if_pos g,aeW (by omega)]at e;cases e
theorem GG{xs:List V}{a:Int}{v:V}(h0:0≤a)(h:xs[a.toNat]?=some v):atI xs a=some v:=by
 have e:a=(a.toNat:Int):=by omega
 rw[e];exact Bx h
theorem RL{n:Nat}{a:Int}(h0:0≤a)(h1:a<n):ixN n a=some a.toNat:=by
 unfold ixN;rw[if_pos h0,if_pos h1]
structure Hn(D:Ad)(H:Hp)(hd hdx hl:Addr)(xs:List V)(ws:List Wd):Prop where
 i:H hd=some (.ins D.a6 hdx [("words_held",.ref hl)])
 l:H hl=some (.lst xs)
 r:Rel H xs ws
 n:ws.length=8
theorem Hn.same{D:Ad}{H H':Hp}{hd hdx hl:Addr}{xs:List V}{ws:List Wd}(h:Hn D H hd hdx hl xs ws)(s:aC H H'):Hn D H' hd hdx hl xs ws:=⟨s _ _ h.i,s _ _ h.l,h.r.keep (fv.of s),h.n⟩
theorem Hn.at_{D:Ad}{H:Hp}{hd hdx hl:Addr}{xs:List V}{ws:List Wd}(N:Hn D H hd hdx hl xs ws){h:Int}{wd:Wd}(e:wat ws h=some wd):∃ v,xs[h.toNat]?=some v∧WV H v wd:=by
 obtain⟨h0,h1,e⟩:=qO e;have hi:h.toNat<ws.length:=by rw[N.n];omega
 obtain⟨v,e1,e2⟩:=N.r.get hi;rw[aeW hi]at e;cases e;exact⟨v,e1,e2⟩
theorem Hn.ix{D:Ad}{H:Hp}{hd hdx hl:Addr}{xs:List V}{ws:List Wd}(N:Hn D H hd hdx hl xs ws){h:Int}(g:0≤h∧h<8):ixN xs.length h=some h.toNat:=RL g.1 (by rw[N.r.1,N.n];exact g.2)
abbrev sZ:List Str:=["self", "text"]
theorem rO:av sZ ["self", "text"] (ar i0):=⟨rfl,rfl,rfl,by decide +kernel,rfl,by decide +kernel,by decide +kernel⟩
theorem rP(F:Fun K "__init__" "HeapError.__init__" i0 D.aj D.aB)(T:Txt K mg D):Ok P w K mg base 1 D.aj D.aB ["self", "text"] (DK K):=by
 refine⟨?_,F.binds (ps:=["self", "text"]) λ_ _ _ _ _ _ us hl=>match us,hl with|[_,_],_=>rfl⟩
 refine F.okE rO (λvs H Q E h=>?_) (λcdv A' outer s' H vs Q E hr h=>?_)
 ·obtain⟨ea,C,od,x,rfl,_⟩:=h
  rfl
 ·obtain⟨ea,C,od,x,rfl,h1,hc,k⟩:=h
  refine⟨_,(ai (aG (ab6 rfl T.rh (ae (pv 0) (ae (pv 1) ao))))),?_⟩;exact⟨_,rfl,_,rfl,ea,C,od,[x],rfl,(by show 1≤1000;decide),h1,hc,k⟩
def bZ(n:Str):Sp:=λvs H Q _=>∃ x,vs=[x]∧Q (.str n) H
theorem wk(F:Fun K "called" "BadCount.called" oJ D.cf D.fg)(T:Txt K mg D):Ok0 P w K mg base 1 D.cf D.fg ["self"] (bZ "BadCount") :=
 ⟨F.ok0 (N:=["self"]) ⟨rfl,rfl,rfl,by decide +kernel,rfl,by decide +kernel,by decide +kernel⟩ (λvs H Q E h=>by obtain⟨x,rfl,_⟩:=h;rfl) (λcdv A outer s H vs Q E h=>by obtain⟨x,rfl,k⟩:=h;exact⟨_,ai (aV bJ),k⟩),F.binds (ps:=["self"]) λ_ _ _ _ _ _ us hl=>match us,hl with|[_],_=>rfl⟩
theorem yJ(F:Fun K "called" "BadHand.called" qf D.cK D.fI)(T:Txt K mg D):Ok0 P w K mg base 1 D.cK D.fI ["self"] (bZ "BadHand") :=
 ⟨F.ok0 (N:=["self"]) ⟨rfl,rfl,rfl,by decide +kernel,rfl,by decide +kernel,by decide +kernel⟩ (λvs H Q E h=>by obtain⟨x,rfl,_⟩:=h;rfl) (λcdv A outer s H vs Q E h=>by obtain⟨x,rfl,k⟩:=h;exact⟨_,ai (aV bJ),k⟩),F.binds (ps:=["self"]) λ_ _ _ _ _ _ us hl=>match us,hl with|[_],_=>rfl⟩
theorem yK(F:Fun K "called" "BadName.called" qg D.cL D.fJ)(T:Txt K mg D):Ok0 P w K mg base 1 D.cL D.fJ ["self"] (bZ "BadName") :=
 ⟨F.ok0 (N:=["self"]) ⟨rfl,rfl,rfl,by decide +kernel,rfl,by decide +kernel,by decide +kernel⟩ (λvs H Q E h=>by obtain⟨x,rfl,_⟩:=h;rfl) (λcdv A outer s H vs Q E h=>by obtain⟨x,rfl,k⟩:=h;exact⟨_,ai (aV bJ),k⟩),F.binds (ps:=["self"]) λ_ _ _ _ _ _ us hl=>match us,hl with|[_],_=>rfl⟩
theorem wm(F:Fun K "called" "BadField.called" oI D.cc D.fe)(T:Txt K mg D):Ok0 P w K mg base 1 D.cc D.fe ["self"] (bZ "BadField") :=
 ⟨F.ok0 (N:=["self"]) ⟨rfl,rfl,rfl,by decide +kernel,rfl,by decide +kernel,by decide +kernel⟩ (λvs H Q E h=>by obtain⟨x,rfl,_⟩:=h;rfl) (λcdv A outer s H vs Q E h=>by obtain⟨x,rfl,k⟩:=h;exact⟨_,ai (aV bJ),k⟩),F.binds (ps:=["self"]) λ_ _ _ _ _ _ us hl=>match us,hl with|[_],_=>rfl⟩
theorem qy(F:Fun K "called" "TooManyWords.called" kR D.bh D.c5)(T:Txt K mg D):Ok0 P w K mg base 1 D.bh D.c5 ["self"] (bZ "TooManyWords") :=
 ⟨F.ok0 (N:=["self"]) ⟨rfl,rfl,rfl,by decide +kernel,rfl,by decide +kernel,by decide +kernel⟩ (λvs H Q E h=>by obtain⟨x,rfl,_⟩:=h;rfl) (λcdv A outer s H vs Q E h=>by obtain⟨x,rfl,k⟩:=h;exact⟨_,ai (aV bJ),k⟩),F.binds (ps:=["self"]) λ_ _ _ _ _ _ us hl=>match us,hl with|[_],_=>rfl⟩
theorem yL(F:Fun K "called" "BadView.called" qj D.eL D.je)(T:Txt K mg D):Ok0 P w K mg base 1 D.eL D.je ["self"] (bZ "BadView") :=
 ⟨F.ok0 (N:=["self"]) ⟨rfl,rfl,rfl,by decide +kernel,rfl,by decide +kernel,by decide +kernel⟩ (λvs H Q E h=>by obtain⟨x,rfl,_⟩:=h;rfl) (λcdv A outer s H vs Q E h=>by obtain⟨x,rfl,k⟩:=h;exact⟨_,ai (aV bJ),k⟩),F.binds (ps:=["self"]) λ_ _ _ _ _ _ us hl=>match us,hl with|[_],_=>rfl⟩
theorem BG(F:Fun K "called" "NoRoom.called" rB D.dj D.gn)(T:Txt K mg D):Ok0 P w K mg base 1 D.dj D.gn ["self"] (bZ "NoRoom") :=
 ⟨F.ok0 (N:=["self"]) ⟨rfl,rfl,rfl,by decide +kernel,rfl,by decide +kernel,by decide +kernel⟩ (λvs H Q E h=>by obtain⟨x,rfl,_⟩:=h;rfl) (λcdv A outer s H vs Q E h=>by obtain⟨x,rfl,k⟩:=h;exact⟨_,ai (aV bJ),k⟩),F.binds (ps:=["self"]) λ_ _ _ _ _ _ us hl=>match us,hl with|[_],_=>rfl⟩
theorem yM(F:Fun K "called" "RoundOn.called" qh D.cM D.fK)(T:Txt K mg D):Ok0 P w K mg base 1 D.cM D.fK ["self"] (bZ "RoundOn") :=
 ⟨F.ok0 (N:=["self"]) ⟨rfl,rfl,rfl,by decide +kernel,rfl,by decide +kernel,by decide +kernel⟩ (λvs H Q E h=>by obtain⟨x,rfl,_⟩:=h;rfl) (λcdv A outer s H vs Q E h=>by obtain⟨x,rfl,k⟩:=h;exact⟨_,ai (aV bJ),k⟩),F.binds (ps:=["self"]) λ_ _ _ _ _ _ us hl=>match us,hl with|[_],_=>rfl⟩
theorem yN(F:Fun K "called" "NoRound.called" qi D.cN D.fL)(T:Txt K mg D):Ok0 P w K mg base 1 D.cN D.fL ["self"] (bZ "NoRound") :=
 ⟨F.ok0 (N:=["self"]) ⟨rfl,rfl,rfl,by decide +kernel,rfl,by decide +kernel,by decide +kernel⟩ (λvs H Q E h=>by obtain⟨x,rfl,_⟩:=h;rfl) (λcdv A outer s H vs Q E h=>by obtain⟨x,rfl,k⟩:=h;exact⟨_,ai (aV bJ),k⟩),F.binds (ps:=["self"]) λ_ _ _ _ _ _ us hl=>match us,hl with|[_],_=>rfl⟩
def NH:Sp:=λvs H Q _=>∃ v wd,vs=[v]∧WV H v wd∧Q (.str wd.kind) H
abbrev O8:List Str:=["value"]
theorem MU:av O8 ["value"] (ar Dz):=⟨rfl,rfl,rfl,by decide +kernel,rfl,by decide +kernel,by decide +kernel⟩
theorem MV(F:Fun K "kind_of" "kind_of" Dz D.iX D.oj)(T:Txt K mg D):Ok P w K mg base 1 D.iX D.oj ["value"] (NH):=by
 refine⟨?_,F.binds (ps:=["value"]) λ_ _ _ _ _ _ us hl=>match us,hl with|[_],_=>rfl⟩
 refine F.okE MU (λvs H Q E h=>?_) (λcdv A' outer s' H vs Q E hr h=>?_)
 ·obtain⟨v,wd,rfl,_⟩:=h
  rfl
 ·obtain⟨v,wd,rfl,hv,k⟩:=h
  refine⟨_,(ai (aV (Bg (aU QK (pv 0) j3 (cu _)) bJ (b9 cv (pv 0) au (λ_ _=>rfl))))),?_⟩;cases wd with
  | no =>
   obtain rfl:v=.non:=hv;exact⟨_,rfl,rfl,_,rfl,aQ (λ_=>k) (λh=>absurd (by simp) h)⟩
  | num n =>
   obtain⟨t,rfl,ht⟩:=hv;exact⟨_,rfl,rfl,_,rfl,aQ (λh=>by simp at h) (λ_=>⟨_,rfl,t,_,0,_,rfl,rfl,SqT.of ht,rfl,k⟩)⟩
  | th n =>
   obtain⟨t,rfl,ht⟩:=hv;exact⟨_,rfl,rfl,_,rfl,aQ (λh=>by simp at h) (λ_=>⟨_,rfl,t,_,0,_,rfl,rfl,SqT.of ht,rfl,k⟩)⟩
def en(D:Ad):Sp:=λvs H Q E=>∃ n:Int,vs=[.int n]∧Sm n∧(if 0≤n∧n<8 then Q .non H else Bad D.bE H E)
abbrev EX:List Str:=["h"]
theorem D7:av EX ["h"] (ar nV):=⟨rfl,rfl,rfl,by decide +kernel,rfl,by decide +kernel,by decide +kernel⟩
theorem D8(F:Fun K "look_at_hand" "look_at_hand" nV D.bp D.cD)(T:Txt K mg D)
  (ag:Ok P w K mg base 1 D.aj D.aB ["self", "text"] (DK K)):Ok P w K mg base 3 D.bp D.cD ["h"] (en D):=by
 refine⟨?_,F.binds (ps:=["h"]) λ_ _ _ _ _ _ us hl=>match us,hl with|[_],_=>rfl⟩
 refine F.okE D7 (λvs H Q E h=>?_) (λcdv A' outer s' H vs Q E hr h=>?_)
 ·obtain⟨n,rfl,_⟩:=h
  rfl
 ·obtain⟨n,rfl,hb,k⟩:=h
  refine⟨_,(ai (dM (sR (qM DZ FF au (pv 0) (kY (v:=.int 8) rfl T.FY ⟨_,rfl⟩)))
    (ai (gm rfl kN (kO T.yi ag.g (hr.mono (by decide)) rfl T.yh ag.b (Passes.x (aP λ_ _ _ q=>q)) (ae (jK (bC (lN (pv 0)) (bC iu jJ))) ao))))
    bQ)),?_⟩
  by_cases g:0≤n∧n<8
  ·rw[if_pos g]at k
   refine⟨_,rfl,0,n,rfl,rfl,_,rfl,aQ (λ_=>⟨n,8,rfl,rfl,_,rfl,aQ (λh2=>absurd h2 (by rw[decide_eq_true g.2];decide)) (λ_=>k)⟩) (λh1=>absurd (decide_eq_true g.1) h1)⟩
  ·rw[if_neg g]at k
   by_cases g0:0≤n
   ·have g1:¬n<8:=λz=>g ⟨g0,z⟩
    refine⟨_,rfl,0,n,rfl,rfl,_,rfl,aQ (λ_=>⟨n,8,rfl,rfl,_,rfl,aQ (λ_=>⟨_,rfl,n,rfl,hb,λy hy ea hea=>dt T.j2 (λ_ q=>q) k ea hea⟩) (λh2=>absurd (by rw[decide_eq_false g1];rfl) h2)⟩) (λh1=>absurd (decide_eq_true g0) h1)⟩
   ·refine⟨_,rfl,0,n,rfl,rfl,_,rfl,aQ (λh1=>absurd (of_decide_eq_true h1) g0) (λ_=>⟨_,rfl,oH ⟨_,rfl,n,rfl,hb,λy hy ea hea=>dt T.j2 (λ_ q=>q) k ea hea⟩⟩)⟩
def mL(D:Ad):Sp:=λvs H Q E=>∃ n:Int,vs=[.int n]∧Sm n∧(if 0≤n∧n<8 then Q .non H else Bad D.eE H E)
abbrev EY:List Str:=["w"]
theorem D9:av EY ["w"] (ar nW):=⟨rfl,rfl,rfl,by decide +kernel,rfl,by decide +kernel,by decide +kernel⟩
theorem Ea(F:Fun K "look_at_name" "look_at_name" nW D.da D.hG)(T:Txt K mg D)
  (ag:Ok P w K mg base 1 D.aj D.aB ["self", "text"] (DK K)):Ok P w K mg base 3 D.da D.hG ["w"] (mL D):=by
 refine⟨?_,F.binds (ps:=["w"]) λ_ _ _ _ _ _ us hl=>match us,hl with|[_],_=>rfl⟩
 refine F.okE D9 (λvs H Q E h=>?_) (λcdv A' outer s' H vs Q E hr h=>?_)
 ·obtain⟨n,rfl,_⟩:=h
  rfl
 ·obtain⟨n,rfl,hb,k⟩:=h
  refine⟨_,(ai (dM (sR (qM DZ FF au (pv 0) (kY (v:=.int 8) rfl T.nu ⟨_,rfl⟩)))
    (ai (gm rfl kN (kO T.MH ag.g (hr.mono (by decide)) rfl T.MG ag.b (Passes.x (aP λ_ _ _ q=>q)) (ae (jK (bC (lN (pv 0)) (bC iu jJ))) ao))))
    bQ)),?_⟩
  by_cases g:0≤n∧n<8
  ·rw[if_pos g]at k
   refine⟨_,rfl,0,n,rfl,rfl,_,rfl,aQ (λ_=>⟨n,8,rfl,rfl,_,rfl,aQ (λh2=>absurd h2 (by rw[decide_eq_true g.2];decide)) (λ_=>k)⟩) (λh1=>absurd (decide_eq_true g.1) h1)⟩
  ·rw[if_neg g]at k
   by_cases g0:0≤n
   ·have g1:¬n<8:=λz=>g ⟨g0,z⟩
    refine⟨_,rfl,0,n,rfl,rfl,_,rfl,aQ (λ_=>⟨n,8,rfl,rfl,_,rfl,aQ (λ_=>⟨_,rfl,n,rfl,hb,λy hy ea hea=>dt T.yj (λ_ q=>q) k ea hea⟩) (λh2=>absurd (by rw[decide_eq_false g1];rfl) h2)⟩) (λh1=>absurd (decide_eq_true g0) h1)⟩
   ·refine⟨_,rfl,0,n,rfl,rfl,_,rfl,aQ (λh1=>absurd (of_decide_eq_true h1) g0) (λ_=>⟨_,rfl,oH ⟨_,rfl,n,rfl,hb,λy hy ea hea=>dt T.yj (λ_ q=>q) k ea hea⟩⟩)⟩
def uz(D:Ad):Sp:=λvs H Q E=>∃ n:Int,vs=[.int n]∧Sm n∧(if 0≤n∧n≤6 then Q (.int (n+1)) H else Bad D.cJ H E)
abbrev MW:List Str:=["fields"]
theorem KJ:av MW ["fields"] (ar yd):=⟨rfl,rfl,rfl,by decide +kernel,rfl,by decide +kernel,by decide +kernel⟩
theorem KL(F:Fun K "words_of" "words_of" yd D.gM D.lP)(T:Txt K mg D)
  (ag:Ok P w K mg base 1 D.aj D.aB ["self", "text"] (DK K)):Ok P w K mg base 3 D.gM D.lP ["fields"] (uz D):=by
 refine⟨?_,F.binds (ps:=["fields"]) λ_ _ _ _ _ _ us hl=>match us,hl with|[_],_=>rfl⟩
 refine F.okE KJ (λvs H Q E h=>?_) (λcdv A' outer s' H vs Q E hr h=>?_)
 ·obtain⟨n,rfl,_⟩:=h
  rfl
 ·obtain⟨n,rfl,hb,k⟩:=h
  refine⟨_,(ak (dM (sR (qM DZ DZ au (pv 0) (kY (v:=.int 6) rfl T.pT ⟨_,rfl⟩)))
    (ai (gm rfl kN (kO T.mC ag.g (hr.mono (by decide)) rfl T.mB ag.b (Passes.x (aP λ_ _ _ q=>q)) (ae (jK (bC (lN (pv 0)) (bC iu jJ))) ao))))
    bQ)
   (ai (aV (eF EL (pv 0) au)))),?_⟩
  by_cases g:0≤n∧n≤6
  ·rw[if_pos g]at k
   refine⟨_,rfl,0,n,rfl,rfl,_,rfl,aQ (λ_=>⟨n,6,rfl,rfl,_,rfl,aQ (λh2=>absurd h2 (by rw[decide_eq_true g.2];decide)) (λ_=>⟨_,rfl,n,1,rfl,rfl,k⟩)⟩) (λh1=>absurd (decide_eq_true g.1) h1)⟩
  ·rw[if_neg g]at k
   by_cases g0:0≤n
   ·have g1:¬n≤6:=λz=>g ⟨g0,z⟩
    refine⟨_,rfl,0,n,rfl,rfl,_,rfl,aQ (λ_=>⟨n,6,rfl,rfl,_,rfl,aQ (λ_=>⟨_,rfl,n,rfl,hb,λy hy ea hea=>dt T.pq (λ_ q=>q) k ea hea⟩) (λh2=>absurd (by rw[decide_eq_false g1];rfl) h2)⟩) (λh1=>absurd (decide_eq_true g0) h1)⟩
   ·refine⟨_,rfl,0,n,rfl,rfl,_,rfl,aQ (λh1=>absurd (of_decide_eq_true h1) g0) (λ_=>⟨_,rfl,oH ⟨_,rfl,n,rfl,hb,λy hy ea hea=>dt T.pq (λ_ q=>q) k ea hea⟩⟩)⟩
def lI(D:Ad):Sp:=λvs H Q E=>∃ n m:Int,vs=[.int n,.int m]∧Sm n∧Sm m∧(if 0≤n∧n<m then Q .non H else Bad D.eO H E)
abbrev Eb:List Str:=["k", "fields"]
theorem BH:av Eb ["k", "fields"] (ar mG):=⟨rfl,rfl,rfl,by decide +kernel,rfl,by decide +kernel,by decide +kernel⟩
theorem BI(F:Fun K "look_at_field" "look_at_field" mG D.cF D.gp)(T:Txt K mg D)
  (ag:Ok P w K mg base 1 D.aj D.aB ["self", "text"] (DK K)):Ok P w K mg base 3 D.cF D.gp ["k", "fields"] (lI D):=by
 refine⟨?_,F.binds (ps:=["k", "fields"]) λ_ _ _ _ _ _ us hl=>match us,hl with|[_,_],_=>rfl⟩
 refine F.okE BH (λvs H Q E h=>?_) (λcdv A' outer s' H vs Q E hr h=>?_)
 ·obtain⟨n,m,rfl,_⟩:=h
  rfl
 ·obtain⟨n,m,rfl,hb,hm,k⟩:=h
  refine⟨_,(ai (dM (sR (qM DZ FF au (pv 0) (pv 1)))
    (ai (gm rfl kN (kO T.Kz ag.g (hr.mono (by decide)) rfl T.Ky ag.b (Passes.x (aP λ_ _ _ q=>q)) (ae (jK (bC iu (bC (lN (pv 1)) (bC iu (bC (lN (pv 0)) jJ))))) ao))))
    bQ)),?_⟩
  by_cases g:0≤n∧n<m
  ·rw[if_pos g]at k
   refine⟨_,rfl,0,n,rfl,rfl,_,rfl,aQ (λ_=>⟨_,rfl,n,m,rfl,rfl,_,rfl,aQ (λh2=>absurd h2 (by rw[decide_eq_true g.2];decide)) (λ_=>k)⟩) (λh1=>absurd (decide_eq_true g.1) h1)⟩
  ·rw[if_neg g]at k
   by_cases g0:0≤n
   ·have g1:¬n<m:=λz=>g ⟨g0,z⟩
    refine⟨_,rfl,0,n,rfl,rfl,_,rfl,aQ (λ_=>⟨_,rfl,n,m,rfl,rfl,_,rfl,aQ (λ_=>⟨_,rfl,m,rfl,hm,_,rfl,n,rfl,hb,λy hy ea hea=>dt T.uu (λ_ q=>q) k ea hea⟩) (λh2=>absurd (by rw[decide_eq_false g1];rfl) h2)⟩) (λh1=>absurd (decide_eq_true g0) h1)⟩
   ·refine⟨_,rfl,0,n,rfl,rfl,_,rfl,aQ (λh1=>absurd (of_decide_eq_true h1) g0) (λ_=>⟨_,rfl,oH ⟨_,rfl,m,rfl,hm,_,rfl,n,rfl,hb,λy hy ea hea=>dt T.uu (λ_ q=>q) k ea hea⟩⟩)⟩
def Num(x:Int):Prop:=-(10 ^ 60)≤x∧x≤10 ^ 60
instance {x:Int}:Decidable (Num x):=inferInstanceAs (Decidable (_∧_))
def kn(D:Ad):Sp:=λvs H Q E=>∃ x:Int,vs=[.int x]∧Sm x∧(if Num x then Q .non H else Bad D.cJ H E)
abbrev BJ:List Str:=["x"]
theorem yO:av BJ ["x"] (ar k7):=⟨rfl,rfl,rfl,by decide +kernel,rfl,by decide +kernel,by decide +kernel⟩
theorem yP(F:Fun K "look_at_number" "look_at_number" k7 D.b5 D.fM)(T:Txt K mg D)
  (ag:Ok P w K mg base 1 D.aj D.aB ["self", "text"] (DK K)):Ok P w K mg base 3 D.b5 D.fM ["x"] (kn D):=by
 refine⟨?_,F.binds (ps:=["x"]) λ_ _ _ _ _ _ us hl=>match us,hl with|[_],_=>rfl⟩
 refine F.okE yO (λvs H Q E h=>?_) (λcdv A' outer s' H vs Q E hr h=>?_)
 ·obtain⟨x,rfl,_⟩:=h
  rfl
 ·obtain⟨x,rfl,hb,k⟩:=h
  refine⟨_,(ai (dM (aU JU (gK Qd rfl T.RJ PyProof.Rows.Boot.«abs» (ae (pv 0) ao)) (eF Yu au au) (cu _))
    (ai (gm rfl kN (kO T.mC ag.g (hr.mono (by decide)) rfl T.mB ag.b (Passes.x (aP λ_ _ _ q=>q)) (ae (jK (bC (lN (pv 0)) (bC iu jJ))) ao))))
    bQ)),?_⟩
  have e60:((10:Int) ^ (60:Int).toNat)=10 ^ 60:=rfl;by_cases g:Num x
  ·rw[if_pos g]at k
   refine⟨_,rfl,x,rfl,10,60,rfl,rfl,⟨by decide,by decide,by decide⟩,_,_,rfl,rfl,_,rfl,aQ (λh=>absurd (of_decide_eq_true h) ?_) (λ_=>k)⟩
   have:=g.1
   have:=g.2
   rw[e60];split<;>omega
  ·rw[if_neg g]at k
   refine⟨_,rfl,x,rfl,10,60,rfl,rfl,⟨by decide,by decide,by decide⟩,_,_,rfl,rfl,_,rfl,aQ (λ_=>⟨_,rfl,x,rfl,hb,λy hy ea hea=>dt T.pq (λ_ q=>q) k ea hea⟩) (λh=>absurd (decide_eq_true ?_) h)⟩;unfold Num at g;rw[e60];split<;>omega
def rJ(D:Ad):Sp:=λvs H Q E=>∃ x:Int,vs=[.int x]∧Sm x∧(if Num x then ∀ t H',aC H H'→H' t=some (.tup [.str "number",.int x])→Q (.ref t) H' else Bad D.cJ H E)
abbrev EZ:List Str:=["x"]
theorem Ec:av EZ ["x"] (ar nU):=⟨rfl,rfl,rfl,by decide +kernel,rfl,by decide +kernel,by decide +kernel⟩
theorem Ed(F:Fun K "number_value" "number_value" nU D.d8 D.i9)(T:Txt K mg D)
  (dJ:Ok P w K mg base 3 D.b5 D.fM ["x"] (kn D)):Ok P w K mg base 4 D.d8 D.i9 ["x"] (rJ D):=by
 refine⟨?_,F.binds (ps:=["x"]) λ_ _ _ _ _ _ us hl=>match us,hl with|[_],_=>rfl⟩
 refine F.okE Ec (λvs H Q E h=>?_) (λcdv A' outer s' H vs Q E hr h=>?_)
 ·obtain⟨x,rfl,_⟩:=h
  rfl
 ·obtain⟨x,rfl,hb,k⟩:=h
  refine⟨_,(ak (aG (bj dJ.g (hr.mono (by decide)) rfl T.qk T.jg dJ.b .nil (Passes.x (aP λ_ _ _ q=>q)) (ae (pv 0) ao)))
   (ai (aV (g9 (ae bJ (ae (pv 0) ao)))))),?_⟩
  refine⟨_,rfl,x,rfl,hb,?_⟩;by_cases g:Num x
  ·rw[if_pos g]at k ⊢
   exact⟨_,rfl,by show 2≤sizeLine;decide,λt ht=>k t _ (aC.upd ht) ah⟩
  ·rw[if_neg g]at k ⊢
   exact k
def kx:Sp:=λvs H Q E=>∃ x:Int,vs=[.int x]∧0≤x∧∀ t H',aC H H'→H' t=some (.tup [.str "thing",.int x])→Q (.ref t) H'
abbrev GH:List Str:=["t"]
theorem E0:av GH ["t"] (ar pL):=⟨rfl,rfl,rfl,by decide +kernel,rfl,by decide +kernel,by decide +kernel⟩
theorem E1(F:Fun K "thing_value" "thing_value" pL D.de D.gJ)(T:Txt K mg D)
  (ag:Ok P w K mg base 1 D.aj D.aB ["self", "text"] (DK K)):Ok P w K mg base 3 D.de D.gJ ["t"] (kx):=by
 refine⟨?_,F.binds (ps:=["t"]) λ_ _ _ _ _ _ us hl=>match us,hl with|[_],_=>rfl⟩
 refine F.okE E0 (λvs H Q E h=>?_) (λcdv A' outer s' H vs Q E hr h=>?_)
 ·obtain⟨x,rfl,_⟩:=h
  rfl
 ·obtain⟨x,rfl,h0,k⟩:=h
  refine⟨_,(ak (dM (aU FF (pv 0) au (cu _))
    (ai (gm rfl kN (kO T.mC ag.g (hr.mono (by decide)) rfl T.mB ag.b (Passes.x (aP λ_ _ _ q=>q)) (ae (jK (bC (lN (pv 0)) (bC iu jJ))) ao))))
    bQ)
   (ai (aV (g9 (ae bJ (ae (pv 0) ao)))))),?_⟩
  exact⟨_,rfl,x,0,rfl,rfl,_,rfl,aQ (λh=>absurd (of_decide_eq_true h) (by omega)) (λ_=>⟨_,rfl,by show 2≤sizeLine;decide,λt ht=>k t _ (aC.upd ht) ah⟩)⟩
def oN:Sp:=λvs H Q E=>∃ y l:Int,vs=[.int y,.int l]∧(y=0∨(7≤y∧y≤64))∧7≤l∧l≤400∧Q .non H
abbrev BK:List Str:=["young", "limit"]
theorem yQ:av BK ["young", "limit"] (ar k8):=⟨rfl,rfl,rfl,by decide +kernel,rfl,by decide +kernel,by decide +kernel⟩
theorem yR(F:Fun K "look_at_limits" "look_at_limits" k8 D.cO D.gR)(T:Txt K mg D)
  (ag:Ok P w K mg base 1 D.aj D.aB ["self", "text"] (DK K)):Ok P w K mg base 3 D.cO D.gR ["young", "limit"] (oN):=by
 refine⟨?_,F.binds (ps:=["young", "limit"]) λ_ _ _ _ _ _ us hl=>match us,hl with|[_,_],_=>rfl⟩
 refine F.okE yQ (λvs H Q E h=>?_) (λcdv A' outer s' H vs Q E hr h=>?_)
 ·obtain⟨y,l,rfl,_⟩:=h
  rfl
 ·obtain⟨y,l,rfl,hy,l0,l1,k⟩:=h
  refine⟨_,(ak (dM (PW.pt (pw_and (aU Rx (pv 0) au (cu _)) (pw_and1 (sR (qM DZ DZ (kY (v:=.int 7) rfl T.nv ⟨_,rfl⟩) (pv 0) (kY (v:=.int 64) rfl T.rj ⟨_,rfl⟩))))))
    (ai (gm rfl kN (kO T.mC ag.g (hr.mono (by decide)) rfl T.mB ag.b (Passes.x (aP λ_ _ _ q=>q)) (ae (jK (bC (lN (pv 0)) (bC iu jJ))) ao))))
    bQ)
   (ai (dM (sR (qM DZ DZ (kY (v:=.int 7) rfl T.nv ⟨_,rfl⟩) (pv 1) (kY (v:=.int 400) rfl T.rk ⟨_,rfl⟩)))
    (ai (gm rfl kN (kO T.mC ag.g (hr.mono (by decide)) rfl T.mB ag.b (Passes.x (aP λ_ _ _ q=>q)) (ae (jK (bC (lN (pv 1)) (bC iu jJ))) ao))))
    bQ))),?_⟩
  refine vQ λN hN=>?_;have rest:N [some (.int y),some (.int l)] H:=by
   refine hN _ _ ?_;exact⟨_,rfl,7,l,rfl,rfl,_,rfl,aQ (λ_=>⟨l,400,rfl,rfl,_,rfl,aQ (λh2=>absurd h2 (by rw[decide_eq_true l1];decide)) (λ_=>k)⟩) (λh1=>absurd (decide_eq_true l0) h1)⟩
  rcases hy with rfl|⟨y0,y1⟩
  ·exact⟨_,rfl,rfl,_,rfl,aQ (λh=>absurd h (by decide)) (λ_=>jd rest)⟩
  ·refine⟨_,rfl,rfl,_,rfl,aQ (λ_=>?_) (λh=>absurd (show(!decide (V.int y=V.int 0))=true from ?_) h)⟩
   ·exact⟨_,rfl,7,y,rfl,rfl,_,rfl,aQ (λ_=>⟨y,64,rfl,rfl,_,rfl,aQ (λh2=>absurd h2 (by rw[decide_eq_true y1];decide)) (λ_=>rest)⟩) (λh1=>absurd (decide_eq_true y0) h1)⟩
   ·rw[decide_eq_false (by intro z;injection z with z;omega)];rfl
def But(m:Addr)(H H':Hp):Prop:=∀ b u,b≠m→H b=some u→H' b=some u
theorem But.upd{m a:Addr}{H:Hp}{o:HO}(h:H a=none):But m H (L2.upd H a o):=λb u _ q=>by rw[af (aq q h)];exact q
theorem But.self{m:Addr}{H:Hp}{o:HO}:But m H (L2.upd H m o):=λb u n q=>by rw[af n];exact q
theorem But.trans{m:Addr}{H H1 H2:Hp}(a:But m H H1)(b:But m H1 H2):But m H H2:=λc u n q=>b c u n (a c u n q)
theorem aC.none{H H':Hp}(s:aC H H'){b:Addr}(h:H' b=none):H b=none:=by
 cases q:H b with
 | none=>rfl
 | some u=>rw[s _ _ q]at h;cases h
theorem adz:(List.replicate (8:Int).toNat [V.non]).flatten=List.replicate 8 .non:=rfl
theorem lookup_some{α:Type}{bs:List (Int×α)}{t:Int}{v:α}(h:bs.lookup t=some v):(t,v)∈bs:=by
 induction bs with
 | nil=>cases h
 | cons p r ih =>
  obtain⟨a,b⟩:=p;rw[afV]at h;by_cases e:t == a
  ·rw[e]at h
   rw[beq_iff_eq]at e;subst e;cases h;exact afg
  ·rw[Bool.not_eq_true]at e
   rw[e]at h;exact afn _ (ih h)
theorem lookup_none{α:Type}{bs:List (Int×α)}{t:Int}(h:bs.lookup t=none):∀ p∈bs,p.1≠t:=by
 induction bs with
 | nil=>intro p hp;cases hp
 | cons p r ih =>
  obtain⟨a,b⟩:=p;rw[afV]at h;by_cases e:t == a
  ·rw[e]at h;cases h
  ·rw[Bool.not_eq_true]at e
   rw[e]at h;intro q hq;rcases aff.mp hq with rfl|hq
   ·exact λz=>by rw[beq_eq_false_iff_ne]at e;exact e z.symm
   ·exact ih h q hq
theorem FZ{α:Type}{f:Int×α→Key×V}{bs:List (Int×α)}{t:Int}(hf:∀ p,(f p).1=Sum.inl p.1):lM (bs.map f) (Sum.inl t)=(bs.lookup t).map λv=>(f (t,v)).2:=by
 induction bs with
 | nil=>rfl
 | cons p r ih =>
  obtain⟨a,b⟩:=p;rw[afq,afV];by_cases e:t=a
  ·subst e
   rw[oA (hf (t,b)),beq_self_eq_true];rfl
  ·rw[oB (by rw[hf (a,b)];exact λz=>e (Sum.inl.inj z).symm),beq_eq_false_iff_ne.mpr e,ih]
theorem Yc{bs:List (Int×Int)}{t:Int}:lM (bs.map bkv) (Sum.inl t)=(bs.lookup t).map V.int:=FZ λ_=>rfl
def HX(bs:List (Int×Int))(t x:Int):List (Int×Int):=if(bs.lookup t).isSome=true then bs.map (λp=>if p.1=t then(t,x) else p) else bs++[(t,x)]
theorem LU{bs:List (Int×Int)}{t x:Int}:(HX bs t x).map bkv=putK (bs.map bkv) (Sum.inl t) (.int x):=by
 unfold HX putK;rw[Bi,Yc,af0];by_cases e:(bs.lookup t).isSome=true
 ·rw[if_pos e,if_pos e,afE,afE]
  refine afP λp hp=>?_;show bkv (if p.1=t then(t,x) else p)=if(bkv p).1=Sum.inl t then((bkv p).1,V.int x) else bkv p;by_cases c:p.1=t
  ·rw[if_pos c,if_pos (by show Sum.inl p.1=Sum.inl t;rw[c])];unfold bkv;rw[c]
  ·rw[if_neg c,if_neg (show ¬(bkv p).1=Sum.inl t from λz=>c (Sum.inl.inj (show(Sum.inl p.1:Key)=Sum.inl t from z)))]
 ·rw[if_neg e,if_neg e,ae8]
  rfl
structure Nt(D:Ad)(H:Hp)(nt ntx nl:Addr)(xs:List V):Prop where
 i:H nt=some (.ins D.aD ntx [("things_named",.ref nl)])
 l:H nl=some (.lst xs)
 n:xs.length=8
structure Wt(D:Ad)(H:Hp)(wt wtx wb wl:Addr)(bs:List (Int×Int))(zs:List Int):Prop where
 i:H wt=some (.ins D.aE wtx [("words_borne",.ref wb),("words_said",.ref wl)])
 b:H wb=some (.dK (bs.map bkv))
 l:H wl=some (.lst (zs.map V.int))
def vR(D:Ad):Sp:=λvs H Q _=>∃ m dx,vs=[.ref m]∧H m=some (.ins D.a6 dx [])∧∀ c H',But m H H'→H c=none→H' c=some (.lst (List.replicate 8 .non))→H' m=some (.ins D.a6 dx [("words_held",.ref c)])→Q .non H'
abbrev BL:List Str:=["self"]
theorem yS:av BL ["self"] (ar k9):=⟨rfl,rfl,rfl,by decide +kernel,rfl,by decide +kernel,by decide +kernel⟩
theorem yT(F:Fun K "__init__" "Hands.__init__" k9 D.dA D.gS)(T:Txt K mg D):Ok P w K mg base 1 D.dA D.gS ["self"] (vR D):=by
 refine⟨?_,F.binds (ps:=["self"]) λ_ _ _ _ _ _ us hl=>match us,hl with|[_],_=>rfl⟩
 refine F.okE yS (λvs H Q E h=>?_) (λcdv A' outer s' H vs Q E hr h=>?_)
 ·obtain⟨m,dx,rfl,_⟩:=h
  rfl
 ·obtain⟨m,dx,rfl,hm,k⟩:=h
  refine⟨_,(ai (il (pv 0) (eF Ny (j4 (ae j3 ao)) (kY (v:=.int 8) rfl T.FY ⟨_,rfl⟩)) rfl)),?_⟩;refine⟨by show 1≤sizeLine;decide,λp hp=>⟨p,8,_,rfl,rfl,ah,by decide,by decide,by show 1*8≤sizeLine;decide,λq hq=>?_⟩⟩;have np:m≠p:=aq hm hp;have hm1:upd H p (.lst [.non]) m=some (.ins D.a6 dx []):=by rw[af np];exact hm
  have nq:m≠q:=aq hm1 hq;have qp:q≠p:=λe=>by rw[e,ah]at hq;cases hq
  have hq0:H q=none:=by rw[af qp]at hq;exact hq
  refine⟨_,rfl,m,D.a6,dx,[],rfl,(by rw[af nq];exact hm1),T.aZ,T.cz,by decide,?_⟩;refine k q _ (((But.upd hp).trans (But.upd hq)).trans But.self) hq0 ?_ ah;rw[af (afi nq),ah,adz]
def oO(D:Ad):Sp:=λvs H Q _=>∃ m dx,vs=[.ref m]∧H m=some (.ins D.aD dx [])∧∀ c H',But m H H'→H c=none→H' c=some (.lst (List.replicate 8 .non))→H' m=some (.ins D.aD dx [("things_named",.ref c)])→Q .non H'
abbrev tf:List Str:=["self"]
theorem rQ:av tf ["self"] (ar i4):=⟨rfl,rfl,rfl,by decide +kernel,rfl,by decide +kernel,by decide +kernel⟩
theorem rR(F:Fun K "__init__" "NameTable.__init__" i4 D.bS D.eQ)(T:Txt K mg D):Ok P w K mg base 1 D.bS D.eQ ["self"] (oO D):=by
 refine⟨?_,F.binds (ps:=["self"]) λ_ _ _ _ _ _ us hl=>match us,hl with|[_],_=>rfl⟩
 refine F.okE rQ (λvs H Q E h=>?_) (λcdv A' outer s' H vs Q E hr h=>?_)
 ·obtain⟨m,dx,rfl,_⟩:=h
  rfl
 ·obtain⟨m,dx,rfl,hm,k⟩:=h
  refine⟨_,(ai (il (pv 0) (eF Ny (j4 (ae j3 ao)) (kY (v:=.int 8) rfl T.nu ⟨_,rfl⟩)) rfl)),?_⟩;refine⟨by show 1≤sizeLine;decide,λp hp=>⟨p,8,_,rfl,rfl,ah,by decide,by decide,by show 1*8≤sizeLine;decide,λq hq=>?_⟩⟩;have np:m≠p:=aq hm hp;have hm1:upd H p (.lst [.non]) m=some (.ins D.aD dx []):=by rw[af np];exact hm
  have nq:m≠q:=aq hm1 hq;have qp:q≠p:=λe=>by rw[e,ah]at hq;cases hq
  have hq0:H q=none:=by rw[af qp]at hq;exact hq
  refine⟨_,rfl,m,D.aD,dx,[],rfl,(by rw[af nq];exact hm1),T.dZ,T.b4,by decide,?_⟩;refine k q _ (((But.upd hp).trans (But.upd hq)).trans But.self) hq0 ?_ ah;rw[af (afi nq),ah,adz]
def rK(D:Ad):Sp:=λvs H Q E=>∃ hd hdx hl xs ws,∃ h:Int,vs=[.ref hd,.int h]∧Hn D H hd hdx hl xs ws∧Sm h∧(match wat ws h with|some wd=>∀ v,xs[h.toNat]?=some v→WV H v wd→Q v H|none=>Bad D.bE H E)
abbrev Ee:List Str:=["self", "h"]
theorem BM:av Ee ["self", "h"] (ar mI):=⟨rfl,rfl,rfl,by decide +kernel,rfl,by decide +kernel,by decide +kernel⟩
theorem BN(F:Fun K "word_in" "Hands.word_in" mI D.cG D.fA)(T:Txt K mg D)
  (aA:Ok P w K mg base 3 D.bp D.cD ["h"] (en D)):Ok P w K mg base 4 D.cG D.fA ["self", "h"] (rK D):=by
 refine⟨?_,F.binds (ps:=["self", "h"]) λ_ _ _ _ _ _ us hl=>match us,hl with|[_,_],_=>rfl⟩
 refine F.okE BM (λvs H Q E h=>?_) (λcdv A' outer s' H vs Q E hr h=>?_)
 ·obtain⟨hd,hdx,hl,xs,ws,h,rfl,_⟩:=h
  rfl
 ·obtain⟨hd,hdx,hl,xs,ws,h,rfl,N,hb,k⟩:=h
  refine⟨_,(ak (aG (bj aA.g (hr.mono (by decide)) rfl T.gi T.ed aA.b .nil (Passes.x (aP λ_ _ _ q=>q)) (ae (pv 1) ao)))
   (ai (aV (b9 gj (aH (pv 0) rfl) (pv 1) (λ_ _=>rfl))))),?_⟩
  refine⟨_,rfl,h,rfl,hb,?_⟩;cases e:wat ws h with
  | none =>
   rw[if_neg (Qy N.n e)];rw[e]at k;exact k
  | some wd =>
   obtain⟨h0,h1,_⟩:=qO e;obtain⟨v,hv,wv⟩:=N.at_ e;rw[if_pos ⟨h0,h1⟩];rw[e]at k;exact⟨_,rfl,hd,D.a6,hdx,_,.ref hl,rfl,N.i,T.aZ,T.cz,rfl,_,rfl,hl,xs,h,v,rfl,rfl,SqL.of N.l,GG h0 hv,k v hv wv⟩
def vS(D:Ad):Sp:=λvs H Q E=>∃ hd hdx hl xs ws v,∃ h:Int,vs=[.ref hd,.int h,v]∧Hn D H hd hdx hl xs ws∧Sm h∧(if 0≤h∧h<8 then Q .non (upd H hl (.lst (xs.set h.toNat v))) else Bad D.bE H E)
abbrev KN:List Str:=["self", "h", "word"]
theorem Ir:av KN ["self", "h", "word"] (ar ug):=⟨rfl,rfl,rfl,by decide +kernel,rfl,by decide +kernel,by decide +kernel⟩
theorem Iu(F:Fun K "put" "Hands.put" ug D.eZ D.iw)(T:Txt K mg D)
  (aA:Ok P w K mg base 3 D.bp D.cD ["h"] (en D)):Ok P w K mg base 4 D.eZ D.iw ["self", "h", "word"] (vS D):=by
 refine⟨?_,F.binds (ps:=["self", "h", "word"]) λ_ _ _ _ _ _ us hl=>match us,hl with|[_,_,_],_=>rfl⟩
 refine F.okE Ir (λvs H Q E h=>?_) (λcdv A' outer s' H vs Q E hr h=>?_)
 ·obtain⟨hd,hdx,hl,xs,ws,v,h,rfl,_⟩:=h
  rfl
 ·obtain⟨hd,hdx,hl,xs,ws,v,h,rfl,N,hb,k⟩:=h
  refine⟨_,(ak (aG (bj aA.g (hr.mono (by decide)) rfl T.gi T.ed aA.b .nil (Passes.x (aP λ_ _ _ q=>q)) (ae (pv 1) ao)))
   (ai (GB (pv 2) (GA (aH (pv 0) rfl) (pv 1) set_list)))),?_⟩
  refine⟨_,rfl,h,rfl,hb,?_⟩;by_cases g:0≤h∧h<8
  ·rw[if_pos g]at k ⊢
   exact⟨_,rfl,_,rfl,hd,D.a6,hdx,_,.ref hl,rfl,N.i,T.aZ,T.cz,rfl,_,rfl,hl,xs,h,h.toNat,rfl,rfl,N.l,N.ix g,k⟩
  ·rw[if_neg g]at k ⊢
   exact k
def LV(D:Ad):Sp:=λvs H Q E=>∃ hd hdx hl xs ws,∃ h g:Int,vs=[.ref hd,.int h,.int g]∧Hn D H hd hdx hl xs ws∧Sm h∧Sm g∧(if 0≤h∧h<8 then(match wat ws g with|some wd=>∀ v,WV H v wd→Q .non (upd H hl (.lst (xs.set h.toNat v)))|none=>Bad D.bE H E) else Bad D.bE H E)
abbrev Iv:List Str:=["self", "h", "g"]
theorem GI:av Iv ["self", "h", "g"] (ar qS):=⟨rfl,rfl,rfl,by decide +kernel,rfl,by decide +kernel,by decide +kernel⟩
theorem GJ(F:Fun K "copy" "Hands.copy" qS D.gC D.kD)(T:Txt K mg D)
  (aA:Ok P w K mg base 3 D.bp D.cD ["h"] (en D))
  (bK:Ok P w K mg base 4 D.cG D.fA ["self", "h"] (rK D)):Ok P w K mg base 5 D.gC D.kD ["self", "h", "g"] (LV D):=by
 refine⟨?_,F.binds (ps:=["self", "h", "g"]) λ_ _ _ _ _ _ us hl=>match us,hl with|[_,_,_],_=>rfl⟩
 refine F.okE GI (λvs H Q E h=>?_) (λcdv A' outer s' H vs Q E hr h=>?_)
 ·obtain⟨hd,hdx,hl,xs,ws,h,g,rfl,_⟩:=h
  rfl
 ·obtain⟨hd,hdx,hl,xs,ws,h,g,rfl,N,hb,hg,k⟩:=h
  refine⟨_,(ak (aG (bj aA.g (hr.mono (by decide)) rfl T.gi T.ed aA.b .nil (Passes.x (aP λ_ _ _ q=>q)) (ae (pv 1) ao)))
   (ai (GB (aJ (pv 0) T.aZ T.lG bK.g (hr.mono (by decide)) bK.b .nil (Passes.x (aP λ_ _ _ q=>q)) (ae (pv 2) ao)) (GA (aH (pv 0) rfl) (pv 1) set_list)))),?_⟩
  refine⟨_,rfl,h,rfl,hb,?_⟩;by_cases c:0≤h∧h<8
  ·rw[if_pos c]at k ⊢
   refine⟨_,rfl,hd,hdx,_,rfl,N.i,rfl,_,rfl,hd,hdx,hl,xs,ws,g,rfl,N,hg,?_⟩;cases e:wat ws g with
   | none =>
    rw[e]at k;exact k
   | some wd =>
    rw[e]at k;exact λv hv wv=>⟨_,rfl,hd,D.a6,hdx,_,.ref hl,rfl,N.i,T.aZ,T.cz,rfl,_,rfl,hl,xs,h,h.toNat,rfl,rfl,N.l,N.ix c,k v wv⟩
  ·rw[if_neg c]at k ⊢
   exact k
def F5(D:Ad):Sp:=λvs H Q E=>∃ hd hdx hl xs ws,∃ h x:Int,vs=[.ref hd,.int h,.int x]∧Hn D H hd hdx hl xs ws∧Sm h∧Sm x∧(if 0≤h∧h<8 then(if Num x then ∀ t H',aC H H'→H' t=some (.tup [.str "number",.int x])→Q .non (upd H' hl (.lst (xs.set h.toNat (.ref t)))) else Bad D.cJ H E) else Bad D.bE H E)
abbrev E3:List Str:=["self", "h", "x"]
theorem Ef:av E3 ["self", "h", "x"] (ar nX):=⟨rfl,rfl,rfl,by decide +kernel,rfl,by decide +kernel,by decide +kernel⟩
theorem Eg(F:Fun K "number" "Hands.number" nX D.eX D.ja)(T:Txt K mg D)
  (aA:Ok P w K mg base 3 D.bp D.cD ["h"] (en D))
  (kz:Ok P w K mg base 4 D.d8 D.i9 ["x"] (rJ D)):Ok P w K mg base 5 D.eX D.ja ["self", "h", "x"] (F5 D):=by
 refine⟨?_,F.binds (ps:=["self", "h", "x"]) λ_ _ _ _ _ _ us hl=>match us,hl with|[_,_,_],_=>rfl⟩
 refine F.okE Ef (λvs H Q E h=>?_) (λcdv A' outer s' H vs Q E hr h=>?_)
 ·obtain⟨hd,hdx,hl,xs,ws,h,x,rfl,_⟩:=h
  rfl
 ·obtain⟨hd,hdx,hl,xs,ws,h,x,rfl,N,hb,hx,k⟩:=h
  refine⟨_,(ak (aG (bj aA.g (hr.mono (by decide)) rfl T.gi T.ed aA.b .nil (Passes.x (aP λ_ _ _ q=>q)) (ae (pv 1) ao)))
   (ai (GB (bj kz.g (hr.mono (by decide)) rfl T.EV T.nZ kz.b .nil (Passes.x (aP λ_ _ _ q=>q)) (ae (pv 2) ao)) (GA (aH (pv 0) rfl) (pv 1) set_list)))),?_⟩
  refine⟨_,rfl,h,rfl,hb,?_⟩;by_cases c:0≤h∧h<8
  ·rw[if_pos c]at k ⊢
   refine⟨_,rfl,x,rfl,hx,?_⟩;by_cases g:Num x
   ·rw[if_pos g]at k ⊢
    intro t H' sH ht;have N':=N.same sH;exact⟨_,rfl,hd,D.a6,hdx,_,.ref hl,rfl,N'.i,T.aZ,T.cz,rfl,_,rfl,hl,xs,h,h.toNat,rfl,rfl,N'.l,N'.ix c,k t H' sH ht⟩
   ·rw[if_neg g]at k ⊢
    exact k
  ·rw[if_neg c]at k ⊢
   exact k
def Bq(D:Ad):Sp:=λvs H Q E=>∃ hd hdx hl xs ws,∃ h:Int,vs=[.ref hd,.int h]∧Hn D H hd hdx hl xs ws∧Sm h∧(match wat ws h with|some wd=>∀ H',aC H H'→Q (.str wd.kind) H'|none=>Bad D.bE H E)
abbrev Iw:List Str:=["self", "h", "kind"]
theorem vT:av Iw ["self", "h"] (ar qT):=⟨rfl,rfl,rfl,by decide +kernel,rfl,by decide +kernel,by decide +kernel⟩
theorem GK(F:Fun K "kind" "Hands.kind" qT D.eU D.iD)(T:Txt K mg D)
  (j7:Ok P w K mg base 1 D.iX D.oj ["value"] (NH))
  (bK:Ok P w K mg base 4 D.cG D.fA ["self", "h"] (rK D)):Ok P w K mg base 5 D.eU D.iD ["self", "h"] (Bq D):=by
 refine⟨?_,F.binds (ps:=["self", "h"]) λ_ _ _ _ _ _ us hl=>match us,hl with|[_,_],_=>rfl⟩
 refine F.okE vT (λvs H Q E h=>?_) (λcdv A' outer s' H vs Q E hr h=>?_)
 ·obtain⟨hd,hdx,hl,xs,ws,h,rfl,_⟩:=h
  rfl
 ·obtain⟨hd,hdx,hl,xs,ws,h,rfl,N,hb,k⟩:=h
  refine⟨_,(ak (bF (i:=2) vT.nd rfl (Or.inl rfl) (bj j7.g (hr.mono (by decide)) rfl T.HW T.vH j7.b .nil (Passes.x (aP λ_ _ _ q=>q)) (ae (aJ (pv 0) T.aZ T.lG bK.g (hr.mono (by decide)) bK.b .nil (Passes.x (aP λ_ _ _ q=>q)) (ae (pv 1) ao)) ao)))
   (ai (aV (Bg (aU vG (pv 2) (g9 (ae bJ (ae bJ ao))) (by with_unfolding_all rfl)) (pv 2) bJ)))),?_⟩
  refine⟨_,rfl,hd,hdx,_,rfl,N.i,rfl,_,rfl,hd,hdx,hl,xs,ws,h,rfl,N,hb,?_⟩;cases e:wat ws h with
  | none =>
   rw[e]at k;exact k
  | some wd =>
   rw[e]at k;intro v hv wv;refine⟨v,wd,rfl,wv,?_⟩;cases wd with
   | no=>exact⟨_,rfl,by show 2≤sizeLine;decide,λt ht=>⟨t,_,rfl,.inr (SqT.of ah),rfl,rfl,_,rfl,aQ (λ_=>⟨_,rfl,k _ (aC.upd ht)⟩) (λh=>absurd (by kernel_rfl) h)⟩⟩
   | num n=>exact⟨_,rfl,by show 2≤sizeLine;decide,λt ht=>⟨t,_,rfl,.inr (SqT.of ah),rfl,rfl,_,rfl,aQ (λ_=>⟨_,rfl,k _ (aC.upd ht)⟩) (λh=>absurd (by kernel_rfl) h)⟩⟩
   | th n=>exact⟨_,rfl,by show 2≤sizeLine;decide,λt ht=>⟨t,_,rfl,.inr (SqT.of ah),rfl,rfl,_,rfl,aQ (λh=>absurd h (afB.mp (by kernel_rfl))) (λ_=>k _ (aC.upd ht))⟩⟩
def LW(D:Ad):Sp:=λvs H Q E=>∃ hd hdx hl xs ws,∃ h:Int,vs=[.ref hd,.int h]∧Hn D H hd hdx hl xs ws∧Sm h∧(match wat ws h with|some (.num x)=>∀ H',aC H H'→Q (.int x) H'|_=>Bad D.bE H E)
abbrev GL:List Str:=["self", "h"]
theorem E4:av GL ["self", "h"] (ar pM):=⟨rfl,rfl,rfl,by decide +kernel,rfl,by decide +kernel,by decide +kernel⟩
theorem E5(F:Fun K "value" "Hands.value" pM D.fN D.jL)(T:Txt K mg D)
  (ag:Ok P w K mg base 1 D.aj D.aB ["self", "text"] (DK K))
  (du:Ok P w K mg base 5 D.eU D.iD ["self", "h"] (Bq D)):Ok P w K mg base 6 D.fN D.jL ["self", "h"] (LW D):=by
 refine⟨?_,F.binds (ps:=["self", "h"]) λ_ _ _ _ _ _ us hl=>match us,hl with|[_,_],_=>rfl⟩
 refine F.okE E4 (λvs H Q E h=>?_) (λcdv A' outer s' H vs Q E hr h=>?_)
 ·obtain⟨hd,hdx,hl,xs,ws,h,rfl,_⟩:=h
  rfl
 ·obtain⟨hd,hdx,hl,xs,ws,h,rfl,N,hb,k⟩:=h
  refine⟨_,(ak (dM (aU Rx (aJ (pv 0) T.aZ T.pQ du.g (hr.mono (by decide)) du.b .nil (Passes.x (aP λ_ _ _ q=>q)) (ae (pv 1) ao)) bJ (cu _))
    (ai (gm rfl kN (kO T.yi ag.g (hr.mono (by decide)) rfl T.yh ag.b (Passes.x (aP λ_ _ _ q=>q)) (ae (jK (bC iu (bC (lN (pv 1)) (bC iu jJ)))) ao))))
    bQ)
   (ai (aV (b9 cv (b9 gj (aH (pv 0) rfl) (pv 1) (λ_ _=>rfl)) au (λ_ _=>rfl))))),?_⟩
  refine⟨_,rfl,hd,hdx,_,rfl,N.i,rfl,_,rfl,hd,hdx,hl,xs,ws,h,rfl,N,hb,?_⟩;cases e:wat ws h with
  | none =>
   rw[e]at k;exact k
  | some wd =>
   rw[e]at k;cases wd with
   | no=>exact λH1 s1=>⟨rfl,_,rfl,aQ (λ_=>⟨_,rfl,h,rfl,hb,λy hy ea hea=>dt T.j2 (λ_ q=>aC.none s1 q) (Bad.same k s1) ea hea⟩) (λh=>absurd (by kernel_rfl) h)⟩
   | num n =>
    intro H1 s1;have N1:=N.same s1;obtain⟨v,hv,wv⟩:=N1.at_ e;obtain⟨h0,h1,_⟩:=qO e;obtain⟨t,rfl,ht⟩:=wv;exact⟨rfl,_,rfl,aQ (λh=>absurd h (afB.mp (by kernel_rfl))) (λ_=>⟨_,rfl,hd,D.a6,hdx,_,.ref hl,rfl,N1.i,T.aZ,T.cz,rfl,_,rfl,hl,xs,h,.ref t,rfl,rfl,SqL.of N1.l,GG h0 hv,t,_,1,.int n,rfl,rfl,SqT.of ht,rfl,k H1 s1⟩)⟩
   | th n =>
    exact λH1 s1=>⟨rfl,_,rfl,aQ (λ_=>⟨_,rfl,h,rfl,hb,λy hy ea hea=>dt T.j2 (λ_ q=>aC.none s1 q) (Bad.same k s1) ea hea⟩) (λh=>absurd (by kernel_rfl) h)⟩
def jA(D:Ad):Sp:=λvs H Q E=>∃ hd hdx hl xs ws,∃ h:Int,vs=[.ref hd,.int h]∧Hn D H hd hdx hl xs ws∧Sm h∧(match wat ws h with|some (.th x)=>∀ H',aC H H'→Q (.int x) H'|_=>Bad D.bE H E)
abbrev yU:List Str:=["self", "h"]
theorem wo:av yU ["self", "h"] (ar ka):=⟨rfl,rfl,rfl,by decide +kernel,rfl,by decide +kernel,by decide +kernel⟩
theorem wq(F:Fun K "thing_due" "Hands.thing_due" ka D.ba D.cg)(T:Txt K mg D)
  (ag:Ok P w K mg base 1 D.aj D.aB ["self", "text"] (DK K))
  (du:Ok P w K mg base 5 D.eU D.iD ["self", "h"] (Bq D)):Ok P w K mg base 6 D.ba D.cg ["self", "h"] (jA D):=by
 refine⟨?_,F.binds (ps:=["self", "h"]) λ_ _ _ _ _ _ us hl=>match us,hl with|[_,_],_=>rfl⟩
 refine F.okE wo (λvs H Q E h=>?_) (λcdv A' outer s' H vs Q E hr h=>?_)
 ·obtain⟨hd,hdx,hl,xs,ws,h,rfl,_⟩:=h
  rfl
 ·obtain⟨hd,hdx,hl,xs,ws,h,rfl,N,hb,k⟩:=h
  refine⟨_,(ak (dM (aU Rx (aJ (pv 0) T.aZ T.pQ du.g (hr.mono (by decide)) du.b .nil (Passes.x (aP λ_ _ _ q=>q)) (ae (pv 1) ao)) bJ (cu _))
    (ai (gm rfl kN (kO T.yi ag.g (hr.mono (by decide)) rfl T.yh ag.b (Passes.x (aP λ_ _ _ q=>q)) (ae (jK (bC iu (bC (lN (pv 1)) (bC iu jJ)))) ao))))
    bQ)
   (ai (aV (b9 cv (b9 gj (aH (pv 0) rfl) (pv 1) (λ_ _=>rfl)) au (λ_ _=>rfl))))),?_⟩
  refine⟨_,rfl,hd,hdx,_,rfl,N.i,rfl,_,rfl,hd,hdx,hl,xs,ws,h,rfl,N,hb,?_⟩;cases e:wat ws h with
  | none =>
   rw[e]at k;exact k
  | some wd =>
   rw[e]at k;cases wd with
   | no=>exact λH1 s1=>⟨rfl,_,rfl,aQ (λ_=>⟨_,rfl,h,rfl,hb,λy hy ea hea=>dt T.j2 (λ_ q=>aC.none s1 q) (Bad.same k s1) ea hea⟩) (λh=>absurd (by kernel_rfl) h)⟩
   | num n =>
    exact λH1 s1=>⟨rfl,_,rfl,aQ (λ_=>⟨_,rfl,h,rfl,hb,λy hy ea hea=>dt T.j2 (λ_ q=>aC.none s1 q) (Bad.same k s1) ea hea⟩) (λh=>absurd (by kernel_rfl) h)⟩
   | th n =>
    intro H1 s1;have N1:=N.same s1;obtain⟨v,hv,wv⟩:=N1.at_ e;obtain⟨h0,h1,_⟩:=qO e;obtain⟨t,rfl,ht⟩:=wv;exact⟨rfl,_,rfl,aQ (λh=>absurd h (afB.mp (by kernel_rfl))) (λ_=>⟨_,rfl,hd,D.a6,hdx,_,.ref hl,rfl,N1.i,T.aZ,T.cz,rfl,_,rfl,hl,xs,h,.ref t,rfl,rfl,SqL.of N1.l,GG h0 hv,t,_,1,.int n,rfl,rfl,SqT.of ht,rfl,k H1 s1⟩)⟩
def nz(D:Ad):Sp:=λvs H Q E=>∃ hd hdx hl xs ws,vs=[.ref hd]∧Hn D H hd hdx hl xs ws∧∀ p H',aC H H'→H p=none→H' p=some (.lst xs)→Q (.ref p) H'
abbrev yV:List Str:=["self"]
theorem wu:av yV ["self"] (ar j9):=⟨rfl,rfl,rfl,by decide +kernel,rfl,by decide +kernel,by decide +kernel⟩
theorem wx(F:Fun K "all_words" "Hands.all_words" j9 D.bO D.dR)(T:Txt K mg D):Ok P w K mg base 1 D.bO D.dR ["self"] (nz D):=by
 refine⟨?_,F.binds (ps:=["self"]) λ_ _ _ _ _ _ us hl=>match us,hl with|[_],_=>rfl⟩
 refine F.okE wu (λvs H Q E h=>?_) (λcdv A' outer s' H vs Q E hr h=>?_)
 ·obtain⟨hd,hdx,hl,xs,ws,rfl,_⟩:=h
  rfl
 ·obtain⟨hd,hdx,hl,xs,ws,rfl,N,k⟩:=h
  refine⟨_,(ai (aV (lV kC rfl T.sY PyProof.Rows.Boot.«list» (ae (aH (pv 0) rfl) ao)))),?_⟩;exact⟨_,rfl,hd,D.a6,hdx,_,.ref hl,rfl,N.i,T.aZ,T.cz,rfl,hl,xs,rfl,.inl (SqL.of N.l),λp hp=>k p _ (aC.upd hp) hp ah⟩
def LY(D:Ad):Sp:=λvs H Q E=>∃ nt ntx nl xs v,∃ w:Int,vs=[.ref nt,.int w,v]∧Nt D H nt ntx nl xs∧Sm w∧(if 0≤w∧w<8 then Q .non (upd H nl (.lst (xs.set w.toNat v))) else Bad D.eE H E)
abbrev BO:List Str:=["self", "w", "t"]
theorem yW:av BO ["self", "w", "t"] (ar lp):=⟨rfl,rfl,rfl,by decide +kernel,rfl,by decide +kernel,by decide +kernel⟩
theorem yX(F:Fun K "name" "NameTable.name" lp D.dD D.gW)(T:Txt K mg D)
  (eY:Ok P w K mg base 3 D.da D.hG ["w"] (mL D)):Ok P w K mg base 4 D.dD D.gW ["self", "w", "t"] (LY D):=by
 refine⟨?_,F.binds (ps:=["self", "w", "t"]) λ_ _ _ _ _ _ us hl=>match us,hl with|[_,_,_],_=>rfl⟩
 refine F.okE yW (λvs H Q E h=>?_) (λcdv A' outer s' H vs Q E hr h=>?_)
 ·obtain⟨nt,ntx,nl,xs,v,w,rfl,_⟩:=h
  rfl
 ·obtain⟨nt,ntx,nl,xs,v,w,rfl,N,hb,k⟩:=h
  refine⟨_,(ak (aG (bj eY.g (hr.mono (by decide)) rfl T.ud T.kr eY.b .nil (Passes.x (aP λ_ _ _ q=>q)) (ae (pv 1) ao)))
   (ai (GB (pv 2) (GA (aH (pv 0) rfl) (pv 1) set_list)))),?_⟩
  refine⟨_,rfl,w,rfl,hb,?_⟩;by_cases g:0≤w∧w<8
  ·rw[if_pos g]at k ⊢
   exact⟨_,rfl,_,rfl,nt,D.aD,ntx,_,.ref nl,rfl,N.i,T.dZ,T.b4,rfl,_,rfl,nl,xs,w,w.toNat,rfl,rfl,N.l,RL g.1 (by rw[N.n];exact g.2),k⟩
  ·rw[if_neg g]at k ⊢
   exact k
def LZ(D:Ad):Sp:=λvs H Q E=>∃ nt ntx nl xs,∃ w:Int,vs=[.ref nt,.int w]∧Nt D H nt ntx nl xs∧Sm w∧(if 0≤w∧w<8 then ∀ v,xs[w.toNat]?=some v→Q v H else Bad D.eE H E)
abbrev yY:List Str:=["self", "w"]
theorem wz:av yY ["self", "w"] (ar kc):=⟨rfl,rfl,rfl,by decide +kernel,rfl,by decide +kernel,by decide +kernel⟩
theorem wA(F:Fun K "named" "NameTable.named" kc D.cU D.gx)(T:Txt K mg D)
  (eY:Ok P w K mg base 3 D.da D.hG ["w"] (mL D)):Ok P w K mg base 4 D.cU D.gx ["self", "w"] (LZ D):=by
 refine⟨?_,F.binds (ps:=["self", "w"]) λ_ _ _ _ _ _ us hl=>match us,hl with|[_,_],_=>rfl⟩
 refine F.okE wz (λvs H Q E h=>?_) (λcdv A' outer s' H vs Q E hr h=>?_)
 ·obtain⟨nt,ntx,nl,xs,w,rfl,_⟩:=h
  rfl
 ·obtain⟨nt,ntx,nl,xs,w,rfl,N,hb,k⟩:=h
  refine⟨_,(ak (aG (bj eY.g (hr.mono (by decide)) rfl T.ud T.kr eY.b .nil (Passes.x (aP λ_ _ _ q=>q)) (ae (pv 1) ao)))
   (ai (aV (b9 gj (aH (pv 0) rfl) (pv 1) (λ_ _=>rfl))))),?_⟩
  refine⟨_,rfl,w,rfl,hb,?_⟩;by_cases g:0≤w∧w<8
  ·rw[if_pos g]at k ⊢
   have hv:xs[w.toNat]?=some (xs[w.toNat]'(by rw[N.n];omega)):=aeW _;exact⟨_,rfl,nt,D.aD,ntx,_,.ref nl,rfl,N.i,T.dZ,T.b4,rfl,_,rfl,nl,xs,w,_,rfl,rfl,SqL.of N.l,GG g.1 hv,k _ hv⟩
  ·rw[if_neg g]at k ⊢
   exact k
def oP(D:Ad):Sp:=λvs H Q _=>∃ m dx,vs=[.ref m]∧H m=some (.ins D.aE dx [])∧∀ b c H',But m H H'→H b=none→H c=none→Wt D H' m dx b c [] []→Q .non H'
abbrev tj:List Str:=["self"]
theorem rS:av tj ["self"] (ar i3):=⟨rfl,rfl,rfl,by decide +kernel,rfl,by decide +kernel,by decide +kernel⟩
theorem rU(F:Fun K "__init__" "WordTable.__init__" i3 D.bR D.eP)(T:Txt K mg D):Ok P w K mg base 1 D.bR D.eP ["self"] (oP D):=by
 refine⟨?_,F.binds (ps:=["self"]) λ_ _ _ _ _ _ us hl=>match us,hl with|[_],_=>rfl⟩
 refine F.okE rS (λvs H Q E h=>?_) (λcdv A' outer s' H vs Q E hr h=>?_)
 ·obtain⟨m,dx,rfl,_⟩:=h
  rfl
 ·obtain⟨m,dx,rfl,hm,k⟩:=h
  refine⟨_,(ak (il (pv 0) mO rfl)
   (ai (il (pv 0) (j4 ao) rfl))),?_⟩
  intro p hp;have np:m≠p:=aq hm hp;refine⟨_,rfl,m,D.aE,dx,[],rfl,(by rw[af np];exact hm),T.bG,T.bo,by decide,?_⟩;refine⟨by show 0≤sizeLine;decide,λq hq=>?_⟩;have nq:m≠q:=aq ah hq;have qp:q≠p:=λe=>by rw[e,af (afi np),ah]at hq;cases hq
  have hq0:H q=none:=by rw[af (afi nq),af qp]at hq;exact hq
  refine⟨_,rfl,m,D.aE,dx,_,rfl,(by rw[af nq];exact ah),T.bG,T.hR,by show 1<1000;decide,?_⟩;refine k p q _ ((((But.upd hp).trans But.self).trans (λb u n h=>by rw[af λe=>by rw[e]at h;rw[h]at hq;cases hq];exact h)).trans But.self) hp hq0 ⟨ah,?_,?_⟩
  ·rw[af (afi np),af (afi qp),af (afi np),ah]
   rfl
  ·rw[af (afi nq),ah]
   rfl
def Oa(D:Ad):Sp:=λvs H Q E=>∃ wt wtx wb wl bs zs,∃ t x:Int,vs=[.ref wt,.int t,.int x]∧Wt D H wt wtx wb wl bs zs∧bs.length≤12∧(if bs.lookup t=none∧12≤bs.length then Bad D.bM H E else Q .non (upd H wb (.dK ((HX bs t x).map bkv))))
abbrev BP:List Str:=["self", "t", "x"]
theorem yZ:av BP ["self", "t", "x"] (ar lh):=⟨rfl,rfl,rfl,by decide +kernel,rfl,by decide +kernel,by decide +kernel⟩
theorem y8(F:Fun K "bear" "WordTable.bear" lh D.dB D.gT)(T:Txt K mg D)
  (ag:Ok P w K mg base 1 D.aj D.aB ["self", "text"] (DK K)):Ok P w K mg base 3 D.dB D.gT ["self", "t", "x"] (Oa D):=by
 refine⟨?_,F.binds (ps:=["self", "t", "x"]) λ_ _ _ _ _ _ us hl=>match us,hl with|[_,_,_],_=>rfl⟩
 refine F.okE yZ (λvs H Q E h=>?_) (λcdv A' outer s' H vs Q E hr h=>?_)
 ·obtain⟨wt,wtx,wb,wl,bs,zs,t,x,rfl,_⟩:=h
  rfl
 ·obtain⟨wt,wtx,wb,wl,bs,zs,t,x,rfl,N,hn,k⟩:=h
  have hu:=lL hr;refine⟨_,(ak (dM (PW.pt (pw_and (qL (j5 hu (pv 1) (aH (pv 0) rfl)) (by with_unfolding_all rfl)) (pw_and1 (aU abR (gK OS rfl T.Bo PyProof.Rows.Boot.«len» (ae (aH (pv 0) rfl) ao)) (kY (v:=.int 12) rfl T.ku ⟨_,rfl⟩) (cu _)))))
    (ai (gm rfl kN (kO T.D4 ag.g (hr.mono (by decide)) rfl T.D3 ag.b (Passes.x (aP λ_ _ _ q=>q)) (ae (jK (bC (lN (kY (v:=.int 12) rfl T.ku ⟨_,rfl⟩)) (bC iu jJ))) ao))))
    bQ)
   (ai (sP hu (aH (pv 0) rfl) (pv 1) (pv 2) rfl))),?_⟩
  have hu:=lL hr;refine⟨_,rfl,_,rfl,wt,D.aE,wtx,_,.ref wb,rfl,N.i,T.bG,T.bo,rfl,wb,_,rfl,qc.k (k:=Sum.inl t) N.b,_,rfl,?_⟩;rw[Yc,af0];cases e:bs.lookup t with
  | some v =>
   rw[if_neg (λz=>by rw[e]at z;cases z.1)]at k;exact jd ⟨_,rfl,_,rfl,wt,D.aE,wtx,_,.ref wb,rfl,N.i,T.bG,T.bo,rfl,_,rfl,wb,_,rfl,HN.k (k:=Sum.inl t) N.b (by rw[aeV];exact afS hn (by decide)),by rw[LU]at k;exact k⟩
  | none =>
   refine oH ⟨_,rfl,wt,D.aE,wtx,_,.ref wb,rfl,N.i,T.bG,T.bo,rfl,wb,_,rfl,N.b,_,_,rfl,rfl,_,rfl,aQ (λh=>?_) (λh=>?_)⟩
   ·rw[aeV]at h
    have h:=of_decide_eq_true h;rw[if_pos ⟨e,by omega⟩]at k;exact⟨12,rfl,Sm.of (by decide) (by decide),λy hy ea hea=>dt T.rC (λ_ q=>q) k ea hea⟩
   ·rw[aeV]at h
    have h:¬((12:Int)≤(bs.length:Int)):=λz=>h (decide_eq_true z);rw[if_neg (λz=>h (by have:=z.2;omega))]at k;exact⟨_,rfl,_,rfl,wt,D.aE,wtx,_,.ref wb,rfl,N.i,T.bG,T.bo,rfl,_,rfl,wb,_,rfl,HN.k (k:=Sum.inl t) N.b (by rw[aeV];exact afS hn (by decide)),by rw[LU]at k;exact k⟩
def fld(s:HS)(t:Int):List Wd:=(s.aN.lookup t).getD []
structure Good(s:HS):Prop where
 h8:s.bq.length=8
 n8:s.names.length=8
 asc:(s.aN.map (·.1)).Pairwise (·< ·)
 lt:∀ t ws,(t,ws)∈s.aN→0≤t∧t<s.nxt
 f6:∀ t ws,(t,ws)∈s.aN→ws.length≤6
 hh:∀ t,Wd.th t∈s.bq→∃ ws,(t,ws)∈s.aN
 ff:∀ u ws t,(u,ws)∈s.aN→Wd.th t∈ws→∃ ws',(t,ws')∈s.aN
 nn:∀ t,some t∈s.names→∃ ws,(t,ws)∈s.aN
 b12:s.aR.length≤12
 bk:∀ t x,(t,x)∈s.aR→∃ ws,(t,ws)∈s.aN
 bnd:(s.aR.map (·.1)).Nodup
 n0:0≤s.nxt
 nx:s.nxt≤10000
 sd:(s.ot.length:Int)+s.aN.length≤s.nxt
 yk:∀ t∈s.yng,∃ ws,(t,ws)∈s.aN
 ym:s.yng.Pairwise (·< ·)
 dk:∀ t∈s.dO,∃ ws,(t,ws)∈s.aN
 ET:s.dO.Pairwise (·< ·)
theorem mem_lookup{α:Type}{fs:List (Int×α)}{t:Int}{w:α}(asc:(fs.map (·.1)).Nodup)(m:(t,w)∈fs):fs.lookup t=some w:=by
 induction fs with
 | nil=>cases m
 | cons p r ih =>
  obtain⟨a,b⟩:=p;rw[afq,afU]at asc;rw[afV];rcases aff.mp m with e|m
  ·cases e
   rw[beq_self_eq_true]
  ·have ne:t≠a:=λe=>asc.1 (by rw[←e];exact afk.mpr ⟨_,m,rfl⟩)
   rw[beq_eq_false_iff_ne.mpr ne];exact ih asc.2 m
theorem iY{l:List Int}(h:l.Pairwise (·< ·)):l.Nodup:=h.imp λh=>Int.ne_of_lt h
theorem Good.get{s:HS}(g:Good s){t:Int}{ws:List Wd}(m:(t,ws)∈s.aN):s.aN.lookup t=some ws:=mem_lookup (iY g.asc) m
theorem Good.fld{s:HS}(g:Good s){t:Int}{ws:List Wd}(m:(t,ws)∈s.aN):fld s t=ws:=by unfold K08.fld;rw[g.get m];rfl
theorem Good.hand{s:HS}(g:Good s){h t:Int}(e:wat s.bq h=some (.th t)):(t,K08.fld s t)∈s.aN:=by
 obtain⟨_,_,e⟩:=qO e;obtain⟨ws,m⟩:=g.hh t (ae7 e);rw[g.fld m];exact m
theorem Good.few{s:HS}(g:Good s):s.aN.length≤10000:=by
 have:=g.sd
 have:=g.nx
 omega
theorem qP{n:Nat}(h:n≤20000):n<sizeLine:=afS h (by decide)
theorem pU{n:Nat}(h:n≤20000):n≤sizeLine:=agt (qP h)
inductive Er where
 | hand|name|field|count|room|words|on|no
def Ad.er(D:Ad):Er→Addr
 | .hand=>D.bE
 | .name=>D.eE
 | .field=>D.eO
 | .count=>D.cJ
 | .room=>D.iW
 | .words=>D.bM
 | .on=>D.gH
 | .no=>D.gI
abbrev Re:=Option Er×HS
def Fin(D:Ad)(x:Addr)(A:HA)(s:HS)(H:Hp)(r:Re)(Q:VK)(E:XK):Prop:=∀ A' H',IH D H' x A' r.2→Fr (bU x A s) H (bU x A' r.2) H'→(match r.1 with|none=>Q .non H'|some e=>E (.ref (D.er e)) none H')
theorem Fin.bad{D:Ad}{x:Addr}{A:HA}{s:HS}{H:Hp}{e:Er}{Q:VK}{E:XK}(k:Fin D x A s H (some e,s) Q E)(J:IH D H x A s):Bad (D.er e) H E:=λH' s'=>k A H' (J.same s') (Fr.same s')
abbrev ok8(h:Int):Prop:=0≤h∧h<8
def qz(s:HS)(h:Int)(w:Wd):HS:={s with bq:=s.bq.set h.toNat w}
def kW(s:HS)(h g k:Int):Re:=if ok8 h then(match wat s.bq g with|some (.th t)=>if 0≤k∧k<((fld s t).length:Int) then(none,qz s h ((fld s t).getD k.toNat .no)) else(some .field,s)|_=>(some .hand,s)) else(some .hand,s)
def ip(s:HS)(g k h:Int):Re:=match wat s.bq g with|some (.th t)=>(match wat s.bq h with|some w=>if 0≤k∧k<((fld s t).length:Int) then(none,{s with aN:=oM s.aN t ((fld s t).set k.toNat w)}) else(some .field,s)|none=>(some .hand,s))|_=>(some .hand,s)
def qu(s:HS)(h g:Int):Re:=if ok8 h then(match wat s.bq g with|some w=>(none,qz s h w)|none=>(some .hand,s)) else(some .hand,s)
def tm(s:HS)(h:Int):Re:=if ok8 h then(none,qz s h .no) else(some .hand,s)
def iV(s:HS)(h x:Int):Re:=if ok8 h then(if Num x then(none,qz s h (.num x)) else(some .count,s)) else(some .hand,s)
def mM(s:HS)(w h:Int):Re:=match wat s.bq h with|some (.th t)=>if ok8 w then(none,{s with names:=s.names.set w.toNat (some t)}) else(some .name,s)|_=>(some .hand,s)
def nmW:Option Int→Wd
 | none=>.no
 | some t=>.th t
def kX(s:HS)(h x:Int):Re:=match wat s.bq h with|some (.th t)=>(if Num x then(if s.aR.lookup t=none∧12≤s.aR.length then(some .words,s) else(none,{s with aR:=HX s.aR t x})) else(some .count,s))|_=>(some .hand,s)
def JH(s:HS)(h n:Int):HS:={s with nxt:=s.nxt+1,aN:=s.aN++[(s.nxt,List.replicate n.toNat .no)],yng:=if s.my=true then s.yng++[s.nxt] else s.yng,bq:=s.bq.set h.toNat (.th s.nxt)}
def wsum(s:HS)(ts:List Int):Int:=(ts.map λt=>((fld s t).length:Int)+1).sum
section
variable{D:Ad}{H:Hp}{x:Addr}{A:HA}{s:HS}
theorem IH.hn(J:IH D H x A s)(g:Good s):Hn D H A.hd A.hdx A.hl A.hx s.bq:=⟨J.ahd,J.ahl,J.rhl,g.h8⟩
theorem IH.ntb(J:IH D H x A s)(g:Good s):Nt D H A.nt A.ntx A.nl (s.names.map nmV):=⟨J.ant,J.anl,by rw[aeV];exact g.n8⟩
theorem IH.wtb(J:IH D H x A s):Wt D H A.wt A.wtx A.wb A.wl s.aR s.ot:=⟨J.awt,J.awb,J.awl⟩
theorem Ri{A:HA}{fs:List (Int×List Wd)}{t:Int}:lM (fs.map (fkv A)) (Sum.inl t)=(fs.lookup t).map λ_=>V.ref (A.fa t):=FZ λ_=>rfl
theorem IH.Yd(J:IH D H x A s)(g:Good s){t:Int}{ws:List Wd}(m:(t,ws)∈s.aN):qc H A.fh (.int t) (some (.ref (A.fa t))):=by
 have:=qc.k (k:=Sum.inl t) J.afh
 rw[Ri,g.get m]at this;exact this
end
def Ob(D:Ad):Sp:=λvs H Q E=>∃ x A s,∃ h g:Int,vs=[.ref x,.int h,.int g]∧IH D H x A s∧Good s∧Sm h∧Sm g∧Fin D x A s H (qu s h g) Q E
abbrev KO:List Str:=["self", "h", "g"]
theorem Iy:av KO ["self", "h", "g"] (ar ui):=⟨rfl,rfl,rfl,by decide +kernel,rfl,by decide +kernel,by decide +kernel⟩
theorem Iz(F:Fun K "copy" "Heap.copy" ui D.fU D.l7)(T:Txt K mg D)
  (nA:Ok P w K mg base 5 D.gC D.kD ["self", "h", "g"] (LV D)):Ok P w K mg base 6 D.fU D.l7 ["self", "h", "g"] (Ob D):=by
 refine⟨?_,F.binds (ps:=["self", "h", "g"]) λ_ _ _ _ _ _ us hl=>match us,hl with|[_,_,_],_=>rfl⟩
 refine F.okE Iy (λvs H Q E h=>?_) (λcdv A' outer s' H vs Q E hr h=>?_)
 ·obtain⟨x,A,s,h,g,rfl,_⟩:=h
  rfl
 ·obtain⟨x,A,s,h,g,rfl,J,G,hh,hg,k⟩:=h
  refine⟨_,(ai (aG (aJ (aH (pv 0) rfl) T.aZ T.GF nA.g (hr.mono (by decide)) nA.b .nil (Passes.x (aP λ_ _ _ q=>q)) (ae (pv 1) (ae (pv 2) ao))))),?_⟩;refine⟨_,rfl,x,D.aa,_,_,.ref A.hd,rfl,J.ax,T.ab,T.ay,ny,A.hd,A.hdx,_,rfl,J.ahd,rfl,_,rfl,_,rfl,A.hd,A.hdx,A.hl,A.hx,s.bq,h,g,rfl,J.hn G,hh,hg,?_⟩;by_cases c:ok8 h
  ·rw[if_pos c]
   cases e:wat s.bq g with
   | none =>
    rw[show qu s h g=(some .hand,s) by simp only[qu,if_pos c,e]]at k;exact k.bad J
   | some wd =>
    rw[show qu s h g=(none,qz s h wd) by simp only[qu,if_pos c,e]]at k;exact λv wv=>let w:=J.PR (J.rhl.set (i:=h.toNat) wv);k _ _ w.1 w.2
  ·rw[if_neg c]
   rw[show qu s h g=(some .hand,s) by simp only[qu,if_neg c]]at k;exact k.bad J
def Oc(D:Ad):Sp:=λvs H Q E=>∃ x A s,∃ h:Int,vs=[.ref x,.int h]∧IH D H x A s∧Good s∧Sm h∧Fin D x A s H (tm s h) Q E
abbrev KP:List Str:=["self", "h"]
theorem IA:av KP ["self", "h"] (ar uj):=⟨rfl,rfl,rfl,by decide +kernel,rfl,by decide +kernel,by decide +kernel⟩
theorem IB(F:Fun K "drop" "Heap.drop" uj D.fV D.l8)(T:Txt K mg D)
  (cq:Ok P w K mg base 4 D.eZ D.iw ["self", "h", "word"] (vS D)):Ok P w K mg base 5 D.fV D.l8 ["self", "h"] (Oc D):=by
 refine⟨?_,F.binds (ps:=["self", "h"]) λ_ _ _ _ _ _ us hl=>match us,hl with|[_,_],_=>rfl⟩
 refine F.okE IA (λvs H Q E h=>?_) (λcdv A' outer s' H vs Q E hr h=>?_)
 ·obtain⟨x,A,s,h,rfl,_⟩:=h
  rfl
 ·obtain⟨x,A,s,h,rfl,J,G,hh,k⟩:=h
  refine⟨_,(ai (aG (aJ (aH (pv 0) rfl) T.aZ T.nr cq.g (hr.mono (by decide)) cq.b .nil (Passes.x (aP λ_ _ _ q=>q)) (ae (pv 1) (ae j3 ao))))),?_⟩;refine⟨_,rfl,x,D.aa,_,_,.ref A.hd,rfl,J.ax,T.ab,T.ay,ny,A.hd,A.hdx,_,rfl,J.ahd,rfl,_,rfl,A.hd,A.hdx,A.hl,A.hx,s.bq,.non,h,rfl,J.hn G,hh,?_⟩;by_cases c:ok8 h
  ·rw[if_pos c]
   rw[show tm s h=(none,qz s h .no) by simp only[tm,if_pos c]]at k;exact let w:=J.PR (J.rhl.set (i:=h.toNat) (show WV H .non .no from rfl));k _ _ w.1 w.2
  ·rw[if_neg c]
   rw[show tm s h=(some .hand,s) by simp only[tm,if_neg c]]at k;exact k.bad J
def HY(D:Ad):Sp:=λvs H Q E=>∃ x A s,∃ h z:Int,vs=[.ref x,.int h,.int z]∧IH D H x A s∧Good s∧Sm h∧Sm z∧Fin D x A s H (iV s h z) Q E
abbrev GN:List Str:=["self", "h", "x"]
theorem E6:av GN ["self", "h", "x"] (ar pN):=⟨rfl,rfl,rfl,by decide +kernel,rfl,by decide +kernel,by decide +kernel⟩
theorem E7(F:Fun K "number" "Heap.number" pN D.dW D.jM)(T:Txt K mg D)
  (kA:Ok P w K mg base 5 D.eX D.ja ["self", "h", "x"] (F5 D)):Ok P w K mg base 6 D.dW D.jM ["self", "h", "x"] (HY D):=by
 refine⟨?_,F.binds (ps:=["self", "h", "x"]) λ_ _ _ _ _ _ us hl=>match us,hl with|[_,_,_],_=>rfl⟩
 refine F.okE E6 (λvs H Q E h=>?_) (λcdv A' outer s' H vs Q E hr h=>?_)
 ·obtain⟨x,A,s,h,z,rfl,_⟩:=h
  rfl
 ·obtain⟨x,A,s,h,z,rfl,J,G,hh,hz,k⟩:=h
  refine⟨_,(ai (aG (aJ (aH (pv 0) rfl) T.aZ T.D6 kA.g (hr.mono (by decide)) kA.b .nil (Passes.x (aP λ_ _ _ q=>q)) (ae (pv 1) (ae (pv 2) ao))))),?_⟩;refine⟨_,rfl,x,D.aa,_,_,.ref A.hd,rfl,J.ax,T.ab,T.ay,ny,A.hd,A.hdx,_,rfl,J.ahd,rfl,_,rfl,_,rfl,A.hd,A.hdx,A.hl,A.hx,s.bq,h,z,rfl,J.hn G,hh,hz,?_⟩;by_cases c:ok8 h
  ·rw[if_pos c]
   by_cases g:Num z
   ·rw[if_pos g]
    rw[show iV s h z=(none,qz s h (.num z)) by simp only[iV,if_pos c,if_pos g]]at k;exact λt H1 s1 ht=>let J1:=J.same s1;let w:=J1.PR (J1.rhl.set (i:=h.toNat) (show WV H1 (.ref t) (.num z) from⟨t,rfl,ht⟩));k _ _ w.1 ((Fr.same s1).trans w.2)
   ·rw[if_neg g]
    rw[show iV s h z=(some .count,s) by simp only[iV,if_pos c,if_neg g]]at k;exact k.bad J
  ·rw[if_neg c]
   rw[show iV s h z=(some .hand,s) by simp only[iV,if_neg c]]at k;exact k.bad J
def Od(D:Ad):Sp:=λvs H Q E=>∃ x A s,∃ w h:Int,vs=[.ref x,.int w,.int h]∧IH D H x A s∧Good s∧Sm w∧Sm h∧Fin D x A s H (mM s w h) Q E
abbrev KQ:List Str:=["self", "w", "h", "t"]
theorem A0:av KQ ["self", "w", "h"] (ar uk):=⟨rfl,rfl,rfl,by decide +kernel,rfl,by decide +kernel,by decide +kernel⟩
theorem IC(F:Fun K "name" "Heap.name" uk D.fW D.l9)(T:Txt K mg D)
  (aF:Ok P w K mg base 6 D.ba D.cg ["self", "h"] (jA D))
  (jh:Ok P w K mg base 4 D.dD D.gW ["self", "w", "t"] (LY D)):Ok P w K mg base 7 D.fW D.l9 ["self", "w", "h"] (Od D):=by
 refine⟨?_,F.binds (ps:=["self", "w", "h"]) λ_ _ _ _ _ _ us hl=>match us,hl with|[_,_,_],_=>rfl⟩
 refine F.okE A0 (λvs H Q E h=>?_) (λcdv A' outer s' H vs Q E hr h=>?_)
 ·obtain⟨x,A,s,w,h,rfl,_⟩:=h
  rfl
 ·obtain⟨x,A,s,w,h,rfl,J,G,hw,hh,k⟩:=h
  refine⟨_,(ak (bF (i:=3) A0.nd rfl (Or.inl rfl) (aJ (aH (pv 0) rfl) T.aZ T.gc aF.g (hr.mono (by decide)) aF.b .nil (Passes.x (aP λ_ _ _ q=>q)) (ae (pv 2) ao)))
   (ai (aG (aJ (aH (pv 0) rfl) T.dZ T.yx jh.g (hr.mono (by decide)) jh.b .nil (Passes.x (aP λ_ _ _ q=>q)) (ae (pv 1) (ae (pv 3) ao)))))),?_⟩
  refine⟨_,rfl,x,D.aa,_,_,.ref A.hd,rfl,J.ax,T.ab,T.ay,ny,A.hd,A.hdx,_,rfl,J.ahd,rfl,_,rfl,A.hd,A.hdx,A.hl,A.hx,s.bq,h,rfl,J.hn G,hh,?_⟩;cases e:wat s.bq h with
  | none =>
   rw[show mM s w h=(some .hand,s) by simp only[mM,e]]at k;exact k.bad J
  | some wd =>
   cases wd with
   | no =>
    rw[show mM s w h=(some .hand,s) by simp only[mM,e]]at k;exact k.bad J
   | num n =>
    rw[show mM s w h=(some .hand,s) by simp only[mM,e]]at k;exact k.bad J
   | th t =>
    intro H1 s1;have J1:=J.same s1;refine⟨_,rfl,x,D.aa,_,_,.ref A.nt,rfl,J1.ax,T.ab,T.dP,Pu,A.nt,A.ntx,_,rfl,J1.ant,rfl,_,rfl,_,rfl,A.nt,A.ntx,A.nl,_,.int t,w,rfl,J1.ntb G,hw,?_⟩;by_cases c:ok8 w
    ·rw[if_pos c]
     rw[show mM s w h=(none,{s with names:=s.names.set w.toNat (some t)}) by simp only[mM,e,if_pos c]]at k;have w1:=J1.aev (ns:=s.names.set w.toNat (some t));rw[List.map_set]at w1;exact k _ _ w1.1 ((Fr.same s1).trans w1.2)
    ·rw[if_neg c]
     rw[show mM s w h=(some .name,s) by simp only[mM,e,if_neg c]]at k;exact Bad.same (k.bad J) s1
def Oe(D:Ad):Sp:=λvs H Q E=>∃ x A s,∃ h z:Int,vs=[.ref x,.int h,.int z]∧IH D H x A s∧Good s∧Sm h∧Sm z∧Fin D x A s H (kX s h z) Q E
abbrev KR:List Str:=["self", "h", "x", "t"]
theorem A5:av KR ["self", "h", "x"] (ar um):=⟨rfl,rfl,rfl,by decide +kernel,rfl,by decide +kernel,by decide +kernel⟩
theorem ID(F:Fun K "word" "Heap.word" um D.fX D.me)(T:Txt K mg D)
  (aF:Ok P w K mg base 6 D.ba D.cg ["self", "h"] (jA D))
  (dJ:Ok P w K mg base 3 D.b5 D.fM ["x"] (kn D))
  (ji:Ok P w K mg base 3 D.dB D.gT ["self", "t", "x"] (Oa D)):Ok P w K mg base 7 D.fX D.me ["self", "h", "x"] (Oe D):=by
 refine⟨?_,F.binds (ps:=["self", "h", "x"]) λ_ _ _ _ _ _ us hl=>match us,hl with|[_,_,_],_=>rfl⟩
 refine F.okE A5 (λvs H Q E h=>?_) (λcdv A' outer s' H vs Q E hr h=>?_)
 ·obtain⟨x,A,s,h,z,rfl,_⟩:=h
  rfl
 ·obtain⟨x,A,s,h,z,rfl,J,G,hh,hz,k⟩:=h
  refine⟨_,(ak (bF (i:=3) A5.nd rfl (Or.inl rfl) (aJ (aH (pv 0) rfl) T.aZ T.gc aF.g (hr.mono (by decide)) aF.b .nil (Passes.x (aP λ_ _ _ q=>q)) (ae (pv 1) ao)))
   (ak (aG (bj dJ.g (hr.mono (by decide)) rfl T.qk T.jg dJ.b .nil (Passes.x (aP λ_ _ _ q=>q)) (ae (pv 2) ao)))
   (ai (aG (aJ (aH (pv 0) rfl) T.bG T.yv ji.g (hr.mono (by decide)) ji.b .nil (Passes.x (aP λ_ _ _ q=>q)) (ae (pv 3) (ae (pv 2) ao))))))),?_⟩
  refine⟨_,rfl,x,D.aa,_,_,.ref A.hd,rfl,J.ax,T.ab,T.ay,ny,A.hd,A.hdx,_,rfl,J.ahd,rfl,_,rfl,A.hd,A.hdx,A.hl,A.hx,s.bq,h,rfl,J.hn G,hh,?_⟩;cases e:wat s.bq h with
  | none =>
   rw[show kX s h z=(some .hand,s) by simp only[kX,e]]at k;exact k.bad J
  | some wd =>
   cases wd with
   | no =>
    rw[show kX s h z=(some .hand,s) by simp only[kX,e]]at k;exact k.bad J
   | num n =>
    rw[show kX s h z=(some .hand,s) by simp only[kX,e]]at k;exact k.bad J
   | th t =>
    intro H1 s1;have J1:=J.same s1;refine⟨_,rfl,z,rfl,hz,?_⟩;by_cases g:Num z
    ·rw[if_pos g]
     refine⟨_,rfl,x,D.aa,_,_,.ref A.wt,rfl,J1.ax,T.ab,T.dQ,Pw,A.wt,A.wtx,_,rfl,J1.awt,rfl,_,rfl,_,rfl,A.wt,A.wtx,A.wb,A.wl,s.aR,s.ot,t,z,rfl,J1.wtb,G.b12,?_⟩;by_cases c:s.aR.lookup t=none∧12≤s.aR.length
     ·rw[if_pos c]
      rw[show kX s h z=(some .words,s) by simp only[kX,e,if_pos g,if_pos c]]at k;exact Bad.same (k.bad J) s1
     ·rw[if_neg c]
      rw[show kX s h z=(none,{s with aR:=HX s.aR t z}) by simp only[kX,e,if_pos g,if_neg c]]at k;have w1:=J1.adw (bs:=HX s.aR t z);exact k _ _ w1.1 ((Fr.same s1).trans w1.2)
    ·rw[if_neg g]
     rw[show kX s h z=(some .count,s) by simp only[kX,e,if_neg g]]at k;exact Bad.same (k.bad J) s1
def Of(D:Ad):Sp:=λvs H Q E=>∃ x A s,∃ h g kk:Int,vs=[.ref x,.int h,.int g,.int kk]∧IH D H x A s∧Good s∧Sm h∧Sm g∧Sm kk∧Fin D x A s H (kW s h g kk) Q E
abbrev KS:List Str:=["self", "h", "g", "k", "fields"]
theorem A7:av KS ["self", "h", "g", "k"] (ar uh):=⟨rfl,rfl,rfl,by decide +kernel,rfl,by decide +kernel,by decide +kernel⟩
theorem IE(F:Fun K "load" "Heap.load" uh D.fT D.lZ)(T:Txt K mg D)
  (aA:Ok P w K mg base 3 D.bp D.cD ["h"] (en D))
  (aF:Ok P w K mg base 6 D.ba D.cg ["self", "h"] (jA D))
  (eu:Ok P w K mg base 3 D.cF D.gp ["k", "fields"] (lI D))
  (cq:Ok P w K mg base 4 D.eZ D.iw ["self", "h", "word"] (vS D)):Ok P w K mg base 7 D.fT D.lZ ["self", "h", "g", "k"] (Of D):=by
 refine⟨?_,F.binds (ps:=["self", "h", "g", "k"]) λ_ _ _ _ _ _ us hl=>match us,hl with|[_,_,_,_],_=>rfl⟩
 refine F.okE A7 (λvs H Q E h=>?_) (λcdv A' outer s' H vs Q E hr h=>?_)
 ·obtain⟨x,A,s,h,g,kk,rfl,_⟩:=h
  rfl
 ·obtain⟨x,A,s,h,g,kk,rfl,J,G,hh,hg,hk,k⟩:=h
  have hu:=lL hr;refine⟨_,(ak (aG (bj aA.g (hr.mono (by decide)) rfl T.gi T.ed aA.b .nil (Passes.x (aP λ_ _ _ q=>q)) (ae (pv 1) ao)))
   (ak (bF (i:=4) A7.nd rfl (Or.inl rfl) (qd hu (aH (pv 0) rfl) (aJ (aH (pv 0) rfl) T.aZ T.gc aF.g (hr.mono (by decide)) aF.b .nil (Passes.x (aP λ_ _ _ q=>q)) (ae (pv 2) ao)) (λ_ _=>rfl)))
   (ak (aG (bj eu.g (hr.mono (by decide)) rfl T.rH T.jQ eu.b .nil (Passes.x (aP λ_ _ _ q=>q)) (ae (pv 3) (ae (gK iC rfl T.Bo PyProof.Rows.Boot.«len» (ae (pv 4) ao)) ao))))
   (ai (aG (aJ (aH (pv 0) rfl) T.aZ T.nr cq.g (hr.mono (by decide)) cq.b .nil (Passes.x (aP λ_ _ _ q=>q)) (ae (pv 1) (ae (b9 gj (pv 4) (pv 3) (λ_ _=>rfl)) ao)))))))),?_⟩
  refine⟨_,rfl,h,rfl,hh,?_⟩;by_cases c:ok8 h
  ·rw[if_pos c]
   refine⟨_,rfl,x,D.aa,_,_,.ref A.fh,rfl,J.ax,T.ab,T.az,qt,_,rfl,x,D.aa,_,_,.ref A.hd,rfl,J.ax,T.ab,T.ay,ny,A.hd,A.hdx,_,rfl,J.ahd,rfl,_,rfl,A.hd,A.hdx,A.hl,A.hx,s.bq,g,rfl,J.hn G,hg,?_⟩;cases e:wat s.bq g with
   | none =>
    rw[show kW s h g kk=(some .hand,s) by simp only[kW,e,if_pos c]]at k;exact k.bad J
   | some wd =>
    cases wd with
    | no =>
     rw[show kW s h g kk=(some .hand,s) by simp only[kW,e,if_pos c]]at k;exact k.bad J
    | num n =>
     rw[show kW s h g kk=(some .hand,s) by simp only[kW,e,if_pos c]]at k;exact k.bad J
    | th t =>
     intro H1 s1;have J1:=J.same s1;have m:=G.hand e;obtain⟨hl,rl⟩:=J1.afl _ _ m;refine⟨A.fh,_,rfl,J1.Yd G m,?_⟩;have f6:=G.f6 _ _ m;have ln:((A.fx t).length:Int)=(fld s t).length:=(by rw[rl.1]);refine⟨_,rfl,_,rfl,A.fa t,_,rfl,.inl (SqL.of hl),kk,_,rfl,hk,Sm.of (by omega) (by omega),?_⟩;rw[ln];by_cases c2:0≤kk∧kk<((fld s t).length:Int)
     ·rw[if_pos c2]
      rw[show kW s h g kk=(none,qz s h ((fld s t).getD kk.toNat .no)) by simp only[kW,if_pos c,e,if_pos c2]]at k;have hi:kk.toNat<(fld s t).length:=(by omega);obtain⟨v,hv,wv⟩:=rl.get hi;have gd:(fld s t).getD kk.toNat .no=(fld s t)[kk.toNat]:=(by simp[List.getD,hi]);rw[gd]at k;refine⟨_,rfl,x,D.aa,_,_,.ref A.hd,rfl,J1.ax,T.ab,T.ay,ny,A.hd,A.hdx,_,rfl,J1.ahd,rfl,_,rfl,_,rfl,_,rfl,A.fa t,_,kk,v,rfl,rfl,SqL.of hl,GG c2.1 hv,A.hd,A.hdx,A.hl,A.hx,s.bq,v,h,rfl,J1.hn G,hh,?_⟩;rw[if_pos c];exact let w:=J1.PR (J1.rhl.set (i:=h.toNat) wv);k _ _ w.1 ((Fr.same s1).trans w.2)
     ·rw[if_neg c2]
      rw[show kW s h g kk=(some .field,s) by simp only[kW,if_pos c,e,if_neg c2]]at k;exact Bad.same (k.bad J) s1
  ·rw[if_neg c]
   rw[show kW s h g kk=(some .hand,s) by simp only[kW,if_neg c]]at k;exact k.bad J
def L0(D:Ad):Sp:=λvs H Q E=>∃ x A s,∃ g kk h:Int,vs=[.ref x,.int g,.int kk,.int h]∧IH D H x A s∧Good s∧Sm g∧Sm kk∧Sm h∧Fin D x A s H (ip s g kk h) Q E
abbrev IF:List Str:=["self", "g", "k", "h", "fields", "value"]
theorem pV:av IF ["self", "g", "k", "h"] (ar qV):=⟨rfl,rfl,rfl,by decide +kernel,rfl,by decide +kernel,by decide +kernel⟩
theorem GO(F:Fun K "store" "Heap.store" qV D.eV D.kG)(T:Txt K mg D)
  (aF:Ok P w K mg base 6 D.ba D.cg ["self", "h"] (jA D))
  (bK:Ok P w K mg base 4 D.cG D.fA ["self", "h"] (rK D))
  (eu:Ok P w K mg base 3 D.cF D.gp ["k", "fields"] (lI D)):Ok P w K mg base 7 D.eV D.kG ["self", "g", "k", "h"] (L0 D):=by
 refine⟨?_,F.binds (ps:=["self", "g", "k", "h"]) λ_ _ _ _ _ _ us hl=>match us,hl with|[_,_,_,_],_=>rfl⟩
 refine F.okE pV (λvs H Q E h=>?_) (λcdv A' outer s' H vs Q E hr h=>?_)
 ·obtain⟨x,A,s,g,kk,h,rfl,_⟩:=h
  rfl
 ·obtain⟨x,A,s,g,kk,h,rfl,J,G,hg,hk,hh,k⟩:=h
  have hu:=lL hr;refine⟨_,(ak (bF (i:=4) pV.nd rfl (Or.inl rfl) (qd hu (aH (pv 0) rfl) (aJ (aH (pv 0) rfl) T.aZ T.gc aF.g (hr.mono (by decide)) aF.b .nil (Passes.x (aP λ_ _ _ q=>q)) (ae (pv 1) ao)) (λ_ _=>rfl)))
   (ak (bF (i:=5) pV.nd rfl (Or.inl rfl) (aJ (aH (pv 0) rfl) T.aZ T.lG bK.g (hr.mono (by decide)) bK.b .nil (Passes.x (aP λ_ _ _ q=>q)) (ae (pv 3) ao)))
   (ak (aG (bj eu.g (hr.mono (by decide)) rfl T.rH T.jQ eu.b .nil (Passes.x (aP λ_ _ _ q=>q)) (ae (pv 2) (ae (gK iC rfl T.Bo PyProof.Rows.Boot.«len» (ae (pv 4) ao)) ao))))
   (ai (GB (pv 5) (GA (pv 4) (pv 2) set_list)))))),?_⟩
  refine⟨_,rfl,x,D.aa,_,_,.ref A.fh,rfl,J.ax,T.ab,T.az,qt,_,rfl,x,D.aa,_,_,.ref A.hd,rfl,J.ax,T.ab,T.ay,ny,A.hd,A.hdx,_,rfl,J.ahd,rfl,_,rfl,A.hd,A.hdx,A.hl,A.hx,s.bq,g,rfl,J.hn G,hg,?_⟩;cases e:wat s.bq g with
  | none =>
   rw[show ip s g kk h=(some .hand,s) by simp only[ip,e]]at k;exact k.bad J
  | some wd =>
   cases wd with
   | no =>
    rw[show ip s g kk h=(some .hand,s) by simp only[ip,e]]at k;exact k.bad J
   | num n =>
    rw[show ip s g kk h=(some .hand,s) by simp only[ip,e]]at k;exact k.bad J
   | th t =>
    intro H1 s1;have J1:=J.same s1;have m:=G.hand e;obtain⟨hl,rl⟩:=J1.afl _ _ m;refine⟨A.fh,_,rfl,J1.Yd G m,?_⟩;refine⟨_,rfl,x,D.aa,_,_,.ref A.hd,rfl,J1.ax,T.ab,T.ay,ny,A.hd,A.hdx,_,rfl,J1.ahd,rfl,_,rfl,A.hd,A.hdx,A.hl,A.hx,s.bq,h,rfl,J1.hn G,hh,?_⟩;cases e2:wat s.bq h with
    | none =>
     rw[show ip s g kk h=(some .hand,s) by simp only[ip,e,e2]]at k;exact Bad.same (k.bad J) s1
    | some wd =>
     intro v hv wv;have f6:=G.f6 _ _ m;have ln:((A.fx t).length:Int)=(fld s t).length:=(by rw[rl.1]);refine⟨_,rfl,_,rfl,A.fa t,_,rfl,.inl (SqL.of hl),kk,_,rfl,hk,Sm.of (by omega) (by omega),?_⟩;rw[ln];by_cases c2:0≤kk∧kk<((fld s t).length:Int)
     ·rw[if_pos c2]
      rw[show ip s g kk h=(none,{s with aN:=oM s.aN t ((fld s t).set kk.toNat wd)}) by simp only[ip,e,e2,if_pos c2]]at k;refine⟨_,rfl,_,rfl,_,rfl,A.fa t,_,kk,kk.toNat,rfl,rfl,hl,RL c2.1 (by omega),?_⟩;exact let w:=J1.aez m (rl.set (i:=kk.toNat) wv);k _ _ w.1 ((Fr.same s1).trans w.2)
     ·rw[if_neg c2]
      rw[show ip s g kk h=(some .field,s) by simp only[ip,e,e2,if_neg c2]]at k;exact Bad.same (k.bad J) s1
theorem Hs{b:Bool}{A B:Prop}(h:b=false)(k:B):if b=true then A else B:=by rw[h];exact k
theorem Ht{b:Bool}{A B:Prop}(h:b=true)(k:A):if b=true then A else B:=by rw[h];exact k
theorem UP(k:Nat):(List.replicate k [V.non]).flatten=List.replicate k .non:=by
 induction k with
 | zero=>rfl
 | succ k ih=>rw[afG,af7,ih,afG];rfl
def keys(s:HS):List Int:=s.aN.map (·.1)
def held(s:HS):Int:=wsum s (keys s)
structure Raw(D:Ad)(H:Hp)(x dx:Addr)(my:Bool)(hd hdx hl nt ntx nl wt wtx wb wl fh yg:Addr):Prop where
 ax:H x=some (.ins D.aa dx [("makes_young",.bl my),("in_hands",.ref hd),("weak_names",.ref nt),("last_words",.ref wt),("fields_held",.ref fh),("young_things",.ref yg),("next_thing",.int 0)])
 ahd:H hd=some (.ins D.a6 hdx [("words_held",.ref hl)])
 ahl:H hl=some (.lst (List.replicate 8 .non))
 ant:H nt=some (.ins D.aD ntx [("things_named",.ref nl)])
 anl:H nl=some (.lst (List.replicate 8 .non))
 awt:Wt D H wt wtx wb wl [] []
 afh:H fh=some (.dK [])
 ayg:H yg=some (.dK [])
 n1:hd≠nt
 n2:hl≠nl
 n3:hl≠wl
 n4:nl≠wl
 n5:wb≠fh
 n6:wb≠yg
 n7:fh≠yg
def s0(my:Bool)(room limit:Int):HS:=⟨my,List.replicate 8 .no,List.replicate 8 none,[],[],[],[],0,room,limit,[],false⟩
theorem good0{my:Bool}{room limit:Int}:Good (s0 my room limit) :=
 ⟨rfl,rfl,List.Pairwise.nil,(λ_ _ m=>by cases m),(λ_ _ m=>by cases m),(λt m=>by have:=afK m;cases this),(λ_ _ _ m=>by cases m),(λt m=>by have:=afK m;cases this),by show 0≤12;decide,(λ_ _ m=>by cases m),List.nodup_nil,by show(0:Int)≤0;decide,by show(0:Int)≤10000;decide,by show((0:Nat):Int)+((0:Nat):Int)≤0;decide,(λ_ m=>by cases m),List.Pairwise.nil,(λ_ m=>by cases m),List.Pairwise.nil⟩
def A8(D:Ad):Sp:=λvs H Q E=>∃ x dx,∃ my:Bool,vs=[.ref x,.bl my]∧H x=some (.ins D.aa dx [])∧∀ hd hdx hl nt ntx nl wt wtx wb wl fh yg H',Raw D H' x dx my hd hdx hl nt ntx nl wt wtx wb wl fh yg→But x H H'→(∀ b,b=hd∨b=hl∨b=nt∨b=nl∨b=wt∨b=wb∨b=wl∨b=fh∨b=yg→H b=none)→Q .non H'
abbrev Eh:List Str:=["self", "makes_young"]
theorem BQ:av Eh ["self", "makes_young"] (ar mJ):=⟨rfl,rfl,rfl,by decide +kernel,rfl,by decide +kernel,by decide +kernel⟩
theorem BR(F:Fun K "__init__" "Heap.__init__" mJ D.cH D.iG)(T:Txt K mg D)
  (jj:Ok P w K mg base 1 D.dA D.gS ["self"] (vR D))
  (gq:Ok P w K mg base 1 D.bS D.eQ ["self"] (oO D))
  (gu:Ok P w K mg base 1 D.bR D.eP ["self"] (oP D)):Ok P w K mg base 3 D.cH D.iG ["self", "makes_young"] (A8 D):=by
 refine⟨?_,F.binds (ps:=["self", "makes_young"]) λ_ _ _ _ _ _ us hl=>match us,hl with|[_,_],_=>rfl⟩
 refine F.okE BQ (λvs H Q E h=>?_) (λcdv A' outer s' H vs Q E hr h=>?_)
 ·obtain⟨x,dx,my,rfl,_⟩:=h
  rfl
 ·obtain⟨x,dx,my,rfl,hx,k⟩:=h
  refine⟨_,(ak (il (pv 0) (pv 1) rfl)
   (ak (il (pv 0) (Gi T.Gq jj.g (hr.mono (by decide)) rfl T.Qw jj.b .nil (aP λ_ _ _ q=>q)) rfl)
   (ak (il (pv 0) (Gi T.qY gq.g (hr.mono (by decide)) rfl T.Il gq.b .nil (aP λ_ _ _ q=>q)) rfl)
   (ak (il (pv 0) (Gi T.qX gu.g (hr.mono (by decide)) rfl T.Ik gu.b .nil (aP λ_ _ _ q=>q)) rfl)
   (ak (il (pv 0) mO rfl)
   (ak (il (pv 0) mO rfl)
   (ai (il (pv 0) au rfl)))))))),?_⟩
  have bk:∀ {H':Hp} {b:Addr} {u:HO},H' x=some u→But x H H'→H' b=none→H b=none:=λ{H' b u} hx' B h=>by
   cases q:H b with
   | none=>rfl
   | some v =>
    by_cases e:b=x
    ·rw[e,hx']at h;cases h
    ·rw[B b v e q]at h;cases h
  have mk:∀ {H1 H2:Hp} {m mdx C:Addr},H1 m=none→H1 mdx=none→But m (upd (upd H1 mdx (.own m)) m (.ins C mdx [])) H2→aC H1 H2:=λh1 h2 B b u q=>B b u (aq q h1) (by rw[af (aq q h1),af (aq q h2)];exact q);have fr:∀ {H1:Hp} {m mdx C c:Addr},H1 m=none→H1 mdx=none→upd (upd H1 mdx (.own m)) m (.ins C mdx []) c=none→H1 c=none:=λ{H1 m mdx C c} h1 h2 h=>by
   cases q:H1 c with
   | none=>rfl
   | some v=>rw[af (aq q h1),af (aq q h2),q]at h;cases h
  refine⟨_,rfl,_,rfl,x,D.aa,dx,_,rfl,hx,T.ab,T.gP,by show 0<1000;decide,?_⟩;obtain⟨H1,e1⟩:∃ H1,upd H x (.ins D.aa dx (iE "makes_young" (.bl my) []))=H1:=⟨_,rfl⟩;have x1:H1 x=some (.ins D.aa dx [("makes_young",.bl my)]):=by rw[←e1];exact ah
  have B1:But x H H1:=by rw[←e1];exact But.self
  show Jy _ _ _ _ (upd H x (.ins D.aa dx (iE "makes_young" (.bl my) [])));rw[e1];clear e1;intro hd hdx hm1 hm2 hm3;refine⟨hd,hdx,rfl,ah,λhl G1 b1 hc hcl hci=>⟨rfl,?_⟩⟩;have S1:=mk hm1 hm2 b1;have hl1:=fr hm1 hm2 hc;refine⟨_,rfl,x,D.aa,dx,_,rfl,S1 _ _ x1,T.ab,T.ay,by show 1<1000;decide,?_⟩;obtain⟨H2,e2⟩:∃ H2,upd G1 x (.ins D.aa dx (iE "in_hands" (.ref hd) [("makes_young",.bl my)]))=H2:=⟨_,rfl⟩;have x2:H2 x=some (.ins D.aa dx [("makes_young",.bl my),("in_hands",.ref hd)]):=by rw[←e2];exact ah
  have P2:But x G1 H2:=by rw[←e2];exact But.self
  have B2:But x H H2:=(B1.trans λb u _ q=>S1 b u q).trans P2;show Jy _ _ _ _ (upd G1 x (.ins D.aa dx (iE "in_hands" (.ref hd) [("makes_young",.bl my)])));rw[e2];clear e2;have nhd:hd≠x:=afi (aq x1 hm1);have nhl:hl≠x:=afi (aq x1 hl1);have a2:=P2 _ _ nhd hci;have l2:=P2 _ _ nhl hcl;intro nt ntx nm1 nm2 nm3;refine⟨nt,ntx,rfl,ah,λnl G2 b2 nc ncl nci=>⟨rfl,?_⟩⟩;have S2:=mk nm1 nm2 b2;have nl2:=fr nm1 nm2 nc;refine⟨_,rfl,x,D.aa,dx,_,rfl,S2 _ _ x2,T.ab,T.dP,by show 2<1000;decide,?_⟩;obtain⟨H3,e3⟩:∃ H3,upd G2 x (.ins D.aa dx (iE "weak_names" (.ref nt) [("makes_young",.bl my),("in_hands",.ref hd)]))=H3:=⟨_,rfl⟩;have x3:H3 x=some (.ins D.aa dx [("makes_young",.bl my),("in_hands",.ref hd),("weak_names",.ref nt)]):=by rw[←e3];exact ah
  have P3:But x G2 H3:=by rw[←e3];exact But.self
  have B3:But x H H3:=(B2.trans λb u _ q=>S2 b u q).trans P3;show Jy _ _ _ _ (upd G2 x (.ins D.aa dx (iE "weak_names" (.ref nt) [("makes_young",.bl my),("in_hands",.ref hd)])));rw[e3];clear e3;have nnt:nt≠x:=afi (aq x2 nm1);have nnl:nl≠x:=afi (aq x2 nl2);have a3:=P3 _ _ nhd (S2 _ _ a2);have l3:=P3 _ _ nhl (S2 _ _ l2);have t3:=P3 _ _ nnt nci;have m3:=P3 _ _ nnl ncl;intro wt wtx wm1 wm2 wm3;refine⟨wt,wtx,rfl,ah,λwb wl G3 b3 wc1 wc2 W=>⟨rfl,?_⟩⟩;have S3:=mk wm1 wm2 b3;have wb3:=fr wm1 wm2 wc1;have wl3:=fr wm1 wm2 wc2;refine⟨_,rfl,x,D.aa,dx,_,rfl,S3 _ _ x3,T.ab,T.dQ,by show 3<1000;decide,?_⟩;obtain⟨H4,e4⟩:∃ H4,upd G3 x (.ins D.aa dx (iE "last_words" (.ref wt) [("makes_young",.bl my),("in_hands",.ref hd),("weak_names",.ref nt)]))=H4:=⟨_,rfl⟩;have x4:H4 x=some (.ins D.aa dx [("makes_young",.bl my),("in_hands",.ref hd),("weak_names",.ref nt),("last_words",.ref wt)]):=by rw[←e4];exact ah
  have P4:But x G3 H4:=by rw[←e4];exact But.self
  have B4:But x H H4:=(B3.trans λb u _ q=>S3 b u q).trans P4;show Jy _ _ _ _ (upd G3 x (.ins D.aa dx (iE "last_words" (.ref wt) [("makes_young",.bl my),("in_hands",.ref hd),("weak_names",.ref nt)])));rw[e4];clear e4;have nwt:wt≠x:=afi (aq x3 wm1);have nwb:wb≠x:=afi (aq x3 wb3);have nwl:wl≠x:=afi (aq x3 wl3);have W4:Wt D H4 wt wtx wb wl [] []:=⟨P4 _ _ nwt W.i,P4 _ _ nwb W.b,P4 _ _ nwl W.l⟩;have a4:=P4 _ _ nhd (S3 _ _ a3);have l4:=P4 _ _ nhl (S3 _ _ l3);have t4:=P4 _ _ nnt (S3 _ _ t3);have m4:=P4 _ _ nnl (S3 _ _ m3);intro fh hfh;have nfh:fh≠x:=afi (aq x4 hfh);refine⟨_,rfl,x,D.aa,dx,_,rfl,aC.upd hfh _ _ x4,T.ab,T.az,by show 4<1000;decide,?_⟩;obtain⟨H5,e5⟩:∃ H5,upd (upd H4 fh (.dK [])) x (.ins D.aa dx (iE "fields_held" (.ref fh) [("makes_young",.bl my),("in_hands",.ref hd),("weak_names",.ref nt),("last_words",.ref wt)]))=H5:=⟨_,rfl⟩;have x5:H5 x=some (.ins D.aa dx [("makes_young",.bl my),("in_hands",.ref hd),("weak_names",.ref nt),("last_words",.ref wt),("fields_held",.ref fh)]):=by rw[←e5];exact ah
  have P5:But x H4 H5:=by rw[←e5];exact(But.upd hfh).trans But.self
  have f5:H5 fh=some (.dK []):=by rw[←e5,af nfh];exact ah
  show Jy _ _ _ _ (upd (upd H4 fh (.dK [])) x (.ins D.aa dx (iE "fields_held" (.ref fh) [("makes_young",.bl my),("in_hands",.ref hd),("weak_names",.ref nt),("last_words",.ref wt)])));rw[e5];clear e5;intro yg hyg;have nyg:yg≠x:=afi (aq x5 hyg);refine⟨_,rfl,x,D.aa,dx,_,rfl,aC.upd hyg _ _ x5,T.ab,T.a5,by show 5<1000;decide,?_⟩;obtain⟨H6,e6⟩:∃ H6,upd (upd H5 yg (.dK [])) x (.ins D.aa dx (iE "young_things" (.ref yg) [("makes_young",.bl my),("in_hands",.ref hd),("weak_names",.ref nt),("last_words",.ref wt),("fields_held",.ref fh)]))=H6:=⟨_,rfl⟩;have x6:H6 x=some (.ins D.aa dx [("makes_young",.bl my),("in_hands",.ref hd),("weak_names",.ref nt),("last_words",.ref wt),("fields_held",.ref fh),("young_things",.ref yg)]):=by rw[←e6];exact ah
  have P6:But x H5 H6:=by rw[←e6];exact(But.upd hyg).trans But.self
  have y6:H6 yg=some (.dK []):=by rw[←e6,af nyg];exact ah
  skip
  rw[e6];clear e6;have B5:But x H H5:=B4.trans P5;have B6:But x H H6:=B5.trans P6;have P7:∀ {o:HO},But x H6 (upd H6 x o):=But.self;have P47:∀ {o:HO} {b:Addr} {u:HO},b≠x→H4 b=some u→upd H6 x o b=some u:=λn q=>P7 _ _ n (P6 _ _ n (P5 _ _ n q));refine⟨_,rfl,x,D.aa,dx,_,rfl,x6,T.ab,T.fE,by show 6<1000;decide,k hd hdx hl nt ntx nl wt wtx wb wl fh yg _ ⟨ah,P47 nhd a4,P47 nhl l4,P47 nnt t4,P47 nnl m4,⟨P47 nwt W4.i,P47 nwb W4.b,P47 nwl W4.l⟩,P7 _ _ nfh (P6 _ _ nfh f5),P7 _ _ nyg y6,aq a2 nm1,aq l2 nl2,aq l3 wl3,aq m3 wl3,aq W4.b hfh,aq (P5 _ _ nwb W4.b) hyg,aq f5 hyg⟩ (B6.trans But.self) (λb hb=>?_)⟩;rcases hb with rfl|rfl|rfl|rfl|rfl|rfl|rfl|rfl|rfl
  ·exact bk x1 B1 hm1
  ·exact bk x1 B1 hl1
  ·exact bk x2 B2 nm1
  ·exact bk x2 B2 nl2
  ·exact bk x3 B3 wm1
  ·exact bk x3 B3 wb3
  ·exact bk x3 B3 wl3
  ·exact bk x4 B4 hfh
  ·exact bk x5 B5 hyg
def vU(D:Ad):Sp:=λvs H Q E=>∃ x dx,∃ y l:Int,vs=[.ref x,.int y,.int l]∧H x=some (.ins D.aa dx [])∧(y=0∨(7≤y∧y≤64))∧7≤l∧l≤400∧∀ A H',IH D H' x A (s0 (decide (y>0)) y l)→But x H H'→(∀ b,bU x A (s0 (decide (y>0)) y l) b→b=x∨H b=none)→Q .non H'
abbrev tq:List Str:=["self", "young", "limit"]
theorem rV:av tq ["self", "young", "limit"] (ar i6):=⟨rfl,rfl,rfl,by decide +kernel,rfl,by decide +kernel,by decide +kernel⟩
theorem rW(F:Fun K "__init__" "IdealHeap.__init__" i6 D.bT D.eS)(T:Txt K mg D)
  (jk:Ok P w K mg base 3 D.cO D.gR ["young", "limit"] (oN))
  (jR:Ok P w K mg base 3 D.cH D.iG ["self", "makes_young"] (A8 D)):Ok P w K mg base 4 D.bT D.eS ["self", "young", "limit"] (vU D):=by
 refine⟨?_,F.binds (ps:=["self", "young", "limit"]) λ_ _ _ _ _ _ us hl=>match us,hl with|[_,_,_],_=>rfl⟩
 refine F.okE rV (λvs H Q E h=>?_) (λcdv A' outer s' H vs Q E hr h=>?_)
 ·obtain⟨x,dx,y,l,rfl,_⟩:=h
  rfl
 ·obtain⟨x,dx,y,l,rfl,hx,hy,l0,l1,k⟩:=h
  refine⟨_,(ak (aG (bj jk.g (hr.mono (by decide)) rfl T.BF T.lH jk.b .nil (Passes.x (aP λ_ _ _ q=>q)) (ae (pv 1) (ae (pv 2) ao))))
   (ak (aG (YO rfl T.UN T.UO jR.g (hr.mono (by decide)) jR.b (Passes.x (aP λ_ _ _ q=>q)) (ae (pv 0) (ae (NT JU (pv 1) au (cu _)) ao))))
   (ak (il (pv 0) (pv 1) rfl)
   (ak (il (pv 0) (pv 2) rfl)
   (ak (il (pv 0) mO rfl)
   (ai (il (pv 0) FD rfl))))))),?_⟩
  refine⟨_,rfl,_,rfl,y,l,rfl,hy,l0,l1,?_⟩;refine⟨_,rfl,_,rfl,y,0,rfl,rfl,x,dx,_,rfl,hx,λhd hdx hl nt ntx nl wt wtx wb wl fh yg H1 R B1 fr=>?_⟩;obtain⟨my,emy⟩:∃ my:Bool,decide (y>0)=my:=⟨_,rfl⟩;rw[emy]at R k;have nx:∀ b,H b=none→b≠x:=λb h e=>by rw[e,hx]at h;cases h
  refine⟨_,rfl,_,rfl,x,D.aa,dx,_,rfl,R.ax,T.ab,T.j6,by show 7<1000;decide,?_⟩;refine⟨_,rfl,_,rfl,x,D.aa,dx,_,rfl,ah,T.ab,T.oK,by show 8<1000;decide,?_⟩;intro dm hdm;have ndm:dm≠x:=λe=>by rw[e,ah]at hdm;cases hdm
  have Rj:H1 dm=none:=by rw[af ndm,af ndm]at hdm;exact hdm
  refine⟨_,rfl,x,D.aa,dx,_,rfl,(by rw[af (afi ndm)];exact ah),T.ab,T.aX,by show 9<1000;decide,?_⟩;refine⟨_,rfl,x,D.aa,dx,_,rfl,ah,T.ab,T.dz,by show 10<1000;decide,?_⟩;have aeA:H dm=none:=by
   cases q:H dm with
   | none=>rfl
   | some u=>rw[B1 _ _ ndm q]at Rj;cases Rj
  have P:∀ {o1 o2 o3 o4:HO},But x H1 (upd (upd (upd (upd (upd H1 x o1) x o2) dm (.dK [])) x o3) x o4):=λ{o1 o2 o3 o4}=>(((But.self.trans But.self).trans (But.upd (by rw[af ndm,af ndm];exact Rj))).trans But.self).trans But.self;have d2:∀ {o1 o2 o3 o4:HO},upd (upd (upd (upd (upd H1 x o1) x o2) dm (.dK [])) x o3) x o4 dm=some (.dK []):=λ{o1 o2 o3 o4}=>by rw[af ndm,af ndm];exact ah
  have f:=λ(b:Addr) (h:b=hd∨b=hl∨b=nt∨b=nl∨b=wt∨b=wb∨b=wl∨b=fh∨b=yg)=>nx b (fr b h);have n1:=f hd (.inl rfl);have n2:=f hl (.inr (.inl rfl));have n3:=f nt (.inr (.inr (.inl rfl)));have n4:=f nl (.inr (.inr (.inr (.inl rfl))));have n5:=f wt (.inr (.inr (.inr (.inr (.inl rfl)))));have n6:=f wb (.inr (.inr (.inr (.inr (.inr (.inl rfl))))));have n7:=f wl (.inr (.inr (.inr (.inr (.inr (.inr (.inl rfl)))))));have n8:=f fh (.inr (.inr (.inr (.inr (.inr (.inr (.inr (.inl rfl))))))));have n9:=f yg (.inr (.inr (.inr (.inr (.inr (.inr (.inr (.inr rfl))))))));refine k ⟨dx,hd,hdx,hl,List.replicate 8 .non,nt,ntx,nl,wt,wtx,wb,wl,fh,λ_=>0,λ_=>[],yg,dm⟩ _ ⟨ah,P _ _ n1 R.ahd,P _ _ n2 R.ahl,Rel.nil,P _ _ n3 R.ant,P _ _ n4 R.anl,P _ _ n5 R.awt.i,P _ _ n6 R.awt.b,P _ _ n7 R.awt.l,P _ _ n8 R.afh,(λ_ _ m=>by cases m),P _ _ n9 R.ayg,d2,R.n1,R.n2,R.n3,R.n4,(λ_ _ m=>by cases m),(λ_ _ _ _ m=>by cases m),R.n5,R.n6,aq R.awt.b Rj,R.n7,aq R.afh Rj,aq R.ayg Rj⟩ (B1.trans P) (λb hb=>?_);cases hb with
  | x=>exact .inl rfl
  | hd=>exact .inr (fr hd (.inl rfl))
  | hl=>exact .inr (fr hl (.inr (.inl rfl)))
  | nt=>exact .inr (fr nt (.inr (.inr (.inl rfl))))
  | nl=>exact .inr (fr nl (.inr (.inr (.inr (.inl rfl)))))
  | wt=>exact .inr (fr wt (.inr (.inr (.inr (.inr (.inl rfl))))))
  | wb=>exact .inr (fr wb (.inr (.inr (.inr (.inr (.inr (.inl rfl)))))))
  | wl=>exact .inr (fr wl (.inr (.inr (.inr (.inr (.inr (.inr (.inl rfl))))))))
  | fh=>exact .inr (fr fh (.inr (.inr (.inr (.inr (.inr (.inr (.inr (.inl rfl)))))))))
  | yg=>exact .inr (fr yg (.inr (.inr (.inr (.inr (.inr (.inr (.inr (.inr rfl)))))))))
  | dm=>exact .inr aeA
  | fl m=>cases m
theorem Rk{fs:List (Key×V)}{t:Int}{v:V}(h:lM fs (Sum.inl t)=none):putK fs (Sum.inl t) v=fs++[(Sum.inl t,v)]:=Bj v h
theorem adA{ts:List Int}{t:Int}:(lM (ts.map tkv) (Sum.inl t)).isSome=decide (t∈ts):=by
 induction ts with
 | nil=>rfl
 | cons a r ih =>
  rw[afq];by_cases e:a=t
  ·subst e
   rw[oA (p:=tkv a) (k:=Sum.inl a) rfl];simp
  ·rw[oB (p:=tkv a) (λz=>e (Sum.inl.inj z)),ih]
   have:(t∈a::r)↔t∈r:=by
    rw[aff];exact⟨λh=>h.elim (λz=>absurd z.symm e) id,.inr⟩
   simp only[this]
theorem Good.RM{s:HS}(g:Good s):∀ w,(s.nxt,w)∉s.aN:=λw m=>by have:=(g.lt _ _ m).2;omega
def Rl(D:Ad):Sp:=λvs H Q E=>∃ x A s,∃ h n:Int,vs=[.ref x,.int h,.int n]∧IH D H x A s∧Good s∧ok8 h∧0≤n∧n≤6∧∀ A' H',IH D H' x A' (JH s h n)→Fr (bU x A s) H (bU x A' (JH s h n)) H'→Q .non H'
theorem NI:∀(n:Nat) (l:List Int) (a:Int),l.Pairwise (·< ·)→(∀ t∈l,a≤t∧t<a+n)→l.length≤n
 | _,[],_,_,_=>afw _
 | 0,b::r,a,_,h=>by have:=h b afg;omega
 | n+1,b::r,a,p,h=>by
  have hb:=h b afg
  have:=NI n r (a+1) (age.mp p).2 λt m=>by
   have h1:=(age.mp p).1 t m;have h2:=h t (afn _ m);omega
  rw[afA];omega
theorem GP{s:HS}(g:Good s):s.yng.length≤10000:=by
 refine NI 10000 s.yng 0 g.ym λt m=>?_;obtain⟨ws,m⟩:=g.yk t m
 have:=g.lt _ _ m
 have:=g.nx
 omega
theorem JI{s:HS}(g:Good s):s.dO.length≤10000:=by
 refine NI 10000 s.dO 0 g.ET λt m=>?_;obtain⟨ws,m⟩:=g.dk t m
 have:=g.lt _ _ m
 have:=g.nx
 omega
abbrev BS:List Str:=["self", "h", "n", "t"]
theorem oQ:av BS ["self", "h", "n"] (ar lq):=⟨rfl,rfl,rfl,by decide +kernel,rfl,by decide +kernel,by decide +kernel⟩
theorem y9(F:Fun K "add_thing" "Heap.add_thing" lq D.b7 D.gX)(T:Txt K mg D)
  (cI:Ok P w K mg base 3 D.de D.gJ ["t"] (kx))
  (cq:Ok P w K mg base 4 D.eZ D.iw ["self", "h", "word"] (vS D)):Ok P w K mg base 5 D.b7 D.gX ["self", "h", "n"] (Rl D):=by
 refine⟨?_,F.binds (ps:=["self", "h", "n"]) λ_ _ _ _ _ _ us hl=>match us,hl with|[_,_,_],_=>rfl⟩
 refine F.okE oQ (λvs H Q E h=>?_) (λcdv A' outer s' H vs Q E hr h=>?_)
 ·obtain⟨x,A,s,h,n,rfl,_⟩:=h
  rfl
 ·obtain⟨x,A,s,h,n,rfl,J,G,c,n0,n6,k⟩:=h
  have hu:=lL hr;refine⟨_,(ak (bF (i:=3) oQ.nd rfl (Or.inl rfl) (aH (pv 0) rfl))
   (ak (il (pv 0) (eF EL (pv 3) au) rfl)
   (ak (sP hu (aH (pv 0) rfl) (pv 3) (eF Ny (j4 (ae j3 ao)) (pv 2)) rfl)
   (ak (dM (Bb (aH (pv 0) rfl))
    (ai (sP hu (aH (pv 0) rfl) (pv 3) FD rfl))
    bQ)
   (ai (aG (aJ (aH (pv 0) rfl) T.aZ T.nr cq.g (hr.mono (by decide)) cq.b .nil (Passes.x (aP λ_ _ _ q=>q)) (ae (pv 1) (ae (bj cI.g (hr.mono (by decide)) rfl T.pR T.jO cI.b .nil (Passes.x (aP λ_ _ _ q=>q)) (ae (pv 3) ao)) ao))))))))),?_⟩
  refine⟨_,rfl,x,D.aa,_,_,.int s.nxt,rfl,J.ax,T.ab,T.fE,Yb,?_⟩;refine⟨_,rfl,s.nxt,1,rfl,rfl,_,rfl,x,D.aa,A.dx,_,rfl,J.ax,T.ab,T.fE,by show 11<1000;decide,?_⟩;have w1:=J.aey (n:=s.nxt+1);obtain⟨H1,e1⟩:∃ H1,upd H x (.ins D.aa A.dx (iE "next_thing" (.int (s.nxt+1)) (atts A s)))=H1:=⟨_,rfl⟩;rw[e1]at w1;show Jy _ _ _ _ (upd H x (.ins D.aa A.dx (iE "next_thing" (.int (s.nxt+1)) (atts A s))));rw[e1];clear e1;obtain⟨J1,F1⟩:=w1;refine⟨by show 1≤sizeLine;decide,λp hp=>⟨_,rfl,p,n,_,rfl,rfl,ah,by omega,by omega,pU (by show 1*n.toNat≤20000;omega),λq hq=>?_⟩⟩;rw[UP];have s2:aC H1 (upd H1 p (.lst [.non])):=aC.upd hp;have J2:=J1.same s2;have w2:=J2.acp (t:=s.nxt) (xs:=List.replicate n.toNat .non) (ws:=List.replicate n.toNat .no) hq G.RM Rel.nil;obtain⟨J3,F3⟩:=w2;have J2':=J2.same (aC.upd (o:=.lst (List.replicate n.toNat .non)) hq);have vn:lM (s.aN.map (fkv A)) (Sum.inl s.nxt)=none:=by
   rw[Ri];cases e:s.aN.lookup s.nxt with
   | none=>rfl
   | some w=>exact absurd (lookup_some e) (G.RM w)
  have dp:=HN.k (k:=Sum.inl s.nxt) (v:=.ref q) J2'.afh (by rw[aeV];exact qP (afe G.few (by decide)));rw[show putK ((({s with nxt:=s.nxt+1}:HS).aN).map (fkv A)) (Sum.inl s.nxt) (.ref q)=s.aN.map (fkv A)++[(Sum.inl s.nxt,.ref q)] from Rk vn]at dp;refine⟨_,rfl,x,D.aa,_,_,.ref A.fh,rfl,J2'.ax,T.ab,T.az,qt,_,rfl,A.fh,_,rfl,dp,?_⟩;have F03:=(F1.trans (Fr.same s2)).trans F3;obtain⟨A3,eA⟩:∃ A3:HA,{A with fa:=λu=>if u=s.nxt then q else A.fa u,fx:=λu=>if u=s.nxt then List.replicate n.toNat V.non else A.fx u}=A3:=⟨_,rfl⟩;obtain⟨H3,e3⟩:∃ H3,upd (upd (upd H1 p (.lst [.non])) q (.lst (List.replicate n.toNat .non))) A.fh (.dK (s.aN.map (fkv A)++[(Sum.inl s.nxt,.ref q)]))=H3:=⟨_,rfl⟩;have J3:IH D H3 x A3 {s with nxt:=s.nxt+1,aN:=s.aN++[(s.nxt,List.replicate n.toNat .no)]}:=by rw[←e3,←eA];exact J3
  have F03:Fr (bU x A s) H (bU x A3 {s with nxt:=s.nxt+1,aN:=s.aN++[(s.nxt,List.replicate n.toNat .no)]}) H3:=by rw[←e3,←eA];exact F03
  show Jy _ _ _ _ (upd (upd (upd H1 p (.lst [.non])) q (.lst (List.replicate n.toNat .non))) A.fh (.dK (s.aN.map (fkv A)++[(Sum.inl s.nxt,.ref q)])));rw[e3];clear e3 eA dp J2';have fin:∀(A4:HA) (H4:Hp) (ys:List Int),IH D H4 x A4 {s with nxt:=s.nxt+1,aN:=s.aN++[(s.nxt,List.replicate n.toNat .no)],yng:=ys}→Fr (bU x A s) H (bU x A4 {s with nxt:=s.nxt+1,aN:=s.aN++[(s.nxt,List.replicate n.toNat .no)],yng:=ys}) H4→(if s.my=true then s.yng++[s.nxt] else s.yng)=ys→∀(t:Addr) (H5:Hp),aC H4 H5→H5 t=some (.tup [.str "thing",.int s.nxt])→vS D [.ref A4.hd,.int h,.ref t] H5 (λ_ H'=>Q .non H') E:=by
   intro A4 H4 ys J4 F4 ey t H5 s5 ht;have J5:=J4.same s5;refine⟨A4.hd,A4.hdx,A4.hl,A4.hx,s.bq,.ref t,h,rfl,⟨J5.ahd,J5.ahl,J5.rhl,G.h8⟩,Sm.of (by omega) (by omega),?_⟩;rw[if_pos c];have w:=J5.PR (J5.rhl.set (i:=h.toNat) (show WV H5 (.ref t) (.th s.nxt) from⟨t,rfl,ht⟩));have e:JH s h n={s with nxt:=s.nxt+1,aN:=s.aN++[(s.nxt,List.replicate n.toNat .no)],yng:=ys,bq:=s.bq.set h.toNat (.th s.nxt)}:=(by unfold JH;rw[ey]);rw[e]at k;exact k _ _ w.1 ((F4.trans (Fr.same s5)).trans w.2)
  refine⟨_,rfl,x,D.aa,_,_,_,rfl,J3.ax,T.ab,T.gP,X9,_,rfl,?_⟩;by_cases my:s.my=true
  ·refine Ht my ⟨_,rfl,x,D.aa,_,_,_,rfl,J3.ax,T.ab,T.a5,Ka,_,rfl,A3.yg,_,rfl,HN.k (k:=Sum.inl s.nxt) J3.ayg (by rw[aeV];exact qP (afe (show s.yng.length≤10000 from GP G) (by decide))),?_⟩
   have vy:lM (s.yng.map tkv) (Sum.inl s.nxt)=none:=by
    have:=adA (ts:=s.yng) (t:=s.nxt)
    rw[decide_eq_false (λm=>by obtain⟨ws,m⟩:=G.yk _ m;exact G.RM ws m)]at this;cases q:lM (s.yng.map tkv) (Sum.inl s.nxt) with
    | none=>rfl
    | some v=>rw[q]at this;cases this
   have w4:=J3.aex (ts:=s.yng++[s.nxt]);rw[ae8]at w4;rw[show putK ((({s with nxt:=s.nxt+1,aN:=s.aN++[(s.nxt,List.replicate n.toNat .no)]}:HS).yng).map tkv) (Sum.inl s.nxt) (.bl true)=s.yng.map tkv++[s.nxt].map tkv from Rk vy];obtain⟨J4,F4⟩:=w4;refine⟨_,rfl,x,D.aa,_,_,_,rfl,J4.ax,T.ab,T.ay,ny,A3.hd,A3.hdx,_,rfl,J4.ahd,rfl,_,rfl,_,rfl,s.nxt,rfl,G.n0,λt H5 s5 ht=>?_⟩;exact fin _ _ _ J4 (F03.trans F4) (by rw[if_pos my]) t H5 s5 ht
  ·refine Hs (afB.mpr my) ?_
   refine⟨_,rfl,x,D.aa,_,_,_,rfl,J3.ax,T.ab,T.ay,ny,A3.hd,A3.hdx,_,rfl,J3.ahd,rfl,_,rfl,_,rfl,s.nxt,rfl,G.n0,λt H5 s5 ht=>?_⟩;exact fin _ _ _ J3 F03 (by rw[if_neg my]) t H5 s5 ht
def L1(D:Ad):Sp:=λvs H Q E=>∃ x A s,∃ h w:Int,vs=[.ref x,.int h,.int w]∧IH D H x A s∧Good s∧Sm h∧Sm w∧(if ok8 h then(if ok8 w then ∀ A' H',IH D H' x A' (qz s h (nmW (s.names.getD w.toNat none)))→Fr (bU x A s) H (bU x A' (qz s h (nmW (s.names.getD w.toNat none)))) H'→Q (nmV (s.names.getD w.toNat none)) H' else Bad D.eE H E) else Bad D.bE H E)
abbrev za:List Str:=["self", "h", "w", "t"]
theorem nK:av za ["self", "h", "w"] (ar ke):=⟨rfl,rfl,rfl,by decide +kernel,rfl,by decide +kernel,by decide +kernel⟩
theorem wB(F:Fun K "read_thing" "Heap.read_thing" ke D.bP D.gy)(T:Txt K mg D)
  (aA:Ok P w K mg base 3 D.bp D.cD ["h"] (en D))
  (iQ:Ok P w K mg base 4 D.cU D.gx ["self", "w"] (LZ D))
  (cq:Ok P w K mg base 4 D.eZ D.iw ["self", "h", "word"] (vS D))
  (cI:Ok P w K mg base 3 D.de D.gJ ["t"] (kx)):Ok P w K mg base 5 D.bP D.gy ["self", "h", "w"] (L1 D):=by
 refine⟨?_,F.binds (ps:=["self", "h", "w"]) λ_ _ _ _ _ _ us hl=>match us,hl with|[_,_,_],_=>rfl⟩
 refine F.okE nK (λvs H Q E h=>?_) (λcdv A' outer s' H vs Q E hr h=>?_)
 ·obtain⟨x,A,s,h,w,rfl,_⟩:=h
  rfl
 ·obtain⟨x,A,s,h,w,rfl,J,G,hh,hw,k⟩:=h
  refine⟨_,(ak (aG (bj aA.g (hr.mono (by decide)) rfl T.gi T.ed aA.b .nil (Passes.x (aP λ_ _ _ q=>q)) (ae (pv 1) ao)))
   (ak (bF (i:=3) nK.nd rfl (Or.inl rfl) (aJ (aH (pv 0) rfl) T.dZ T.wa iQ.g (hr.mono (by decide)) iQ.b .nil (Passes.x (aP λ_ _ _ q=>q)) (ae (pv 2) ao)))
   (ak (aG (aJ (aH (pv 0) rfl) T.aZ T.nr cq.g (hr.mono (by decide)) cq.b .nil (Passes.x (aP λ_ _ _ q=>q)) (ae (pv 1) (ae (Bg (aU QK (pv 3) j3 (cu _)) j3 (bj cI.g (hr.mono (by decide)) rfl T.pR T.jO cI.b .nil (Passes.x (aP λ_ _ _ q=>q)) (ae (pv 3) ao))) ao))))
   (ai (aV (pv 3)))))),?_⟩
  refine⟨_,rfl,h,rfl,hh,?_⟩;by_cases c:ok8 h
  ·rw[if_pos c]at k ⊢
   refine⟨_,rfl,x,D.aa,_,_,.ref A.nt,rfl,J.ax,T.ab,T.dP,Pu,A.nt,A.ntx,_,rfl,J.ant,rfl,_,rfl,A.nt,A.ntx,A.nl,_,w,rfl,J.ntb G,hw,?_⟩;by_cases c2:ok8 w
   ·rw[if_pos c2]at k ⊢
    intro v hv;have hi:w.toNat<s.names.length:=(by rw[G.n8];omega);rw[ae6,aeW hi]at hv;obtain rfl:nmV s.names[w.toNat]=v:=afo hv;have gd:s.names.getD w.toNat none=s.names[w.toNat]:=(by simp[List.getD,hi]);rw[gd]at k;have mm:s.names[w.toNat]∈s.names:=afW hi;obtain⟨z,ez⟩:∃ z,s.names[w.toNat]=z:=⟨_,rfl⟩;rw[ez]at k mm ⊢;refine⟨_,rfl,x,D.aa,_,_,.ref A.hd,rfl,J.ax,T.ab,T.ay,ny,A.hd,A.hdx,_,rfl,J.ahd,rfl,_,rfl,?_⟩;cases z with
    | none =>
     refine⟨_,rfl,rfl,_,rfl,aQ (λ_=>?_) (λh=>absurd (by simp[nmV]) h)⟩;refine⟨A.hd,A.hdx,A.hl,A.hx,s.bq,.non,h,rfl,J.hn G,hh,?_⟩;rw[if_pos c];exact⟨_,rfl,let w:=J.PR (J.rhl.set (i:=h.toNat) (show WV H .non .no from rfl));k _ _ w.1 w.2⟩
    | some t =>
     obtain⟨ws,m⟩:=G.nn t mm;refine⟨_,rfl,rfl,_,rfl,aQ (λh=>by simp[nmV]at h) (λ_=>?_)⟩;refine⟨_,rfl,t,rfl,(G.lt _ _ m).1,λp H1 s1 hp=>?_⟩;have J1:=J.same s1;refine⟨A.hd,A.hdx,A.hl,A.hx,s.bq,.ref p,h,rfl,J1.hn G,hh,?_⟩;rw[if_pos c];exact⟨_,rfl,let w:=J1.PR (J1.rhl.set (i:=h.toNat) (show WV H1 (.ref p) (.th t) from⟨p,rfl,hp⟩));k _ _ w.1 ((Fr.same s1).trans w.2)⟩
   ·rw[if_neg c2]at k ⊢
    exact k
  ·rw[if_neg c]at k ⊢
   exact k
def Gr(D:Ad):Sp:=λvs H Q E=>∃ x A s d kvs ts,vs=[.ref x,.ref d]∧IH D H x A s∧Good s∧H d=some (.dK kvs)∧kvs.map (·.1)=ts.map Sum.inl∧(∀ t∈ts,∃ ws,(t,ws)∈s.aN)∧ts.length≤10000∧∀ H',aC H H'→Q (.int (wsum s ts)) H'
abbrev nM:List Str:=["self", "things"]
theorem uH:av nM ["self", "things"] (ar hZ):=⟨rfl,rfl,rfl,by decide +kernel,rfl,by decide +kernel,by decide +kernel⟩
theorem uI(F:Fun K "words_among" "Heap.words_among" hZ D.bg D.eG)(T:Txt K mg D)
  (jl:Ok P w K mg base 3 D.gM D.lP ["fields"] (uz D)):Ok P w K mg base 4 D.bg D.eG ["self", "things"] (Gr D):=by
 refine⟨?_,F.binds (ps:=["self", "things"]) λ_ _ _ _ _ _ us hl=>match us,hl with|[_,_],_=>rfl⟩
 refine F.okE uH (λvs H Q E h=>?_) (λcdv A' outer s' H vs Q E hr h=>?_)
 ·obtain⟨x,A,s,d,kvs,ts,rfl,_⟩:=h
  rfl
 ·obtain⟨x,A,s,d,kvs,ts,rfl,J,G,hd,hk,ht,hz,k⟩:=h
  have hu:=lL hr;refine⟨_,(ai (aV (Ra (gK (OZ rfl) rfl T.RI PyProof.Rows.Boot.«sum» (ae (BB (cl:=[("self",s'.heap.objs.size+1)]) (x := "t") (idx:=[0]) (NC:=["t", "self"]) ?co1 rfl (vO (EO (pv 1))) (λC fp s₀ H₀=>(bj jl.g (hr.mono (by decide)) rfl T.FW T.rG jl.b .nil ya (ae (gK (O2 rfl) rfl T.Bo PyProof.Rows.Boot.«len» (ae (qd hu (UH rfl (pv 1) rfl) (pv 0) (λ_ _=>rfl)) ao)) ao)))) ao))))),?_⟩
  case co1 =>
   exact kZ (sc:=ar hZ) (N:=nM) (ns:=["self"]) rfl rfl rfl (by decide +kernel) rfl rfl (by
    intro q hq;rw[aeX.mp hq];rfl)
  have lk:kvs.length=ts.length:=by have:=congrArg List.length hk;simpa using this
  refine⟨_,rfl,d,kvs,hd,λo=>?_⟩;refine⟨d,o,kvs,rfl,ah,λL hL=>?_⟩;obtain⟨Hf,ef⟩:∃ Hf,upd H d (.frz o (.dK kvs))=Hf:=⟨_,rfl⟩;rw[ef]at hL ⊢;have fd:Hf d=some (.frz o (.dK kvs)):=by rw[←ef];exact ah
  have fo:∀ b u,b≠d→H b=some u→Hf b=some u:=λb u n q=>by rw[←ef,af n];exact q
  have xd:x≠d:=aw J.ax hd (by intro z;cases z);have dg:∀ {Hc:Hp},aC Hf Hc→∀ {t:Int} {ws:List Wd},(t,ws)∈s.aN→qc Hc A.fh (.int t) (some (.ref (A.fa t))):=λ{Hc} sc {t ws} m=>by
   have e:lM (s.aN.map (fkv A)) (Sum.inl t)=some (.ref (A.fa t)):=(by rw[Ri,G.get m];rfl);by_cases c:A.fh=d
   ·have ek:kvs=s.aN.map (fkv A):=by
     have:=J.afh
     rw[c,hd]at this;injection this with this;injection this
    exact .inl ⟨kvs,Sum.inl t,.inr ⟨o,by rw[c];exact sc _ _ fd⟩,rfl,by rw[ek,e]⟩
   ·exact .inl ⟨_,Sum.inl t,.inl (sc _ _ (fo _ _ c J.afh)),rfl,e.symm⟩
  refine O0 (d:=d) (o:=o) (kvs:=kvs) (λi ys Hc=>ys=((ts.take i).map λt=>V.int (((fld s t).length:Int)+1))∧aC Hf Hc∧Hc L=some (.lst ys)) ⟨rfl,aC.upd hL,ah⟩ (λi ys Hc hi ⟨e,_,z⟩=>⟨z,by rw[e,aeV,afm];omega⟩) (λi ys Hc _ ⟨_,sc,_⟩=>sc _ _ fd) (pU (by omega)) (λi p ys Hc hi ⟨e,sc,z⟩=>?_) (λys Hc ⟨e,sc,z⟩=>?_)
  ·have hik:i<kvs.length:=(aeY.mp hi).1
   have hit:i<ts.length:=(by omega);have ep:p.1=Sum.inl ts[i]:=by
    have h1:=congrArg (λl=>l[i]?) hk;simp only[ae6,hi,aeW hit,agd,Option.some.injEq]at h1;exact h1
   have hkv:kV p.1=.int ts[i]:=(by rw[ep];rfl);obtain⟨t,et⟩:∃ t,ts[i]=t:=⟨_,rfl⟩;obtain⟨ws,m⟩:=ht t (by rw[←et];exact afW hit);have fm:=G.fld m;obtain⟨hl,rl⟩:=J.afl _ _ m;have f6:=G.f6 _ _ m;have ln:=rl.1;have nld:A.fa t≠d:=aw hl hd (by intro z;cases z);have hlc:=sc _ _ (fo _ _ nld hl);refine⟨_,rfl,x,D.aa,_,_,.ref A.fh,rfl,sc _ _ (fo _ _ xd J.ax),T.ab,T.az,qt,_,rfl,A.fh,.ref (A.fa t),rfl,(by rw[hkv,et];exact dg sc m),A.fa t,_,rfl,.inl (SqL.of hlc),((A.fx t).length:Int),rfl,Sm.of (by omega) (by omega),?_⟩;rw[if_pos ⟨by omega,by omega⟩];refine⟨z,?_,λb u q=>by rw[af (aq q hL)];exact sc b u q,ah⟩;rw[e,afs hit,ae8,et];simp only[afq,agg];rw[fm,ln]
  ·rw[lk,ae9 (ae1 _)]at e
   refine⟨L,ts.map λt=>((fld s t).length:Int)+1,rfl,SqL.of (by rw[z,e,afE];rfl),d,o,kvs,sc _ _ fd,(λo' u' z=>by have z:H d=some (.frz o' u'):=z;rw[hd]at z;cases z),?_⟩;refine k _ λb u q=>?_;by_cases c:b=d
   ·subst c
    rw[hd]at q;cases q;exact ah
   ·rw[af c]
    exact sc _ _ (fo _ _ c q)
def Og(D:Ad):Sp:=λvs H Q E=>∃ x A s,vs=[.ref x]∧IH D H x A s∧Good s∧∀ H',aC H H'→Q (.int (held s)) H'
abbrev BU:List Str:=["self"]
theorem zb:av BU ["self"] (ar lD):=⟨rfl,rfl,rfl,by decide +kernel,rfl,by decide +kernel,by decide +kernel⟩
theorem zc(F:Fun K "held" "IdealHeap.held" lD D.dG D.g4)(T:Txt K mg D)
  (cA:Ok P w K mg base 4 D.bg D.eG ["self", "things"] (Gr D)):Ok P w K mg base 5 D.dG D.g4 ["self"] (Og D):=by
 refine⟨?_,F.binds (ps:=["self"]) λ_ _ _ _ _ _ us hl=>match us,hl with|[_],_=>rfl⟩
 refine F.okE zb (λvs H Q E h=>?_) (λcdv A' outer s' H vs Q E hr h=>?_)
 ·obtain⟨x,A,s,rfl,_⟩:=h
  rfl
 ·obtain⟨x,A,s,rfl,J,G,k⟩:=h
  refine⟨_,(ai (aV (aJ (pv 0) T.ab T.jH cA.g (hr.mono (by decide)) cA.b .nil (Passes.x (aP λ_ _ _ q=>q)) (ae (aH (pv 0) rfl) ao)))),?_⟩;exact⟨_,rfl,x,_,_,rfl,J.ax,(by kernel_rfl),_,rfl,x,D.aa,_,_,.ref A.fh,rfl,J.ax,T.ab,T.az,qt,x,A,s,A.fh,_,keys s,rfl,J,G,J.afh,by rw[afE];unfold keys;rw[afE];rfl,(λt m=>by obtain⟨p,hp,rfl⟩:=afk.mp m;exact⟨p.2,hp⟩),by unfold keys;rw[aeV];exact G.few,k⟩
def Qz(D:Ad):Sp:=λvs H Q E=>∃ x A s,∃ h:Int,vs=[.ref x,.int h]∧IH D H x A s∧Good s∧Sm h∧(match wat s.bq h with|some wd=>∀ H',aC H H'→Q (.str wd.kind) H'|none=>Bad D.bE H E)
abbrev BV:List Str:=["self", "h"]
theorem ze:av BV ["self", "h"] (ar lC):=⟨rfl,rfl,rfl,by decide +kernel,rfl,by decide +kernel,by decide +kernel⟩
theorem zh(F:Fun K "kind" "IdealHeap.kind" lC D.eN D.jf)(T:Txt K mg D)
  (du:Ok P w K mg base 5 D.eU D.iD ["self", "h"] (Bq D)):Ok P w K mg base 6 D.eN D.jf ["self", "h"] (Qz D):=by
 refine⟨?_,F.binds (ps:=["self", "h"]) λ_ _ _ _ _ _ us hl=>match us,hl with|[_,_],_=>rfl⟩
 refine F.okE ze (λvs H Q E h=>?_) (λcdv A' outer s' H vs Q E hr h=>?_)
 ·obtain⟨x,A,s,h,rfl,_⟩:=h
  rfl
 ·obtain⟨x,A,s,h,rfl,J,G,hh,k⟩:=h
  have hu:=lL hr;refine⟨_,(ai (aV (aJ (aH (pv 0) rfl) T.aZ T.pQ du.g (hr.mono (by decide)) du.b .nil (Passes.x (aP λ_ _ _ q=>q)) (ae (pv 1) ao)))),?_⟩;exact⟨_,rfl,x,D.aa,_,_,.ref A.hd,rfl,J.ax,T.ab,T.ay,ny,A.hd,A.hdx,_,rfl,J.ahd,rfl,_,rfl,A.hd,A.hdx,A.hl,A.hx,s.bq,h,rfl,J.hn G,hh,k⟩
def O9(D:Ad):Sp:=λvs H Q E=>∃ x A s,∃ h:Int,vs=[.ref x,.int h]∧IH D H x A s∧Good s∧Sm h∧(match wat s.bq h with|some (.num x)=>∀ H',aC H H'→Q (.int x) H'|_=>Bad D.bE H E)
abbrev zi:List Str:=["self", "h"]
theorem wC:av zi ["self", "h"] (ar kf):=⟨rfl,rfl,rfl,by decide +kernel,rfl,by decide +kernel,by decide +kernel⟩
theorem wD(F:Fun K "value" "IdealHeap.value" kf D.dS D.iP)(T:Txt K mg D)
  (lT:Ok P w K mg base 6 D.fN D.jL ["self", "h"] (LW D)):Ok P w K mg base 7 D.dS D.iP ["self", "h"] (O9 D):=by
 refine⟨?_,F.binds (ps:=["self", "h"]) λ_ _ _ _ _ _ us hl=>match us,hl with|[_,_],_=>rfl⟩
 refine F.okE wC (λvs H Q E h=>?_) (λcdv A' outer s' H vs Q E hr h=>?_)
 ·obtain⟨x,A,s,h,rfl,_⟩:=h
  rfl
 ·obtain⟨x,A,s,h,rfl,J,G,hh,k⟩:=h
  have hu:=lL hr;refine⟨_,(ai (aV (aJ (aH (pv 0) rfl) T.aZ T.EU lT.g (hr.mono (by decide)) lT.b .nil (Passes.x (aP λ_ _ _ q=>q)) (ae (pv 1) ao)))),?_⟩;exact⟨_,rfl,x,D.aa,_,_,.ref A.hd,rfl,J.ax,T.ab,T.ay,ny,A.hd,A.hdx,_,rfl,J.ahd,rfl,_,rfl,A.hd,A.hdx,A.hl,A.hx,s.bq,h,rfl,J.hn G,hh,k⟩
def MX(D:Ad):Sp:=λvs H Q E=>∃ x A s,∃ h:Int,vs=[.ref x,.int h]∧IH D H x A s∧Good s∧Sm h∧(match wat s.bq h with|some (.th t)=>∀ H',aC H H'→Q (.int (fld s t).length) H'|_=>Bad D.bE H E)
abbrev wF:List Str:=["self", "h"]
theorem uJ:av wF ["self", "h"] (ar jU):=⟨rfl,rfl,rfl,by decide +kernel,rfl,by decide +kernel,by decide +kernel⟩
theorem uK(F:Fun K "fields" "IdealHeap.fields" jU D.dr D.h9)(T:Txt K mg D)
  (aF:Ok P w K mg base 6 D.ba D.cg ["self", "h"] (jA D)):Ok P w K mg base 7 D.dr D.h9 ["self", "h"] (MX D):=by
 refine⟨?_,F.binds (ps:=["self", "h"]) λ_ _ _ _ _ _ us hl=>match us,hl with|[_,_],_=>rfl⟩
 refine F.okE uJ (λvs H Q E h=>?_) (λcdv A' outer s' H vs Q E hr h=>?_)
 ·obtain⟨x,A,s,h,rfl,_⟩:=h
  rfl
 ·obtain⟨x,A,s,h,rfl,J,G,hh,k⟩:=h
  have hu:=lL hr;refine⟨_,(ai (aV (gK iC rfl T.Bo PyProof.Rows.Boot.«len» (ae (qd hu (aH (pv 0) rfl) (aJ (aH (pv 0) rfl) T.aZ T.gc aF.g (hr.mono (by decide)) aF.b .nil (Passes.x (aP λ_ _ _ q=>q)) (ae (pv 1) ao)) (λ_ _=>rfl)) ao)))),?_⟩;refine⟨_,rfl,x,D.aa,_,_,.ref A.fh,rfl,J.ax,T.ab,T.az,qt,_,rfl,x,D.aa,_,_,.ref A.hd,rfl,J.ax,T.ab,T.ay,ny,A.hd,A.hdx,_,rfl,J.ahd,rfl,_,rfl,A.hd,A.hdx,A.hl,A.hx,s.bq,h,rfl,J.hn G,hh,?_⟩;cases e:wat s.bq h with
  | none=>rw[e]at k;exact k
  | some wd =>
   rw[e]at k;cases wd with
   | no=>exact k
   | num n=>exact k
   | th t =>
    intro H1 s1;have J1:=J.same s1;have m:=G.hand e;obtain⟨hl,rl⟩:=J1.afl _ _ m;refine⟨A.fh,_,rfl,J1.Yd G m,A.fa t,_,rfl,.inl (SqL.of hl),?_⟩;rw[rl.1];exact k H1 s1
theorem DA{F F':Addr→Prop}{H:Hp}{p b:Addr}{u o o':HO}(hp:H p=none)(f:F b)(hb:H b=some u)(n:∀ xs,u≠.tup xs)(g:∀ c,F' c→F c∨c=p):Fr F H F' (upd (upd H p o) b o') where
 ext:=λc v nf q=>by rw[af λe=>nf (by rw[e];exact f),af (aq q hp)];exact q
 grow:=λc f'=>(g c f').imp id λe=>by rw[e];exact hp
 all:=λc v q=>by
  by_cases e:c=b
  ·exact⟨o',by rw[e];exact ah⟩
  ·exact⟨v,by rw[af e,af (aq q hp)];exact q⟩
 tup:=(fv.of (aC.upd hp)).trans (fv.set (aC.upd hp _ _ hb) n)
section
variable{D:Ad}{H H':Hp}{x:Addr}{A A':HA}{s s':HS}
theorem IH.aeB(J:IH D H x A s){p:Addr}(hp:H p=none):IH D (upd (upd H p (.dK [])) x (.ins D.aa A.dx (iE "young_things" (.ref p) (atts A s)))) x {A with yg:=p} {s with yng:=[]}∧Fr (bU x A s) H (bU x {A with yg:=p} {s with yng:=[]}) (upd (upd H p (.dK [])) x (.ins D.aa A.dx (iE "young_things" (.ref p) (atts A s)))):=by
 have s1:aC H (upd H p (.dK [])):=aC.upd hp;have nf:¬bU x A s p:=J.fresh hp;have pp:upd H p (.dK []) p=some (.dK []):=ah;refine⟨?_,DA hp (.x) J.ax (λ_ z=>nomatch z) (λc f=>?_)⟩
 ·have J:=J.same s1
  have tk:fv (upd H p (.dK [])) (upd (upd H p (.dK [])) x (.ins D.aa A.dx (iE "young_things" (.ref p) (atts A s)))):=fv.set J.ax (λ_ z=>nomatch z);exact⟨(by rw[ah,acn];rfl),(by rw[af (aw J.ahd J.ax (lS (show(1:Nat)≠11 by decide)))];exact J.ahd),(by rw[af (aw J.ahl J.ax (by intro z;cases z))];exact J.ahl),J.rhl.keep tk,(by rw[af (aw J.ant J.ax (lS (show(1:Nat)≠11 by decide)))];exact J.ant),(by rw[af (aw J.anl J.ax (by intro z;cases z))];exact J.anl),(by rw[af (aw J.awt J.ax (lS (show(2:Nat)≠11 by decide)))];exact J.awt),(by rw[af (aw J.awb J.ax (by intro z;cases z))];exact J.awb),(by rw[af (aw J.awl J.ax (by intro z;cases z))];exact J.awl),(by rw[af (aw J.afh J.ax (by intro z;cases z))];exact J.afh),(λt ws m=>⟨by rw[af (aw (J.afl _ _ m).1 J.ax (by intro z;cases z))];exact(J.afl _ _ m).1,(J.afl _ _ m).2.keep tk⟩),(by show upd _ _ _ p=_;rw[af λe=>nf (by rw[e];exact .x)];exact pp),(by rw[af (aw J.adm J.ax (by intro z;cases z))];exact J.adm),J.nhn,J.l1,J.l2,J.l3,J.l4,J.l5,J.d1,(λ(e:A.wb=p)=>nf (by rw[←e];exact .wb)),J.d3,(λ(e:A.fh=p)=>nf (by rw[←e];exact .fh)),J.d5,(λ(e:p=A.dm)=>nf (by rw[e];exact .dm))⟩
 ·cases f with
  | x=>exact .inl .x
  | hd=>exact .inl .hd
  | hl=>exact .inl .hl
  | nt=>exact .inl .nt
  | nl=>exact .inl .nl
  | wt=>exact .inl .wt
  | wb=>exact .inl .wb
  | wl=>exact .inl .wl
  | fh=>exact .inl .fh
  | yg=>exact .inr rfl
  | dm=>exact .inl .dm
  | fl m=>exact .inl (.fl m)
theorem IH.aeC(J:IH D H x A s){p:Addr}(hp:H p=none):IH D (upd (upd H p (.dK [])) x (.ins D.aa A.dx (iE "doomed_things" (.ref p) (atts A s)))) x {A with dm:=p} {s with dO:=[]}∧Fr (bU x A s) H (bU x {A with dm:=p} {s with dO:=[]}) (upd (upd H p (.dK [])) x (.ins D.aa A.dx (iE "doomed_things" (.ref p) (atts A s)))):=by
 have s1:aC H (upd H p (.dK [])):=aC.upd hp;have nf:¬bU x A s p:=J.fresh hp;have pp:upd H p (.dK []) p=some (.dK []):=ah;refine⟨?_,DA hp (.x) J.ax (λ_ z=>nomatch z) (λc f=>?_)⟩
 ·have J:=J.same s1
  have tk:fv (upd H p (.dK [])) (upd (upd H p (.dK [])) x (.ins D.aa A.dx (iE "doomed_things" (.ref p) (atts A s)))):=fv.set J.ax (λ_ z=>nomatch z);exact⟨(by rw[ah,aco];rfl),(by rw[af (aw J.ahd J.ax (lS (show(1:Nat)≠11 by decide)))];exact J.ahd),(by rw[af (aw J.ahl J.ax (by intro z;cases z))];exact J.ahl),J.rhl.keep tk,(by rw[af (aw J.ant J.ax (lS (show(1:Nat)≠11 by decide)))];exact J.ant),(by rw[af (aw J.anl J.ax (by intro z;cases z))];exact J.anl),(by rw[af (aw J.awt J.ax (lS (show(2:Nat)≠11 by decide)))];exact J.awt),(by rw[af (aw J.awb J.ax (by intro z;cases z))];exact J.awb),(by rw[af (aw J.awl J.ax (by intro z;cases z))];exact J.awl),(by rw[af (aw J.afh J.ax (by intro z;cases z))];exact J.afh),(λt ws m=>⟨by rw[af (aw (J.afl _ _ m).1 J.ax (by intro z;cases z))];exact(J.afl _ _ m).1,(J.afl _ _ m).2.keep tk⟩),(by rw[af (aw J.ayg J.ax (by intro z;cases z))];exact J.ayg),(by show upd _ _ _ p=_;rw[af λe=>nf (by rw[e];exact .x)];exact pp),J.nhn,J.l1,J.l2,J.l3,J.l4,J.l5,J.d1,J.d2,(λ(e:A.wb=p)=>nf (by rw[←e];exact .wb)),J.d4,(λ(e:A.fh=p)=>nf (by rw[←e];exact .fh)),(λ(e:A.yg=p)=>nf (by rw[←e];exact .yg))⟩
 ·cases f with
  | x=>exact .inl .x
  | hd=>exact .inl .hd
  | hl=>exact .inl .hl
  | nt=>exact .inl .nt
  | nl=>exact .inl .nl
  | wt=>exact .inl .wt
  | wb=>exact .inl .wb
  | wl=>exact .inl .wl
  | fh=>exact .inl .fh
  | yg=>exact .inl .yg
  | dm=>exact .inr rfl
  | fl m=>exact .inl (.fl m)
theorem IH.aeD(J:IH D H x A s){ns:List (Option Int)}{p:Addr}(hp:H p=none):IH D (upd (upd H p (.lst (ns.map nmV))) A.nt (.ins D.aD A.ntx [("things_named",.ref p)])) x {A with nl:=p} {s with names:=ns}∧Fr (bU x A s) H (bU x {A with nl:=p} {s with names:=ns}) (upd (upd H p (.lst (ns.map nmV))) A.nt (.ins D.aD A.ntx [("things_named",.ref p)])):=by
 have s1:aC H (upd H p (.lst (ns.map nmV))):=aC.upd hp;have nf:¬bU x A s p:=J.fresh hp;have pp:upd H p (.lst (ns.map nmV)) p=some (.lst (ns.map nmV)):=ah;refine⟨?_,DA hp (.nt) J.ant (λ_ z=>nomatch z) (λc f=>?_)⟩
 ·have J:=J.same s1
  have tk:fv (upd H p (.lst (ns.map nmV))) (upd (upd H p (.lst (ns.map nmV))) A.nt (.ins D.aD A.ntx [("things_named",.ref p)])):=fv.set J.ant (λ_ z=>nomatch z);exact⟨(by rw[af (aw J.ax J.ant (lS (show(11:Nat)≠1 by decide)))];exact J.ax),(by rw[af J.nhn];exact J.ahd),(by rw[af (aw J.ahl J.ant (by intro z;cases z))];exact J.ahl),J.rhl.keep tk,ah,(by show upd _ _ _ p=_;rw[af λe=>nf (by rw[e];exact .nt)];exact pp),(by rw[af (aw J.awt J.ant (lS (show(2:Nat)≠1 by decide)))];exact J.awt),(by rw[af (aw J.awb J.ant (by intro z;cases z))];exact J.awb),(by rw[af (aw J.awl J.ant (by intro z;cases z))];exact J.awl),(by rw[af (aw J.afh J.ant (by intro z;cases z))];exact J.afh),(λt ws m=>⟨by rw[af (aw (J.afl _ _ m).1 J.ant (by intro z;cases z))];exact(J.afl _ _ m).1,(J.afl _ _ m).2.keep tk⟩),(by rw[af (aw J.ayg J.ant (by intro z;cases z))];exact J.ayg),(by rw[af (aw J.adm J.ant (by intro z;cases z))];exact J.adm),J.nhn,(λ(e:A.hl=p)=>nf (by rw[←e];exact .hl)),J.l2,(λ(e:p=A.wl)=>nf (by rw[e];exact .wl)),(λt ws m=>⟨(J.l4 _ _ m).1,(λ(e:A.fa t=p)=>nf (by rw[←e];exact .fl m)),(J.l4 _ _ m).2.2⟩),J.l5,J.d1,J.d2,J.d3,J.d4,J.d5,J.d6⟩
 ·cases f with
  | x=>exact .inl .x
  | hd=>exact .inl .hd
  | hl=>exact .inl .hl
  | nt=>exact .inl .nt
  | nl=>exact .inr rfl
  | wt=>exact .inl .wt
  | wb=>exact .inl .wb
  | wl=>exact .inl .wl
  | fh=>exact .inl .fh
  | yg=>exact .inl .yg
  | dm=>exact .inl .dm
  | fl m=>exact .inl (.fl m)
def yo(fs:List (Int×List Wd))(t:Int):List (Int×List Wd):=fs.filter λp=>decide (p.1≠t)
theorem qA{fs:List (Int×List Wd)}{t t':Int}{ws:List Wd}:(t',ws)∈yo fs t↔(t',ws)∈fs∧t'≠t:=by unfold yo;rw[afz];simp
theorem UQ{fs:List (Int×List Wd)}{A:HA}{t:Int}:sV (fs.map (fkv A)) (Sum.inl t)=(yo fs t).map (fkv A):=by
 unfold sV yo;rw[agr];congr 1
 refine afT λp _=>?_;show decide (Sum.inl p.1≠(Sum.inl t:Key))=decide (p.1≠t);simp
theorem IH.acq(J:IH D H x A s){t:Int}:IH D (upd H A.fh (.dK ((yo s.aN t).map (fkv A)))) x A {s with aN:=yo s.aN t}∧Fr (bU x A s) H (bU x A {s with aN:=yo s.aN t}) (upd H A.fh (.dK ((yo s.aN t).map (fkv A)))):=by
 have tk:fv H (upd H A.fh (.dK ((yo s.aN t).map (fkv A)))):=fv.set J.afh (λ_ z=>nomatch z);refine⟨⟨(by rw[af (aw J.ax J.afh (by intro z;cases z))];exact J.ax),(by rw[af (aw J.ahd J.afh (by intro z;cases z))];exact J.ahd),(by rw[af (aw J.ahl J.afh (by intro z;cases z))];exact J.ahl),J.rhl.keep tk,(by rw[af (aw J.ant J.afh (by intro z;cases z))];exact J.ant),(by rw[af (aw J.anl J.afh (by intro z;cases z))];exact J.anl),(by rw[af (aw J.awt J.afh (by intro z;cases z))];exact J.awt),(by rw[af J.d1];exact J.awb),(by rw[af (aw J.awl J.afh (by intro z;cases z))];exact J.awl),ah,(λu ws m'=>by have m:=(qA.mp m').1;exact⟨by rw[af (aw (J.afl _ _ m).1 J.afh (by intro z;cases z))];exact(J.afl _ _ m).1,(J.afl _ _ m).2.keep tk⟩),(by rw[af (afi J.d4)];exact J.ayg),(by rw[af (afi J.d5)];exact J.adm),J.nhn,J.l1,J.l2,J.l3,(λu ws m=>J.l4 _ _ (qA.mp m).1),(λu ws v w m m' e=>J.l5 _ _ _ _ (qA.mp m).1 (qA.mp m').1 e),J.d1,J.d2,J.d3,J.d4,J.d5,J.d6⟩,Fr.set .fh J.afh (λ_ z=>nomatch z) (λc f=>?_)⟩;cases f with
 | x=>exact .x
 | hd=>exact .hd
 | hl=>exact .hl
 | nt=>exact .nt
 | nl=>exact .nl
 | wt=>exact .wt
 | wb=>exact .wb
 | wl=>exact .wl
 | fh=>exact .fh
 | yg=>exact .yg
 | dm=>exact .dm
 | fl m=>exact .fl (qA.mp m).1
end
inductive Led(rs:List Wd)(F:Int→List Wd)(S:List Int):Int→Prop where
 | root {t:Int}:Wd.th t∈rs→t∈S→Led rs F S t
 | step {u t:Int}:Led rs F S u→Wd.th t∈F u→t∈S→Led rs F S t
theorem Led.mem{rs:List Wd}{F:Int→List Wd}{S:List Int}{t:Int}(h:Led rs F S t):t∈S:=by cases h<;>assumption
def amg(S:List Int):Wd→Option Int
 | .th t=>if t∈S then some t else none
 | _=>none
theorem qQ{S:List Int}{w:Wd}{t:Int}:amg S w=some t↔w=.th t∧t∈S:=by
 cases w with
 | no=>exact⟨(λh=>by cases h),(λh=>by cases h.1)⟩
 | num n=>exact⟨(λh=>by cases h),(λh=>by cases h.1)⟩
 | th u =>
  show(if u∈S then some u else none)=some t↔_;by_cases c:u∈S
  ·rw[if_pos c]
   exact⟨(λh=>by cases h;exact⟨rfl,c⟩),(λh=>by cases h.1;rfl)⟩
  ·rw[if_neg c]
   exact⟨(λh=>by cases h),(λh=>by cases h.1;exact absurd h.2 c)⟩
inductive Rc(rs:List (Option Int))(F:Int→List (Option Int)):Int→Prop where
 | root {t:Int}:some t∈rs→Rc rs F t
 | step {u t:Int}:Rc rs F u→some t∈F u→Rc rs F t
theorem Y1{rs:List Wd}{F:Int→List Wd}{S:List Int}{t:Int}:Rc (rs.map (amg S)) (λu=>(F u).map (amg S)) t↔Led rs F S t:=by
 constructor
 ·intro h
  induction h with
  | root m =>
   obtain⟨w,mw,e⟩:=afk.mp m;obtain⟨rfl,c⟩:=qQ.mp e;exact .root mw c
  | step _ m ih =>
   obtain⟨w,mw,e⟩:=afk.mp m;obtain⟨rfl,c⟩:=qQ.mp e;exact .step ih mw c
 ·intro h
  induction h with
  | root m c=>exact .root (afk.mpr ⟨_,m,qQ.mpr ⟨rfl,c⟩⟩)
  | step _ m c ih=>exact .step ih (afk.mpr ⟨_,m,qQ.mpr ⟨rfl,c⟩⟩)
theorem iq:∀ {ms ks:List Int},ms.Nodup→(∀ m∈ms,m∈ks)→ms.length≤ks.length
 | [],_,_,_=>afw _
 | a::r,ks,nd,h=>by
  rw[afU]at nd;have ha:=h a afg
  have:=iq (ms:=r) (ks:=ks.erase a) nd.2 λm hm=>(List.mem_erase_of_ne (λe=>nd.1 (by rw[←e];exact hm))).mpr (h m (afn _ hm))
  rw[List.length_erase_of_mem ha]at this
  have:0<ks.length:=List.length_pos_of_mem ha
  rw[afA];omega
def Kys(kvs:List (Key×V))(ms:List Int):Prop:=kvs.map (·.1)=ms.map Sum.inl
theorem Kys.len{kvs:List (Key×V)}{ms:List Int}(k:Kys kvs ms):kvs.length=ms.length:=by have:=congrArg List.length k;simpa using this
theorem Kys.isS{kvs:List (Key×V)}{ms:List Int}(k:Kys kvs ms){t:Int}:(lM kvs (Sum.inl t)).isSome=decide (t∈ms):=by
 induction kvs generalizing ms with
 | nil=>cases ms with
  | nil=>rfl
  | cons a r=>cases k
 | cons p r ih=>cases ms with
  | nil=>cases k
  | cons a ms =>
   unfold Kys at k;rw[afq,afq]at k;injection k with k1 k2;by_cases e:a=t
   ·subst e
    rw[oA k1];simp
   ·rw[oB (λz=>e (Sum.inl.inj (k1.symm.trans z))),ih k2]
    have:(t∈a::ms)↔t∈ms:=by
     rw[aff];exact⟨λh=>h.elim (λz=>absurd z.symm e) id,.inr⟩
    simp only[this]
theorem Kys.non{kvs:List (Key×V)}{ms:List Int}(k:Kys kvs ms){t:Int}(h:t∉ms):lM kvs (Sum.inl t)=none:=by
 have:=k.isS (t:=t)
 rw[decide_eq_false h]at this;cases q:lM kvs (Sum.inl t) with
 | none=>rfl
 | some v=>rw[q]at this;cases this
theorem Kys.snoc{kvs:List (Key×V)}{ms:List Int}(k:Kys kvs ms){t:Int}{v:V}(h:t∉ms):Kys (putK kvs (Sum.inl t) v) (ms++[t]):=by
 rw[Bj v (k.non h)];unfold Kys at k ⊢;rw[ae8,ae8,k];rfl
theorem Kys.at_{kvs:List (Key×V)}{ms:List Int}(k:Kys kvs ms){i:Nat}{p:Key×V}(h:kvs[i]?=some p):∃ t,ms[i]?=some t∧kV p.1=.int t∧p.1=Sum.inl t:=by
 have h1:=congrArg (λl=>l[i]?) k;simp only[ae6,h,agd]at h1;obtain⟨t,e1,e2⟩:=afa.mp h1.symm;exact⟨t,e1,by rw[←e2];rfl,e2.symm⟩
theorem Br(ts:List Int):Kys (ts.map tkv) ts:=by unfold Kys;rw[afE];rfl
theorem Px(s:HS)(A:HA):Kys (s.aN.map (fkv A)) (keys s):=by unfold Kys keys;rw[afE,afE];rfl
def drG(fs:List (Int×List Wd))(gs:List Int):List (Int×List Wd):=fs.filter λp=>decide (p.1∉gs)
def nmG(gs:List Int)(n:Option Int):Option Int:=match n with|none=>none|some t=>if t∈gs then none else some t
def brG(bs:List (Int×Int))(gs:List Int):List (Int×Int):=bs.filter λp=>decide (p.1∉gs)
def sdG(bs:List (Int×Int))(gs:List Int):List Int:=gs.filterMap λt=>bs.lookup t
def letGo(s:HS)(gs:List Int):HS:={s with aN:=drG s.aN gs,names:=s.names.map (nmG gs),aR:=brG s.aR gs,ot:=s.ot++sdG s.aR gs}
theorem jm{fs:List (Int×List Wd)}{gs:List Int}{t:Int}{ws:List Wd}:(t,ws)∈drG fs gs↔(t,ws)∈fs∧t∉gs:=by unfold drG;rw[afz];simp
theorem QA{fs:List (Int×List Wd)}{gs:List Int}{t:Int}:drG fs (gs++[t])=yo (drG fs gs) t:=by
 unfold drG yo;rw[List.filter_filter];refine afT λp _=>?_;simp[afd,not_or,Bool.and_comm]
theorem JJ{fs:List (Int×List Wd)}:drG fs []=fs:=by unfold drG;simp
theorem L3{bs:List (Int×Int)}{gs:List Int}{t:Int}:brG bs (gs++[t])=(brG bs gs).filter λp=>decide (p.1≠t):=by
 unfold brG;rw[List.filter_filter];refine afT λp _=>?_;simp[afd,not_or,Bool.and_comm]
theorem F6{bs:List (Int×Int)}{gs:List Int}{t:Int}(h:t∉gs):(brG bs gs).lookup t=bs.lookup t:=by
 unfold brG;induction bs with
 | nil=>rfl
 | cons p r ih =>
  obtain⟨a,b⟩:=p;rw[List.filter_cons];by_cases c:a∈gs
  ·rw[if_neg (by simpa using c),ih,afV]
   rw[show(t == a)=false from beq_eq_false_iff_ne.mpr λe=>h (by rw[e];exact c)]
  ·rw[if_pos (by simpa using c),afV,afV,ih]
theorem UR{bs:List (Int×Int)}{t:Int}:sV (bs.map bkv) (Sum.inl t)=(bs.filter λp=>decide (p.1≠t)).map bkv:=by
 unfold sV;rw[agr];congr 1
 refine afT λp _=>?_;show decide (Sum.inl p.1≠(Sum.inl t:Key))=decide (p.1≠t);simp
theorem filter_none{bs:List (Int×Int)}{t:Int}(h:bs.lookup t=none):(bs.filter λp=>decide (p.1≠t))=bs:=List.filter_eq_self.mpr λp hp=>by simpa using lookup_none h p hp
theorem Gu{bs:List (Int×Int)}{gs:List Int}{t:Int}:sdG bs (gs++[t])=sdG bs gs++(match bs.lookup t with|some v=>[v]|none=>[]):=by
 unfold sdG;rw[agh];congr 1
 cases e:bs.lookup t with
 | none=>simp[e]
 | some v=>simp[e]
structure Wk(H H4:Hp)(st mt:Addr)(rs:List (Option Int))(F:Int→List (Option Int))(S:List Int)(kvs:List (Key×V))(ms:List Int):Prop where
 sm:aC H H4
 hs:H4 st=some (.dK kvs)
 ky:Kys kvs ms
 nd:ms.Nodup
 sub:∀ m∈ms,m∈S
 snd:∀ m∈ms,Rc rs F m
 hm:H4 mt=some (.lst (ms.map V.int))
 rts:∀ t,some t∈rs→t∈ms
theorem Wk.same{H H4 H5:Hp}{st mt:Addr}{rs:List (Option Int)}{F:Int→List (Option Int)}{S:List Int}{kvs:List (Key×V)}{ms:List Int}(w:Wk H H4 st mt rs F S kvs ms)(k:aC H4 H5):Wk H H5 st mt rs F S kvs ms :=
 ⟨w.sm.trans k,k _ _ w.hs,w.ky,w.nd,w.sub,w.snd,k _ _ w.hm,w.rts⟩
theorem Wk.put{H H4:Hp}{st mt:Addr}{rs:List (Option Int)}{F:Int→List (Option Int)}{S:List Int}{kvs:List (Key×V)}{ms:List Int}(w:Wk H H4 st mt rs F S kvs ms)(h1:H st=none)(h2:H mt=none){n:Int}{v:V}(hn:n∉ms)(hS:n∈S)(hr:Rc rs F n) :
  Wk H (upd (upd H4 st (.dK (putK kvs (Sum.inl n) v))) mt (.lst (ms.map V.int++[.int n]))) st mt rs F S (putK kvs (Sum.inl n) v) (ms++[n]):=by
 have ne:st≠mt:=aw w.hs w.hm (by intro z;cases z);refine⟨λb u q=>?_,?_,w.ky.snoc hn,?_,λm h=>?_,λm h=>?_,?_,λt h=>afj _ (w.rts t h)⟩
 ·rw[af (aq q h2),af (aq q h1)]
  exact w.sm b u q
 ·rw[af ne]
  exact ah
 ·rw[af8]
  exact⟨w.nd,by simp,λa ha b hb=>by rw[aeX.mp hb];exact λe=>hn (by rw[←e];exact ha)⟩
 ·rcases afd.mp h with g|g
  ·exact w.sub m g
  ·rw[aeX.mp g];exact hS
 ·rcases afd.mp h with g|g
  ·exact w.snd m g
  ·rw[aeX.mp g];exact hr
 ·rw[ae8]
  exact ah
theorem L4{ms:List Int}{n:Int}(nd:ms.Nodup)(hn:n∉ms):(ms++[n]).Nodup:=by
 rw[af8];exact⟨nd,by simp,λa ha b hb=>by rw[aeX.mp hb];exact λe=>hn (by rw[←e];exact ha)⟩
theorem Y2{rs:List (Option Int)}{F:Int→List (Option Int)}{ms:List Int}(h0:∀ t,some t∈rs→t∈ms)(h1:∀ u∈ms,∀ t,some t∈F u→t∈ms){t:Int}(h:Rc rs F t):t∈ms:=by
 induction h with
 | root m=>exact h0 _ m
 | step _ m ih=>exact h1 _ ih _ m
def L5:Sp:=λvs H Q _=>∃(v r d:Addr) (rs:List (Option Int)) (S:List Int) (F:Int→List (Option Int)) (ad:Int→Addr),vs=[.ref v]∧H v=some (.tup [.ref r,.ref d])∧H r=some (.lst (rs.map nmV))∧H d=some (.dK (S.map λt=>(Sum.inl t,.ref (ad t))))∧(∀ t∈S,H (ad t)=some (.lst ((F t).map nmV)))∧(∀ t,some t∈rs→t∈S)∧(∀ u∈S,∀ t,some t∈F u→t∈S)∧S.length≤10000∧∀ st kvs ms H',aC H H'→H st=none→H' st=some (.dK kvs)→Kys kvs ms→ms.Nodup→(∀ t,t∈ms↔Rc rs F t)→Q (.ref st) H'
abbrev IG:List Str:=["view", "steps", "place", "thing", "met", "done"]
theorem eT:av IG ["view"] (ar qU):=⟨rfl,rfl,rfl,by decide +kernel,rfl,by decide +kernel,by decide +kernel⟩
theorem GQ(F:Fun K "last_steps" "last_steps" qU D.fF D.kF)(T:Txt K mg D):Ok P w K mg base 1 D.fF D.kF ["view"] (L5):=by
 refine⟨?_,F.binds (ps:=["view"]) λ_ _ _ _ _ _ us hl=>match us,hl with|[_],_=>rfl⟩
 refine F.okE eT (λvs H Q E h=>?_) (λcdv A' outer s' H vs Q E hr h=>?_)
 ·obtain⟨v,r,d,rs,S,F,ad,rfl,_⟩:=h
  rfl
 ·obtain⟨v,r,d,rs,S,F,ad,rfl,ht,hrs,hd,PU,hrt,hcl,R1,k⟩:=h
  have hu:=lL hr;refine⟨_,(PSs.nox (ak (bF (i:=1) eT.nd rfl (Or.inl rfl) mO)
   (ak (mX afv rfl (JC rfl T.mE (ae (b9 cv (pv 0) au (λ_ _=>rfl)) ao)) (JR rfl (j1 (eh (i:=2) eT.nd rfl (Or.inl rfl)) (j1 (eh (i:=3) eT.nd rfl (Or.inl rfl)) FE)))
    (ai (dM (PW.pt (pw_and (aU FG (pv 3) j3 (cu _)) (pw_and1 (qL (j5 hu (pv 3) (pv 1)) (by with_unfolding_all rfl)))))
     (ai (sP hu (pv 1) (pv 3) (g9 (ae j3 (ae (pv 2) ao))) rfl))
     bQ)))
   (ak (bF (i:=4) eT.nd rfl (Or.inl rfl) (lV (FR rfl) rfl T.sY PyProof.Rows.Boot.«list» (ae (pv 1) ao)))
   (ak (bF (i:=5) eT.nd rfl (Or.inl rfl) au)
   (ak (Lz afv (aU FF (pv 5) (gK iC rfl T.Bo PyProof.Rows.Boot.«len» (ae (pv 4) ao)) (cu _))
    (ak (mX afv rfl (JC rfl T.mE (ae (qd hu (b9 cv (pv 0) au (λ_ _=>rfl)) (b9 gj (pv 4) (pv 5) (λ_ _=>rfl)) (λ_ _=>rfl)) ao)) (JR rfl (j1 (eh (i:=2) eT.nd rfl (Or.inl rfl)) (j1 (eh (i:=3) eT.nd rfl (Or.inl rfl)) FE)))
     (ai (dM (PW.pt (pw_and (aU FG (pv 3) j3 (cu _)) (pw_and1 (qL (j5 hu (pv 3) (pv 1)) (by with_unfolding_all rfl)))))
      (ak (sP hu (pv 1) (pv 3) (g9 (ae (b9 gj (pv 4) (pv 5) (λ_ _=>rfl)) (ae (pv 2) ao))) rfl)
      (ai (aG (FK PySem.F.plainAttrs_list PySem.F.slot_list_append PySem.F.type_list_append lW (pv 4) (ae (pv 3) ao)))))
      bQ)))
    (ai (Yr (i:=5) eT.nd rfl (Or.inl rfl) au Ys))))
   (ai (aV (pv 1))))))))),?_⟩
  refine λst hst=>?_;have s0:aC H (upd H st (.dK [])):=aC.upd hst;have kyS:Kys (S.map λt=>((Sum.inl t:Key),V.ref (ad t))) S:=by unfold Kys;rw[afE];rfl
  have dgS:∀ {Hc:Hp},aC H Hc→∀ {t:Int},t∈S→qc Hc d (.int t) (some (.ref (ad t))):=λ{Hc} sc {t} m=>by
   have e:lM (S.map λt=>((Sum.inl t:Key),V.ref (ad t))) (Sum.inl t)=some (.ref (ad t)):=by
    clear kyS R1 hcl hrt PU hd;induction S with
    | nil=>cases m
    | cons a r ih =>
     rw[afq];by_cases c:a=t
     ·rw[oA (by show Sum.inl a=Sum.inl t;rw[c]),c]
     ·rw[oB (λz=>c (Sum.inl.inj z))]
      exact ih ((aff.mp m).resolve_left λz=>c z.symm)
   exact .inl ⟨_,Sum.inl t,.inl (sc _ _ hd),rfl,e.symm⟩
  have few:∀ {kvs:List (Key×V)} {ms:List Int},Kys kvs ms→ms.Nodup→(∀ m∈ms,m∈S)→kvs.length<sizeLine:=λk nd h=>by rw[k.len];exact qP (afe (iq nd h) (by omega))
  refine⟨_,rfl,v,_,0,.ref r,rfl,rfl,SqT.of (s0 _ _ ht),rfl,r,rfl,⟨_,SqL.of (s0 _ _ hrs)⟩,Gn (K:=K) (a:=r) (xs:=rs.map nmV) (λi σ H2=>∃(v2 v3:Option V) (kvs:List (Key×V)) (ms:List Int),σ=[some (.ref v),some (.ref st),v2,v3,none,none]∧aC H H2∧H2 st=some (.dK kvs)∧Kys kvs ms∧ms.Nodup∧(∀ m∈ms,m∈S)∧(∀ m∈ms,Rc rs F m)∧∀(j:Nat) t,j<i→rs[j]?=some (some t)→t∈ms)
   ⟨none,none,[],[],rfl,s0,ah,rfl,List.nodup_nil,(λt h=>nomatch h),(λt h=>nomatch h),(λj t h=>absurd h (agC _))⟩ (λi σ H2 _ ⟨_,_,_,_,_,s2,_⟩=>SqL.of (s2 _ _ hrs)) ?_ ?_⟩
  ·rintro i x σ H2 t hx ⟨v2,v3,kvs,ms,rfl,s2,hs,ky,nd,sub,snd,ES⟩ htt
   have hi:i<rs.length:=(by have:=(aeY.mp hx).1;rwa[aeV]at this);have ri:rs[i]?=some rs[i]:=aeW hi;have hxe:x=nmV rs[i]:=by
    rw[ae6,ri]at hx;exact(afo hx).symm
   subst hxe;have s3:aC H2 (upd H2 t (.tup [.int (i:Int),nmV rs[i]])):=aC.upd htt;refine⟨t,_,rfl,SqT.of ah,rfl,_,_,rfl,_,_,rfl,rfl,?_⟩;cases hc:rs[i] with
   | none =>
    rw[hc]at s3 ri;refine⟨_,rfl,rfl,_,rfl,jd (jd ⟨_,_,kvs,ms,rfl,s2.trans s3,s3 _ _ hs,ky,nd,sub,snd,λj t hj e=>?_⟩)⟩;rcases afX j i with z|z
    ·exact ES j t z e
    ·rw[show j=i by omega,ri]at e
     cases e
   | some n =>
    rw[hc]at s3 ri;have mr:=ae7 ri;refine⟨_,rfl,rfl,_,rfl,oH ⟨_,rfl,_,rfl,st,_,rfl,qc.k (k:=Sum.inl n) (s3 _ _ hs),_,rfl,?_⟩⟩;rw[ky.isS];by_cases hin:n∈ms
    ·rw[decide_eq_true hin]
     refine jd ⟨_,_,kvs,ms,rfl,s2.trans s3,s3 _ _ hs,ky,nd,sub,snd,λj t hj e=>?_⟩;rcases afX j i with z|z
     ·exact ES j t z e
     ·rw[show j=i by omega,ri]at e
      cases e;exact hin
    ·rw[decide_eq_false hin]
     refine oH ⟨_,rfl,by show 2≤sizeLine;decide,λu hu'=>?_⟩;have s4:=aC.upd (o:=.tup [V.non,V.int (i:Int)]) hu';refine⟨_,rfl,_,rfl,st,_,rfl,HN.k (k:=Sum.inl n) (s4 _ _ (s3 _ _ hs)) (few ky nd sub),_,_,putK kvs (Sum.inl n) (.ref u),ms++[n],rfl,λc u' g=>by rw[af (aq g hst)];exact s4 _ _ (s3 _ _ (s2 c u' g)),ah,ky.snoc hin,L4 nd hin,λm h=>?_,λm h=>?_,λj t hj e=>?_⟩
     ·rcases afd.mp h with g|g
      ·exact sub m g
      ·rw[aeX.mp g];exact hrt n mr
     ·rcases afd.mp h with g|g
      ·exact snd m g
      ·rw[aeX.mp g];exact .root mr
     ·rcases afX j i with z|z
      ·exact afj _ (ES j t z e)
      ·rw[show j=i by omega,ri]at e
       cases e;exact aeZ _ afg
  ·rintro σ H2 ⟨v2,v3,kvs,ms,rfl,s2,hs,ky,nd,sub,snd,ES⟩
   refine⟨_,rfl,st,_,ms,rfl,.inl hs,ky,λmt hmt=>?_⟩;have s3:=aC.upd (o:=.lst (ms.map V.int)) hmt;have aeE:H mt=none:=aC.none s2 hmt;refine⟨λm σ H4=>∃(dn:Nat) (v2 v3:Option V) (kvs:List (Key×V)) (ms:List Int),m=S.length+1-dn∧σ=[some (.ref v),some (.ref st),v2,v3,some (.ref mt),some (.int (dn:Int))]∧Wk H H4 st mt rs F S kvs ms∧(∀ u∈ms.take dn,∀ t,some t∈F u→t∈ms)∧dn≤ms.length,⟨_,0,v2,v3,kvs,ms,rfl,rfl,⟨s2.trans s3,s3 _ _ hs,ky,nd,sub,snd,ah,λt h=>?_⟩,(λu h=>nomatch h),afw _⟩,?_⟩
   ·obtain⟨j,hj⟩:=List.mem_iff_getElem?.mp h
    exact ES j t (by rw[aeV];exact(aeY.mp hj).1) hj
   clear hs ky nd sub snd ES s3 s2;rintro m σ H4 ⟨dn,v2,v3,kvs,ms,rfl,rfl,W,don,hdl⟩;have ml:=iq W.nd W.sub;refine⟨_,rfl,_,rfl,mt,_,rfl,.inl (SqL.of W.hm),_,_,rfl,rfl,_,rfl,aQ (λh=>?_) (λh=>?_)⟩
   ·have hd1:dn<ms.length:=by
     have h1:(dn:Int)<((ms.map V.int).length:Int):=(by simpa using h);rw[aeV]at h1;omega
    refine⟨λσ' H'=>∃ m',m'<S.length+1-dn∧∃(dn:Nat) (v2 v3:Option V) (kvs:List (Key×V)) (ms:List Int),m'=S.length+1-dn∧σ'=[some (.ref v),some (.ref st),v2,v3,some (.ref mt),some (.int (dn:Int))]∧Wk H H' st mt rs F S kvs ms∧(∀ u∈ms.take dn,∀ t,some t∈F u→t∈ms)∧dn≤ms.length,λ_ _ h=>h,?_⟩;have tk:ms.take (dn+1)=ms.take dn++[ms[dn]]:=afs hd1;obtain⟨t,et⟩:∃ t,ms[dn]=t:=⟨_,rfl⟩;obtain⟨pre,US⟩:∃ pre,ms.take dn=pre:=⟨_,rfl⟩;rw[et,US]at tk;rw[US]at don;have aeF:pre.length=dn:=(by rw[←US,afm];omega);have htm:t∈ms:=(by rw[←et];exact afW hd1);have hin:t∈S:=W.sub t htm;have at_:∀ {ns:List Int},ns.take (dn+1)=pre++[t]→ns[dn]?=some t:=λ{ns} e=>by
     have:(ns.take (dn+1))[dn]?=some t:=by rw[e,afr (by omega),aeF,Nat.sub_self];rfl
     rwa[List.getElem?_take_of_lt (agz _)]at this
    have hat:∀ {ns:List Int},ns.take (dn+1)=pre++[t]→atI (ns.map V.int) (dn:Int)=some (.int t):=λe=>Bx (by rw[ae6,at_ e];rfl);have rw_:=PU t hin;refine⟨_,rfl,v,_,1,.ref d,rfl,rfl,SqT.of (W.sm _ _ ht),rfl,_,rfl,_,rfl,mt,_,_,.int t,rfl,rfl,SqL.of W.hm,hat tk,d,_,rfl,dgS W.sm hin,ad t,rfl,⟨_,SqL.of (W.sm _ _ rw_)⟩,
     Gn (K:=K) (a:=ad t) (xs:=(F t).map nmV) (λj σ H6=>∃(v2 v3:Option V) (kvs:List (Key×V)) (ms:List Int),σ=[some (.ref v),some (.ref st),v2,v3,some (.ref mt),some (.int (dn:Int))]∧Wk H H6 st mt rs F S kvs ms∧ms.take (dn+1)=pre++[t]∧dn<ms.length∧(∀ u∈pre,∀ t,some t∈F u→t∈ms)∧∀(q:Nat) n,q<j→(F t)[q]?=some (some n)→n∈ms)
     ⟨v2,v3,kvs,ms,rfl,W,tk,hd1,don,(λq n h=>absurd h (agC _))⟩ (λj σ H6 _ ⟨_,_,_,_,_,w6,_⟩=>SqL.of (w6.sm _ _ rw_)) ?_ ?_⟩
    ·clear W don hdl ml hd1 tk et US htm
     rintro j x σ H6 u hx ⟨v2,v3,kvs,ms,rfl,W,tk,hd1,don,ES⟩ hut;have hlj:j<(F t).length:=(by have:=(aeY.mp hx).1;rwa[aeV]at this);have fj:(F t)[j]?=some (F t)[j]:=aeW hlj;have hxe:x=nmV (F t)[j]:=by
      rw[ae6,fj]at hx;exact(afo hx).symm
     subst hxe;have htm:t∈ms:=ae7 (at_ tk);refine⟨u,_,rfl,SqT.of ah,rfl,_,_,rfl,_,_,rfl,rfl,?_⟩;cases hc:(F t)[j] with
     | none =>
      rw[hc]at fj;have s7:=aC.upd (o:=.tup [.int (j:Int),nmV none]) hut;refine⟨_,rfl,rfl,_,rfl,jd (jd ⟨_,_,kvs,ms,rfl,W.same s7,tk,hd1,don,λq n hq e=>?_⟩)⟩;rcases afX q j with z|z
      ·exact ES q n z e
      ·rw[show q=j by omega,fj]at e
       cases e
     | some n =>
      rw[hc]at fj;have mf:=ae7 fj;have hk:n∈S:=hcl t hin n mf;have s7:=aC.upd (o:=.tup [.int (j:Int),nmV (some n)]) hut;have W7:=W.same s7;refine⟨_,rfl,rfl,_,rfl,oH ⟨_,rfl,_,rfl,st,_,rfl,qc.k (k:=Sum.inl n) W7.hs,_,rfl,?_⟩⟩;rw[W7.ky.isS];by_cases hn6:n∈ms
      ·rw[decide_eq_true hn6]
       refine jd ⟨_,_,kvs,ms,rfl,W7,tk,hd1,don,λq n' hq e=>?_⟩;rcases afX q j with z|z
       ·exact ES q n' z e
       ·rw[show q=j by omega,fj]at e
        cases e;exact hn6
      ·rw[decide_eq_false hn6]
       refine oH ⟨_,rfl,_,rfl,mt,_,_,.int t,rfl,rfl,SqL.of W7.hm,hat tk,_,rfl,by show 2≤sizeLine;decide,λu2 hu2=>?_⟩;have s8:=aC.upd (o:=.tup [V.int t,V.int (j:Int)]) hu2;have W8:=W7.same s8;have W9:=W8.put (v:=.ref u2) hst aeE hn6 hk (.step (W.snd t htm) mf);have nms:mt≠st:=aw W8.hm W8.hs (by intro z;cases z);have zm9:upd (upd (upd H6 u (.tup [.int (j:Int),nmV (some n)])) u2 (.tup [V.int t,V.int (j:Int)])) st (.dK (putK kvs (Sum.inl n) (.ref u2))) mt=some (.lst (ms.map V.int)):=(by rw[af nms];exact W8.hm);refine⟨_,rfl,_,rfl,st,_,rfl,HN.k (k:=Sum.inl n) W8.hs (few W8.ky W8.nd W8.sub),?_⟩;refine⟨_,rfl,.inl ⟨rfl,_,SqL.of zm9⟩,_,rfl,mt,_,_,rfl,rfl,zm9,by rw[aeV];exact qP (afe (iq W8.nd W8.sub) (by omega)),?_⟩;refine⟨_,_,_,ms++[n],rfl,W9,by rw[List.take_append_of_le_length (by omega)];exact tk,by rw[ae3];omega,λu h t' e=>afj _ (don u h t' e),λq n' hq e=>?_⟩;rcases afX q j with z|z
       ·exact afj _ (ES q n' z e)
       ·rw[show q=j by omega,fj]at e
        cases e;exact aeZ _ afg
    ·clear W don hdl ml hd1 tk et US htm
     rintro σ H6 ⟨v2,v3,kvs,ms,rfl,W,tk,hd1,don,ES⟩;rw[aeV]at ES;have ml:=iq W.nd W.sub;refine⟨_,rfl,_,1,rfl,rfl,S.length+1-(dn+1),by omega,dn+1,v2,v3,kvs,ms,rfl,rfl,W,λu h t' e=>?_,hd1⟩;rw[tk]at h;rcases afd.mp h with g|g
     ·exact don u g t' e
     ·rw[aeX.mp g]at e
      obtain⟨q,hq⟩:=List.mem_iff_getElem?.mp e;exact ES q t' (aeY.mp hq).1 hq
   ·have hge:ms.length≤dn:=by
     have h1:¬(dn:Int)<((ms.map V.int).length:Int):=(by simpa using h);rw[aeV]at h1;omega
    rw[ae9 hge]at don;exact⟨_,rfl,k st kvs ms H4 W.sm hst W.hs W.ky W.nd λt=>⟨W.snd t,Y2 W.rts don⟩⟩
theorem JK{H:Hp}{xs:List V}{ws:List Wd}(r:Rel H xs ws){i:Nat}{x:V}(h:xs[i]?=some x):∃ w,ws[i]?=some w∧WV H x w:=by
 have hi:=(aeY.mp h).1;have hw:i<ws.length:=by rw[←r.1];exact hi
 obtain⟨v,hv,wv⟩:=r.get hw;rw[hv]at h;cases h;exact⟨_,aeW hw,wv⟩
def Ye:Sp:=λvs H Q _=>∃ v w d kvs S,vs=[v,.ref d]∧WV H v w∧Rd H d (.dK kvs)∧Kys kvs S∧Q (nmV (amg S w)) H
abbrev GR:List Str:=["value", "things"]
theorem E8:av GR ["value", "things"] (ar pP):=⟨rfl,rfl,rfl,by decide +kernel,rfl,by decide +kernel,by decide +kernel⟩
theorem E9(F:Fun K "thing_among" "thing_among" pP D.eR D.jN)(T:Txt K mg D)
  (j7:Ok P w K mg base 1 D.iX D.oj ["value"] (NH)):Ok P w K mg base 2 D.eR D.jN ["value", "things"] (Ye):=by
 refine⟨?_,F.binds (ps:=["value", "things"]) λ_ _ _ _ _ _ us hl=>match us,hl with|[_,_],_=>rfl⟩
 refine F.okE E8 (λvs H Q E h=>?_) (λcdv A' outer s' H vs Q E hr h=>?_)
 ·obtain⟨v,w,d,kvs,S,rfl,_⟩:=h
  rfl
 ·obtain⟨v,w,d,kvs,S,rfl,wv,hd,hk,k⟩:=h
  have hu:=lL hr;refine⟨_,(PSs.nox (ak (dM (PW.pt (pw_and (aU pj (bj j7.g (hr.mono (by decide)) rfl T.HW T.vH j7.b .nil fz (ae (pv 0) ao)) bJ (cu _)) (pw_and1 (qL (QZ hu (b9 cv (pv 0) au (λ_ _=>rfl)) (pv 1)) (by with_unfolding_all rfl)))))
    (ai (aV (b9 cv (pv 0) au (λ_ _=>rfl))))
    bQ)
   (ai (aV j3)))),?_⟩
  refine⟨_,rfl,v,w,rfl,wv,?_⟩;cases w with
  | no=>exact⟨rfl,_,rfl,aQ (λh=>absurd h (afB.mp (by kernel_rfl))) (λ_=>jd k)⟩
  | num n=>exact⟨rfl,_,rfl,aQ (λh=>absurd h (afB.mp (by kernel_rfl))) (λ_=>jd k)⟩
  | th t =>
   obtain⟨a,rfl,ht⟩:=wv;refine⟨rfl,_,rfl,aQ (λ_=>?_) (λh=>absurd (by kernel_rfl) h)⟩;refine⟨_,rfl,a,_,1,.int t,rfl,rfl,SqT.of ht,rfl,_,rfl,d,_,rfl,.inl ⟨kvs,Sum.inl t,hd,rfl,rfl⟩,_,rfl,?_⟩;rw[hk.isS];by_cases c:t∈S
   ·rw[decide_eq_true c]
    rw[show amg S (.th t)=some t from if_pos c]at k;exact oH ⟨_,rfl,a,_,1,.int t,rfl,rfl,SqT.of ht,rfl,k⟩
   ·rw[decide_eq_false c]
    rw[show amg S (.th t)=none from if_neg c]at k;exact jd k
def Kc(D:Ad):Sp:=λvs H Q _=>∃ x A s l xs ws d kvs S,vs=[.ref x,.ref l,.ref d]∧IH D H x A s∧Good s∧H l=some (.lst xs)∧Rel H xs ws∧ws.length≤100000∧H d=some (.dK kvs)∧Kys kvs S∧(∀ t∈S,∃ ws,(t,ws)∈s.aN)∧S.Nodup∧S.length≤10000∧∀ st kv ms H',aC H H'→H st=none→H' st=some (.dK kv)→Kys kv ms→ms.Nodup→(∀ t,t∈ms↔Led ws (fld s) S t)→Q (.ref st) H'
abbrev lJ:List Str:=["self", "leads", "things", "fields", "t"]
theorem ko:av lJ ["self", "leads", "things"] (ar gQ):=⟨rfl,rfl,rfl,by decide +kernel,rfl,by decide +kernel,by decide +kernel⟩
theorem zj(F:Fun K "led_among" "Heap.led_among" gQ D.bt D.eM)(T:Txt K mg D)
  (iO:Ok P w K mg base 2 D.eR D.jN ["value", "things"] (Ye))
  (nB:Ok P w K mg base 1 D.fF D.kF ["view"] (L5)):Ok P w K mg base 3 D.bt D.eM ["self", "leads", "things"] (Kc D):=by
 refine⟨?_,F.binds (ps:=["self", "leads", "things"]) λ_ _ _ _ _ _ us hl=>match us,hl with|[_,_,_],_=>rfl⟩
 refine F.okE ko (λvs H Q E h=>?_) (λcdv A' outer s' H vs Q E hr h=>?_)
 ·obtain⟨x,A,s,l,xs,ws,d,kvs,S,rfl,_⟩:=h
  rfl
 ·obtain⟨x,A,s,l,xs,ws,d,kvs,S,rfl,J,G,hl,rx,hw,hd,hk,hin,hnd,R1,k⟩:=h
  have hu:=lL hr;refine⟨_,(PSs.nox (ak (bF (i:=3) ko.nd rfl (Or.inl rfl) mO)
   (ak (mX afv rfl (vO (EO (pv 2))) (eh (i:=4) ko.nd rfl (Or.inl rfl))
    (ai (sP hu (pv 3) (pv 4) (BB (cl:=[("things",s'.heap.objs.size+1)]) (x := "value") (idx:=[2]) (NC:=["value", "things"]) ?co2 rfl (jc (qd hu (aH (pv 0) rfl) (pv 4) (λ_ _=>rfl))) (λC fp s₀ H₀=>(bj iO.g (hr.mono (by decide)) rfl T.vP T.lR iO.b .nil ya (ae (pv 0) (ae (pv 1) ao))))) rfl)))
   (ai (aV (Ra (bj nB.g (hr.mono (by decide)) rfl T.Io T.ra nB.b .nil fz (ae (g9 (ae (BB (cl:=[("things",s'.heap.objs.size+1)]) (x := "value") (idx:=[2]) (NC:=["value", "things"]) ?co1 rfl (jc (pv 1)) (λC fp s₀ H₀=>(bj iO.g (hr.mono (by decide)) rfl T.vP T.lR iO.b .nil ya (ae (pv 0) (ae (pv 1) ao))))) (ae (pv 3) ao))) ao)))))))),?_⟩
  case co1 =>
   exact kZ (sc:=ar gQ) (N:=lJ) (ns:=["things"]) rfl rfl rfl (by decide +kernel) rfl rfl (by
    intro q hq;rw[aeX.mp hq];rfl)
  case co2 =>
   exact kZ (sc:=ar gQ) (N:=lJ) (ns:=["things"]) rfl rfl rfl (by decide +kernel) rfl rfl (by
    intro q hq;rw[aeX.mp hq];rfl)
  intro fa hfa;have s1:=aC.upd (o:=.dK []) hfa;refine⟨_,rfl,d,kvs,s1 _ _ hd,λo=>?_⟩;have nfd:fa≠d:=afi (aq hd hfa);have xd:x≠d:=aw J.ax hd (by intro z;cases z);have ld:l≠d:=aw hl hd (by intro z;cases z);have okH:∀ Hc:Hp,((∀ b u,b≠d→H b=some u→Hc b=some u)∧Hc d=some (.frz o (.dK kvs)))→fv H Hc:=λHc oc b us q=>oc.1 b _ (aw q hd (by intro z;cases z)) q;have dg:∀ {Hc:Hp},((∀ b u,b≠d→H b=some u→Hc b=some u)∧Hc d=some (.frz o (.dK kvs)))→∀ {t:Int} {ws:List Wd},(t,ws)∈s.aN→qc Hc A.fh (.int t) (some (.ref (A.fa t))):=λ{Hc} oc {t ws} m=>by
   have e:lM (s.aN.map (fkv A)) (Sum.inl t)=some (.ref (A.fa t)):=(by rw[Ri,G.get m];rfl);by_cases c:A.fh=d
   ·have ek:kvs=s.aN.map (fkv A):=by
     have:=J.afh
     rw[c,hd]at this;injection this with this;injection this
    exact .inl ⟨kvs,Sum.inl t,.inr ⟨o,by rw[c];exact oc.2⟩,rfl,by rw[ek,e]⟩
   ·exact .inl ⟨_,Sum.inl t,.inl (oc.1 _ _ c J.afh),rfl,e.symm⟩
  have lk:=hk.len;refine⟨d,o,kvs,rfl,ah,Bl (d:=d) (o:=o) (kvs:=kvs) (λi σ Hc=>∃(v4:Option V) (ad:Int→Addr),σ=[some (.ref x),some (.ref l),some (.ref d),some (.ref fa),v4]∧((∀ b u,b≠d→H b=some u→Hc b=some u)∧Hc d=some (.frz o (.dK kvs)))∧Hc fa=some (.dK ((S.take i).map λt=>(Sum.inl t,.ref (ad t))))∧∀ t∈S.take i,Hc (ad t)=some (.lst (((fld s t).map (amg S)).map nmV)))
   ⟨none,λ_=>0,rfl,⟨λb u n q=>by rw[af n];exact s1 b u q,ah⟩,by rw[af nfd];exact ah,(λt h=>nomatch h)⟩ (λi σ Hc _ ⟨_,_,_,oc,_⟩=>oc.2) ?_ ?_⟩
  ·rintro i p σ Hc hi ⟨v4,ad,rfl,oc,hf,PU⟩
   obtain⟨t,ht,ekv,ep⟩:=hk.at_ hi;have hlt:i<S.length:=(aeY.mp ht).1;have et:S[i]=t:=(aeY.mp ht).2;have mt:t∈S:=ae7 ht;obtain⟨w0,m⟩:=hin t mt;obtain⟨hl0,rl⟩:=J.afl _ _ m;have tc:=okH Hc oc;have fm:=G.fld m;rw[←fm]at rl;have nl:A.fa t≠d:=aw hl0 hd (by intro z;cases z);have hlc:=oc.1 _ _ nl hl0;have f6:=G.f6 _ _ m;rw[←fm]at f6;have lz:(fld s t).length≤sizeLine:=pU (by omega);refine⟨_,rfl,x,D.aa,_,_,.ref A.fh,rfl,oc.1 _ _ xd J.ax,T.ab,T.az,qt,_,rfl,A.fh,.ref (A.fa t),rfl,(by rw[ekv];exact dg oc m),A.fa t,rfl,⟨_,SqL.of hlc⟩,λL hL=>?_⟩;refine qv (K:=K) (a:=A.fa t) (xs:=A.fx t) (λi ys H2=>ys=((fld s t).take i).map (λw=>nmV (amg S w))∧aC Hc H2∧H2 L=some (.lst ys)) ⟨rfl,aC.upd hL,ah⟩ (λi ys H2 hi ⟨e,_,z⟩=>⟨z,by rw[e,aeV,afm,←rl.1];omega⟩) (λi ys H2 hi ⟨_,s2,_⟩=>SqL.of (s2 _ _ hlc)) (by rw[rl.1];exact lz) (λi y ys H2 hi ⟨e,s2,z⟩=>?_) (λys H2 ⟨e,s2,z⟩=>?_)
   ·obtain⟨wd,hw,wv⟩:=JK rl hi
    refine⟨_,rfl,_,rfl,y,wd,d,kvs,S,rfl,wv.keep (tc.trans (fv.of s2)),.inr ⟨o,s2 _ _ oc.2⟩,hk,z,?_,λb u q=>by rw[af (aq q hL)];exact s2 b u q,ah⟩;have hlt:i<(fld s t).length:=(aeY.mp hw).1;rw[afs hlt,ae8,e,(aeY.mp hw).2];rfl
   ·rw[rl.1,ae9 (ae1 _)]at e
    have zf:H2 fa=some (.dK ((S.take i).map λt=>(Sum.inl t,.ref (ad t)))):=s2 _ _ hf;have kyf:Kys ((S.take i).map λt=>((Sum.inl t:Key),V.ref (ad t))) (S.take i):=(by unfold Kys;rw[afE];rfl);have ni:t∉S.take i:=λz=>by
     have:=af8.mp (show(S.take i++S.drop i).Nodup by rw[agi];exact hnd)
     exact this.2.2 t z t (by rw[af9 hlt,et];exact afg) rfl
    have nLf:L≠fa:=afi (aq hf hL);refine⟨_,rfl,_,rfl,fa,_,rfl,(by rw[ekv];exact HN.k (k:=Sum.inl t) zf (by rw[aeV,afm];exact qP (by omega))),?_⟩;rw[Bj _ (kyf.non ni)];refine⟨_,λu=>if u=t then L else ad u,rfl,⟨λb u n q=>?_,?_⟩,?_,λu hu'=>?_⟩
    ·rw[af (aq q hfa)]
     exact s2 _ _ (oc.1 b u n q)
    ·rw[af (afi nfd)]
     exact s2 _ _ oc.2
    ·rw[ah,afs hlt,ae8,et]
     congr 3
     ·refine afP λu hu'=>?_
      dsimp only;rw[if_neg λz=>ni (by rw[←z];exact hu')]
     ·simp only[afq,agg,if_true]
    ·rw[afs hlt,et]at hu'
     dsimp only;by_cases c:u=t
     ·subst c
      rw[if_pos rfl,af nLf,z,e,afE];rfl
     ·rw[if_neg c]
      have mu:u∈S.take i:=(afd.mp hu').resolve_right λz=>c (aeX.mp z);have q:=PU u mu;rw[af (λz=>by rw[z,hf]at q;cases q)];exact s2 _ _ q
  ·rintro σ Hc ⟨v4,ad,rfl,oc,hf,PU⟩
   rw[lk,ae9 (ae1 _)]at hf PU;have tc:=okH Hc oc;have hlc:=oc.1 _ _ ld hl;have lz:ws.length≤sizeLine:=afe hw (by decide);have rl:=rx;refine⟨_,rfl,l,rfl,⟨_,SqL.of hlc⟩,λL hL=>?_⟩;refine qv (K:=K) (a:=l) (xs:=xs) (λi ys H2=>ys=(ws.take i).map (λw=>nmV (amg S w))∧aC Hc H2∧H2 L=some (.lst ys)) ⟨rfl,aC.upd hL,ah⟩ (λi ys H2 hi ⟨e,_,z⟩=>⟨z,by rw[e,aeV,afm,←rl.1];omega⟩) (λi ys H2 hi ⟨_,s2,_⟩=>SqL.of (s2 _ _ hlc)) (by rw[rl.1];exact lz) (λi y ys H2 hi ⟨e,s2,z⟩=>?_) (λys H2 ⟨e,s2,z⟩=>?_)
   ·obtain⟨wd,hw,wv⟩:=JK rl hi
    refine⟨_,rfl,_,rfl,y,wd,d,kvs,S,rfl,wv.keep (tc.trans (fv.of s2)),.inr ⟨o,s2 _ _ oc.2⟩,hk,z,?_,λb u q=>by rw[af (aq q hL)];exact s2 b u q,ah⟩;have hlt:i<ws.length:=(aeY.mp hw).1;rw[afs hlt,ae8,e,(aeY.mp hw).2];rfl
   ·rw[rl.1,ae9 (ae1 _)]at e
    refine⟨_,rfl,by show 2≤sizeLine;decide,λv hv=>?_⟩;have s3:=aC.upd (o:=.tup [V.ref L,V.ref fa]) hv;have s4:=s2.trans s3;have bk:∀ {b:Addr},upd H2 v (.tup [V.ref L,V.ref fa]) b=none→H b=none:=λ{b} q=>by
     cases z:H b with
     | none=>rfl
     | some u =>
      by_cases c:b=d
      ·rw[c,s4 _ _ oc.2]at q;cases q
      ·rw[s4 _ _ (oc.1 b u c z)]at q;cases q
    refine⟨v,L,fa,ws.map (amg S),S,λt=>(fld s t).map (amg S),ad,rfl,ah,by rw[s3 _ _ z,e,afE];rfl,s4 _ _ hf,λt m=>s4 _ _ (PU t m),λt m=>?_,λu _ t m=>?_,R1,λst kv ms H5 s5 hst h5 k5 n5 m5=>?_⟩
    ·obtain⟨w,_,ew⟩:=afk.mp m
     exact(qQ.mp ew).2
    ·obtain⟨w,_,ew⟩:=afk.mp m
     exact(qQ.mp ew).2
    ·have fd5:=s5 _ _ (s4 _ _ oc.2)
     refine⟨d,o,kvs,fd5,(λo' u' q=>by have q:H d=some (.frz o' u'):=q;rw[hd]at q;cases q),?_⟩;have nst:st≠d:=λq=>by rw[q,fd5]at h5;cases h5
     refine k st kv ms _ (λb u q=>?_) (bk hst) (by rw[af nst];exact h5) k5 n5 λt=>(m5 t).trans Y1;by_cases c:b=d
     ·subst c
      rw[hd]at q;cases q;exact ah
     ·rw[af c]
      exact s5 _ _ (s4 _ _ (oc.1 b u c q))
theorem lookup_mem{α:Type}{fs:List (Int×α)}{t:Int}{w:α}(m:(t,w)∈fs):∃ v,fs.lookup t=some v:=by
 cases e:fs.lookup t with
 | some v=>exact⟨v,rfl⟩
 | none=>exact absurd rfl (lookup_none e _ m)
theorem lX(gs:List Int):(gs.map V.int).all mF=true:=List.all_eq_true.mpr λv hv=>by obtain⟨n,_,rfl⟩:=afk.mp hv;rfl
theorem UT(n:Option Int):mF (nmV n)=true:=by cases n<;>rfl
theorem NJ{gs:List Int}(h:gs.Pairwise (·< ·)){i:Nat}{t:Int}(e:gs[i]?=some t):t∉gs.take i:=λm=>by
 have hlt:=(aeY.mp e).1;have et:=(aeY.mp e).2
 have:=agm.mp (show(gs.take i++gs.drop i).Pairwise (·< ·) by rw[agi];exact h)
 have:=this.2.2 t m t (by rw[af9 hlt,et];exact afg)
 omega
theorem take_snoc{α:Type}{gs:List α}{i:Nat}{t:α}(e:gs[i]?=some t):gs.take (i+1)=gs.take i++[t]:=by rw[afs (aeY.mp e).1,(aeY.mp e).2]
theorem Kd(bs:List (Int×Int))(gs:List Int):(sdG bs gs).length≤gs.length:=List.length_filterMap_le _ _
def Oh(D:Ad):Sp:=λvs H Q _=>∃ x A s g gs,vs=[.ref A.nt,.ref g]∧IH D H x A s∧s.names.length=8∧H g=some (.lst (gs.map V.int))∧∀ A' H',IH D H' x A' {s with names:=s.names.map (nmG gs)}→Fr (bU x A s) H (bU x A' {s with names:=s.names.map (nmG gs)}) H'→Q .non H'
abbrev nN:List Str:=["self", "things"]
theorem uL:av nN ["self", "things"] (ar hW):=⟨rfl,rfl,rfl,by decide +kernel,rfl,by decide +kernel,by decide +kernel⟩
theorem uM(F:Fun K "settle" "NameTable.settle" hW D.cx D.fZ)(T:Txt K mg D):Ok P w K mg base 1 D.cx D.fZ ["self", "things"] (Oh D):=by
 refine⟨?_,F.binds (ps:=["self", "things"]) λ_ _ _ _ _ _ us hl=>match us,hl with|[_,_],_=>rfl⟩
 refine F.okE uL (λvs H Q E h=>?_) (λcdv A' outer s' H vs Q E hr h=>?_)
 ·obtain⟨x,A,s,g,gs,rfl,_⟩:=h
  rfl
 ·obtain⟨x,A,s,g,gs,rfl,J,h8,hg,k⟩:=h
  refine⟨_,(PSs.nox (ai (il (pv 0) (BB (cl:=[("things",s'.heap.objs.size+1)]) (x := "t") (idx:=[1]) (NC:=["t", "things"]) ?co1 rfl (jc (aH (pv 0) rfl)) (λC fp s₀ H₀=>(Bg (aU (r:=rIn K false) vG (pv 0) (pv 1) (by with_unfolding_all rfl)) j3 (pv 0)))) rfl))),?_⟩
  case co1 =>
   exact kZ (sc:=ar hW) (N:=nN) (ns:=["things"]) rfl rfl rfl (by decide +kernel) rfl rfl (by
    intro q hq;rw[aeX.mp hq];rfl)
  refine⟨_,rfl,A.nt,D.aD,A.ntx,_,.ref A.nl,rfl,J.ant,T.dZ,T.b4,rfl,A.nl,rfl,⟨_,SqL.of J.anl⟩,λL hL=>?_⟩;refine qv (K:=K) (a:=A.nl) (xs:=s.names.map nmV) (λi zs H2=>zs=((s.names.take i).map (nmG gs)).map nmV∧aC H H2∧H2 L=some (.lst zs)) ⟨rfl,aC.upd hL,ah⟩ (λi zs H2 hi ⟨e,_,z⟩=>⟨z,by rw[aeV]at hi;rw[e,aeV,aeV,afm];omega⟩) (λi zs H2 hi ⟨_,s2,_⟩=>SqL.of (s2 _ _ J.anl)) (by rw[aeV,h8];decide) (λi y zs H2 hi ⟨e,s2,z⟩=>?_) (λzs H2 ⟨e,s2,z⟩=>?_)
  ·rw[ae6]at hi
   obtain⟨n,hn,rfl⟩:=afa.mp hi;have tk:=take_snoc hn;refine⟨_,rfl,_,rfl,g,_,rfl,.inl (SqL.of (s2 _ _ hg)),UT n,lX gs,_,rfl,?_⟩;have sm:∀ {o:HO},aC H (upd H2 L o):=λb u q=>by rw[af (aq q hL)];exact s2 b u q
   show if inV (nmV n) (gs.map V.int)=true then _ else _;rw[RH (f:=nmV) rfl (λ_=>rfl),tk,e];cases n with
   | none =>
    refine jd ⟨_,rfl,z.trans (by rw[e]),?_,sm,ah⟩;rw[ae8,ae8];rfl
   | some t =>
    show if decide (t∈gs)=true then _ else _;by_cases c:t∈gs
    ·rw[decide_eq_true c]
     refine oH ⟨z.trans (by rw[e]),?_,sm,ah⟩;rw[ae8,ae8];simp[nmG,c,nmV]
    ·rw[decide_eq_false c]
     refine jd ⟨_,rfl,z.trans (by rw[e]),?_,sm,ah⟩;rw[ae8,ae8];simp[nmG,c,nmV]
  ·rw[aeV,ae9 (ae1 _)]at e
   rw[e]at z;refine⟨_,rfl,A.nt,D.aD,A.ntx,_,rfl,s2 _ _ J.ant,T.dZ,T.b4,by show 1<1000;decide,?_⟩;have w:=J.aeD (ns:=s.names.map (nmG gs)) hL;have sm:aC (upd (upd H L (.lst ((s.names.map (nmG gs)).map nmV))) A.nt (.ins D.aD A.ntx [("things_named",.ref L)])) (upd H2 A.nt (.ins D.aD A.ntx [("things_named",.ref L)])):=λb u q=>by
    by_cases c:b=A.nt
    ·rw[c,ah]at q ⊢;exact q
    ·rw[af c]at q ⊢
     by_cases c2:b=L
     ·rw[c2,ah]at q;rw[c2,z];exact q
     ·rw[af c2]at q;exact s2 b u q
   exact k _ _ (w.1.same sm) (w.2.trans (Fr.same sm))
def wsF(s:HS)(gs:List Int):HS:={s with aR:=brG s.aR gs,ot:=s.ot++sdG s.aR gs}
theorem Oi{s:HS}:wsF s []=s:=by cases s;simp[wsF,brG,sdG]
def Oj(D:Ad):Sp:=λvs H Q _=>∃ x A s g gs,vs=[.ref A.wt,.ref g]∧IH D H x A s∧H g=some (.lst (gs.map V.int))∧gs.Pairwise (·< ·)∧gs.length≤10000∧s.ot.length≤10000∧∀ A' H',IH D H' x A' (wsF s gs)→Fr (bU x A s) H (bU x A' (wsF s gs)) H'→Q .non H'
abbrev wG:List Str:=["self", "things", "t"]
theorem mU:av wG ["self", "things"] (ar jT):=⟨rfl,rfl,rfl,by decide +kernel,rfl,by decide +kernel,by decide +kernel⟩
theorem uN(F:Fun K "settle" "WordTable.settle" jT D.cw D.fY)(T:Txt K mg D):Ok P w K mg base 1 D.cw D.fY ["self", "things"] (Oj D):=by
 refine⟨?_,F.binds (ps:=["self", "things"]) λ_ _ _ _ _ _ us hl=>match us,hl with|[_,_],_=>rfl⟩
 refine F.okE mU (λvs H Q E h=>?_) (λcdv A' outer s' H vs Q E hr h=>?_)
 ·obtain⟨x,A,s,g,gs,rfl,_⟩:=h
  rfl
 ·obtain⟨x,A,s,g,gs,rfl,J,hg,asc,hn,hsd,k⟩:=h
  have hu:=lL hr;refine⟨_,(PSs.nox (ai (mX afv rfl (jc (gK Ku rfl T.qN PyProof.Rows.Boot.«sorted» (ae (pv 1) ao))) (eh (i:=2) mU.nd rfl (Or.inl rfl))
    (ai (dM (qL (QZ hu (pv 2) (aH (pv 0) rfl)) (by with_unfolding_all rfl))
     (ai (aG (FK PySem.F.plainAttrs_list PySem.F.slot_list_append PySem.F.type_list_append lW (aH (pv 0) rfl) (ae (Gj (aH (pv 0) rfl) (pv 2) ⟨rfl,rfl,rfl,rfl⟩) ao))))
     bQ))))),?_⟩
  refine⟨_,rfl,g,gs,rfl,SqL.of hg,by omega,asc.imp λh=>Int.le_of_lt h,λp hp=>?_⟩;have s1:=aC.upd (o:=.lst (gs.map V.int)) hp;have J1:=J.same s1;have nfp:¬bU x A s p:=J.fresh hp;refine⟨p,rfl,⟨_,SqL.of ah⟩,Bh (K:=K) (a:=p) (xs:=gs.map V.int) (λi σ H2=>∃ v2,σ=[some (.ref A.wt),some (.ref g),v2]∧IH D H2 x A (wsF s (gs.take i))∧Fr (bU x A s) (upd H p (.lst (gs.map V.int))) (bU x A (wsF s (gs.take i))) H2)
   ⟨none,rfl,(by rw[af3,Oi];exact J1),(by rw[af3,Oi];exact Fr.refl)⟩ (λi σ H2 _ ⟨_,_,_,fr⟩=>SqL.of (fr.out nfp ah).1) ?_ ?_⟩
  ·rintro i y σ H2 hi ⟨v2,rfl,J2,fr⟩
   rw[ae6]at hi;obtain⟨t,ht,rfl⟩:=afa.mp hi;have ni:=NJ asc ht;have tk:=take_snoc ht;have hi':=(aeY.mp ht).1;have lk:(brG s.aR (gs.take i)).lookup t=s.aR.lookup t:=F6 ni;have vb:lM ((wsF s (gs.take i)).aR.map bkv) (Sum.inl t)=(s.aR.lookup t).map V.int:=(by rw[Yc];show((brG s.aR (gs.take i)).lookup t).map V.int=_;rw[lk]);refine⟨_,rfl,_,rfl,A.wt,D.aE,A.wtx,_,.ref A.wb,rfl,J2.awt,T.bG,T.bo,rfl,A.wb,_,rfl,qc.k (k:=Sum.inl t) J2.awb,_,rfl,?_⟩;rw[vb,af0];cases e:s.aR.lookup t with
   | none =>
    have es:wsF s (gs.take (i+1))=wsF s (gs.take i):=by
     unfold wsF;rw[tk,L3,Gu,e,filter_none (by rw[lk];exact e)];simp
    rw[es];exact jd ⟨_,rfl,J2,fr⟩
   | some v =>
    have es:wsF s (gs.take (i+1))={wsF s (gs.take i) with aR:=(brG s.aR (gs.take i)).filter λp=>decide (p.1≠t),ot:=(s.ot++sdG s.aR (gs.take i))++[v]}:=by
     unfold wsF;rw[tk,L3,Gu,e];simp
    rw[es];rw[e]at vb;refine oH ⟨_,rfl,A.wt,D.aE,A.wtx,_,.ref A.wl,rfl,J2.awt,T.bG,T.hR,rfl,.inl ⟨rfl,_,SqL.of J2.awl⟩,?_⟩;refine⟨_,rfl,A.wt,D.aE,A.wtx,_,.ref A.wb,rfl,J2.awt,T.bG,T.bo,rfl,A.wb,rfl,.inl ⟨_,.inl J2.awb⟩,_,rfl,_,Sum.inl t,.int v,J2.awb,rfl,vb,?_⟩;rw[show sV ((wsF s (gs.take i)).aR.map bkv) (Sum.inl t)=((brG s.aR (gs.take i)).filter λp=>decide (p.1≠t)).map bkv from UR];have w1:=J2.adw (bs:=(brG s.aR (gs.take i)).filter λp=>decide (p.1≠t));have w2:=w1.1.aew (zs:=(s.ot++sdG s.aR (gs.take i))++[v]);refine⟨A.wl,_,.int v,rfl,rfl,w1.1.awl,qP ?_,?_⟩
    ·have:=Kd s.aR (gs.take i)
     rw[afm]at this;show((s.ot++sdG s.aR (gs.take i)).map V.int).length≤20000;rw[aeV,ae3];omega
    ·rw[ae8]at w2
     exact⟨_,rfl,w2.1,(fr.trans w1.2).trans w2.2⟩
  ·rintro σ H2 ⟨v2,rfl,J2,fr⟩
   rw[aeV,ae9 (ae1 _)]at J2 fr;exact k _ _ J2 ((Fr.same s1).trans fr)
def Gv(D:Ad):Sp:=λvs H Q _=>∃ x A s g gs,vs=[.ref x,.ref g]∧IH D H x A s∧s.names.length=8∧¬bU x A s g∧H g=some (.lst (gs.map V.int))∧gs.Pairwise (·< ·)∧gs.length≤10000∧s.ot.length≤10000∧(∀ t∈gs,∃ ws,(t,ws)∈s.aN)∧∀ A' H',IH D H' x A' (letGo s gs)→Fr (bU x A s) H (bU x A' (letGo s gs)) H'→Q .non H'
abbrev GS:List Str:=["self", "gone", "t"]
theorem ue:av GS ["self", "gone"] (ar pO):=⟨rfl,rfl,rfl,by decide +kernel,rfl,by decide +kernel,by decide +kernel⟩
theorem Fb(F:Fun K "let_go" "Heap.let_go" pO D.di D.iM)(T:Txt K mg D)
  (ib:Ok P w K mg base 1 D.cx D.fZ ["self", "things"] (Oh D))
  (ic:Ok P w K mg base 1 D.cw D.fY ["self", "things"] (Oj D)):Ok P w K mg base 2 D.di D.iM ["self", "gone"] (Gv D):=by
 refine⟨?_,F.binds (ps:=["self", "gone"]) λ_ _ _ _ _ _ us hl=>match us,hl with|[_,_],_=>rfl⟩
 refine F.okE ue (λvs H Q E h=>?_) (λcdv A' outer s' H vs Q E hr h=>?_)
 ·obtain⟨x,A,s,g,gs,rfl,_⟩:=h
  rfl
 ·obtain⟨x,A,s,g,gs,rfl,J,h8,nfg,hg,asc,hn,hsd,hin,k⟩:=h
  refine⟨_,(PSs.nox (ak (mX afv rfl (jc (pv 1)) (eh (i:=2) ue.nd rfl (Or.inl rfl))
    (ai (aG (Gj (aH (pv 0) rfl) (pv 2) ⟨rfl,rfl,rfl,rfl⟩))))
   (ak (aG (aJ (aH (pv 0) rfl) T.dZ T.uE ib.g (hr.mono (by decide)) ib.b .nil fz (ae (pv 1) ao)))
   (ai (aG (aJ (aH (pv 0) rfl) T.bG T.uD ic.g (hr.mono (by decide)) ic.b .nil fz (ae (pv 1) ao))))))),?_⟩
  refine⟨_,rfl,g,rfl,⟨_,SqL.of hg⟩,Bh (K:=K) (a:=g) (xs:=gs.map V.int) (λi σ H2=>∃ v2,σ=[some (.ref x),some (.ref g),v2]∧IH D H2 x A {s with aN:=drG s.aN (gs.take i)}∧Fr (bU x A s) H (bU x A {s with aN:=drG s.aN (gs.take i)}) H2)
   ⟨none,rfl,(by rw[af3,JJ];exact J),(by rw[af3,JJ];exact Fr.refl)⟩ (λi σ H2 _ ⟨_,_,_,fr⟩=>SqL.of (fr.out nfg hg).1) ?_ ?_⟩
  ·rintro i y σ H2 hi ⟨v2,rfl,J2,fr⟩
   rw[ae6]at hi;obtain⟨t,ht,rfl⟩:=afa.mp hi;have ni:=NJ asc ht;have tk:=take_snoc ht;obtain⟨ws,m⟩:=hin t (ae7 ht);obtain⟨v,hv⟩:=lookup_mem (jm.mpr ⟨m,ni⟩);have vf:lM ((drG s.aN (gs.take i)).map (fkv A)) (Sum.inl t)=some (.ref (A.fa t)):=(by rw[Ri,hv];rfl);refine⟨_,rfl,x,D.aa,_,_,.ref A.fh,rfl,J2.ax,T.ab,T.az,qt,A.fh,rfl,.inl ⟨_,.inl J2.afh⟩,_,rfl,_,Sum.inl t,_,J2.afh,rfl,vf,?_⟩;have w:=J2.acq (t:=t);rw[UQ];rw[tk,QA];exact⟨_,rfl,w.1,fr.trans w.2⟩
  ·rintro σ H2 ⟨v2,rfl,J2,fr⟩
   rw[aeV,ae9 (ae1 _)]at J2 fr;obtain⟨hg2,nf2⟩:=fr.out nfg hg;refine⟨_,rfl,x,D.aa,_,_,.ref A.nt,rfl,J2.ax,T.ab,T.dP,Pu,A.nt,A.ntx,_,rfl,J2.ant,rfl,_,rfl,x,A,_,g,gs,rfl,J2,h8,hg2,λA3 H3 J3 fr3=>?_⟩;obtain⟨hg3,nf3⟩:=fr3.out nf2 hg2;refine⟨_,rfl,x,D.aa,_,_,.ref A3.wt,rfl,J3.ax,T.ab,T.dQ,Pw,A3.wt,A3.wtx,_,rfl,J3.awt,rfl,_,rfl,x,A3,_,g,gs,rfl,J3,hg3,asc,hn,hsd,λA4 H4 J4 fr4=>?_⟩;exact k A4 H4 J4 ((fr.trans fr3).trans fr4)
def JL(fs:List (Int×List Wd))(yn:List Int):List Wd:=fs.flatMap λq=>if q.1∈yn then[] else q.2
def Bs(s:HS):List Wd:=s.bq++JL s.aN s.yng
theorem HZ{fs:List (Int×List Wd)}{q:Int×List Wd}{yn:List Int}:JL (fs++[q]) yn=JL fs yn++(if q.1∈yn then[] else q.2):=by unfold JL;rw[List.flatMap_append];simp
theorem Ol{fs:List (Int×List Wd)}{yn:List Int}(h:∀ t ws,(t,ws)∈fs→ws.length≤6):(JL fs yn).length≤6*fs.length:=by
 induction fs with
 | nil=>exact ae1 _
 | cons q r ih =>
  have i:=ih λt ws m=>h t ws (afn _ m)
  have:=h q.1 q.2 afg
  show((if q.1∈yn then[] else q.2)++JL r yn).length≤6*(r.length+1);rw[ae3];by_cases c:q.1∈yn
  ·rw[if_pos c];simp;omega
  ·rw[if_neg c];omega
theorem Gw{fs:List (Int×List Wd)}{yn:List Int}{w:Wd}:w∈JL fs yn↔∃ t ws,(t,ws)∈fs∧t∉yn∧w∈ws:=by
 unfold JL;rw[agA];constructor
 ·rintro⟨q,mq,h⟩
  by_cases c:q.1∈yn
  ·rw[if_pos c]at h;cases h
  ·rw[if_neg c]at h;exact⟨q.1,q.2,mq,c,h⟩
 ·rintro⟨t,ws,m,c,h⟩
  exact⟨(t,ws),m,by rw[if_neg c];exact h⟩
open Classical in
noncomputable def bN(s:HS):List Int:=s.yng.filter λt=>decide (¬Led (Bs s) (fld s) s.yng t)
noncomputable def aO(s:HS):HS:=letGo {s with yng:=[]} (bN s)
open Classical in
noncomputable def Hu(s:HS):List Int:=(keys s).filter λt=>decide (¬Led s.bq (fld s) (keys s) t)
noncomputable def Om(s:HS):HS:={s with rnd:=true,dO:=Hu s}
noncomputable def Bd(s:HS):Re:=if s.rnd=true then(some .on,s) else(none,Om (aO s))
def PV(s:HS):HS:=letGo {s with rnd:=false,dO:=[]} s.dO
def PX(s:HS):Re:=if s.rnd=true then(none,PV s) else(some .no,s)
open Classical in
noncomputable def qR(s:HS)(t:Int):HS:={s with dO:=s.dO.filter λu=>decide (¬Led [.th t] (fld s) s.dO u)}
noncomputable def rdR(s:HS)(n:Option Int):HS:=match n with|some t=>if t∈s.dO then qR s t else s|none=>s
noncomputable def kP(s:HS)(h w:Int):Re:=if ok8 h then(if ok8 w then(none,rdR (qz s h (nmW (s.names.getD w.toNat none))) (s.names.getD w.toNat none)) else(some .name,s)) else(some .hand,s)
noncomputable def mkR(s:HS)(n:Int):HS:=if s.my=true∧wsum s s.yng+(n+1)>s.room then aO s else s
noncomputable def kQ(s:HS)(h n:Int):Re:=if ok8 h then(if 0≤n∧n≤6 then(if held (mkR s n)+(n+1)>s.limit then(some .room,mkR s n) else(none,JH (mkR s n) h n)) else(some .count,s)) else(some .hand,s)
theorem oe{l ms:List Int}{p:Int→Bool}(h:∀ t∈l,(p t=true↔t∉ms)):l.filter p=l.filter λt=>decide (t∉ms):=afT λt m=>by
 have:=h t m
 by_cases c:t∈ms
 ·simp only[c,not_true,decide_false]
  cases e:p t with
  | false=>rfl
  | true=>exact absurd (this.mp e) (by simp[c])
 ·simp only[c,not_false_eq_true,decide_true]
  exact this.mpr c
open Classical in
theorem Pa{s:HS}{ms:List Int}(h:∀ t,t∈ms↔Led (Bs s) (fld s) s.yng t):(s.yng.filter λt=>decide (t∉ms))=bN s:=by
 unfold bN;refine(oe λt _=>?_).symm;rw[decide_eq_true_iff,h]
open Classical in
theorem QB{s:HS}{ms:List Int}(h:∀ t,t∈ms↔Led s.bq (fld s) (keys s) t):((keys s).filter λt=>decide (t∉ms))=Hu s:=by
 unfold Hu;refine(oe λt _=>?_).symm;rw[decide_eq_true_iff,h]
open Classical in
theorem QC{s:HS}{t:Int}{ms:List Int}(h:∀ u,u∈ms↔Led [.th t] (fld s) s.dO u):{s with dO:=s.dO.filter λu=>decide (u∉ms)}=qR s t:=by
 unfold qR;congr 1
 refine(oe λu _=>?_).symm;rw[decide_eq_true_iff,h]
theorem UU{H:Hp}{xs ys:List V}{ws zs:List Wd}(a:Rel H xs ws)(b:Rel H ys zs):Rel H (xs++ys) (ws++zs):=by
 refine⟨by rw[ae3,ae3,a.1,b.1],λi v w h1 h2=>?_⟩;by_cases c:i<xs.length
 ·rw[afy c]at h1
  rw[afy (by rw[←a.1];exact c)]at h2;exact a.2 i v w h1 h2
 ·rw[afr (by omega)]at h1
  rw[afr (by rw[←a.1];omega),←a.1]at h2;exact b.2 _ v w h1 h2
structure Gd(s:HS):Prop where
 g:Good s
 dy:∀ t∈s.dO,t∉s.yng
 dh:∀ t,Wd.th t∈s.bq→t∉s.dO
 df:∀ u ws t,(u,ws)∈s.aN→u∉s.dO→Wd.th t∈ws→t∉s.dO
 rd:s.rnd=false→s.dO=[]
theorem mem_keys{s:HS}{t:Int}:t∈keys s↔∃ ws,(t,ws)∈s.aN:=by
 unfold keys;rw[afk];exact⟨λ⟨p,m,e⟩=>⟨p.2,by rw[←e];exact m⟩,λ⟨ws,m⟩=>⟨_,m,rfl⟩⟩
theorem UW{fs:List (Int×List Wd)}{gs:List Int}(nd:gs.Nodup)(h:∀ t∈gs,∃ ws,(t,ws)∈fs):(drG fs gs).length+gs.length≤fs.length:=by
 have e:fs.length=(fs.filter λp=>decide (p.1∉gs)).length+(fs.filter λp=>!decide (p.1∉gs)).length:=by
  clear h;induction fs with
  | nil=>rfl
  | cons p r ih =>
   rw[List.filter_cons,List.filter_cons];by_cases c:p.1∈gs
   ·simp[c]at ih ⊢;omega
   ·simp[c]at ih ⊢;omega
 have le:gs.length≤((fs.filter λp=>!decide (p.1∉gs)).map (·.1)).length:=iq nd λt m=>by
  obtain⟨ws,mw⟩:=h t m;exact afk.mpr ⟨(t,ws),afz.mpr ⟨mw,by simp[m]⟩,rfl⟩
 rw[aeV]at le;unfold drG;omega
theorem Good.letGo{s:HS}(g:Good s){gs:List Int}(asc:gs.Pairwise (·< ·))(hin:∀ t∈gs,∃ ws,(t,ws)∈s.aN)(hh:∀ t,Wd.th t∈s.bq→t∉gs)(hf:∀ u ws t,(u,ws)∈s.aN→u∉gs→Wd.th t∈ws→t∉gs)(hy:∀ t∈s.yng,t∉gs)(hd:∀ t∈s.dO,t∉gs):Good (letGo s gs) where
 h8:=g.h8
 n8:=by show(s.names.map (nmG gs)).length=8;rw[aeV];exact g.n8
 asc:=afL (agB _ afI) g.asc
 lt:=λt ws m=>g.lt t ws (jm.mp m).1
 f6:=λt ws m=>g.f6 t ws (jm.mp m).1
 hh:=λt m=>by obtain⟨ws,q⟩:=g.hh t m;exact⟨ws,jm.mpr ⟨q,hh t m⟩⟩
 ff:=λu ws t m h=>by obtain⟨w',q⟩:=g.ff u ws t (jm.mp m).1 h;exact⟨w',jm.mpr ⟨q,hf u ws t (jm.mp m).1 (jm.mp m).2 h⟩⟩
 nn:=λt m=>by
  obtain⟨n,mn,e⟩:=afk.mp (show some t∈s.names.map (nmG gs) from m);cases n with
  | none=>cases e
  | some u =>
   have e:(if u∈gs then none else some u)=some t:=e;by_cases c:u∈gs
   ·rw[if_pos c]at e;cases e
   ·rw[if_neg c]at e
    cases e;obtain⟨ws,q⟩:=g.nn t mn;exact⟨ws,jm.mpr ⟨q,c⟩⟩
 b12:=afe (afJ _ _) g.b12
 bk:=λt z m=>by
  have m:=afz.mp (show(t,z)∈brG s.aR gs from m);obtain⟨ws,q⟩:=g.bk t z m.1;exact⟨ws,jm.mpr ⟨q,by simpa using m.2⟩⟩
 bnd:=afL (agB _ afI) g.bnd
 n0:=g.n0
 nx:=g.nx
 sd:=by
  have h1:=g.sd;have h2:=UW (iY asc) hin;have h3:=Kd s.aR gs;show((s.ot++sdG s.aR gs).length:Int)+(drG s.aN gs).length≤s.nxt;rw[ae3];omega
 yk:=λt m=>by obtain⟨ws,q⟩:=g.yk t m;exact⟨ws,jm.mpr ⟨q,hy t m⟩⟩
 ym:=g.ym
 dk:=λt m=>by obtain⟨ws,q⟩:=g.dk t m;exact⟨ws,jm.mpr ⟨q,hd t m⟩⟩
 ET:=g.ET
theorem Good.noY{s:HS}(g:Good s):Good {s with yng:=[]}:=⟨g.h8,g.n8,g.asc,g.lt,g.f6,g.hh,g.ff,g.nn,g.b12,g.bk,g.bnd,g.n0,g.nx,g.sd,(λt m=>nomatch m),List.Pairwise.nil,g.dk,g.ET⟩
theorem Good.noD{s:HS}(g:Good s){b:Bool}:Good {s with rnd:=b,dO:=[]}:=⟨g.h8,g.n8,g.asc,g.lt,g.f6,g.hh,g.ff,g.nn,g.b12,g.bk,g.bnd,g.n0,g.nx,g.sd,g.yk,g.ym,(λt m=>nomatch m),List.Pairwise.nil⟩
theorem Good.aeG{s:HS}(g:Good s){b:Bool}{ds:List Int}(h:∀ t∈ds,∃ ws,(t,ws)∈s.aN)(a:ds.Pairwise (·< ·)):Good {s with rnd:=b,dO:=ds}:=⟨g.h8,g.n8,g.asc,g.lt,g.f6,g.hh,g.ff,g.nn,g.b12,g.bk,g.bnd,g.n0,g.nx,g.sd,g.yk,g.ym,h,a⟩
theorem gN{s:HS}{t:Int}:t∈bN s↔t∈s.yng∧¬Led (Bs s) (fld s) s.yng t:=by unfold bN;rw[afz];simp
theorem rL{s:HS}(g:Good s):(bN s).Pairwise (·< ·):=afL afI g.ym
theorem vI{s:HS}(g:Good s):∀ t∈bN s,∃ ws,(t,ws)∈s.aN:=λt m=>g.yk t (gN.mp m).1
theorem UX{s:HS}{t:Int}(h:Wd.th t∈s.bq):t∉bN s:=λm=>(gN.mp m).2 (.root (afj _ h) (gN.mp m).1)
theorem Y3{s:HS}(g:Good s){u t:Int}{ws:List Wd}(m:(u,ws)∈s.aN)(hu:u∉bN s)(h:Wd.th t∈ws):t∉bN s:=λmt=>by
 by_cases c:u∈s.yng
 ·have lu:Led (Bs s) (fld s) s.yng u:=afR λz=>hu (gN.mpr ⟨c,z⟩)
  exact(gN.mp mt).2 (.step lu (by rw[g.fld m];exact h) (gN.mp mt).1)
 ·exact(gN.mp mt).2 (.root (aeZ _ (Gw.mpr ⟨u,ws,m,c,h⟩)) (gN.mp mt).1)
theorem Gd.small{s:HS}(d:Gd s):Gd (aO s) where
 g:=d.g.noY.letGo (rL d.g) (vI d.g) (λt h=>UX h) (λu ws t m hu h=>Y3 d.g m hu h) (λt m=>nomatch m) (λt m z=>d.dy t m (gN.mp z).1)
 dy:=λt _ m=>nomatch m
 dh:=d.dh
 df:=λu ws t m hu h=>d.df u ws t (jm.mp m).1 hu h
 rd:=d.rd
theorem om{s:HS}{t:Int}:t∈Hu s↔t∈keys s∧¬Led s.bq (fld s) (keys s) t:=by unfold Hu;rw[afz];simp
theorem Gd.beg{s:HS}(d:Gd s)(hy:s.yng=[]):Gd (Om s) where
 g:=d.g.aeG (λt m=>mem_keys.mp (om.mp m).1) (afL afI d.g.asc)
 dy:=λt _ m=>by rw[show(Om s).yng=[] from hy]at m;cases m
 dh:=λt h m=>(om.mp m).2 (.root h (om.mp m).1)
 df:=λu ws t m hu h mt=>by
  have lu:Led s.bq (fld s) (keys s) u:=afR λz=>hu (om.mpr ⟨mem_keys.mpr ⟨ws,m⟩,z⟩);exact(om.mp mt).2 (.step lu (by rw[d.g.fld m];exact h) (om.mp mt).1)
 rd:=λh=>by cases h
theorem Gd.fin{s:HS}(d:Gd s):Gd (PV s) where
 g:=d.g.noD.letGo d.g.ET d.g.dk (λt h=>d.dh t h) (λu ws t m hu h=>d.df u ws t m hu h) (λt m z=>d.dy t z m) (λt m=>nomatch m)
 dy:=λt m=>nomatch m
 dh:=λt _ m=>nomatch m
 df:=λu ws t _ _ _ m=>nomatch m
 rd:=λ_=>rfl
theorem qB{s:HS}{t u:Int}:u∈(qR s t).dO↔u∈s.dO∧¬Led [.th t] (fld s) s.dO u:=by unfold qR;rw[afz];simp
structure GdN(s:HS):Prop where
 g:Good s
 dy:∀ t∈s.dO,t∉s.yng
 df:∀ u ws t,(u,ws)∈s.aN→u∉s.dO→Wd.th t∈ws→t∉s.dO
 rd:s.rnd=false→s.dO=[]
theorem Good.acr{s:HS}(g:Good s){ds:List Int}(h:ds.Sublist s.dO):Good {s with dO:=ds}:=⟨g.h8,g.n8,g.asc,g.lt,g.f6,g.hh,g.ff,g.nn,g.b12,g.bk,g.bnd,g.n0,g.nx,g.sd,g.yk,g.ym,(λt m=>g.dk t (h.subset m)),g.ET.sublist h⟩
theorem Gd.acs{s:HS}(d:GdN s){t:Int}(ht:t∈s.dO)(hh:∀ u,Wd.th u∈s.bq→u=t∨u∉s.dO):Gd (qR s t) where
 g:=d.g.acr afI
 dy:=λu m=>d.dy u (qB.mp m).1
 dh:=λu h m=>by
  rcases hh u h with e|e
  ·exact(qB.mp m).2 (by rw[e];exact .root afg ht)
  ·exact e (qB.mp m).1
 df:=λu ws v m hu h mv=>by
  obtain⟨v1,v2⟩:=qB.mp mv;by_cases c:u∈s.dO
  ·have lu:Led [.th t] (fld s) s.dO u:=afR λz=>hu (qB.mpr ⟨c,z⟩)
   exact v2 (.step lu (by rw[d.g.fld m];exact h) v1)
  ·exact d.df u ws v m c h v1
 rd:=λh=>by
  have:=d.rd h
  show s.dO.filter _=[];rw[this];rfl
theorem Oo{s:HS}{n:Int}:(mkR s n).limit=s.limit:=by unfold mkR;split<;>rfl
theorem vV{s:HS}{n:Int}:(mkR s n).nxt=s.nxt:=by unfold mkR;split<;>rfl
theorem Gd.mkd{s:HS}(d:Gd s){n:Int}:Gd (mkR s n):=by
 unfold mkR;split
 ·exact d.small
 ·exact d
def Ia(D:Ad):Sp:=λvs H Q _=>∃ x A s,vs=[.ref x]∧IH D H x A s∧Good s∧∀ v A' H',IH D H' x A' (aO s)→Fr (bU x A s) H (bU x A' (aO s)) H'→Q v H'
abbrev nO:List Str:=["self", "leads", "t", "kept", "gone"]
theorem fD:av nO ["self"] (ar hX):=⟨rfl,rfl,rfl,by decide +kernel,rfl,by decide +kernel,by decide +kernel⟩
theorem uO(F:Fun K "small_round" "Heap.small_round" hX D.bD D.f7)(T:Txt K mg D)
  (bc:Ok P w K mg base 1 D.bO D.dR ["self"] (nz D))
  (bu:Ok P w K mg base 3 D.bt D.eM ["self", "leads", "things"] (Kc D))
  (fO:Ok P w K mg base 2 D.di D.iM ["self", "gone"] (Gv D)):Ok P w K mg base 4 D.bD D.f7 ["self"] (Ia D):=by
 refine⟨?_,F.binds (ps:=["self"]) λ_ _ _ _ _ _ us hl=>match us,hl with|[_],_=>rfl⟩
 refine F.okE fD (λvs H Q E h=>?_) (λcdv A' outer s' H vs Q E hr h=>?_)
 ·obtain⟨x,A,s,rfl,_⟩:=h
  rfl
 ·obtain⟨x,A,s,rfl,J,G,k⟩:=h
  have hu:=lL hr;refine⟨_,(PSs.nox (ak (bF (i:=1) fD.nd rfl (Or.inl rfl) (cE (aH (pv 0) rfl) T.aZ T.jY bc.g (hr.mono (by decide)) bc.b .nil fz))
   (ak (mX afv rfl (vO (EO (aH (pv 0) rfl))) (eh (i:=2) fD.nd rfl (Or.inl rfl))
    (ai (dM (qL (j5 hu (pv 2) (aH (pv 0) rfl)) (by with_unfolding_all rfl))
     (ai (aG (FK PySem.F.plainAttrs_list PySem.F.slot_list_extend PySem.F.type_list_extend HL (pv 1) (ae (qd hu (aH (pv 0) rfl) (pv 2) (λ_ _=>rfl)) ao))))
     bQ)))
   (ak (Rb (bF (i:=3) fD.nd rfl (Or.inr rfl) (aJ (pv 0) T.ab T.hU bu.g (hr.mono (by decide)) bu.b .nil fz (ae (pv 1) (ae (aH (pv 0) rfl) ao)))))
   (ak (Gp (cl:=[("kept",s'.heap.objs.size+1)]) (x := "t") (idx:=[3]) (NC:=["t", "kept"]) (i:=4) fD.nd rfl rfl ?co1 rfl (vO (EO (aH (pv 0) rfl))) (λC fp s₀ H₀=>(qL (j5 hu (pv 0) (pv 1)) (by with_unfolding_all rfl))) (λC fp s₀ H₀=>(pv 0)))
   (ak (Rb (il (pv 0) mO rfl))
   (ak (aG (aJ (pv 0) T.ab T.mQ fO.g (hr.mono (by decide)) fO.b .nil fz (ae (pv 4) ao)))
   (ai (aV (pv 4)))))))))),?_⟩
  case co1 =>
   exact kZ (sc:=ar hX) (N:=nO) (ns:=["kept"]) rfl rfl rfl (by decide +kernel) rfl rfl (by
    intro q hq;rw[aeX.mp hq];rfl)
  refine⟨_,rfl,x,D.aa,_,_,.ref A.hd,rfl,J.ax,T.ab,T.ay,ny,A.hd,A.hdx,_,rfl,J.ahd,rfl,A.hd,A.hdx,A.hl,A.hx,s.bq,rfl,J.hn G,λp H1 s1 hp z1=>?_⟩;have J1:=J.same s1;have nfp:¬bU x A s p:=J.fresh hp;refine⟨_,rfl,x,D.aa,_,_,.ref A.fh,rfl,J1.ax,T.ab,T.az,qt,A.fh,_,J1.afh,λo=>?_⟩;have yf:A.yg≠A.fh:=afi J.d4;have pf:p≠A.fh:=λe=>nfp (by rw[e];exact .fh);have py:p≠A.yg:=λe=>nfp (by rw[e];exact .yg);have lk:(s.aN.map (fkv A)).length=s.aN.length:=aeV _;refine⟨A.fh,o,_,rfl,ah,Bl (d:=A.fh) (o:=o) (kvs:=s.aN.map (fkv A)) (λi σ Hc=>∃ v2,σ=[some (.ref x),some (.ref p),v2,none,none]∧((∀ b u,b≠A.fh→b≠p→H1 b=some u→Hc b=some u)∧Hc A.fh=some (.frz o (.dK (s.aN.map (fkv A)))))∧∃ ys,Hc p=some (.lst ys)∧Rel Hc ys (s.bq++JL (s.aN.take i) s.yng))
   ⟨none,rfl,⟨λb u n _ q=>by rw[af n];exact q,ah⟩,A.hx,by rw[af pf];exact z1,by rw[af3,show JL [] s.yng=[] from rfl,afF];exact J1.rhl.keep (fv.set J1.afh (λ_ z=>nomatch z))⟩ (λi σ Hc _ ⟨_,_,oc,_⟩=>oc.2) ?_ ?_⟩
  ·rintro i q σ Hc hi ⟨v2,rfl,oc,ys,hy,ry⟩
   rw[ae6]at hi;obtain⟨⟨t,ws⟩,ht,rfl⟩:=afa.mp hi;have m:=ae7 ht;have tk:=take_snoc ht;obtain⟨hl,rl⟩:=J1.afl _ _ m;have nlf:A.fa t≠A.fh:=aw hl J1.afh (by intro z;cases z);have nlp:A.fa t≠p:=λe=>nfp (by rw[←e];exact .fl m);have hlc:=oc.1 _ _ nlf nlp hl;have tc:fv H1 Hc:=λb us q=>oc.1 b _ (aw q J1.afh (by intro z;cases z)) (aw q z1 (by intro z;cases z)) q;have xf:x≠A.fh:=aw J1.ax J1.afh (by intro z;cases z);have xp:x≠p:=λe=>nfp (by rw[←e];exact .x);have axc:=oc.1 _ _ xf xp J1.ax;have ygc:=oc.1 _ _ yf (afi py) J1.ayg;refine⟨_,rfl,_,rfl,x,D.aa,_,_,.ref A.yg,rfl,axc,T.ab,T.a5,Ka,A.yg,_,rfl,qc.k (k:=Sum.inl t) ygc,_,rfl,?_⟩;rw[(Br s.yng).isS];by_cases c:t∈s.yng
   ·rw[decide_eq_true c]
    refine jd ⟨_,rfl,oc,ys,hy,?_⟩;rw[tk,HZ,if_pos c,afF];exact ry
   ·rw[decide_eq_false c]
    have fl:=Ol (fs:=s.aN.take i) (yn:=s.yng) λt ws m=>G.f6 t ws (agn m);have f6:=G.f6 _ _ m;have fw:=G.few;have ly:ys.length≤60100:=(by rw[ry.1,ae3,G.h8];rw[afm]at fl;omega);refine oH ⟨_,rfl,.inl ⟨rfl,_,SqL.of hy⟩,_,rfl,x,D.aa,_,_,.ref A.fh,rfl,axc,T.ab,T.az,qt,_,rfl,A.fh,.ref (A.fa t),rfl,.inl ⟨_,Sum.inl t,.inr ⟨o,oc.2⟩,rfl,by rw[Ri,G.get m];rfl⟩,p,A.fa t,ys,A.fx t,rfl,rfl,hy,hlc,?_,?_⟩
    ·have:=rl.1
     exact afe (show ys.length+(A.fx t).length≤70000 by omega) (by decide)
    ·refine⟨_,rfl,⟨λb u n1 n2 q=>by rw[af n2];exact oc.1 b u n1 n2 q,by rw[af (afi pf)];exact oc.2⟩,_,ah,?_⟩
     rw[tk,HZ,if_neg c,←agx];exact((UU ry (rl.keep tc)).keep (fv.set hy (λ_ z=>nomatch z)))
  ·rintro σ Hc ⟨v2,rfl,oc,ys,hy,ry⟩
   rw[lk,ae9 (ae1 _)]at ry;refine⟨A.fh,o,_,oc.2,(λo' u' q=>by have q:H A.fh=some (.frz o' u'):=q;rw[J.afh]at q;cases q),?_⟩;have kp:∀ b u,b≠p→H1 b=some u→upd Hc A.fh (.dK (s.aN.map (fkv A))) b=some u:=λb u n q=>by
    by_cases c:b=A.fh
    ·subst c
     rw[J1.afh]at q;cases q;exact ah
    ·rw[af c];exact oc.1 b u c n q
   have hy2:upd Hc A.fh (.dK (s.aN.map (fkv A))) p=some (.lst ys):=(by rw[af pf];exact hy);have ry2:Rel (upd Hc A.fh (.dK (s.aN.map (fkv A)))) ys (Bs s):=ry.keep (λb us q=>by rw[af λe=>by rw[e,oc.2]at q;cases q];exact q);obtain⟨H2,e2⟩:∃ H2,upd Hc A.fh (.dK (s.aN.map (fkv A)))=H2:=⟨_,rfl⟩;rw[e2]at kp hy2 ry2 ⊢;clear e2 ry hy oc;have t2:fv H1 H2:=λb us q=>kp b _ (aw q z1 (by intro z;cases z)) q;have J2:IH D H2 x A s:=J1.keep (λb u f q=>kp b u (λe=>nfp (by rw[←e];exact f)) q) t2;have fr2:Fr (bU x A s) H (bU x A s) H2:=⟨λb u n q=>kp b u (aq q hp) (s1 _ _ q),λ_ f=>.inl f,λb u q=>⟨u,kp b u (aq q hp) (s1 _ _ q)⟩,(fv.of s1).trans t2⟩;have fl:=Ol (fs:=s.aN) (yn:=s.yng) G.f6;have fw:=G.few;refine⟨_,rfl,x,_,_,rfl,J2.ax,(by kernel_rfl),_,rfl,_,rfl,x,D.aa,_,_,.ref A.yg,rfl,J2.ax,T.ab,T.a5,Ka,x,A,s,p,ys,Bs s,A.yg,_,s.yng,rfl,J2,G,hy2,ry2,by unfold Bs;rw[ae3,G.h8];omega,J2.ayg,Br _,G.yk,iY G.ym,GP G,λst kv ms H3 s3 hst h3 k3 n3 m3=>?_⟩;have J3:=J2.same s3;refine⟨_,rfl,x,D.aa,_,_,.ref A.yg,rfl,J3.ax,T.ab,T.a5,Ka,A.yg,_,J3.ayg,λo2=>?_⟩;refine⟨A.yg,o2,_,rfl,ah,λL hL=>?_⟩;have nsy:st≠A.yg:=λe=>by rw[e,J2.ayg]at hst;cases hst
   have st3:upd H3 A.yg (.frz o2 (.dK (s.yng.map tkv))) st=some (.dK kv):=(by rw[af nsy];exact h3);refine MA (d:=A.yg) (o:=o2) (kvs:=s.yng.map tkv) (λi zs Hc=>zs=((s.yng.take i).filter λt=>decide (t∉ms)).map V.int∧aC (upd H3 A.yg (.frz o2 (.dK (s.yng.map tkv)))) Hc∧Hc L=some (.lst zs)) ⟨rfl,aC.upd hL,ah⟩ (λi zs Hc hi ⟨e,_,z⟩=>⟨z,by rw[e,aeV];exact afe (afJ _ _) (by rw[afm];omega)⟩) (λi zs Hc _ ⟨_,sc,_⟩=>sc _ _ ah) (by rw[aeV];exact pU (afe (GP G) (by decide))) (λi q zs Hc hi ⟨e,sc,z⟩=>?_) (λzs Hc ⟨e,sc,z⟩=>?_)
   ·obtain⟨t,ht,ekv,ep⟩:=(Br s.yng).at_ hi
    have tk:=take_snoc ht;rw[ekv];refine⟨_,rfl,_,rfl,st,_,rfl,qc.k (k:=Sum.inl t) (sc _ _ st3),_,rfl,?_⟩;rw[k3.isS];by_cases c:t∈ms
    ·rw[decide_eq_true c]
     refine jd ⟨?_,sc,z⟩;rw[tk,af5,e];simp[c]
    ·rw[decide_eq_false c]
     refine oH ⟨_,rfl,z,?_,λb u q=>by rw[af (aq q hL)];exact sc b u q,ah⟩;rw[tk,af5,e];simp[c]
   ·rw[aeV,ae9 (ae1 _)]at e
    have eg:(s.yng.filter λt=>decide (t∉ms))=bN s:=Pa m3;rw[eg]at e;subst e;refine⟨A.yg,o2,_,sc _ _ ah,(λo' u' q=>by have q:H A.yg=some (.frz o' u'):=q;rw[J.ayg]at q;cases q),?_⟩;have sm:aC H3 (upd Hc A.yg (.dK (s.yng.map tkv))):=λb u q=>by
     by_cases c:b=A.yg
     ·subst c
      rw[J3.ayg]at q;cases q;exact ah
     ·rw[af c];exact sc b u (by rw[af c];exact q)
    have nLy:L≠A.yg:=λe=>by rw[e,ah]at hL;cases hL
    have zL:upd Hc A.yg (.dK (s.yng.map tkv)) L=some (.lst ((bN s).map V.int)):=(by rw[af nLy];exact z);have hL3:H3 L=none:=(by rw[af nLy]at hL;exact hL);have aeH:=J3.fresh hL3;obtain⟨H4,e4⟩:∃ H4,upd Hc A.yg (.dK (s.yng.map tkv))=H4:=⟨_,rfl⟩;rw[e4]at sm zL ⊢;clear e4;have J4:=J3.same sm;intro p2 hp2;have w:=J4.aeB hp2;have xp2:x≠p2:=aq J4.ax hp2;refine⟨_,rfl,x,D.aa,A.dx,_,rfl,(by rw[af xp2];exact J4.ax),T.ab,T.a5,by show 11<1000;decide,?_⟩;obtain⟨J5,fr5⟩:=w;have oL:=fr5.out aeH zL;refine⟨_,rfl,x,_,_,rfl,J5.ax,(by kernel_rfl),_,rfl,x,_,_,L,bN s,rfl,J5,G.n8,oL.2,oL.1,rL G,afe (afJ _ _) (GP G),(by have:=G.sd;have:=G.nx;show s.ot.length≤10000;omega),vI G,λA6 H6 J6 fr6=>⟨_,rfl,k _ A6 H6 J6 ((((fr2.trans (Fr.same s3)).trans (Fr.same sm)).trans fr5).trans fr6)⟩⟩
def uP(D:Ad):Sp:=λvs H Q _=>∃ x A s,vs=[.ref x]∧IH D H x A s∧Good s∧∀ A' H',IH D H' x A' (aO s)→Fr (bU x A s) H (bU x A' (aO s)) H'→Q .non H'
abbrev zk:List Str:=["self"]
theorem wH:av zk ["self"] (ar kg):=⟨rfl,rfl,rfl,by decide +kernel,rfl,by decide +kernel,by decide +kernel⟩
theorem wI(F:Fun K "small" "IdealHeap.small" kg D.bB D.cV)(T:Txt K mg D)
  (ie:Ok P w K mg base 4 D.bD D.f7 ["self"] (Ia D)):Ok P w K mg base 5 D.bB D.cV ["self"] (uP D):=by
 refine⟨?_,F.binds (ps:=["self"]) λ_ _ _ _ _ _ us hl=>match us,hl with|[_],_=>rfl⟩
 refine F.okE wH (λvs H Q E h=>?_) (λcdv A' outer s' H vs Q E hr h=>?_)
 ·obtain⟨x,A,s,rfl,_⟩:=h
  rfl
 ·obtain⟨x,A,s,rfl,J,G,k⟩:=h
  refine⟨_,(PSs.nox (ai (aG (cE (pv 0) T.ab T.oW ie.g (hr.mono (by decide)) ie.b .nil fz)))),?_⟩;exact⟨_,rfl,x,_,_,rfl,J.ax,(by kernel_rfl),x,A,s,rfl,J,G,λv A' H' J' fr=>k A' H' J' fr⟩
def Rm(D:Ad):Sp:=λvs H Q E=>∃ x A s,vs=[.ref x]∧IH D H x A s∧Gd s∧Fin D x A s H (Bd s) Q E
theorem IH.aeI{D:Ad}{H:Hp}{x:Addr}{A:HA}{s:HS}(J:IH D H x A s){b:Addr}(f:bU x A s b)(o:Obj)(u:HO):H b≠some (.frz o u):=by
 intro q;cases f with
 | x=>rw[J.ax]at q;cases q
 | hd=>rw[J.ahd]at q;cases q
 | hl=>rw[J.ahl]at q;cases q
 | nt=>rw[J.ant]at q;cases q
 | nl=>rw[J.anl]at q;cases q
 | wt=>rw[J.awt]at q;cases q
 | wb=>rw[J.awb]at q;cases q
 | wl=>rw[J.awl]at q;cases q
 | fh=>rw[J.afh]at q;cases q
 | yg=>rw[J.ayg]at q;cases q
 | dm=>rw[J.adm]at q;cases q
 | fl m=>rw[(J.afl _ _ m).1]at q;cases q
abbrev zo:List Str:=["self", "kept", "t"]
theorem jZ:av zo ["self"] (ar kh):=⟨rfl,rfl,rfl,by decide +kernel,rfl,by decide +kernel,by decide +kernel⟩
theorem wJ(F:Fun K "begin" "IdealHeap.begin" kh D.cW D.gz)(T:Txt K mg D)
  (ag:Ok P w K mg base 1 D.aj D.aB ["self", "text"] (DK K))
  (aI:Ok P w K mg base 5 D.bB D.cV ["self"] (uP D))
  (bc:Ok P w K mg base 1 D.bO D.dR ["self"] (nz D))
  (bu:Ok P w K mg base 3 D.bt D.eM ["self", "leads", "things"] (Kc D)):Ok P w K mg base 6 D.cW D.gz ["self"] (Rm D):=by
 refine⟨?_,F.binds (ps:=["self"]) λ_ _ _ _ _ _ us hl=>match us,hl with|[_],_=>rfl⟩
 refine F.okE jZ (λvs H Q E h=>?_) (λcdv A' outer s' H vs Q E hr h=>?_)
 ·obtain⟨x,A,s,rfl,_⟩:=h
  rfl
 ·obtain⟨x,A,s,rfl,J,Gs,k⟩:=h
  have hu:=lL hr;refine⟨_,(ak (dM (Bb (aH (pv 0) rfl))
    (ai (gm rfl kN (kO T.MO ag.g (hr.mono (by decide)) rfl T.MN ag.b (Passes.x (aP λ_ _ _ q=>q)) (ae bJ ao))))
    bQ)
   (ak (aG (cE (pv 0) T.ab T.gf aI.g (hr.mono (by decide)) aI.b .nil (Passes.x (aP λ_ _ _ q=>q))))
   (ak (il (pv 0) FD rfl)
   (ak (bF (i:=1) jZ.nd rfl (Or.inl rfl) (aJ (pv 0) T.ab T.hU bu.g (hr.mono (by decide)) bu.b .nil (Passes.x (aP λ_ _ _ q=>q)) (ae (cE (aH (pv 0) rfl) T.aZ T.jY bc.g (hr.mono (by decide)) bc.b .nil (Passes.x (aP λ_ _ _ q=>q))) (ae (aH (pv 0) rfl) ao))))
   (ai (PS.nox (UM (mX afv rfl (vO (EO (aH (pv 0) rfl))) (eh (i:=2) jZ.nd rfl (Or.inl rfl))
    (ai (dM (qL (j5 hu (pv 2) (pv 1)) (by with_unfolding_all rfl))
     (ai (sP hu (aH (pv 0) rfl) (pv 2) FD rfl))
     bQ)))))))))),?_⟩
  refine⟨_,rfl,x,D.aa,_,_,.bl s.rnd,rfl,J.ax,T.ab,T.dz,RK,_,rfl,?_⟩;by_cases c:s.rnd=true
  ·rw[show Bd s=(some .on,s) from if_pos c]at k
   exact Ht c (λea hea=>dt T.FU (λ_ q=>q) (k.bad J) ea hea)
  ·rw[show Bd s=(none,Om (aO s)) from if_neg c]at k
   refine Hs (afB.mpr c) ?_;refine⟨_,rfl,x,_,_,rfl,J.ax,(by kernel_rfl),x,A,s,rfl,J,Gs.g,λA1 H1 J1 fr1=>?_⟩;have G1:=Gs.small;have d0:(aO s).dO=[]:=Gs.rd (afB.mpr c);obtain⟨s1,es⟩:∃ s1,aO s=s1:=⟨_,rfl⟩;rw[es]at J1 fr1 G1 k d0;refine⟨_,rfl,x,D.aa,A1.dx,_,rfl,J1.ax,T.ab,T.dz,by show 11<1000;decide,?_⟩;have w2:=J1.ady (n:=true);obtain⟨H2,e2⟩:∃ H2,upd H1 x (.ins D.aa A1.dx (iE "in_round" (.bl true) (atts A1 s1)))=H2:=⟨_,rfl⟩;rw[e2]at w2;show Jy _ _ _ _ (upd H1 x (.ins D.aa A1.dx (iE "in_round" (.bl true) (atts A1 s1))));rw[e2];clear e2;obtain⟨J2,fr2⟩:=w2;have G2:Good {s1 with rnd:=true}:=⟨G1.g.h8,G1.g.n8,G1.g.asc,G1.g.lt,G1.g.f6,G1.g.hh,G1.g.ff,G1.g.nn,G1.g.b12,G1.g.bk,G1.g.bnd,G1.g.n0,G1.g.nx,G1.g.sd,G1.g.yk,G1.g.ym,G1.g.dk,G1.g.ET⟩;refine⟨_,rfl,x,_,_,rfl,J2.ax,(by kernel_rfl),_,rfl,x,D.aa,_,_,.ref A1.hd,rfl,J2.ax,T.ab,T.ay,ny,A1.hd,A1.hdx,_,rfl,J2.ahd,rfl,A1.hd,A1.hdx,A1.hl,A1.hx,s1.bq,rfl,J2.hn G2,λp H3 s3 hp z3=>?_⟩;have J3:=J2.same s3;refine⟨_,rfl,x,D.aa,_,_,.ref A1.fh,rfl,J3.ax,T.ab,T.az,qt,x,A1,_,p,A1.hx,s1.bq,A1.fh,_,keys s1,rfl,J3,G2,z3,J3.rhl,by rw[G1.g.h8];decide,J3.afh,Px s1 A1,(λt m=>mem_keys.mp m),iY G1.g.asc,by unfold keys;rw[aeV];exact G1.g.few,λst kv ms H4 s4 hst h4 k4 n4 m4=>?_⟩;have J4:=J3.same s4;have fr4:=((fr1.trans fr2).trans (Fr.same s3)).trans (Fr.same s4);refine⟨_,rfl,x,D.aa,_,_,.ref A1.fh,rfl,J4.ax,T.ab,T.az,qt,A1.fh,_,J4.afh,λo=>?_⟩;have df:A1.dm≠A1.fh:=afi J4.d5;have sf:st≠A1.fh:=aq J3.afh hst |>.symm;have sd:st≠A1.dm:=aq J3.adm hst |>.symm;have xf:x≠A1.fh:=aw J4.ax J4.afh (by intro z;cases z);have xd:x≠A1.dm:=aw J4.ax J4.adm (by intro z;cases z);have aeJ:H4 A1.dm=some (.dK []):=by have:=J4.adm;rw[show({s1 with rnd:=true}:HS).dO=[] from d0]at this;exact this
   refine⟨A1.fh,o,_,rfl,ah,Bl (d:=A1.fh) (o:=o) (kvs:=s1.aN.map (fkv A1)) (λi σ Hc=>∃ v2,σ=[some (.ref x),some (.ref st),v2]∧((∀ b u,b≠A1.fh→b≠A1.dm→H4 b=some u→Hc b=some u)∧Hc A1.fh=some (.frz o (.dK (s1.aN.map (fkv A1)))))∧Hc A1.dm=some (.dK ((((keys s1).take i).filter λt=>decide (t∉ms)).map tkv)))
    ⟨none,rfl,⟨λb u n _ q=>by rw[af n];exact q,ah⟩,by rw[af df];exact aeJ⟩ (λi σ Hc _ ⟨_,_,oc,_⟩=>oc.2) ?_ ?_⟩
   ·rintro i q σ Hc hi ⟨v2,rfl,oc,hdm⟩
    obtain⟨t,ht,ekv,ep⟩:=(Px s1 A1).at_ hi;have tk:=take_snoc ht;rw[ekv];refine⟨_,rfl,_,rfl,st,_,rfl,qc.k (k:=Sum.inl t) (oc.1 _ _ sf sd h4),_,rfl,?_⟩;rw[k4.isS];by_cases c2:t∈ms
    ·rw[decide_eq_true c2]
     refine jd ⟨_,rfl,oc,?_⟩;rw[tk,af5,hdm];simp[c2]
    ·rw[decide_eq_false c2]
     have ni:t∉((keys s1).take i).filter λt=>decide (t∉ms):=λz=>NJ (show(keys s1).Pairwise (·< ·) from G1.g.asc) ht (afz.mp z).1;have lz:((((keys s1).take i).filter λt=>decide (t∉ms)).map tkv).length<sizeLine:=by
      rw[aeV];refine qP (afe (afJ _ _) ?_)
      have:=G1.g.few
      rw[afm];unfold keys;rw[aeV];omega
     refine oH ⟨_,rfl,x,D.aa,_,_,.ref A1.dm,rfl,oc.1 _ _ xf xd J4.ax,T.ab,T.aX,Kb,_,rfl,A1.dm,_,rfl,HN.k (k:=Sum.inl t) hdm lz,?_⟩;refine⟨_,rfl,⟨λb u n1 n2 q=>by rw[af n2];exact oc.1 b u n1 n2 q,by rw[af (afi df)];exact oc.2⟩,?_⟩;rw[ah,Bj _ ((Br _).non ni),tk,af5,ae8];simp[c2,tkv]
   ·rintro σ Hc ⟨v2,rfl,oc,hdm⟩
    rw[aeV,ae9 (by unfold keys;rw[aeV];exact ae1 _),QB (show ∀ t,t∈ms↔Led s1.bq (fld s1) (keys s1) t from m4)]at hdm;refine⟨A1.fh,o,_,oc.2,(λo' u' q=>?_),?_⟩
    ·have q:H A1.fh=some (.frz o' u'):=q
     rcases(fr1.grow A1.fh .fh) with f|f
     ·obtain⟨u,hu1,_⟩:=J.is f
      rw[q]at hu1;cases hu1;obtain⟨u2,hu2,_⟩:=J.is f;exact absurd q (J.aeI f o' u')
     ·rw[f]at q;cases q
    ·have w5:=J4.adx (ts:=Hu s1)
     have sm:aC (upd H4 A1.dm (.dK ((Hu s1).map tkv))) (upd Hc A1.fh (.dK (s1.aN.map (fkv A1)))):=λb u q=>by
      by_cases c3:b=A1.fh
      ·rw[c3,af (afi df)]at q
       rw[c3,ah];exact J4.afh.symm.trans q
      ·rw[af c3]
       by_cases c4:b=A1.dm
       ·rw[c4,ah]at q
        rw[c4,hdm];exact q
       ·rw[af c4]at q
        exact oc.1 b u c3 c4 q
     exact k A1 _ (w5.1.same sm) ((fr4.trans w5.2).trans (Fr.same sm))
def Rn(D:Ad):Sp:=λvs H Q E=>∃ x A s,vs=[.ref x]∧IH D H x A s∧Gd s∧Fin D x A s H (PX s) Q E
abbrev Ei:List Str:=["self", "gone"]
theorem ql:av Ei ["self"] (ar mK):=⟨rfl,rfl,rfl,by decide +kernel,rfl,by decide +kernel,by decide +kernel⟩
theorem BW(F:Fun K "end" "IdealHeap.end" mK D.el D.iH)(T:Txt K mg D)
  (ag:Ok P w K mg base 1 D.aj D.aB ["self", "text"] (DK K))
  (fO:Ok P w K mg base 2 D.di D.iM ["self", "gone"] (Gv D)):Ok P w K mg base 4 D.el D.iH ["self"] (Rn D):=by
 refine⟨?_,F.binds (ps:=["self"]) λ_ _ _ _ _ _ us hl=>match us,hl with|[_],_=>rfl⟩
 refine F.okE ql (λvs H Q E h=>?_) (λcdv A' outer s' H vs Q E hr h=>?_)
 ·obtain⟨x,A,s,rfl,_⟩:=h
  rfl
 ·obtain⟨x,A,s,rfl,J,Gs,k⟩:=h
  refine⟨_,(ak (dM (sR (Bb (aH (pv 0) rfl)))
    (ai (gm rfl kN (kO T.MR ag.g (hr.mono (by decide)) rfl T.MQ ag.b (Passes.x (aP λ_ _ _ q=>q)) (ae bJ ao))))
    bQ)
   (ak (il (pv 0) FD rfl)
   (ak (bF (i:=1) ql.nd rfl (Or.inl rfl) (lV (FR rfl) rfl T.sY PyProof.Rows.Boot.«list» (ae (aH (pv 0) rfl) ao)))
   (ak (il (pv 0) mO rfl)
   (ai (aG (aJ (pv 0) T.ab T.mQ fO.g (hr.mono (by decide)) fO.b .nil (Passes.x (aP λ_ _ _ q=>q)) (ae (pv 1) ao)))))))),?_⟩
  refine⟨_,rfl,x,D.aa,_,_,.bl s.rnd,rfl,J.ax,T.ab,T.dz,RK,_,rfl,?_⟩;by_cases c:s.rnd=true
  ·rw[show PX s=(none,PV s) from if_pos c]at k
   refine Hs (by rw[c];rfl) ?_;refine⟨_,rfl,x,D.aa,A.dx,_,rfl,J.ax,T.ab,T.dz,by show 11<1000;decide,?_⟩;have w2:=J.ady (n:=false);obtain⟨H2,e2⟩:∃ H2,upd H x (.ins D.aa A.dx (iE "in_round" (.bl false) (atts A s)))=H2:=⟨_,rfl⟩;rw[e2]at w2;show Jy _ _ _ _ (upd H x (.ins D.aa A.dx (iE "in_round" (.bl false) (atts A s))));rw[e2];clear e2;obtain⟨J2,fr2⟩:=w2;refine⟨_,rfl,x,D.aa,_,_,.ref A.dm,rfl,J2.ax,T.ab,T.aX,Kb,A.dm,_,s.dO,rfl,.inl J2.adm,Br _,λL hL=>?_⟩;have s3:=aC.upd (o:=.lst (s.dO.map V.int)) hL;have J3:=J2.same s3;have nfL:=J2.fresh hL;intro p2 hp2;have w:=J3.aeC hp2;have xp2:x≠p2:=aq J3.ax hp2;refine⟨_,rfl,x,D.aa,A.dx,_,rfl,(by rw[af xp2];exact J3.ax),T.ab,T.aX,by show 11<1000;decide,?_⟩;obtain⟨J5,fr5⟩:=w;have oL:=fr5.out nfL ah;refine⟨_,rfl,x,_,_,rfl,J5.ax,(by kernel_rfl),_,rfl,x,_,_,L,s.dO,rfl,J5,Gs.g.n8,oL.2,oL.1,Gs.g.ET,JI Gs.g,(by have:=Gs.g.sd;have:=Gs.g.nx;show s.ot.length≤10000;omega),Gs.g.dk,λA6 H6 J6 fr6=>k A6 H6 J6 (((fr2.trans (Fr.same s3)).trans fr5).trans fr6)⟩
  ·rw[show PX s=(some .no,s) from if_neg c]at k
   refine Ht (by rw[afB.mpr c];rfl) ?_;exact λea hea=>dt T.FV (λ_ q=>q) (k.bad J) ea hea
def NK(D:Ad):Sp:=λvs H Q _=>∃ x A s,vs=[.ref x]∧IH D H x A s∧Q (.bl s.rnd) H
abbrev tu:List Str:=["self"]
theorem rX:av tu ["self"] (ar i7):=⟨rfl,rfl,rfl,by decide +kernel,rfl,by decide +kernel,by decide +kernel⟩
theorem rY(F:Fun K "round_on" "IdealHeap.round_on" i7 D.bw D.dw)(T:Txt K mg D):Ok P w K mg base 1 D.bw D.dw ["self"] (NK D):=by
 refine⟨?_,F.binds (ps:=["self"]) λ_ _ _ _ _ _ us hl=>match us,hl with|[_],_=>rfl⟩
 refine F.okE rX (λvs H Q E h=>?_) (λcdv A' outer s' H vs Q E hr h=>?_)
 ·obtain⟨x,A,s,rfl,_⟩:=h
  rfl
 ·obtain⟨x,A,s,rfl,J,k⟩:=h
  refine⟨_,(PSs.nox (ai (aV (aH (pv 0) rfl)))),?_⟩;exact⟨_,rfl,x,D.aa,_,_,.bl s.rnd,rfl,J.ax,T.ab,T.dz,RK,k⟩
theorem acu{ts:List Int}{n:Option Int}:inO (ts.map tkv) (n.map Sum.inl)=(match n with|some t=>decide (t∈ts)|none=>false):=by
 cases n with
 | none=>rfl
 | some t=>exact adA
theorem Y4(z:Option Int):nmV z=abL (z.map Sum.inl):=by cases z<;>rfl
def L6(D:Ad):Sp:=λvs H Q _=>∃ x A s,∃ t:Int,vs=[.ref x,.int t]∧IH D H x A s∧Good s∧0≤t∧∀ A' H',IH D H' x A' (qR s t)→Fr (bU x A s) H (bU x A' (qR s t)) H'→Q .non H'
theorem QD{ts:List Int}{t:Int}{v:V}(h:lM (ts.map tkv) (Sum.inl t)=some v):v=.bl true:=by
 unfold lM at h;obtain⟨p,hp,e⟩:=afa.mp h;obtain⟨u,_,rfl⟩:=afk.mp (List.mem_of_find?_eq_some hp);exact e.symm
theorem UY{ts:List Int}{t:Int}:sV (ts.map tkv) (Sum.inl t)=(ts.filter λp=>decide (p≠t)).map tkv:=by
 unfold sV;rw[agr];congr 1
 refine afT λp _=>?_;show decide (Sum.inl p≠(Sum.inl t:Key))=decide (p≠t);simp
abbrev zr:List Str:=["self", "t", "spared", "other"]
theorem j0:av zr ["self", "t"] (ar km):=⟨rfl,rfl,rfl,by decide +kernel,rfl,by decide +kernel,by decide +kernel⟩
theorem wK(F:Fun K "spare" "IdealHeap.spare" km D.cY D.gB)(T:Txt K mg D)
  (cI:Ok P w K mg base 3 D.de D.gJ ["t"] (kx))
  (bu:Ok P w K mg base 3 D.bt D.eM ["self", "leads", "things"] (Kc D)):Ok P w K mg base 4 D.cY D.gB ["self", "t"] (L6 D):=by
 refine⟨?_,F.binds (ps:=["self", "t"]) λ_ _ _ _ _ _ us hl=>match us,hl with|[_,_],_=>rfl⟩
 refine F.okE j0 (λvs H Q E h=>?_) (λcdv A' outer s' H vs Q E hr h=>?_)
 ·obtain⟨x,A,s,t,rfl,_⟩:=h
  rfl
 ·obtain⟨x,A,s,t,rfl,J,G,t0,k⟩:=h
  refine⟨_,(PSs.nox (ak (bF (i:=2) j0.nd rfl (Or.inl rfl) (aJ (pv 0) T.ab T.hU bu.g (hr.mono (by decide)) bu.b .nil fz (ae (j4 (ae (bj cI.g (hr.mono (by decide)) rfl T.pR T.jO cI.b .nil fz (ae (pv 1) ao)) ao)) (ae (aH (pv 0) rfl) ao))))
   (ai (mX afv rfl (vO (EO (pv 2))) (eh (i:=3) j0.nd rfl (Or.inl rfl))
    (ai (aG (Gj (aH (pv 0) rfl) (pv 3) ⟨rfl,rfl,rfl,rfl⟩))))))),?_⟩
  refine⟨_,rfl,x,_,_,rfl,J.ax,(by kernel_rfl),_,rfl,t,rfl,t0,λtp H1 s1 hp=>⟨by show 1≤sizeLine;decide,λl hl=>?_⟩⟩;have s2:=aC.upd (o:=.lst [V.ref tp]) hl;have J2:=(J.same s1).same s2;have rl:Rel (upd H1 l (.lst [V.ref tp])) [.ref tp] [.th t]:=⟨rfl,λi v w h1 h2=>by
   cases i with
   | zero=>cases h1;cases h2;exact⟨tp,rfl,s2 _ _ hp⟩
   | succ i=>cases h1⟩
  refine⟨_,rfl,x,D.aa,_,_,.ref A.dm,rfl,J2.ax,T.ab,T.aX,Kb,x,A,s,l,_,[.th t],A.dm,_,s.dO,rfl,J2,G,ah,rl,by show 1≤100000;decide,J2.adm,Br _,G.dk,iY G.ET,JI G,λst kv ms H3 s3 hst h3 k3 n3 m3=>?_⟩;have J3:=J2.same s3;have fr3:=((Fr.same (F:=bU x A s) s1).trans (Fr.same s2)).trans (Fr.same s3);have nfs:=J2.fresh hst;refine⟨_,rfl,st,kv,h3,λo=>?_⟩;have sub:∀ u∈ms,u∈s.dO:=λu m=>((m3 u).mp m).mem;have H4s:∀ b u,b≠st→H3 b=some u→upd H3 st (.frz o (.dK kv)) b=some u:=λb u n q=>by rw[af n];exact q
  have t4:fv H3 (upd H3 st (.frz o (.dK kv))):=fv.set h3 (λ_ z=>nomatch z);have J4:IH D (upd H3 st (.frz o (.dK kv))) x A s:=J3.keep (λb u f q=>H4s b u (λe=>nfs (by rw[←e];exact f)) q) t4;have bk:H st=none:=aC.none s1 (aC.none s2 hst);have fr4:Fr (bU x A s) H (bU x A s) (upd H3 st (.frz o (.dK kv))):=⟨λb u n q=>H4s b u (aq q bk) (fr3.ext b u n q),λ_ f=>.inl f,λb u q=>by obtain⟨u',q'⟩:=fr3.all b u q;exact⟨u',H4s b u' (aq q bk) q'⟩,fr3.tup.trans t4⟩;refine⟨st,o,kv,rfl,ah,Bl (d:=st) (o:=o) (kvs:=kv) (λi σ Hc=>∃ v3,σ=[some (.ref x),some (.int t),some (.ref st),v3]∧IH D Hc x A {s with dO:=s.dO.filter λu=>decide (u∉ms.take i)}∧Fr (bU x A s) H (bU x A {s with dO:=s.dO.filter λu=>decide (u∉ms.take i)}) Hc∧Hc st=some (.frz o (.dK kv)))
   ⟨none,rfl,(by rw[af3,show(s.dO.filter λu=>decide (u∉([]:List Int)))=s.dO by simp];exact J4),(by rw[af3,show(s.dO.filter λu=>decide (u∉([]:List Int)))=s.dO by simp];exact fr4),ah⟩ (λi σ Hc _ ⟨_,_,_,_,z⟩=>z) ?_ ?_⟩
  ·rintro i q σ Hc hi ⟨v3,rfl,Jc,frc,z⟩
   obtain⟨u,hu',ekv,ep⟩:=k3.at_ hi;have tk:=take_snoc hu';have ni:u∉ms.take i:=λm=>by
    have:=af8.mp (show(ms.take i++ms.drop i).Nodup by rw[agi];exact n3)
    have hlt:=(aeY.mp hu').1;exact this.2.2 u m u (by rw[af9 hlt,(aeY.mp hu').2];exact afg) rfl
   have mu:u∈s.dO.filter λu=>decide (u∉ms.take i):=afz.mpr ⟨sub u (ae7 hu'),by simpa using ni⟩;have vd:lM ((s.dO.filter λu=>decide (u∉ms.take i)).map tkv) (Sum.inl u)=some (.bl true):=by
    have h1:=(Br (s.dO.filter λu=>decide (u∉ms.take i))).isS (t:=u);rw[decide_eq_true mu]at h1;obtain⟨v,hv⟩:=Option.isSome_iff_exists.mp h1;rw[hv,QD hv]
   rw[ekv];refine⟨_,rfl,x,D.aa,_,_,.ref A.dm,rfl,Jc.ax,T.ab,T.aX,Kb,A.dm,rfl,.inl ⟨_,.inl Jc.adm⟩,_,rfl,_,Sum.inl u,_,Jc.adm,rfl,vd,?_⟩;have w:=Jc.adx (ts:=(s.dO.filter λu=>decide (u∉ms.take i)).filter λv=>decide (v≠u));rw[show sV (({s with dO:=s.dO.filter λu=>decide (u∉ms.take i)}:HS).dO.map tkv) (Sum.inl u)=((s.dO.filter λu=>decide (u∉ms.take i)).filter λv=>decide (v≠u)).map tkv from UY];have ef:((s.dO.filter λu=>decide (u∉ms.take i)).filter λv=>decide (v≠u))=s.dO.filter λv=>decide (v∉ms.take (i+1)):=by
    rw[List.filter_filter,tk];refine afT λv _=>?_;simp[afd,not_or,Bool.and_comm]
   rw[ef]at w ⊢;have nsd:st≠A.dm:=λe=>by rw[e,Jc.adm]at z;cases z
   exact⟨_,rfl,w.1,frc.trans w.2,by rw[af nsd];exact z⟩
  ·rintro σ Hc ⟨v3,rfl,Jc,frc,z⟩
   rw[k3.len,ae9 (ae1 _),QC m3]at Jc frc;exact k _ _ Jc frc
def L7(D:Ad):Sp:=λvs H Q E=>∃ x A s,∃ h n:Int,vs=[.ref x,.int h,.int n]∧IH D H x A s∧Gd s∧s.nxt<10000∧Sm h∧Sm n∧Fin D x A s H (kQ s h n) Q E
abbrev BX:List Str:=["self", "h", "n", "size"]
theorem oR:av BX ["self", "h", "n"] (ar lA):=⟨rfl,rfl,rfl,by decide +kernel,rfl,by decide +kernel,by decide +kernel⟩
theorem zt(F:Fun K "make" "IdealHeap.make" lA D.dE D.gY)(T:Txt K mg D)
  (ag:Ok P w K mg base 1 D.aj D.aB ["self", "text"] (DK K))
  (aA:Ok P w K mg base 3 D.bp D.cD ["h"] (en D))
  (jl:Ok P w K mg base 3 D.gM D.lP ["fields"] (uz D))
  (cA:Ok P w K mg base 4 D.bg D.eG ["self", "things"] (Gr D))
  (aI:Ok P w K mg base 5 D.bB D.cV ["self"] (uP D))
  (jn:Ok P w K mg base 5 D.dG D.g4 ["self"] (Og D))
  (jo:Ok P w K mg base 5 D.b7 D.gX ["self", "h", "n"] (Rl D)):Ok P w K mg base 8 D.dE D.gY ["self", "h", "n"] (L7 D):=by
 refine⟨?_,F.binds (ps:=["self", "h", "n"]) λ_ _ _ _ _ _ us hl=>match us,hl with|[_,_,_],_=>rfl⟩
 refine F.okE oR (λvs H Q E h=>?_) (λcdv A' outer s' H vs Q E hr h=>?_)
 ·obtain⟨x,A,s,h,n,rfl,_⟩:=h
  rfl
 ·obtain⟨x,A,s,h,n,rfl,J,Gs,hnx,hh,hn,k⟩:=h
  refine⟨_,(ak (aG (bj aA.g (hr.mono (by decide)) rfl T.gi T.ed aA.b .nil (Passes.x (aP λ_ _ _ q=>q)) (ae (pv 1) ao)))
   (ak (bF (i:=3) oR.nd rfl (Or.inl rfl) (bj jl.g (hr.mono (by decide)) rfl T.FW T.rG jl.b .nil (Passes.x (aP λ_ _ _ q=>q)) (ae (pv 2) ao)))
   (ak (dM (PW.pt (pw_and (Bb (aH (pv 0) rfl)) (pw_and1 (aU JU (eF EL (aJ (pv 0) T.ab T.jH cA.g (hr.mono (by decide)) cA.b .nil (Passes.x (aP λ_ _ _ q=>q)) (ae (aH (pv 0) rfl) ao)) (pv 3)) (aH (pv 0) rfl) (cu _)))))
    (ai (aG (cE (pv 0) T.ab T.gf aI.g (hr.mono (by decide)) aI.b .nil (Passes.x (aP λ_ _ _ q=>q)))))
    bQ)
   (ak (dM (aU JU (eF EL (cE (pv 0) T.ab T.yF jn.g (hr.mono (by decide)) jn.b .nil (Passes.x (aP λ_ _ _ q=>q))) (pv 3)) (aH (pv 0) rfl) (cu _))
    (ai (gm rfl kN (kO T.O6 ag.g (hr.mono (by decide)) rfl T.O5 ag.b (Passes.x (aP λ_ _ _ q=>q)) (ae (jK (bC (lN (pv 3)) (bC iu jJ))) ao))))
    bQ)
   (ai (aG (aJ (pv 0) T.ab T.qx jo.g (hr.mono (by decide)) jo.b .nil (Passes.x (aP λ_ _ _ q=>q)) (ae (pv 1) (ae (pv 2) ao))))))))),?_⟩
  refine⟨_,rfl,h,rfl,hh,?_⟩;by_cases c:ok8 h
  ·rw[if_pos c]
   refine⟨_,rfl,n,rfl,hn,?_⟩;by_cases c2:0≤n∧n≤6
   ·rw[if_pos c2]
    have G:=Gs.g;have kk:Fin D x A s H (if held (mkR s n)+(n+1)>s.limit then(some .room,mkR s n) else(none,JH (mkR s n) h n)) Q E:=by
     rw[show kQ s h n=_ from by unfold kQ;rw[if_pos c,if_pos c2]]at k;exact k
    have G2:Gd (mkR s n):=Gs.mkd;simp only[kU];refine vQ λN hN=>?_;have fin:∀(A2:HA) (H2:Hp),IH D H2 x A2 (mkR s n)→Fr (bU x A s) H (bU x A2 (mkR s n)) H2→N [some (.ref x),some (.int h),some (.int n),some (.int (n+1))] H2:=by
     intro A2 H2 J2 fr2;refine hN _ _ ?_;refine⟨_,rfl,x,_,_,rfl,J2.ax,(by kernel_rfl),x,A2,_,rfl,J2,G2.g,λH3 s3=>?_⟩;have J3:=J2.same s3;have fr3:=fr2.trans (Fr.same s3);refine⟨_,rfl,held (mkR s n),n+1,rfl,rfl,_,rfl,x,D.aa,_,_,.int (mkR s n).limit,rfl,J3.ax,T.ab,T.oK,acj,_,_,rfl,rfl,_,rfl,aQ (λg=>?_) (λg=>?_)⟩
     ·have g:=of_decide_eq_true g
      rw[Oo]at g;rw[if_pos g]at kk;exact⟨_,rfl,n+1,rfl,Sm.of (by omega) (by omega),λy hy ea hea=>dt T.HV (λb q=>fr3.none q) (λH' s'=>kk A2 H' (J3.same s') (fr3.trans (Fr.same s'))) ea hea⟩
     ·have g:¬(held (mkR s n)+(n+1)>s.limit):=λz=>g (decide_eq_true (by rw[Oo];exact z))
      rw[if_neg g]at kk;exact⟨_,rfl,x,_,_,rfl,J3.ax,(by kernel_rfl),_,rfl,_,rfl,x,A2,_,h,n,rfl,J3,G2.g,c,c2.1,c2.2,λA' H' J' fr=>kk A' H' J' (fr3.trans fr)⟩
    refine⟨_,rfl,x,D.aa,_,_,.bl s.my,rfl,J.ax,T.ab,T.gP,X9,_,rfl,?_⟩;by_cases my:s.my=true
    ·refine Ht my ⟨_,rfl,x,_,_,rfl,J.ax,(by kernel_rfl),_,rfl,x,D.aa,_,_,.ref A.yg,rfl,J.ax,T.ab,T.a5,Ka,x,A,s,A.yg,_,s.yng,rfl,J,G,J.ayg,Br _,G.yk,GP G,λH1 s1=>?_⟩
     have J1:=J.same s1;refine⟨_,rfl,wsum s s.yng,n+1,rfl,rfl,_,rfl,x,D.aa,_,_,.int s.room,rfl,J1.ax,T.ab,T.j6,aci,_,_,rfl,rfl,_,rfl,aQ (λg=>?_) (λg=>?_)⟩
     ·have g:=of_decide_eq_true g
      have em:mkR s n=aO s:=if_pos ⟨my,g⟩;rw[em]at fin;exact⟨_,rfl,x,_,_,rfl,J1.ax,(by kernel_rfl),x,A,s,rfl,J1,G,λA2 H2 J2 fr2=>fin A2 H2 J2 ((Fr.same s1).trans fr2)⟩
     ·have em:mkR s n=s:=if_neg λz=>g (decide_eq_true z.2)
      rw[em]at fin;exact fin A H1 J1 (Fr.same s1)
    ·have em:mkR s n=s:=if_neg λz=>my z.1
     rw[em]at fin;exact Hs (afB.mpr my) (jd (fin A H J Fr.refl))
   ·rw[if_neg c2]
    rw[show kQ s h n=(some .count,s) by simp only[kQ,if_pos c,if_neg c2]]at k;exact k.bad J
  ·rw[if_neg c]
   rw[show kQ s h n=(some .hand,s) by simp only[kQ,if_neg c]]at k;exact k.bad J
def L8(D:Ad):Sp:=λvs H Q E=>∃ x A s,∃ h w:Int,vs=[.ref x,.int h,.int w]∧IH D H x A s∧Good s∧Sm h∧Sm w∧Fin D x A s H (kP s h w) Q E
theorem oE{α:Type}{l:List α}{i:Nat}{a b:α}(h:b∈l.set i a):b∈l∨b=a:=by
 rw[List.mem_iff_getElem]at h;obtain⟨j,hj,e⟩:=h;rw[List.getElem_set]at e;split at e
 ·exact .inr e.symm
 ·exact .inl (by rw[←e];exact afW _)
theorem Good.put{s:HS}(g:Good s){h:Int}{w:Wd}(c:∀ t,w=.th t→∃ ws,(t,ws)∈s.aN):Good (qz s h w) :=
 ⟨by show(s.bq.set _ _).length=8;rw[afZ];exact g.h8,g.n8,g.asc,g.lt,g.f6,(λt m=>(oE m).elim (λq=>g.hh t q) λe=>c t e.symm),g.ff,g.nn,g.b12,g.bk,g.bnd,g.n0,g.nx,g.sd,g.yk,g.ym,g.dk,g.ET⟩
abbrev BY:List Str:=["self", "h", "w", "t"]
theorem oS:av BY ["self", "h", "w"] (ar lB):=⟨rfl,rfl,rfl,by decide +kernel,rfl,by decide +kernel,by decide +kernel⟩
theorem zu(F:Fun K "read" "IdealHeap.read" lB D.dF D.gZ)(T:Txt K mg D)
  (iR:Ok P w K mg base 5 D.bP D.gy ["self", "h", "w"] (L1 D))
  (iS:Ok P w K mg base 4 D.cY D.gB ["self", "t"] (L6 D)):Ok P w K mg base 7 D.dF D.gZ ["self", "h", "w"] (L8 D):=by
 refine⟨?_,F.binds (ps:=["self", "h", "w"]) λ_ _ _ _ _ _ us hl=>match us,hl with|[_,_,_],_=>rfl⟩
 refine F.okE oS (λvs H Q E h=>?_) (λcdv A' outer s' H vs Q E hr h=>?_)
 ·obtain⟨x,A,s,h,w,rfl,_⟩:=h
  rfl
 ·obtain⟨x,A,s,h,w,rfl,J,G,hh,hw,k⟩:=h
  refine⟨_,(ak (bF (i:=3) oS.nd rfl (Or.inl rfl) (aJ (pv 0) T.ab T.pX iR.g (hr.mono (by decide)) iR.b .nil (Passes.x (aP λ_ _ _ q=>q)) (ae (pv 1) (ae (pv 2) ao))))
   (ai (dM (qL (UG (pv 3) (aH (pv 0) rfl)) (by with_unfolding_all rfl))
    (ai (aG (aJ (pv 0) T.ab T.wj iS.g (hr.mono (by decide)) iS.b .nil (Passes.x (aP λ_ _ _ q=>q)) (ae (pv 3) ao))))
    bQ))),?_⟩
  refine⟨_,rfl,x,_,_,rfl,J.ax,(by kernel_rfl),_,rfl,_,rfl,x,A,s,h,w,rfl,J,G,hh,hw,?_⟩;by_cases c:ok8 h
  ·rw[if_pos c]
   by_cases c2:ok8 w
   ·rw[if_pos c2]
    rw[show kP s h w=(none,rdR (qz s h (nmW (s.names.getD w.toNat none))) (s.names.getD w.toNat none)) by simp only[kP,if_pos c,if_pos c2]]at k;have hi:w.toNat<s.names.length:=(by rw[G.n8];omega);have gd:s.names.getD w.toNat none=s.names[w.toNat]:=(by simp[List.getD,hi]);have mm:s.names[w.toNat]∈s.names:=afW hi;obtain⟨z,ez⟩:∃ z,s.names.getD w.toNat none=z:=⟨_,rfl⟩;rw[ez]at k ⊢;rw[←gd,ez]at mm;intro A1 H1 J1 fr;refine⟨_,rfl,_,rfl,x,D.aa,_,_,_,rfl,J1.ax,T.ab,T.aX,Kb,A1.dm,_,z.map Sum.inl,rfl,Y4 z,.inl J1.adm,_,rfl,?_⟩;rw[acu];cases z with
    | none=>exact jd (k A1 H1 J1 fr)
    | some t =>
     show if decide (t∈s.dO)=true then _ else _;obtain⟨ws,m⟩:=G.nn t mm;by_cases c3:t∈s.dO
     ·rw[decide_eq_true c3]
      rw[show rdR (qz s h (nmW (some t))) (some t)=qR (qz s h (nmW (some t))) t from if_pos c3]at k;have G2:Good (qz s h (nmW (some t))):=G.put λu e=>by cases e;exact⟨ws,m⟩
      exact oH ⟨_,rfl,x,_,_,rfl,J1.ax,(by kernel_rfl),_,rfl,x,A1,_,t,rfl,J1,G2,(G.lt _ _ m).1,λA2 H2 J2 fr2=>k A2 H2 J2 (fr.trans fr2)⟩
     ·rw[decide_eq_false c3]
      rw[show rdR (qz s h (nmW (some t))) (some t)=qz s h (nmW (some t)) from if_neg c3]at k;exact jd (k A1 H1 J1 fr)
   ·rw[if_neg c2]
    rw[show kP s h w=(some .name,s) by simp only[kP,if_pos c,if_neg c2]]at k;exact k.bad J
  ·rw[if_neg c]
   rw[show kP s h w=(some .hand,s) by simp only[kP,if_neg c]]at k;exact k.bad J
inductive Dd where
 | make (h n:Int)|store (g k h:Int)|load (h g k:Int)|copy (h g:Int)|drop (h:Int)|number (h x:Int)|name (w h:Int)|read (h w:Int)|word (h x:Int)|small|turn
def Dd.its:Dd→List V
 | .make h n=>[.str "make",.int h,.int n]
 | .store g k h=>[.str "store",.int g,.int k,.int h]
 | .load h g k=>[.str "load",.int h,.int g,.int k]
 | .copy h g=>[.str "copy",.int h,.int g]
 | .drop h=>[.str "drop",.int h]
 | .number h x=>[.str "number",.int h,.int x]
 | .name w h=>[.str "name",.int w,.int h]
 | .read h w=>[.str "read",.int h,.int w]
 | .word h x=>[.str "word",.int h,.int x]
 | .small=>[.str "small"]
 | .turn=>[.str "turn"]
abbrev In8(h:Int):Prop:=0≤h∧h<8
def Dd.ok:Dd→Prop
 | .make h n=>In8 h∧0≤n∧n≤6
 | .store g k h=>In8 g∧0≤k∧k≤6∧In8 h
 | .load h g k=>In8 h∧In8 g∧0≤k∧k≤6
 | .copy h g=>In8 h∧In8 g
 | .drop h=>In8 h
 | .number h x=>In8 h∧-100000≤x∧x≤100000
 | .name w h=>In8 w∧In8 h
 | .read h w=>In8 h∧In8 w
 | .word h x=>In8 h∧-100000≤x∧x≤100000
 | .small=>True
 | .turn=>True
theorem m8(n d:Int):0≤n/d%8∧n/d%8<8:=⟨afN _ (by decide),afO _ (by decide)⟩
def F7(K:W.Frag):Sp:=λvs H Q _=>∃(a:Addr) (ns:List Int) (m:Int),vs=[.ref a,.int m]∧SqL K H a (ns.map V.int)∧ns.length≤63∧∀ p (zs:List Int) H',aC H H'→H p=none→H' p=some (.lst (zs.map V.int))→zs.length≤200∧(0≤m→zs.length≤m.toNat)→(∀ z∈zs,0≤z∧z<65536)→Q (.ref p) H'
theorem QE(ns:List Int)(lo hi:Option Int):∃ cs:List Int,PN (ns.map V.int) lo hi=cs.map V.int∧cs.length≤ns.length∧(∀ c∈cs,c∈ns)∧∀ m,hi=some m→0≤m→cs.length≤m.toNat:=by
 refine⟨(ns.drop (HT.sIx ns.length 0 lo)).take (HT.sIx ns.length ns.length hi-HT.sIx ns.length 0 lo),?_,?_,λc hc=>List.mem_of_mem_drop (agn hc),λm e m0=>?_⟩
 ·unfold PN
  rw[aeV,List.map_take,List.map_drop]
 ·rw[afm,List.length_drop]
  omega
 ·subst e
  rw[afm]
  have:HT.sIx ns.length ns.length (some m)≤m.toNat:=by
   show(if m<0 then(m+(ns.length:Int)).toNat else min m.toNat ns.length)≤_;rw[if_neg (by omega)];omega
  omega
abbrev Fc:List Str:=["script", "most", "found", "k", "near", "turn"]
theorem eB:av Fc ["script", "most"] (ar nY):=⟨rfl,rfl,rfl,by decide +kernel,rfl,by decide +kernel,by decide +kernel⟩
theorem Ej(F:Fun K "_law_numbers" "_law_numbers" nY D.d9 D.jb)(T:Txt K mg D):Ok P w K mg base 2 D.d9 D.jb ["script", "most"] (F7 K):=by
 refine⟨?_,F.binds (ps:=["script", "most"]) λ_ _ _ _ _ _ us hl=>match us,hl with|[_,_],_=>rfl⟩
 refine F.okE eB (λvs H Q E h=>?_) (λcdv A' outer s' H vs Q E hr h=>?_)
 ·obtain⟨a,ns,m,rfl,_⟩:=h
  rfl
 ·obtain⟨a,ns,m,rfl,hS,hlen,k⟩:=h
  refine⟨_,(PSs.nox (ak (bF (i:=2) eB.nd rfl (Or.inl rfl) (j4 ao))
   (ak (mX afv rfl (Hw rfl T.FX (ae (gK iC rfl T.Bo PyProof.Rows.Boot.«len» (ae (pv 0) ao)) ao)) (eh (i:=3) eB.nd rfl (Or.inl rfl))
    (ak (bF (i:=4) eB.nd rfl (Or.inl rfl) (eF kM (b9 gj (pv 0) (pv 3) (λ_ _=>rfl)) au))
    (ak (dM (aU pj (eF kM (b9 gj (pv 0) au (λ_ _=>rfl)) au) au (cu _))
     (ak (bF (i:=4) eB.nd rfl (Or.inl rfl) (eF kM (eF JS (eF EL (eF EL (pv 4) (eF JS au (pv 3))) au) au) au))
     (ai (bF (i:=4) eB.nd rfl (Or.inl rfl) (eF kM (eF JS (pv 4) (pv 4)) au))))
     bQ)
    (ai (mX afv rfl (Hw rfl T.FX (ae au ao)) (eh (i:=5) eB.nd rfl (Or.inl rfl))
     (ak (dM (PW.pt (pw_or (aU pj (pv 5) au (cu _)) (pw_or1 (aU JU (pv 4) au (cu _)))))
      (ai (aG (FK PySem.F.plainAttrs_list PySem.F.slot_list_append PySem.F.type_list_append lW (pv 2) (ae (eF kM (pv 4) au) ao))))
      bQ)
     (ai (bF (i:=4) eB.nd rfl (Or.inl rfl) (eF vK (pv 4) au)))))))))
   (ai (aV (LC NY (pv 2) NU (NV (pv 1)))))))),?_⟩
  refine⟨by show 0≤sizeLine;decide,λp hp=>?_⟩;have s1:=aC.upd (o:=.lst []) hp;have z1:upd H p (.lst []) p=some (.lst (([]:List Int).map V.int)):=ah;obtain⟨H1,e1⟩:∃ H1,upd H p (.lst [])=H1:=⟨_,rfl⟩;show kU 2 (V.ref p) _ (upd H p (.lst [])) _;rw[e1]at s1 z1 ⊢;clear e1;have hpa:∀ {Hx:Hp},aC H Hx→SqL K Hx a (ns.map V.int):=λs=>s.seq hS;refine⟨_,rfl,a,_,rfl,.inl (hpa s1),(ns.map V.int).length,rfl,by omega,by rw[aeV];omega,Hz (lo:=0) (n:=(ns.map V.int).length) (λi σ Hx=>∃(v3 v4 v5:Option V) (zs:List Int),σ=[some (.ref a),some (.int m),some (.ref p),v3,v4,v5]∧aC H Hx∧Hx p=some (.lst (zs.map V.int))∧zs.length≤3*i∧∀ z∈zs,0≤z∧z<65536) ⟨none,none,none,[],rfl,s1,z1,ae1 _,λz hz=>by cases hz⟩ ?_ ?_⟩
  ·rintro i σ Hx hi ⟨v3,v4,v5,zs,rfl,sx,zx,lx,bx⟩
   rw[aeV]at hi;have hk:atI (ns.map V.int) (0+(i:Int))=some (.int ns[i]):=(by rw[Int.zero_add];exact Bx (by rw[ae6,aeW hi];rfl));have h0:atI (ns.map V.int) 0=some (.int (ns[0]'(by omega))):=Bx (j:=0) (by rw[ae6,aeW (by omega)];rfl);have b0:=afN ns[i] (show(281474976710656:Int)≠0 by decide);have b1:=afO ns[i] (show(0:Int)<281474976710656 by decide);refine⟨_,rfl,_,rfl,a,_,_,_,rfl,rfl,hpa sx,hk,_,281474976710656,rfl,rfl,(by show(0:Int)<281474976710656;decide),?_⟩;obtain⟨ne,ene⟩:∃ ne:Int,ns[i]%281474976710656=ne:=⟨_,rfl⟩;rw[ene]at b0 b1;simp only[ene,kU];refine vQ λN hN=>?_;have rest:∀ near:Int,0≤near→N [some (.ref a),some (.int m),some (.ref p),some (.int (0+(i:Int))),some (.int near),v5] Hx:=by
    intro near n0;refine hN _ _ ?_;refine⟨3,rfl,by decide,by decide,Hz (lo:=0) (n:=3) (λj σ Hy=>∃(near:Int) (v5:Option V) (zs:List Int),σ=[some (.ref a),some (.int m),some (.ref p),some (.int (0+(i:Int))),some (.int near),v5]∧0≤near∧aC H Hy∧Hy p=some (.lst (zs.map V.int))∧zs.length≤3*i+j∧∀ z∈zs,0≤z∧z<65536) ⟨near,v5,zs,rfl,n0,sx,zx,by omega,bx⟩ ?_ ?_⟩
    ·rintro j σ Hy hj ⟨near,v5,zs,rfl,n0,sy,zy,ly,by_⟩
     refine vQ λM hM=>?_;have tail:∀(zs:List Int) (Hy:Hp),aC H Hy→Hy p=some (.lst (zs.map V.int))→zs.length≤3*i+(j+1)→(∀ z∈zs,0≤z∧z<65536)→M [some (.ref a),some (.int m),some (.ref p),some (.int (0+(i:Int))),some (.int near),some (.int (0+(j:Int)))] Hy:=by
      intro zs Hy sy zy ly by_;exact hM _ _ ⟨_,rfl,near,65536,rfl,rfl,⟨by decide,by decide⟩,near/65536,_,zs,rfl,Int.ediv_nonneg n0 (by decide),sy,zy,ly,by_⟩
     have app:M=M:=rfl;refine YZ λB hB=>?_;have grow:B [some (.ref a),some (.int m),some (.ref p),some (.int (0+(i:Int))),some (.int near),some (.int (0+(j:Int)))] Hy:=by
      refine hB _ _ ?_;refine⟨_,rfl,.inl ⟨rfl,_,SqL.of zy⟩,_,rfl,near,65536,rfl,rfl,(by show(0:Int)<65536;decide),p,_,_,rfl,rfl,zy,afS (show(zs.map V.int).length≤1000 by rw[aeV];omega) (by decide),?_⟩;refine tail (zs++[near%65536]) _ (λb u g=>by rw[af (aq g hp)];exact sy b u g) (by rw[ah,ae8];rfl) (by rw[ae3,afp];omega) (λz hz=>?_);rcases afd.mp hz with g|g
      ·exact by_ z g
      ·rw[aeX.mp g]
       exact⟨afN _ (by decide),afO _ (by decide)⟩
     refine⟨_,rfl,rfl,_,rfl,aQ (λ_=>oH grow) (λ_=>⟨_,rfl,near,0,rfl,rfl,_,rfl,aQ (λ_=>grow) (λ_=>tail zs Hy sy zy (by omega) by_)⟩)⟩
    ·rintro σ Hy ⟨near,v5,zs,rfl,n0,sy,zy,ly,by_⟩
     exact⟨_,_,_,zs,rfl,sy,zy,by omega,by_⟩
   refine⟨_,rfl,a,_,0,_,rfl,rfl,hpa sx,h0,_,2,rfl,rfl,(by show(0:Int)<2;decide),rfl,_,rfl,aQ (λ_=>?_) (λ_=>rest ne b0)⟩;have q0:=afN ((ne+7919*(0+(i:Int))+1)*48271) (show(2147483647:Int)≠0 by decide);have q1:=afO ((ne+7919*(0+(i:Int))+1)*48271) (show(0:Int)<2147483647 by decide);refine⟨_,rfl,_,rfl,7919,0+(i:Int),rfl,rfl,.inl ⟨by decide,by decide⟩,ne,_,rfl,rfl,_,1,rfl,rfl,_,48271,rfl,rfl,.inr ⟨by decide,by decide⟩,_,2147483647,rfl,rfl,(by show(0:Int)<2147483647;decide),?_⟩;obtain⟨n2,en2⟩:∃ n2:Int,(ne+7919*(0+(i:Int))+1)*48271%2147483647=n2:=⟨_,rfl⟩;rw[en2]at q0 q1;simp only[en2,kU];refine⟨_,rfl,_,rfl,n2,n2,rfl,rfl,.inl ⟨by omega,by omega⟩,_,281474976710597,rfl,rfl,(by show(0:Int)<281474976710597;decide),?_⟩;exact rest _ (afN _ (by decide))
  ·rintro σ Hx ⟨v3,v4,v5,zs,rfl,sx,zx,lx,bx⟩
   rw[aeV]at lx;obtain⟨cs,ec,cl,cm,cb⟩:=QE zs none (some m);refine⟨_,rfl,_,rfl,_,rfl,p,_,rfl,SqL.of zx,λq hq=>?_⟩;rw[ec];have hq0:H q=none:=aC.none sx hq;exact k q cs _ (sx.trans (aC.upd hq)) hq0 ah ⟨by omega,λm0=>cb m rfl m0⟩ (λz hz=>bx z (cm z hz))
def Oq:Sp:=λvs H Q _=>∃ n:Int,vs=[.int n]∧0≤n∧n<65536∧∀ q dd H',aC H H'→H q=none→H' q=some (.tup (Dd.its dd))→dd.ok→Q (.ref q) H'
abbrev KU:List Str:=["number", "a", "b", "c", "kind", "some"]
theorem jB:av KU ["number"] (ar uo):=⟨rfl,rfl,rfl,by decide +kernel,rfl,by decide +kernel,by decide +kernel⟩
theorem II(F:Fun K "_law_deed" "_law_deed" uo D.gD D.mh)(T:Txt K mg D):Ok P w K mg base 1 D.gD D.mh ["number"] (Oq):=by
 refine⟨?_,F.binds (ps:=["number"]) λ_ _ _ _ _ _ us hl=>match us,hl with|[_],_=>rfl⟩
 refine F.okE jB (λvs H Q E h=>?_) (λcdv A' outer s' H vs Q E hr h=>?_)
 ·obtain⟨n,rfl,_⟩:=h
  rfl
 ·obtain⟨n,rfl,n0,n1,k⟩:=h
  refine⟨_,(PSs.nox (ak (bF (i:=1) jB.nd rfl (Or.inl rfl) (eF kM (eF vK (pv 0) au) au))
   (ak (bF (i:=2) jB.nd rfl (Or.inl rfl) (eF kM (eF vK (pv 0) au) au))
   (ak (bF (i:=3) jB.nd rfl (Or.inl rfl) (eF kM (eF vK (pv 0) au) au))
   (ak (bF (i:=4) jB.nd rfl (Or.inl rfl) (eF kM (pv 0) au))
   (ak (dM (aU FF (pv 4) au (cu _))
    (ai (aV (g9 (ae bJ (ae (pv 1) (ae (b9 gj (j4 (ae au (ae au (ae au (ae au (ae au (ae au (ae au (ae au ao))))))))) (pv 3) (λ_ _=>rfl)) ao))))))
    bQ)
   (ak (dM (aU FF (pv 4) au (cu _))
    (ai (aV (g9 (ae bJ (ae (pv 1) (ae (eF kM (pv 3) au) (ae (pv 2) ao)))))))
    bQ)
   (ak (dM (aU FF (pv 4) au (cu _))
    (ai (aV (g9 (ae bJ (ae (pv 1) (ae (pv 2) (ae (eF kM (pv 3) au) ao)))))))
    bQ)
   (ak (bF (i:=5) jB.nd rfl (Or.inl rfl) (j4 (iL (g9 (ae bJ (ae (pv 1) (ae (pv 2) ao)))) (iL (g9 (ae bJ (ae (pv 1) ao))) (iL (g9 (ae bJ (ae (pv 1) (ae (eF Nw (eF JS (pv 2) au) (pv 3)) ao)))) (iL (g9 (ae bJ (ae (pv 2) (ae (pv 1) ao)))) ao))))))
   (ai (aV (b9 gj (eF BA (pv 5) (j4 (iL (g9 (ae bJ (ae (pv 1) (ae (pv 2) ao)))) (iL (g9 (ae bJ (ae (pv 1) (ae (eF Nw (pv 0) au) ao)))) (iL (g9 (ae bJ ao)) (iL (g9 (ae bJ ao)) ao)))))) (eF Nw (pv 4) au) (λ_ _=>rfl))))))))))))),?_⟩
  obtain⟨a,ea⟩:∃ a:Int,n/16%8=a:=⟨_,rfl⟩;obtain⟨b,eb⟩:∃ b:Int,n/128%8=b:=⟨_,rfl⟩;obtain⟨c,ec⟩:∃ c:Int,n/1024%8=c:=⟨_,rfl⟩;obtain⟨kd,ek⟩:∃ kd:Int,n%16=kd:=⟨_,rfl⟩;have ha:In8 a:=by rw[←ea];exact m8 n 16
  have hb:In8 b:=by rw[←eb];exact m8 n 128
  have hc:In8 c:=by rw[←ec];exact m8 n 1024
  have k0:0≤kd:=by rw[←ek];exact afN _ (by decide)
  have k1:kd<16:=by rw[←ek];exact afO _ (by decide)
  refine⟨_,rfl,n,16,rfl,rfl,⟨by decide,by decide⟩,_,8,rfl,rfl,(by show(0:Int)<8;decide),?_⟩;simp only[ea,kU];refine⟨_,rfl,n,128,rfl,rfl,⟨by decide,by decide⟩,_,8,rfl,rfl,(by show(0:Int)<8;decide),?_⟩;simp only[eb,kU];refine⟨_,rfl,n,1024,rfl,rfl,⟨by decide,by decide⟩,_,8,rfl,rfl,(by show(0:Int)<8;decide),?_⟩;simp only[ec,kU];refine⟨_,rfl,n,16,rfl,rfl,(by show(0:Int)<16;decide),?_⟩;simp only[ek,kU];have c30:=afN c (show(3:Int)≠0 by decide);have c31:=afO c (show(0:Int)<3 by decide);refine⟨_,rfl,kd,3,rfl,rfl,_,rfl,aQ (λ_=>?_) (λg3=>?_)⟩
  ·obtain⟨m,hm,m0,m6⟩:∃ m:Int,atI [V.int 2,V.int 3,V.int 1,V.int 4,V.int 2,V.int 0,V.int 6,V.int 3] c=some (.int m)∧0≤m∧m≤6:=by
    obtain⟨c0,c8⟩:=hc;rcases(show c=0∨c=1∨c=2∨c=3∨c=4∨c=5∨c=6∨c=7 by omega) with rfl|rfl|rfl|rfl|rfl|rfl|rfl|rfl<;>exact⟨_,rfl,by decide,by decide⟩
   refine⟨_,rfl,by show 8≤sizeLine;decide,λl hl=>⟨_,rfl,l,_,c,_,rfl,rfl,SqL.of ah,hm,by show 3≤sizeLine;decide,λq hq=>?_⟩⟩;exact k q (.make a m) _ ((aC.upd hl).trans (aC.upd hq)) (aC.none (aC.upd hl) hq) ah ⟨ha,m0,m6⟩
  ·have g3:¬kd<3:=λz=>g3 (decide_eq_true z)
   refine⟨_,rfl,kd,6,rfl,rfl,_,rfl,aQ (λ_=>?_) (λg6=>?_)⟩
   ·refine⟨_,rfl,_,rfl,c,3,rfl,rfl,(by show(0:Int)<3;decide),_,rfl,by show 4≤sizeLine;decide,λq hq=>?_⟩
    exact k q (.store a (c%3) b) _ (aC.upd hq) hq ah ⟨ha,c30,by omega,hb⟩
   ·have g6:¬kd<6:=λz=>g6 (decide_eq_true z)
    refine⟨_,rfl,kd,8,rfl,rfl,_,rfl,aQ (λ_=>?_) (λg8=>?_)⟩
    ·refine⟨_,rfl,_,rfl,_,rfl,c,3,rfl,rfl,(by show(0:Int)<3;decide),by show 4≤sizeLine;decide,λq hq=>?_⟩
     exact k q (.load a b (c%3)) _ (aC.upd hq) hq ah ⟨ha,hb,c30,by omega⟩
    ·have g8:¬kd<8:=λz=>g8 (decide_eq_true z)
     refine⟨_,rfl,_,rfl,by show 3≤sizeLine;decide,λt1 h1=>⟨_,rfl,by show 2≤sizeLine;decide,λt2 h2=>⟨_,rfl,_,rfl,b,1000,rfl,rfl,.inr ⟨by decide,by decide⟩,_,rfl,_,c,rfl,rfl,by show 3≤sizeLine;decide,λt3 h3=>⟨_,rfl,_,rfl,by show 3≤sizeLine;decide,λt4 h4=>⟨by show 4≤sizeLine;decide,λl1 hl1=>?_⟩⟩⟩⟩⟩;have r1:=aC.upd (o:=.tup (Dd.its (.copy a b))) h1;have r2:=aC.upd (o:=.tup (Dd.its (.drop a))) h2;have r3:=aC.upd (o:=.tup (Dd.its (.number a (b*1000-c)))) h3;have r4:=aC.upd (o:=.tup (Dd.its (.name b a))) h4;have r5:=aC.upd (o:=.lst [V.ref t1,V.ref t2,V.ref t3,V.ref t4]) hl1;refine⟨_,rfl,_,rfl,_,rfl,by show 3≤sizeLine;decide,λt5 h5=>⟨_,rfl,_,rfl,n,30000,rfl,rfl,by show 3≤sizeLine;decide,λt6 h6=>⟨by show 1≤sizeLine;decide,λt7 h7=>⟨by show 1≤sizeLine;decide,λt8 h8=>⟨by show 4≤sizeLine;decide,λl2 hl2=>?_⟩⟩⟩⟩⟩;have r6:=aC.upd (o:=.tup (Dd.its (.read a b))) h5;have r7:=aC.upd (o:=.tup (Dd.its (.word a (n-30000)))) h6;have r8:=aC.upd (o:=.tup (Dd.its .small)) h7;have r9:=aC.upd (o:=.tup (Dd.its .turn)) h8;have r10:=aC.upd (o:=.lst [V.ref t5,V.ref t6,V.ref t7,V.ref t8]) hl2;refine⟨l1,l2,_,_,rfl,rfl,SqL.of ((r6.trans (r7.trans (r8.trans (r9.trans r10)))) _ _ ah),SqL.of ah,by show 8≤sizeLine;decide,λl3 hl3=>?_⟩;have r11:=aC.upd (o:=.lst ([V.ref t1,V.ref t2,V.ref t3,V.ref t4]++[V.ref t5,V.ref t6,V.ref t7,V.ref t8])) hl3;have q10:=r10.trans r11;have q9:=r9.trans q10;have q8:=r8.trans q9;have q7:=r7.trans q8;have q6:=r6.trans q7;have q5:=r5.trans q6;have q4:=r4.trans q5;have q3:=r3.trans q4;have q2:=r2.trans q3;have q1:=r1.trans q2;have p4:=((r1.trans r2).trans r3).trans r4;have p5:=p4.trans r5;have p6:=p5.trans r6;have p7:=p6.trans r7;have p8:=p7.trans r8;refine⟨_,rfl,kd,8,rfl,rfl,?_⟩;have cs:kd=8∨kd=9∨kd=10∨kd=11∨kd=12∨kd=13∨kd=14∨kd=15:=(by omega);have bb:-100000≤b*1000-c∧b*1000-c≤100000:=(by obtain⟨_,_⟩:=hb;obtain⟨_,_⟩:=hc;omega);rcases cs with rfl|rfl|rfl|rfl|rfl|rfl|rfl|rfl
     ·exact⟨l3,_,_,.ref t1,rfl,rfl,SqL.of ah,rfl,k t1 (.copy a b) _ q1 h1 (q2 _ _ ah) ⟨ha,hb⟩⟩
     ·exact⟨l3,_,_,.ref t2,rfl,rfl,SqL.of ah,rfl,k t2 (.drop a) _ q1 (aC.none r1 h2) (q3 _ _ ah) ha⟩
     ·exact⟨l3,_,_,.ref t3,rfl,rfl,SqL.of ah,rfl,k t3 (.number a (b*1000-c)) _ q1 (aC.none (r1.trans r2) h3) (q4 _ _ ah) ⟨ha,bb.1,bb.2⟩⟩
     ·exact⟨l3,_,_,.ref t4,rfl,rfl,SqL.of ah,rfl,k t4 (.name b a) _ q1 (aC.none ((r1.trans r2).trans r3) h4) (q5 _ _ ah) ⟨hb,ha⟩⟩
     ·exact⟨l3,_,_,.ref t5,rfl,rfl,SqL.of ah,rfl,k t5 (.read a b) _ q1 (aC.none p5 h5) (q7 _ _ ah) ⟨ha,hb⟩⟩
     ·exact⟨l3,_,_,.ref t6,rfl,rfl,SqL.of ah,rfl,k t6 (.word a (n-30000)) _ q1 (aC.none p6 h6) (q8 _ _ ah) ⟨ha,by omega,by omega⟩⟩
     ·exact⟨l3,_,_,.ref t7,rfl,rfl,SqL.of ah,rfl,k t7 .small _ q1 (aC.none p7 h7) (q9 _ _ ah) True.intro⟩
     ·exact⟨l3,_,_,.ref t8,rfl,rfl,SqL.of ah,rfl,k t8 .turn _ q1 (aC.none p8 h8) (q10 _ _ ah) True.intro⟩
noncomputable def yp(s:HS):Re:=if s.rnd=true then PX s else Bd s
noncomputable def dDo(s:HS):Dd→Re
 | .make h n=>kQ s h n
 | .store g k h=>ip s g k h
 | .load h g k=>kW s h g k
 | .copy h g=>qu s h g
 | .drop h=>tm s h
 | .number h x=>iV s h x
 | .name w h=>mM s w h
 | .read h w=>kP s h w
 | .word h x=>kX s h x
 | .small=>(none,aO s)
 | .turn=>yp s
def NL:Er→Str
 | .hand => "BadHand"
 | .name => "BadName"
 | .field => "BadField"
 | .count => "BadCount"
 | .room => "NoRoom"
 | .words => "TooManyWords"
 | .on => "RoundOn"
 | .no => "NoRound"
def wdV:Option Er→V
 | none=>.non
 | some e=>.str (NL e)
def L9(D:Ad):Sp:=λvs H Q E=>∃ x A s q dd,vs=[.ref x,.ref q]∧IH D H x A s∧Gd s∧s.nxt<10000∧H q=some (.tup (Dd.its dd))∧dd.ok∧Fin D x A s H (dDo s dd) Q E
abbrev IJ:List Str:=["hall", "deed"]
theorem GU:av IJ ["hall", "deed"] (ar qW):=⟨rfl,rfl,rfl,by decide +kernel,rfl,by decide +kernel,by decide +kernel⟩
theorem GV(F:Fun K "_law_plain" "_law_plain" qW D.fG D.kH)(T:Txt K mg D)
  (jq:Ok P w K mg base 8 D.dE D.gY ["self", "h", "n"] (L7 D))
  (nC:Ok P w K mg base 7 D.eV D.kG ["self", "g", "k", "h"] (L0 D))
  (pA:Ok P w K mg base 7 D.fT D.lZ ["self", "h", "g", "k"] (Of D))
  (pB:Ok P w K mg base 6 D.fU D.l7 ["self", "h", "g"] (Ob D))
  (pD:Ok P w K mg base 5 D.fV D.l8 ["self", "h"] (Oc D))
  (lU:Ok P w K mg base 6 D.dW D.jM ["self", "h", "x"] (HY D))
  (pE:Ok P w K mg base 7 D.fW D.l9 ["self", "w", "h"] (Od D))
  (jr:Ok P w K mg base 7 D.dF D.gZ ["self", "h", "w"] (L8 D))
  (pF:Ok P w K mg base 7 D.fX D.me ["self", "h", "x"] (Oe D))
  (aI:Ok P w K mg base 5 D.bB D.cV ["self"] (uP D))
  (bV:Ok P w K mg base 1 D.bw D.dw ["self"] (NK D))
  (jS:Ok P w K mg base 4 D.el D.iH ["self"] (Rn D))
  (iT:Ok P w K mg base 6 D.cW D.gz ["self"] (Rm D)):Ok P w K mg base 9 D.fG D.kH ["hall", "deed"] (L9 D):=by
 refine⟨?_,F.binds (ps:=["hall", "deed"]) λ_ _ _ _ _ _ us hl=>match us,hl with|[_,_],_=>rfl⟩
 refine F.okE GU (λvs H Q E h=>?_) (λcdv A' outer s' H vs Q E hr h=>?_)
 ·obtain⟨x,A,s,q,dd,rfl,_⟩:=h
  rfl
 ·obtain⟨x,A,s,q,dd,rfl,J,Gs,hnx,hq,hok,k⟩:=h
  refine⟨_,(ai (dM (aU pj (b9 cv (pv 1) au (λ_ _=>rfl)) bJ (cu _))
    (ai (aG (aJ (pv 0) T.ab T.yD jq.g (hr.mono (by decide)) jq.b .nil (Passes.x (aP λ_ _ _ q=>q)) (ae (b9 cv (pv 1) au (λ_ _=>rfl)) (ae (b9 cv (pv 1) au (λ_ _=>rfl)) ao)))))
    (ai (dM (aU pj (b9 cv (pv 1) au (λ_ _=>rfl)) bJ (cu _))
     (ai (aG (aJ (pv 0) T.ab T.wc nC.g (hr.mono (by decide)) nC.b .nil (Passes.x (aP λ_ _ _ q=>q)) (ae (b9 cv (pv 1) au (λ_ _=>rfl)) (ae (b9 cv (pv 1) au (λ_ _=>rfl)) (ae (b9 cv (pv 1) au (λ_ _=>rfl)) ao))))))
     (ai (dM (aU pj (b9 cv (pv 1) au (λ_ _=>rfl)) bJ (cu _))
      (ai (aG (aJ (pv 0) T.ab T.yy pA.g (hr.mono (by decide)) pA.b .nil (Passes.x (aP λ_ _ _ q=>q)) (ae (b9 cv (pv 1) au (λ_ _=>rfl)) (ae (b9 cv (pv 1) au (λ_ _=>rfl)) (ae (b9 cv (pv 1) au (λ_ _=>rfl)) ao))))))
      (ai (dM (aU pj (b9 cv (pv 1) au (λ_ _=>rfl)) bJ (cu _))
       (ai (aG (aJ (pv 0) T.ab T.yz pB.g (hr.mono (by decide)) pB.b .nil (Passes.x (aP λ_ _ _ q=>q)) (ae (b9 cv (pv 1) au (λ_ _=>rfl)) (ae (b9 cv (pv 1) au (λ_ _=>rfl)) ao)))))
       (ai (dM (aU pj (b9 cv (pv 1) au (λ_ _=>rfl)) bJ (cu _))
        (ai (aG (aJ (pv 0) T.ab T.yA pD.g (hr.mono (by decide)) pD.b .nil (Passes.x (aP λ_ _ _ q=>q)) (ae (b9 cv (pv 1) au (λ_ _=>rfl)) ao))))
        (ai (dM (aU pj (b9 cv (pv 1) au (λ_ _=>rfl)) bJ (cu _))
         (ai (aG (aJ (pv 0) T.ab T.uF lU.g (hr.mono (by decide)) lU.b .nil (Passes.x (aP λ_ _ _ q=>q)) (ae (b9 cv (pv 1) au (λ_ _=>rfl)) (ae (b9 cv (pv 1) au (λ_ _=>rfl)) ao)))))
         (ai (dM (aU pj (b9 cv (pv 1) au (λ_ _=>rfl)) bJ (cu _))
          (ai (aG (aJ (pv 0) T.ab T.yB pE.g (hr.mono (by decide)) pE.b .nil (Passes.x (aP λ_ _ _ q=>q)) (ae (b9 cv (pv 1) au (λ_ _=>rfl)) (ae (b9 cv (pv 1) au (λ_ _=>rfl)) ao)))))
          (ai (dM (aU pj (b9 cv (pv 1) au (λ_ _=>rfl)) bJ (cu _))
           (ai (aG (aJ (pv 0) T.ab T.yE jr.g (hr.mono (by decide)) jr.b .nil (Passes.x (aP λ_ _ _ q=>q)) (ae (b9 cv (pv 1) au (λ_ _=>rfl)) (ae (b9 cv (pv 1) au (λ_ _=>rfl)) ao)))))
           (ai (dM (aU pj (b9 cv (pv 1) au (λ_ _=>rfl)) bJ (cu _))
            (ai (aG (aJ (pv 0) T.ab T.yC pF.g (hr.mono (by decide)) pF.b .nil (Passes.x (aP λ_ _ _ q=>q)) (ae (b9 cv (pv 1) au (λ_ _=>rfl)) (ae (b9 cv (pv 1) au (λ_ _=>rfl)) ao)))))
            (ai (dM (aU pj (b9 cv (pv 1) au (λ_ _=>rfl)) bJ (cu _))
             (ai (aG (cE (pv 0) T.ab T.gf aI.g (hr.mono (by decide)) aI.b .nil (Passes.x (aP λ_ _ _ q=>q)))))
             (ai (dM (Bb (cE (pv 0) T.ab T.kT bV.g (hr.mono (by decide)) bV.b .nil (Passes.x (aP λ_ _ _ q=>q))))
              (ai (aG (cE (pv 0) T.ab T.BE jS.g (hr.mono (by decide)) jS.b .nil (Passes.x (aP λ_ _ _ q=>q)))))
              (ai (aG (cE (pv 0) T.ab T.we iT.g (hr.mono (by decide)) iT.b .nil (Passes.x (aP λ_ _ _ q=>q))))))))))))))))))))))))))),?_⟩
  have G:=Gs.g;cases dd with
  | make h n =>
   replace hq:H q=some (.tup [.str "make",.int h,.int n]):=hq;obtain⟨⟨h0,h1⟩,n0,n1⟩:=hok;refine⟨_,rfl,q,_,0,.str "make",rfl,rfl,SqT.of hq,rfl,rfl,_,rfl,aQ (λ_=>?_) (λz=>absurd (by decide +kernel) z)⟩;exact⟨_,rfl,x,_,_,rfl,J.ax,(by kernel_rfl),_,rfl,q,_,1,.int h,rfl,rfl,SqT.of hq,rfl,_,rfl,q,_,2,.int n,rfl,rfl,SqT.of hq,rfl,x,A,s,h,n,rfl,J,Gs,hnx,Sm.of (by omega) (by omega),Sm.of (by omega) (by omega),k⟩
  | store g kk h =>
   replace hq:H q=some (.tup [.str "store",.int g,.int kk,.int h]):=hq;obtain⟨⟨g0,g1⟩,k0,k1,h0,h1⟩:=hok;refine⟨_,rfl,q,_,0,.str "store",rfl,rfl,SqT.of hq,rfl,rfl,_,rfl,aQ (λz=>absurd z (by decide +kernel)) (λ_=>?_)⟩;refine⟨_,rfl,q,_,0,.str "store",rfl,rfl,SqT.of hq,rfl,rfl,_,rfl,aQ (λ_=>?_) (λz=>absurd (by decide +kernel) z)⟩;exact⟨_,rfl,x,_,_,rfl,J.ax,(by kernel_rfl),_,rfl,q,_,1,.int g,rfl,rfl,SqT.of hq,rfl,_,rfl,q,_,2,.int kk,rfl,rfl,SqT.of hq,rfl,_,rfl,q,_,3,.int h,rfl,rfl,SqT.of hq,rfl,x,A,s,g,kk,h,rfl,J,G,Sm.of (by omega) (by omega),Sm.of (by omega) (by omega),Sm.of (by omega) (by omega),k⟩
  | load h g kk =>
   replace hq:H q=some (.tup [.str "load",.int h,.int g,.int kk]):=hq;obtain⟨⟨h0,h1⟩,⟨g0,g1⟩,k0,k1⟩:=hok;refine⟨_,rfl,q,_,0,.str "load",rfl,rfl,SqT.of hq,rfl,rfl,_,rfl,aQ (λz=>absurd z (by decide +kernel)) (λ_=>?_)⟩;refine⟨_,rfl,q,_,0,.str "load",rfl,rfl,SqT.of hq,rfl,rfl,_,rfl,aQ (λz=>absurd z (by decide +kernel)) (λ_=>?_)⟩;refine⟨_,rfl,q,_,0,.str "load",rfl,rfl,SqT.of hq,rfl,rfl,_,rfl,aQ (λ_=>?_) (λz=>absurd (by decide +kernel) z)⟩;exact⟨_,rfl,x,_,_,rfl,J.ax,(by kernel_rfl),_,rfl,q,_,1,.int h,rfl,rfl,SqT.of hq,rfl,_,rfl,q,_,2,.int g,rfl,rfl,SqT.of hq,rfl,_,rfl,q,_,3,.int kk,rfl,rfl,SqT.of hq,rfl,x,A,s,h,g,kk,rfl,J,G,Sm.of (by omega) (by omega),Sm.of (by omega) (by omega),Sm.of (by omega) (by omega),k⟩
  | copy h g =>
   replace hq:H q=some (.tup [.str "copy",.int h,.int g]):=hq;obtain⟨⟨h0,h1⟩,g0,g1⟩:=hok;refine⟨_,rfl,q,_,0,.str "copy",rfl,rfl,SqT.of hq,rfl,rfl,_,rfl,aQ (λz=>absurd z (by decide +kernel)) (λ_=>?_)⟩;refine⟨_,rfl,q,_,0,.str "copy",rfl,rfl,SqT.of hq,rfl,rfl,_,rfl,aQ (λz=>absurd z (by decide +kernel)) (λ_=>?_)⟩;refine⟨_,rfl,q,_,0,.str "copy",rfl,rfl,SqT.of hq,rfl,rfl,_,rfl,aQ (λz=>absurd z (by decide +kernel)) (λ_=>?_)⟩;refine⟨_,rfl,q,_,0,.str "copy",rfl,rfl,SqT.of hq,rfl,rfl,_,rfl,aQ (λ_=>?_) (λz=>absurd (by decide +kernel) z)⟩;exact⟨_,rfl,x,_,_,rfl,J.ax,(by kernel_rfl),_,rfl,q,_,1,.int h,rfl,rfl,SqT.of hq,rfl,_,rfl,q,_,2,.int g,rfl,rfl,SqT.of hq,rfl,x,A,s,h,g,rfl,J,G,Sm.of (by omega) (by omega),Sm.of (by omega) (by omega),k⟩
  | drop h =>
   replace hq:H q=some (.tup [.str "drop",.int h]):=hq;obtain⟨h0,h1⟩:=hok;refine⟨_,rfl,q,_,0,.str "drop",rfl,rfl,SqT.of hq,rfl,rfl,_,rfl,aQ (λz=>absurd z (by decide +kernel)) (λ_=>?_)⟩;refine⟨_,rfl,q,_,0,.str "drop",rfl,rfl,SqT.of hq,rfl,rfl,_,rfl,aQ (λz=>absurd z (by decide +kernel)) (λ_=>?_)⟩;refine⟨_,rfl,q,_,0,.str "drop",rfl,rfl,SqT.of hq,rfl,rfl,_,rfl,aQ (λz=>absurd z (by decide +kernel)) (λ_=>?_)⟩;refine⟨_,rfl,q,_,0,.str "drop",rfl,rfl,SqT.of hq,rfl,rfl,_,rfl,aQ (λz=>absurd z (by decide +kernel)) (λ_=>?_)⟩;refine⟨_,rfl,q,_,0,.str "drop",rfl,rfl,SqT.of hq,rfl,rfl,_,rfl,aQ (λ_=>?_) (λz=>absurd (by decide +kernel) z)⟩;exact⟨_,rfl,x,_,_,rfl,J.ax,(by kernel_rfl),_,rfl,q,_,1,.int h,rfl,rfl,SqT.of hq,rfl,x,A,s,h,rfl,J,G,Sm.of (by omega) (by omega),k⟩
  | number h z =>
   replace hq:H q=some (.tup [.str "number",.int h,.int z]):=hq;obtain⟨⟨h0,h1⟩,z0,z1⟩:=hok;refine⟨_,rfl,q,_,0,.str "number",rfl,rfl,SqT.of hq,rfl,rfl,_,rfl,aQ (λz=>absurd z (by decide +kernel)) (λ_=>?_)⟩;refine⟨_,rfl,q,_,0,.str "number",rfl,rfl,SqT.of hq,rfl,rfl,_,rfl,aQ (λz=>absurd z (by decide +kernel)) (λ_=>?_)⟩;refine⟨_,rfl,q,_,0,.str "number",rfl,rfl,SqT.of hq,rfl,rfl,_,rfl,aQ (λz=>absurd z (by decide +kernel)) (λ_=>?_)⟩;refine⟨_,rfl,q,_,0,.str "number",rfl,rfl,SqT.of hq,rfl,rfl,_,rfl,aQ (λz=>absurd z (by decide +kernel)) (λ_=>?_)⟩;refine⟨_,rfl,q,_,0,.str "number",rfl,rfl,SqT.of hq,rfl,rfl,_,rfl,aQ (λz=>absurd z (by decide +kernel)) (λ_=>?_)⟩;refine⟨_,rfl,q,_,0,.str "number",rfl,rfl,SqT.of hq,rfl,rfl,_,rfl,aQ (λ_=>?_) (λz=>absurd (by decide +kernel) z)⟩;exact⟨_,rfl,x,_,_,rfl,J.ax,(by kernel_rfl),_,rfl,q,_,1,.int h,rfl,rfl,SqT.of hq,rfl,_,rfl,q,_,2,.int z,rfl,rfl,SqT.of hq,rfl,x,A,s,h,z,rfl,J,G,Sm.of (by omega) (by omega),Sm.of (by omega) (by omega),k⟩
  | name w h =>
   replace hq:H q=some (.tup [.str "name",.int w,.int h]):=hq;obtain⟨⟨w0,w1⟩,h0,h1⟩:=hok;refine⟨_,rfl,q,_,0,.str "name",rfl,rfl,SqT.of hq,rfl,rfl,_,rfl,aQ (λz=>absurd z (by decide +kernel)) (λ_=>?_)⟩;refine⟨_,rfl,q,_,0,.str "name",rfl,rfl,SqT.of hq,rfl,rfl,_,rfl,aQ (λz=>absurd z (by decide +kernel)) (λ_=>?_)⟩;refine⟨_,rfl,q,_,0,.str "name",rfl,rfl,SqT.of hq,rfl,rfl,_,rfl,aQ (λz=>absurd z (by decide +kernel)) (λ_=>?_)⟩;refine⟨_,rfl,q,_,0,.str "name",rfl,rfl,SqT.of hq,rfl,rfl,_,rfl,aQ (λz=>absurd z (by decide +kernel)) (λ_=>?_)⟩;refine⟨_,rfl,q,_,0,.str "name",rfl,rfl,SqT.of hq,rfl,rfl,_,rfl,aQ (λz=>absurd z (by decide +kernel)) (λ_=>?_)⟩;refine⟨_,rfl,q,_,0,.str "name",rfl,rfl,SqT.of hq,rfl,rfl,_,rfl,aQ (λz=>absurd z (by decide +kernel)) (λ_=>?_)⟩;refine⟨_,rfl,q,_,0,.str "name",rfl,rfl,SqT.of hq,rfl,rfl,_,rfl,aQ (λ_=>?_) (λz=>absurd (by decide +kernel) z)⟩;exact⟨_,rfl,x,_,_,rfl,J.ax,(by kernel_rfl),_,rfl,q,_,1,.int w,rfl,rfl,SqT.of hq,rfl,_,rfl,q,_,2,.int h,rfl,rfl,SqT.of hq,rfl,x,A,s,w,h,rfl,J,G,Sm.of (by omega) (by omega),Sm.of (by omega) (by omega),k⟩
  | read h w =>
   replace hq:H q=some (.tup [.str "read",.int h,.int w]):=hq;obtain⟨⟨h0,h1⟩,w0,w1⟩:=hok;refine⟨_,rfl,q,_,0,.str "read",rfl,rfl,SqT.of hq,rfl,rfl,_,rfl,aQ (λz=>absurd z (by decide +kernel)) (λ_=>?_)⟩;refine⟨_,rfl,q,_,0,.str "read",rfl,rfl,SqT.of hq,rfl,rfl,_,rfl,aQ (λz=>absurd z (by decide +kernel)) (λ_=>?_)⟩;refine⟨_,rfl,q,_,0,.str "read",rfl,rfl,SqT.of hq,rfl,rfl,_,rfl,aQ (λz=>absurd z (by decide +kernel)) (λ_=>?_)⟩;refine⟨_,rfl,q,_,0,.str "read",rfl,rfl,SqT.of hq,rfl,rfl,_,rfl,aQ (λz=>absurd z (by decide +kernel)) (λ_=>?_)⟩;refine⟨_,rfl,q,_,0,.str "read",rfl,rfl,SqT.of hq,rfl,rfl,_,rfl,aQ (λz=>absurd z (by decide +kernel)) (λ_=>?_)⟩;refine⟨_,rfl,q,_,0,.str "read",rfl,rfl,SqT.of hq,rfl,rfl,_,rfl,aQ (λz=>absurd z (by decide +kernel)) (λ_=>?_)⟩;refine⟨_,rfl,q,_,0,.str "read",rfl,rfl,SqT.of hq,rfl,rfl,_,rfl,aQ (λz=>absurd z (by decide +kernel)) (λ_=>?_)⟩;refine⟨_,rfl,q,_,0,.str "read",rfl,rfl,SqT.of hq,rfl,rfl,_,rfl,aQ (λ_=>?_) (λz=>absurd (by decide +kernel) z)⟩;exact⟨_,rfl,x,_,_,rfl,J.ax,(by kernel_rfl),_,rfl,q,_,1,.int h,rfl,rfl,SqT.of hq,rfl,_,rfl,q,_,2,.int w,rfl,rfl,SqT.of hq,rfl,x,A,s,h,w,rfl,J,G,Sm.of (by omega) (by omega),Sm.of (by omega) (by omega),k⟩
  | word h z =>
   replace hq:H q=some (.tup [.str "word",.int h,.int z]):=hq;obtain⟨⟨h0,h1⟩,z0,z1⟩:=hok;refine⟨_,rfl,q,_,0,.str "word",rfl,rfl,SqT.of hq,rfl,rfl,_,rfl,aQ (λz=>absurd z (by decide +kernel)) (λ_=>?_)⟩;refine⟨_,rfl,q,_,0,.str "word",rfl,rfl,SqT.of hq,rfl,rfl,_,rfl,aQ (λz=>absurd z (by decide +kernel)) (λ_=>?_)⟩;refine⟨_,rfl,q,_,0,.str "word",rfl,rfl,SqT.of hq,rfl,rfl,_,rfl,aQ (λz=>absurd z (by decide +kernel)) (λ_=>?_)⟩;refine⟨_,rfl,q,_,0,.str "word",rfl,rfl,SqT.of hq,rfl,rfl,_,rfl,aQ (λz=>absurd z (by decide +kernel)) (λ_=>?_)⟩;refine⟨_,rfl,q,_,0,.str "word",rfl,rfl,SqT.of hq,rfl,rfl,_,rfl,aQ (λz=>absurd z (by decide +kernel)) (λ_=>?_)⟩;refine⟨_,rfl,q,_,0,.str "word",rfl,rfl,SqT.of hq,rfl,rfl,_,rfl,aQ (λz=>absurd z (by decide +kernel)) (λ_=>?_)⟩;refine⟨_,rfl,q,_,0,.str "word",rfl,rfl,SqT.of hq,rfl,rfl,_,rfl,aQ (λz=>absurd z (by decide +kernel)) (λ_=>?_)⟩;refine⟨_,rfl,q,_,0,.str "word",rfl,rfl,SqT.of hq,rfl,rfl,_,rfl,aQ (λz=>absurd z (by decide +kernel)) (λ_=>?_)⟩;refine⟨_,rfl,q,_,0,.str "word",rfl,rfl,SqT.of hq,rfl,rfl,_,rfl,aQ (λ_=>?_) (λz=>absurd (by decide +kernel) z)⟩;exact⟨_,rfl,x,_,_,rfl,J.ax,(by kernel_rfl),_,rfl,q,_,1,.int h,rfl,rfl,SqT.of hq,rfl,_,rfl,q,_,2,.int z,rfl,rfl,SqT.of hq,rfl,x,A,s,h,z,rfl,J,G,Sm.of (by omega) (by omega),Sm.of (by omega) (by omega),k⟩
  | small =>
   replace hq:H q=some (.tup [.str "small"]):=hq;refine⟨_,rfl,q,_,0,.str "small",rfl,rfl,SqT.of hq,rfl,rfl,_,rfl,aQ (λz=>absurd z (by decide +kernel)) (λ_=>?_)⟩;refine⟨_,rfl,q,_,0,.str "small",rfl,rfl,SqT.of hq,rfl,rfl,_,rfl,aQ (λz=>absurd z (by decide +kernel)) (λ_=>?_)⟩;refine⟨_,rfl,q,_,0,.str "small",rfl,rfl,SqT.of hq,rfl,rfl,_,rfl,aQ (λz=>absurd z (by decide +kernel)) (λ_=>?_)⟩;refine⟨_,rfl,q,_,0,.str "small",rfl,rfl,SqT.of hq,rfl,rfl,_,rfl,aQ (λz=>absurd z (by decide +kernel)) (λ_=>?_)⟩;refine⟨_,rfl,q,_,0,.str "small",rfl,rfl,SqT.of hq,rfl,rfl,_,rfl,aQ (λz=>absurd z (by decide +kernel)) (λ_=>?_)⟩;refine⟨_,rfl,q,_,0,.str "small",rfl,rfl,SqT.of hq,rfl,rfl,_,rfl,aQ (λz=>absurd z (by decide +kernel)) (λ_=>?_)⟩;refine⟨_,rfl,q,_,0,.str "small",rfl,rfl,SqT.of hq,rfl,rfl,_,rfl,aQ (λz=>absurd z (by decide +kernel)) (λ_=>?_)⟩;refine⟨_,rfl,q,_,0,.str "small",rfl,rfl,SqT.of hq,rfl,rfl,_,rfl,aQ (λz=>absurd z (by decide +kernel)) (λ_=>?_)⟩;refine⟨_,rfl,q,_,0,.str "small",rfl,rfl,SqT.of hq,rfl,rfl,_,rfl,aQ (λz=>absurd z (by decide +kernel)) (λ_=>?_)⟩;refine⟨_,rfl,q,_,0,.str "small",rfl,rfl,SqT.of hq,rfl,rfl,_,rfl,aQ (λ_=>?_) (λz=>absurd (by decide +kernel) z)⟩;exact⟨_,rfl,x,_,_,rfl,J.ax,(by kernel_rfl),x,A,s,rfl,J,G,λA' H' J' fr=>k A' H' J' fr⟩
  | turn =>
   replace hq:H q=some (.tup [.str "turn"]):=hq;refine⟨_,rfl,q,_,0,.str "turn",rfl,rfl,SqT.of hq,rfl,rfl,_,rfl,aQ (λz=>absurd z (by decide +kernel)) (λ_=>?_)⟩;refine⟨_,rfl,q,_,0,.str "turn",rfl,rfl,SqT.of hq,rfl,rfl,_,rfl,aQ (λz=>absurd z (by decide +kernel)) (λ_=>?_)⟩;refine⟨_,rfl,q,_,0,.str "turn",rfl,rfl,SqT.of hq,rfl,rfl,_,rfl,aQ (λz=>absurd z (by decide +kernel)) (λ_=>?_)⟩;refine⟨_,rfl,q,_,0,.str "turn",rfl,rfl,SqT.of hq,rfl,rfl,_,rfl,aQ (λz=>absurd z (by decide +kernel)) (λ_=>?_)⟩;refine⟨_,rfl,q,_,0,.str "turn",rfl,rfl,SqT.of hq,rfl,rfl,_,rfl,aQ (λz=>absurd z (by decide +kernel)) (λ_=>?_)⟩;refine⟨_,rfl,q,_,0,.str "turn",rfl,rfl,SqT.of hq,rfl,rfl,_,rfl,aQ (λz=>absurd z (by decide +kernel)) (λ_=>?_)⟩;refine⟨_,rfl,q,_,0,.str "turn",rfl,rfl,SqT.of hq,rfl,rfl,_,rfl,aQ (λz=>absurd z (by decide +kernel)) (λ_=>?_)⟩;refine⟨_,rfl,q,_,0,.str "turn",rfl,rfl,SqT.of hq,rfl,rfl,_,rfl,aQ (λz=>absurd z (by decide +kernel)) (λ_=>?_)⟩;refine⟨_,rfl,q,_,0,.str "turn",rfl,rfl,SqT.of hq,rfl,rfl,_,rfl,aQ (λz=>absurd z (by decide +kernel)) (λ_=>?_)⟩;refine⟨_,rfl,q,_,0,.str "turn",rfl,rfl,SqT.of hq,rfl,rfl,_,rfl,aQ (λz=>absurd z (by decide +kernel)) (λ_=>?_)⟩;replace k:Fin D x A s H (yp s) Q E:=k;refine⟨_,rfl,x,_,_,rfl,J.ax,(by kernel_rfl),x,A,s,rfl,J,_,rfl,?_⟩;by_cases c:s.rnd=true
   ·rw[show yp s=PX s from if_pos c]at k
    exact Ht c ⟨_,rfl,x,_,_,rfl,J.ax,(by kernel_rfl),x,A,s,rfl,J,Gs,k⟩
   ·rw[show yp s=Bd s from if_neg c]at k
    exact Hs (afB.mpr c) ⟨_,rfl,x,_,_,rfl,J.ax,(by kernel_rfl),x,A,s,rfl,J,Gs,k⟩
theorem UZ(T:Txt K mg D)(fP:Ok0 P w K mg base 1 D.cK D.fI ["self"] (bZ "BadHand"))(fQ:Ok0 P w K mg base 1 D.cL D.fJ ["self"] (bZ "BadName"))(fq:Ok0 P w K mg base 1 D.cc D.fe ["self"] (bZ "BadField"))(fu:Ok0 P w K mg base 1 D.cf D.fg ["self"] (bZ "BadCount"))(gv:Ok0 P w K mg base 1 D.dj D.gn ["self"] (bZ "NoRoom"))(c6:Ok0 P w K mg base 1 D.bh D.c5 ["self"] (bZ "TooManyWords"))(fR:Ok0 P w K mg base 1 D.cM D.fK ["self"] (bZ "RoundOn"))(fS:Ok0 P w K mg base 1 D.cN D.fL ["self"] (bZ "NoRound"))(e:Er):(∃ cd,iZ K (D.er e) cd∧cd.mro.contains (.ref D.aM)=true)∧abI K (D.er e)∧Rf P w K mg base (CXE P w) 1 "called" (D.er e) (bZ (NL e)):=by
 cases e with
 | hand=>exact⟨T.Kw,T.j2.get,⟨_,_,_,T.MF,fP.g,fP.b⟩⟩
 | name=>exact⟨T.Kx,T.yj.get,⟨_,_,_,T.MI,fQ.g,fQ.b⟩⟩
 | field=>exact⟨T.Ij,T.uu.get,⟨_,_,_,T.KA,fq.g,fq.b⟩⟩
 | count=>exact⟨T.Ii,T.pq.get,⟨_,_,_,T.Kv,fu.g,fu.b⟩⟩
 | room=>exact⟨T.MM,T.HV.get,⟨_,_,_,T.O7,gv.g,gv.b⟩⟩
 | words=>exact⟨T.BD,T.rC.get,⟨_,_,_,T.D5,c6.g,c6.b⟩⟩
 | on=>exact⟨T.KC,T.FU.get,⟨_,_,_,T.MP,fR.g,fR.b⟩⟩
 | no=>exact⟨T.KD,T.FV.get,⟨_,_,_,T.MS,fS.g,fS.b⟩⟩
def Ot(D:Ad):Sp:=λvs H Q E=>∃ x A s q dd,vs=[.ref x,.ref q]∧IH D H x A s∧Gd s∧s.nxt<10000∧H q=some (.tup (Dd.its dd))∧dd.ok∧∀ A' H',IH D H' x A' (dDo s dd).2→Fr (bU x A s) H (bU x A' (dDo s dd).2) H'→Q (wdV (dDo s dd).1) H'
abbrev KW:List Str:=["hall", "deed", "word", "e"]
theorem nD:av KW ["hall", "deed"] (ar uq):=⟨rfl,rfl,rfl,by decide +kernel,rfl,by decide +kernel,by decide +kernel⟩
theorem IK(F:Fun K "_law_done" "_law_done" uq D.gE D.mj)(T:Txt K mg D)
  (nE:Ok P w K mg base 9 D.fG D.kH ["hall", "deed"] (L9 D))
  (fP:Ok0 P w K mg base 1 D.cK D.fI ["self"] (bZ "BadHand"))
  (fQ:Ok0 P w K mg base 1 D.cL D.fJ ["self"] (bZ "BadName"))
  (fq:Ok0 P w K mg base 1 D.cc D.fe ["self"] (bZ "BadField"))
  (fu:Ok0 P w K mg base 1 D.cf D.fg ["self"] (bZ "BadCount"))
  (gv:Ok0 P w K mg base 1 D.dj D.gn ["self"] (bZ "NoRoom"))
  (c6:Ok0 P w K mg base 1 D.bh D.c5 ["self"] (bZ "TooManyWords"))
  (fR:Ok0 P w K mg base 1 D.cM D.fK ["self"] (bZ "RoundOn"))
  (fS:Ok0 P w K mg base 1 D.cN D.fL ["self"] (bZ "NoRound")):Ok P w K mg base 10 D.gE D.mj ["hall", "deed"] (Ot D):=by
 refine⟨?_,F.binds (ps:=["hall", "deed"]) λ_ _ _ _ _ _ us hl=>match us,hl with|[_,_],_=>rfl⟩
 refine F.okE nD (λvs H Q E h=>?_) (λcdv A' outer s' H vs Q E hr h=>?_)
 ·obtain⟨x,A,s,q,dd,rfl,_⟩:=h
  rfl
 ·obtain⟨x,A,s,q,dd,rfl,J,Gs,hnx,hq,hok,k⟩:=h
  obtain⟨cdH,xH⟩:=T.h;refine⟨_,(ak (bF (i:=2) nD.nd rfl (Or.inl rfl) j3)
   (ak (YN (i:=3) rfl rfl rfl rfl T.mH xH nD.nd rfl rfl (λpins E' EK hp=>ai (aG (bj nE.g (hr.mono (by decide)) rfl T.Ip T.rf nE.b .nil hp (ae (pv 0) (ae (pv 1) ao))))) (λea=>ai (bF (i:=2) nD.nd rfl (Or.inl rfl) (show PE _ _ (N6 P w K mg base (CXE P w) 1 "called" (λ_ _ _ _=>False) (Zg 3)) from O3 (k:=1) (CX:=CXE P w) (pv 3) ⟨(hr.r0 (show 1≤9 by decide)).dp,(hr.r0 (show 1≤9 by decide)).un⟩ ya))))
   (ai (aV (pv 2))))),?_⟩
  refine⟨_,rfl,_,rfl,x,A,s,q,dd,rfl,J,Gs,hnx,hq,hok,λA1 H1 J1 fr=>?_⟩;cases e:(dDo s dd).1 with
  | none =>
   rw[e]at k;exact⟨_,rfl,k A1 H1 J1 fr⟩
  | some er =>
   rw[e]at k;obtain⟨⟨cd,xc,hm⟩,gt,md⟩:=UZ (P:=P) (w:=w) (base:=base) T fP fQ fq fu gv c6 fR fS er;refine⟨D.er er,cd,rfl,xc,hm,λea hea=>⟨.ref ea,rfl,false,ea,D.er er,bZ (NL er),rfl,ah,gt,md,_,rfl,?_⟩⟩;have s1:=aC.upd (o:=exo false (D.er er) ea none) hea;exact⟨_,rfl,k A1 _ (J1.same s1) (fr.trans (Fr.same s1))⟩
def rmA(hd:Int):Int:=([14,0,7,9,30,64]:List Int).getD (hd%6).toNat 0
def lmA(hd:Int):Int:=([400,60,120]:List Int).getD (hd/6%3).toNat 0
def rl(o:Option Int):Int×Int:=match o with
 | none=>(rmA 0,lmA 0)
 | some z=>(rmA (z/2%1000003),lmA (z/2%1000003))
theorem Y5{hd:Int}(h:0≤hd):atI [V.int 14,V.int 0,V.int 7,V.int 9,V.int 30,V.int 64] (hd%6)=some (.int (rmA hd))∧(rmA hd=0∨(7≤rmA hd∧rmA hd≤64)):=by
 unfold rmA;have h1:=afN hd (show(6:Int)≠0 by decide);have h2:=afO hd (show(0:Int)<6 by decide);generalize hd%6=c at h1 h2;rcases(show c=0∨c=1∨c=2∨c=3∨c=4∨c=5 by omega) with rfl|rfl|rfl|rfl|rfl|rfl<;>exact⟨rfl,by decide⟩
theorem Y6{hd:Int}(h:0≤hd):atI [V.int 400,V.int 60,V.int 120] (hd/6%3)=some (.int (lmA hd))∧7≤lmA hd∧lmA hd≤400:=by
 unfold lmA;have h1:=afN (hd/6) (show(3:Int)≠0 by decide);have h2:=afO (hd/6) (show(0:Int)<3 by decide);generalize hd/6%3=c at h1 h2;rcases(show c=0∨c=1∨c=2 by omega) with rfl|rfl|rfl<;>exact⟨rfl,by decide,by decide⟩
def Ou(D:Ad)(K:W.Frag):Sp:=λvs H Q _=>∃(a:Addr) (ns:List Int),vs=[.ref a]∧SqL K H a (ns.map V.int)∧∀ x A room limit H',aC H H'→(∀ b,bU x A (s0 (decide (room>0)) room limit) b→H b=none)→IH D H' x A (s0 (decide (room>0)) room limit)→((room,limit)=rl (ns.head?))→Q (.ref x) H'
abbrev KY:List Str:=["script", "head"]
theorem rm:av KY ["script"] (ar ur):=⟨rfl,rfl,rfl,by decide +kernel,rfl,by decide +kernel,by decide +kernel⟩
theorem IL(F:Fun K "_law_heap" "_law_heap" ur D.gG D.mz)(T:Txt K mg D)
  (gw:Ok P w K mg base 4 D.bT D.eS ["self", "young", "limit"] (vU D)):Ok P w K mg base 6 D.gG D.mz ["script"] (Ou D K):=by
 refine⟨?_,F.binds (ps:=["script"]) λ_ _ _ _ _ _ us hl=>match us,hl with|[_],_=>rfl⟩
 refine F.okE rm (λvs H Q E h=>?_) (λcdv A' outer s' H vs Q E hr h=>?_)
 ·obtain⟨a,ns,rfl,_⟩:=h
  rfl
 ·obtain⟨a,ns,rfl,hS,k⟩:=h
  refine⟨_,(PSs.nox (ak (bF (i:=1) rm.nd rfl (Or.inl rfl) au)
   (ak (dM (aU JU (gK iC rfl T.Bo PyProof.Rows.Boot.«len» (ae (pv 0) ao)) au (cu _))
    (ai (bF (i:=1) rm.nd rfl (Or.inl rfl) (eF kM (eF vK (b9 gj (pv 0) au (λ_ _=>rfl)) au) au)))
    bQ)
   (ai (aV (RY T.qZ gw.g (hr.mono (by decide)) rfl T.Im gw.b .nil Y0 (ae (b9 gj (j4 (ae au (ae au (ae au (ae au (ae au (ae au ao))))))) (eF kM (pv 1) au) (λ_ _=>rfl)) (ae (b9 gj (j4 (ae au (ae au (ae au ao)))) (eF kM (eF vK (pv 1) au) au) (λ_ _=>rfl)) ao)))))))),?_⟩
  refine vQ λN0 hN0=>?_;refine hN0 _ _ ?_;refine vQ λN hN=>?_;have fin:∀ hd:Int,0≤hd→rl ns.head?=(rmA hd,lmA hd)→N [some (.ref a),some (.int hd)] H:=by
   intro hd h0 er;refine hN _ _ ?_;obtain⟨hv1,y1⟩:=Y5 h0;obtain⟨hv2,y2,y3⟩:=Y6 h0;refine⟨by show 6≤sizeLine;decide,λp hp=>⟨_,rfl,hd,6,rfl,rfl,(by show(0:Int)<6;decide),p,_,_,_,rfl,rfl,SqL.of ah,hv1,by show 3≤sizeLine;decide,λq hq=>⟨_,rfl,hd,6,rfl,rfl,⟨by decide,by decide⟩,_,3,rfl,rfl,(by show(0:Int)<3;decide),q,_,_,_,rfl,rfl,SqL.of ah,hv2,?_⟩⟩⟩;have a1:=(aC.upd (o:=.lst [V.int 14,V.int 0,V.int 7,V.int 9,V.int 30,V.int 64]) hp).trans (aC.upd (o:=.lst [V.int 400,V.int 60,V.int 120]) hq);intro x dx hx hdx nd;refine⟨x,dx,_,_,rfl,ah,y1,y2,y3,λA H1 J0 B0 F0=>⟨rfl,?_⟩⟩;refine k x A _ _ H1 (λb u q=>?_) (λb fb=>?_) J0 er.symm
   ·have q1:=a1 _ _ q
    exact B0 b u (aq q1 hx) (by rw[af (aq q1 hx),af (aq q1 hdx)];exact q1)
   ·rcases F0 b fb with e|e
    ·rw[e];exact aC.none a1 hx
    ·refine aC.none a1 ?_
     by_cases c:b=x
     ·rw[c];exact hx
     ·by_cases c2:b=dx
      ·rw[c2];exact hdx
      ·rw[af c,af c2]at e;exact e
  refine⟨_,rfl,a,_,rfl,.inl hS,_,0,rfl,rfl,_,rfl,aQ (λh=>?_) (λh=>?_)⟩
  ·have hl:0<ns.length:=by
    have:=of_decide_eq_true h
    rw[aeV]at this;omega
   have h0:atI (ns.map V.int) 0=some (.int (ns[0]'hl)):=Bx (j:=0) (by rw[ae6,aeW hl];rfl);refine⟨_,rfl,a,_,0,_,rfl,rfl,hS,h0,_,2,rfl,rfl,⟨by decide,by decide⟩,_,1000003,rfl,rfl,(by show(0:Int)<1000003;decide),?_⟩;refine fin _ (afN _ (by decide)) ?_;rw[show ns.head?=some ns[0] by rw[List.head?_eq_getElem?,aeW hl]];rfl
  ·have hl:ns=[]:=by
    cases ns with
    | nil=>rfl
    | cons z r=>exact absurd (decide_eq_true (by rw[aeV,afA];omega)) h
   exact fin 0 (afH _) (by rw[hl];rfl)
def Ma(K:W.Frag):Sp:=λvs H Q _=>∃(a:Addr) (ns:List Int) (m:Int),vs=[.ref a,.int m]∧SqL K H a (ns.map V.int)∧ns.length≤63∧∀ p dv H',aC H H'→H p=none→H' p=some (.lst dv)→dv.length≤203∧(0≤m→dv.length≤3+m.toNat)→(∀ v∈dv,∃ q dd,v=.ref q∧H' q=some (.tup (Dd.its dd))∧dd.ok)→Q (.ref p) H'
abbrev jC:List Str:=["script", "most", "deeds"]
theorem vW:av jC ["script", "most"] (ar bL):=⟨rfl,rfl,rfl,by decide +kernel,rfl,by decide +kernel,by decide +kernel⟩
theorem GW(F:Fun K "_law_deeds" "_law_deeds" bL D.cP D.kI)(T:Txt K mg D)
  (pG:Ok P w K mg base 1 D.gD D.mh ["number"] (Oq))
  (kB:Ok P w K mg base 2 D.d9 D.jb ["script", "most"] (F7 K)):Ok P w K mg base 3 D.cP D.kI ["script", "most"] (Ma K):=by
 refine⟨?_,F.binds (ps:=["script", "most"]) λ_ _ _ _ _ _ us hl=>match us,hl with|[_,_],_=>rfl⟩
 refine F.okE vW (λvs H Q E h=>?_) (λcdv A' outer s' H vs Q E hr h=>?_)
 ·obtain⟨a,ns,m,rfl,_⟩:=h
  rfl
 ·obtain⟨a,ns,m,rfl,hS,hlen,k⟩:=h
  have hh0:∃ es p q1 q2,(cT bL).getD 0 (.Pass ⟨0,0,0,0⟩)=.Assign [.Name "deeds" q1] (.List es p) q2∧∃ e0 e1 e2,es=[e0,e1,e2]∧(PE (cxE P w K mg base jC "_law_deeds" (ar bL) D.cP cdv A' outer s' H E).nox e0 (Vq (rz (tC (.str "make")) (rz (tC (.int 0)) (rz (tC (.int 3)) PL))))∧nsE e0=true)∧(PE (cxE P w K mg base jC "_law_deeds" (ar bL) D.cP cdv A' outer s' H E).nox e1 (Vq (rz (tC (.str "make")) (rz (tC (.int 1)) (rz (tC (.int 2)) PL))))∧nsE e1=true)∧(PE (cxE P w K mg base jC "_law_deeds" (ar bL) D.cP cdv A' outer s' H E).nox e2 (Vq (rz (tC (.str "make")) (rz (tC (.int 2)) (rz (tC (.int 2)) PL))))∧nsE e2=true):=⟨_,_,_,_,rfl,_,_,_,rfl,⟨g9 (iL bJ (iL au (iL au ao))),rfl⟩,⟨g9 (iL bJ (iL au (iL au ao))),rfl⟩,⟨g9 (iL bJ (iL au (iL au ao))),rfl⟩⟩;have S1:PS (cxE P w K mg base jC "_law_deeds" (ar bL) D.cP cdv A' outer s' H E).nox ((cT bL).getD 1 (.Pass ⟨0,0,0,0⟩)) _:=(aV (eF BA (pv 2) (BB (cl:=[]) (x := "number") (idx:=[]) (NC:=["number"]) (by exact kZ (sc:=ar bL) (N:=jC) (ns:=[]) rfl rfl rfl (by decide +kernel) rfl rfl (by intro q hq;cases hq)) rfl (jc (bj kB.g (hr.mono (by decide)) rfl T.EW T.oa kB.b .nil fz (ae (pv 0) (ae (pv 1) ao)))) (λC fp s₀ H₀=>(bj pG.g (hr.mono (by decide)) rfl T.KG T.uv pG.b .nil ya (ae (pv 0) ao))))));have hb:cT bL=[(cT bL).getD 0 (.Pass ⟨0,0,0,0⟩),(cT bL).getD 1 (.Pass ⟨0,0,0,0⟩)]:=rfl;generalize (cT bL).getD 0 (.Pass ⟨0,0,0,0⟩)=st0 at hh0 hb;have S0:=YX (i:=2) hh0 vW.nd rfl (Or.inl rfl) (.inl rfl);generalize (cT bL).getD 1 (.Pass ⟨0,0,0,0⟩)=st1 at S1 hb;generalize cT bL=bd at hb ⊢;subst hb;refine⟨_,(PSs.nox (ak S0 (ai S1))),?_⟩;refine⟨by show 3≤sizeLine;decide,λt1 h1=>⟨by show 3≤sizeLine;decide,λt2 h2=>⟨by show 3≤sizeLine;decide,λt3 h3=>⟨by show 3≤sizeLine;decide,λl0 hl0=>?_⟩⟩⟩⟩;have a7:=aC.upd (o:=.tup (Dd.its (.make 0 3))) h1;have a8:=aC.upd (o:=.tup (Dd.its (.make 1 2))) h2;have a9:=aC.upd (o:=.tup (Dd.its (.make 2 2))) h3;have a10:=aC.upd (o:=.lst [V.ref t1,V.ref t2,V.ref t3]) hl0;have c9:=a9.trans a10;have c8:=a8.trans c9;have c7:=a7.trans c8;have zl0:=k6 a10;have zt1:=c8 _ _ (ah (o:=.tup (Dd.its (.make 0 3))));have zt2:=c9 _ _ (ah (o:=.tup (Dd.its (.make 1 2))));have zt3:=a10 _ _ (ah (o:=.tup (Dd.its (.make 2 2))));refine⟨_,rfl,_,rfl,_,rfl,a,ns,m,rfl,c7.seq hS,hlen,λpz zs Hn sn hz0 hz lz bz=>⟨pz,rfl,⟨_,SqL.of hz⟩,λDl hDl=>?_⟩⟩;refine qv (K:=K) (a:=pz) (xs:=zs.map V.int) (λi ys Hc=>ys.length=i∧aC Hn Hc∧Hc Dl=some (.lst ys)∧∀ v∈ys,∃ q dd,v=.ref q∧Hc q=some (.tup (Dd.its dd))∧dd.ok) ⟨rfl,aC.upd hDl,ah,λv hv=>by cases hv⟩ (λi ys Hc _ ⟨e,_,z,_⟩=>⟨z,e⟩) (λi ys Hc _ ⟨_,sc,_⟩=>SqL.of (sc _ _ hz)) (pU (by rw[aeV];have:=lz.1;omega)) (λi v ys Hc hi ⟨e,sc,z,hv⟩=>?_) (λys Hc ⟨e,sc,z,hv⟩=>?_)
  ·obtain⟨y,my,rfl⟩:=afk.mp (ae7 hi)
   obtain⟨y0,y1⟩:=bz y my;refine⟨_,rfl,y,rfl,y0,y1,λq dd H4 s4 hq0 hq ok=>⟨s4 _ _ z,by rw[ae3,e];rfl,λb u g=>by rw[af (aq g hDl)];exact s4 _ _ (sc b u g),ah,λv m=>?_⟩⟩;have tk:fv H4 (upd H4 Dl (.lst (ys++[V.ref q]))):=fv.set (s4 _ _ z) (λ_ w=>nomatch w);rcases afd.mp m with m|m
   ·obtain⟨q',dd',e',hq',ok'⟩:=hv v m
    exact⟨q',dd',e',tk _ _ (s4 _ _ hq'),ok'⟩
   ·rw[aeX.mp m]
    exact⟨q,dd,rfl,tk _ _ hq,ok⟩
  ·have snc:=sn.trans sc
   have ly:ys.length≤200:=(by rw[e,aeV];exact lz.1);refine⟨l0,Dl,_,_,rfl,rfl,SqL.of (snc _ _ zl0),SqL.of z,pU (by show 3+ys.length≤20000;omega),λld hld=>?_⟩;have b1:=aC.upd (o:=.lst ([V.ref t1,V.ref t2,V.ref t3]++ys)) hld;have sf:=snc.trans b1;refine k ld _ _ (c7.trans sf) (aC.none (c7.trans snc) hld) ah ⟨by rw[ae3];show 3+ys.length≤203;omega,λm0=>by rw[ae3];show 3+ys.length≤_;have:=lz.2 m0;rw[e,aeV];omega⟩ λv m=>?_;rcases afd.mp m with m|m
   ·simp only[aff,af2,or_false]at m
    rcases m with rfl|rfl|rfl
    ·exact⟨t1,_,rfl,sf _ _ zt1,⟨by decide,by decide⟩,by decide,by decide⟩
    ·exact⟨t2,_,rfl,sf _ _ zt2,⟨by decide,by decide⟩,by decide,by decide⟩
    ·exact⟨t3,_,rfl,sf _ _ zt3,⟨by decide,by decide⟩,by decide,by decide⟩
   ·obtain⟨q',dd',e',hq',ok'⟩:=hv v m
    exact⟨q',dd',e',b1 _ _ hq',ok'⟩
theorem Good.names{s:HS}(g:Good s){w:Nat}{t:Int}{ws:List Wd}(m:(t,ws)∈s.aN):Good {s with names:=s.names.set w (some t)} :=
 ⟨g.h8,by show(s.names.set _ _).length=8;rw[afZ];exact g.n8,g.asc,g.lt,g.f6,g.hh,g.ff,λu m'=>(oE m').elim (g.nn u) (λe=>by injection e with e;rw[e];exact⟨ws,m⟩),g.b12,g.bk,g.bnd,g.n0,g.nx,g.sd,g.yk,g.ym,g.dk,g.ET⟩
theorem Pb{bs:List (Int×Int)}{t x:Int}:(HX bs t x).map (·.1)=if(bs.lookup t).isSome=true then bs.map (·.1) else bs.map (·.1)++[t]:=by
 unfold HX;by_cases c:(bs.lookup t).isSome=true
 ·rw[if_pos c,if_pos c,afE]
  refine afP λp hp=>?_;show(if p.1=t then(t,x) else p).1=p.1;by_cases e:p.1=t
  ·rw[if_pos e];exact e.symm
  ·rw[if_neg e]
 ·rw[if_neg c,if_neg c,ae8]
  rfl
theorem Good.aR{s:HS}(g:Good s){t x:Int}{ws:List Wd}(m:(t,ws)∈s.aN)(c:¬(s.aR.lookup t=none∧12≤s.aR.length)):Good {s with aR:=HX s.aR t x}:=by
 have kl:=Pb (bs:=s.aR) (t:=t) (x:=x);have ln:=congrArg List.length kl;have mm:∀ u,u∈(HX s.aR t x).map (·.1)→u∈s.aR.map (·.1)∨u=t:=λu h=>by
  rw[kl]at h;split at h
  ·exact .inl h
  ·rcases afd.mp h with h|h
   ·exact .inl h
   ·exact .inr (aeX.mp h)
 refine⟨g.h8,g.n8,g.asc,g.lt,g.f6,g.hh,g.ff,g.nn,?_,λu y h=>?_,?_,g.n0,g.nx,g.sd,g.yk,g.ym,g.dk,g.ET⟩
 ·show(HX s.aR t x).length≤12
  rw[aeV]at ln;rw[ln];by_cases q:(s.aR.lookup t).isSome=true
  ·rw[if_pos q,aeV];exact g.b12
  ·rw[if_neg q,ae3,aeV,afp]
   have:s.aR.lookup t=none:=by
    cases e:s.aR.lookup t with
    | none=>rfl
    | some v=>rw[e]at q;exact absurd rfl q
   have:¬12≤s.aR.length:=λz=>c ⟨this,z⟩
   omega
 ·rcases mm u (afk.mpr ⟨_,h,rfl⟩) with h|rfl
  ·obtain⟨p,hp,rfl⟩:=afk.mp h
   exact g.bk p.1 p.2 hp
  ·exact⟨ws,m⟩
 ·show((HX s.aR t x).map (·.1)).Nodup
  rw[kl];by_cases q:(s.aR.lookup t).isSome=true
  ·rw[if_pos q];exact g.bnd
  ·rw[if_neg q,af8]
   refine⟨g.bnd,agf _ _,λa ma b mb e=>?_⟩;rw[aeX.mp mb]at e;subst e;obtain⟨p,hp,rfl⟩:=afk.mp ma;refine q ?_;rw[mem_lookup (w:=p.2) g.bnd hp];rfl
theorem Ib{fs:List (Int×List Wd)}{t:Int}{ws:List Wd}:(oM fs t ws).map (·.1)=fs.map (·.1):=by
 unfold oM;rw[afE];refine afP λp hp=>?_;show(if p.1=t then(t,ws) else p).1=p.1;by_cases e:p.1=t
 ·rw[if_pos e];exact e.symm
 ·rw[if_neg e]
theorem QF{fs:List (Int×List Wd)}{t u:Int}{ws w:List Wd}(m:(u,w)∈fs):∃ w',(u,w')∈oM fs t ws:=by
 have:u∈(oM fs t ws).map (·.1):=by rw[Ib];exact afk.mpr ⟨_,m,rfl⟩
 obtain⟨p,hp,rfl⟩:=afk.mp this;exact⟨p.2,hp⟩
theorem Bt{fs:List (Int×List Wd)}{t u:Int}{ws w:List Wd}(m:(u,w)∈oM fs t ws):(u,w)∈fs∨(w=ws∧∃ w0,(u,w0)∈fs):=by
 obtain⟨p,hp,e⟩:=afk.mp m;by_cases c:p.1=t
 ·rw[if_pos c]at e
  cases e;exact .inr ⟨rfl,p.2,by rw[←c];exact hp⟩
 ·rw[if_neg c]at e
  subst e;exact .inl hp
theorem Good.oM{s:HS}(g:Good s){t:Int}{ws:List Wd}(l6:ws.length≤6)(c:∀ u,Wd.th u∈ws→∃ w,(u,w)∈s.aN):Good {s with aN:=oM s.aN t ws}:=by
 have hs:∀ u,(∃ w,(u,w)∈s.aN)→∃ w,(u,w)∈K08.oM s.aN t ws:=λu ⟨w,m⟩=>QF m;refine⟨g.h8,g.n8,by show((K08.oM s.aN t ws).map (·.1)).Pairwise _;rw[Ib];exact g.asc,λu w m=>?_,λu w m=>?_,λu m=>hs u (g.hh u m),λu w v m mv=>?_,λu m=>hs u (g.nn u m),g.b12,λu y m=>hs u (g.bk u y m),g.bnd,g.n0,g.nx,?_,λu m=>hs u (g.yk u m),g.ym,λu m=>hs u (g.dk u m),g.ET⟩
 ·rcases Bt m with m|⟨_,w0,m⟩
  ·exact g.lt u w m
  ·exact g.lt u w0 m
 ·rcases Bt m with m|⟨rfl,w0,m⟩
  ·exact g.f6 u w m
  ·exact l6
 ·rcases Bt m with m|⟨rfl,w0,m⟩
  ·exact hs v (g.ff u w v m mv)
  ·exact hs v (c v mv)
 ·show(s.ot.length:Int)+((K08.oM s.aN t ws).length:Int)≤s.nxt
  unfold K08.oM;rw[aeV];exact g.sd
theorem Good.aeK{s:HS}(g:Good s){h n:Int}(n6:n≤6)(few:s.nxt<10000):Good (JH s h n):=by
 have hs:∀ u,(∃ w,(u,w)∈s.aN)→∃ w,(u,w)∈s.aN++[(s.nxt,List.replicate n.toNat Wd.no)]:=λu ⟨w,m⟩=>⟨w,afj _ m⟩;have mm:∀ {u:Int} {w:List Wd},(u,w)∈s.aN++[(s.nxt,List.replicate n.toNat Wd.no)]→(u,w)∈s.aN∨(u=s.nxt∧w=List.replicate n.toNat Wd.no):=λm=>by
  rcases afd.mp m with m|m
  ·exact .inl m
  ·cases aeX.mp m;exact .inr ⟨rfl,rfl⟩
 have my:∀ u∈(JH s h n).yng,u∈s.yng∨u=s.nxt:=λu m=>by
  have m:u∈(if s.my=true then s.yng++[s.nxt] else s.yng):=m;split at m
  ·exact(afd.mp m).imp id λz=>aeX.mp z
  ·exact .inl m
 refine⟨by show(s.bq.set _ _).length=8;rw[afZ];exact g.h8,g.n8,?_,λu w m=>?_,λu w m=>?_,λu m=>?_,λu w v m mv=>?_,λu m=>hs u (g.nn u m),g.b12,λu y m=>hs u (g.bk u y m),g.bnd,by show 0≤s.nxt+1;have:=g.n0;omega,by show s.nxt+1≤10000;omega,?_,λu m=>?_,?_,λu m=>hs u (g.dk u m),g.ET⟩
 ·show((s.aN++[(s.nxt,List.replicate n.toNat Wd.no)]).map (·.1)).Pairwise _
  rw[ae8,agm];refine⟨g.asc,agf _ _,λa ma b mb=>?_⟩;obtain⟨p,hp,rfl⟩:=afk.mp ma;obtain rfl:b=s.nxt:=by simpa using mb
  exact(g.lt p.1 p.2 hp).2
 ·show 0≤u∧u<s.nxt+1
  have:=g.n0
  rcases mm m with m|⟨e,_⟩
  ·have:=g.lt u w m;omega
  ·omega
 ·rcases mm m with m|⟨_,e⟩
  ·exact g.f6 u w m
  ·rw[e,List.length_replicate];omega
 ·rcases oE m with m|e
  ·exact hs u (g.hh u m)
  ·injection e with e
   exact⟨_,aeZ _ (aeX.mpr (by rw[e]))⟩
 ·rcases mm m with m|⟨_,e⟩
  ·exact hs v (g.ff u w v m mv)
  ·rw[e]at mv
   cases afK mv
 ·show(s.ot.length:Int)+((s.aN++[(s.nxt,List.replicate n.toNat Wd.no)]).length:Int)≤s.nxt+1
  rw[ae3,afp]
  have:=g.sd
  omega
 ·rcases my u m with m|e
  ·exact hs u (g.yk u m)
  ·exact⟨_,aeZ _ (aeX.mpr (by rw[e]))⟩
 ·show(if s.my=true then s.yng++[s.nxt] else s.yng).Pairwise _
  split
  ·rw[agm]
   refine⟨g.ym,agf _ _,λa ma b mb=>?_⟩;obtain rfl:b=s.nxt:=(by simpa using mb);obtain⟨ws,m⟩:=g.yk a ma;exact(g.lt a ws m).2
  ·exact g.ym
theorem Gd.put{s:HS}(d:Gd s){h:Int}{w:Wd}(c:∀ t,w=.th t→(∃ ws,(t,ws)∈s.aN)∧t∉s.dO):Gd (qz s h w) :=
 ⟨d.g.put λt e=>(c t e).1,d.dy,λt m=>(oE m).elim (d.dh t) (λe=>(c t e.symm).2),d.df,d.rd⟩
theorem Gd.add{s:HS}(d:Gd s){h n:Int}(n6:n≤6)(few:s.nxt<10000):Gd (JH s h n) where
 g:=d.g.aeK n6 few
 dy:=λt m=>by
  obtain⟨ws,mt⟩:=d.g.dk t m;have lt:=(d.g.lt t ws mt).2;show t∉(if s.my=true then s.yng++[s.nxt] else s.yng);split
  ·intro z
   rcases afd.mp z with z|z
   ·exact d.dy t m z
   ·have:=aeX.mp z;omega
  ·exact d.dy t m
 dh:=λt m=>(oE m).elim (d.dh t) λe=>by
  injection e with e;intro z;obtain⟨ws,mt⟩:=d.g.dk t z
  have:=(d.g.lt t ws mt).2
  omega
 df:=λu ws t m hu h=>by
  rcases afd.mp m with m|m
  ·exact d.df u ws t m hu h
  ·cases aeX.mp m
   cases afK h
 rd:=d.rd
theorem Gd.oM{s:HS}(d:Gd s){t:Int}{ws:List Wd}(l6:ws.length≤6)(c:∀ u,Wd.th u∈ws→(∃ w,(u,w)∈s.aN)∧u∉s.dO):Gd {s with aN:=oM s.aN t ws} where
 g:=d.g.oM l6 λu m=>(c u m).1
 dy:=d.dy
 dh:=d.dh
 df:=λu w v m hu h=>by
  rcases Bt m with m|⟨e,_⟩
  ·exact d.df u w v m hu h
  ·rw[e]at h;exact(c v h).2
 rd:=d.rd
theorem Gd.hnd{s:HS}(d:Gd s){h:Int}{w:Wd}(e:wat s.bq h=some w):∀ t,w=.th t→(∃ ws,(t,ws)∈s.aN)∧t∉s.dO:=λt z=>by
 have m:=ae7 (qO e).2.2;rw[z]at m;exact⟨d.g.hh t m,d.dh t m⟩
theorem JM{s:HS}{n:Option Int}:(rdR s n).nxt=s.nxt:=by
 unfold rdR;split
 ·split<;>rfl
 ·rfl
theorem acv{s:HS}(d:Gd s)(few:s.nxt<10000){dd:Dd}(ok:dd.ok):Gd (dDo s dd).2∧s.nxt≤(dDo s dd).2.nxt∧(dDo s dd).2.nxt≤s.nxt+1:=by
 have same:Gd s∧s.nxt≤s.nxt∧s.nxt≤s.nxt+1:=⟨d,afH _,by omega⟩;cases dd with
 | make h n =>
  show Gd (kQ s h n).2∧s.nxt≤(kQ s h n).2.nxt∧(kQ s h n).2.nxt≤s.nxt+1;unfold kQ;split
  ·split
   ·split
    ·exact⟨d.mkd,by rw[vV];exact afH _,by rw[vV];omega⟩
    ·exact⟨d.mkd.add ok.2.2 (by rw[vV];exact few),by show s.nxt≤(mkR s n).nxt+1;rw[vV];omega,by show(mkR s n).nxt+1≤s.nxt+1;rw[vV];exact afH _⟩
   ·exact same
  ·exact same
 | store g k h =>
  show Gd (ip s g k h).2∧s.nxt≤(ip s g k h).2.nxt∧(ip s g k h).2.nxt≤s.nxt+1;unfold ip;split
  ·rename_i t e
   split
   ·rename_i w e2
    split
    ·rename_i c
     have m:=d.g.hand e;refine⟨d.oM (by rw[afZ];exact d.g.f6 _ _ m) (λu hu=>?_),afH _,by show s.nxt≤s.nxt+1;omega⟩;rcases oE hu with hu|hu
     ·exact⟨d.g.ff _ _ _ m hu,d.df _ _ _ m ((d.hnd e t rfl).2) hu⟩
     ·exact d.hnd e2 u hu.symm
    ·exact same
   ·exact same
  ·exact same
 | load h g k =>
  show Gd (kW s h g k).2∧s.nxt≤(kW s h g k).2.nxt∧(kW s h g k).2.nxt≤s.nxt+1;unfold kW;split
  ·split
   ·rename_i t e
    split
    ·rename_i c
     have m:=d.g.hand e;refine⟨d.put λu hu=>?_,afH _,by show s.nxt≤s.nxt+1;omega⟩;have hi:k.toNat<(fld s t).length:=(by omega);have hm:Wd.th u∈fld s t:=(by rw[←hu,List.getD_eq_getElem?_getD,aeW hi];exact afW hi);exact⟨d.g.ff _ _ _ m hm,d.df _ _ _ m ((d.hnd e t rfl).2) hm⟩
    ·exact same
   ·exact same
  ·exact same
 | copy h g =>
  show Gd (qu s h g).2∧s.nxt≤(qu s h g).2.nxt∧(qu s h g).2.nxt≤s.nxt+1;unfold qu;split
  ·split
   ·rename_i w e
    exact⟨d.put (d.hnd e),afH _,by show s.nxt≤s.nxt+1;omega⟩
   ·exact same
  ·exact same
 | drop h =>
  show Gd (tm s h).2∧s.nxt≤(tm s h).2.nxt∧(tm s h).2.nxt≤s.nxt+1;unfold tm;split
  ·exact⟨d.put (λt e=>by cases e),afH _,by show s.nxt≤s.nxt+1;omega⟩
  ·exact same
 | number h x =>
  show Gd (iV s h x).2∧s.nxt≤(iV s h x).2.nxt∧(iV s h x).2.nxt≤s.nxt+1;unfold iV;split
  ·split
   ·exact⟨d.put (λt e=>by cases e),afH _,by show s.nxt≤s.nxt+1;omega⟩
   ·exact same
  ·exact same
 | name w h =>
  show Gd (mM s w h).2∧s.nxt≤(mM s w h).2.nxt∧(mM s w h).2.nxt≤s.nxt+1;unfold mM;split
  ·rename_i t e
   split
   ·exact⟨⟨d.g.names (d.g.hand e),d.dy,d.dh,d.df,d.rd⟩,afH _,by show s.nxt≤s.nxt+1;omega⟩
   ·exact same
  ·exact same
 | read h w =>
  show Gd (kP s h w).2∧s.nxt≤(kP s h w).2.nxt∧(kP s h w).2.nxt≤s.nxt+1;unfold kP;split
  ·split
   ·rename_i c2
    refine⟨?_,by rw[JM];exact afH _,by rw[JM];show s.nxt≤s.nxt+1;omega⟩;have hi:w.toNat<s.names.length:=(by rw[d.g.n8];omega);have gd:s.names.getD w.toNat none=s.names[w.toNat]:=(by simp[List.getD,hi]);have mm:s.names[w.toNat]∈s.names:=afW hi;rw[←gd]at mm;cases e:s.names.getD w.toNat none with
    | none=>exact d.put (λt e=>by cases e)
    | some t =>
     rw[e]at mm;obtain⟨ws,m⟩:=d.g.nn t mm;show Gd (if t∈(qz s h (.th t)).dO then qR (qz s h (.th t)) t else qz s h (.th t));have g2:Good (qz s h (.th t)):=d.g.put λu z=>by cases z;exact⟨ws,m⟩
     by_cases c:t∈s.dO
     ·rw[if_pos (show t∈(qz s h (.th t)).dO from c)]
      refine Gd.acs ⟨g2,d.dy,d.df,d.rd⟩ c λu hu=>?_;rcases oE hu with hu|hu
      ·exact .inr (d.dh u hu)
      ·injection hu with hu;exact .inl hu
     ·rw[if_neg (show ¬t∈(qz s h (.th t)).dO from c)]
      exact d.put λu z=>by cases z;exact⟨⟨ws,m⟩,c⟩
   ·exact same
  ·exact same
 | word h x =>
  show Gd (kX s h x).2∧s.nxt≤(kX s h x).2.nxt∧(kX s h x).2.nxt≤s.nxt+1;unfold kX;split
  ·rename_i t e
   split
   ·split
    ·exact same
    ·rename_i c
     exact⟨⟨d.g.aR (d.g.hand e) c,d.dy,d.dh,d.df,d.rd⟩,afH _,by show s.nxt≤s.nxt+1;omega⟩
   ·exact same
  ·exact same
 | small=>exact⟨d.small,afH _,by show s.nxt≤s.nxt+1;omega⟩
 | turn =>
  show Gd (yp s).2∧s.nxt≤(yp s).2.nxt∧(yp s).2.nxt≤s.nxt+1;unfold yp;split
  ·rename_i c
   rw[show PX s=(none,PV s) from if_pos c];exact⟨d.fin,afH _,by show s.nxt≤s.nxt+1;omega⟩
  ·rename_i c
   rw[show Bd s=(none,Om (aO s)) from if_neg c];exact⟨d.small.beg rfl,afH _,by show s.nxt≤s.nxt+1;omega⟩
theorem gd0{my:Bool}{room limit:Int}:Gd (s0 my room limit):=⟨good0,(λt m=>nomatch m),(λt _ m=>nomatch m),(λu ws t m=>nomatch m),λ_=>rfl⟩
def Py(K:W.Frag):Sp:=λvs H Q _=>∃(a:Addr) (ns:List Int),vs=[.ref a]∧SqL K H a (ns.map V.int)∧ns.length≤63∧∀ H',Q (.bl true) H'
open Classical in
noncomputable def res(H:Hp)(F:Addr→Prop):Hp:=λb=>if F b∧(∀ us,H b≠some (.tup us)) then none else H b
def Ex(H:Hp)(b:Addr):Prop:=∃ u,H b=some u
def ExL(H:Hp)(L b:Addr):Prop:=Ex H b∨b=L
theorem res_some{H:Hp}{F:Addr→Prop}{b:Addr}{u:HO}(h:res H F b=some u):H b=some u∧(¬F b∨∃ us,u=.tup us):=by
 unfold res at h;split at h
 ·cases h
 ·rename_i c
  refine⟨h,afR λz=>c ⟨afR λy=>z (.inl y),λus q=>z (.inr ⟨us,?_⟩)⟩⟩;rw[h]at q;exact afo q
theorem pW{H:Hp}{F:Addr→Prop}{b:Addr}{u:HO}(h:H b=some u)(c:¬F b∨∃ us,u=.tup us):res H F b=some u:=by
 unfold res;rw[if_neg]
 ·exact h
 ·rintro⟨f,n⟩
  rcases c with c|⟨us,rfl⟩
  ·exact c f
  ·exact n us h
theorem ir{H:Hp}{F:Addr→Prop}:aC (res H F) H:=λ_ _ q=>(res_some q).1
theorem Ov{H:Hp}{F:Addr→Prop}:fv H (res H F):=λ_ us q=>pW q (.inr ⟨us,rfl⟩)
theorem Bu{H H':Hp}{F:Addr→Prop}(s:aC H H'):aC (res H F) (res H' F):=λb u q=>pW (s _ _ (res_some q).1) (res_some q).2
theorem Mb{H:Hp}{F F':Addr→Prop}(h:∀ b,F' b→F b):aC (res H F) (res H F'):=λb u q=>pW (res_some q).1 ((res_some q).2.imp (λn f=>n (h b f)) id)
theorem Mc{H H':Hp}{F F':Addr→Prop}(fr:Fr F H F' H'):aC (res H F) (res H' F'):=λb u q=>by
 obtain⟨h,c⟩:=res_some q;rcases c with c|⟨us,rfl⟩
 ·have:=fr.out c h
  exact pW this.1 (.inl this.2)
 ·exact pW (fr.tup _ _ h) (.inr ⟨us,rfl⟩)
theorem vX{H H':Hp}{b:Addr}{u:HO}(h:H b=none)(q:H' b=some u):res H' (Ex H) b=some u:=pW q (.inl λ⟨_,z⟩=>by rw[h]at z;cases z)
theorem Ro{H:Hp}{n:Nat}{p:Addr}{us:List V}{xs:List Vl}(h:H p=some (.lst us))(l:us.length=xs.length)(k:∀(i:Nat) (u:V) (x:Vl),us[i]?=some u→xs[i]?=some x→Rp H n u x):Rp H (n+1) (.ref p) (.l xs):=⟨p,us,rfl,h,l,k⟩
theorem adB{H:Hp}{n:Nat}{p:Addr}{us:List V}{xs:List Vl}(h:H p=some (.tup us))(l:us.length=xs.length)(k:∀(i:Nat) (u:V) (x:Vl),us[i]?=some u→xs[i]?=some x→Rp H n u x):Rp H (n+1) (.ref p) (.t xs):=⟨p,us,rfl,h,l,k⟩
theorem GX{α:Type}{H:Hp}{n:Nat}{p:Addr}{l:List α}{f:α→V}(g:α→Vl)(h:H p=some (.lst (l.map f)))(k:∀ z∈l,Rp H n (f z) (g z)):Rp H (n+1) (.ref p) (.l (l.map g)):=Ro h (by rw[aeV,aeV]) λi u x h1 h2=>by
 rw[ae6]at h1 h2;obtain⟨z,hz,rfl⟩:=afa.mp h1;rw[hz]at h2;cases h2;exact k z (ae7 hz)
theorem Rq{H:Hp}{p:Addr}{xs:List V}{ws:List Wd}(h:H p=some (.lst xs))(r:Rel H xs ws):Rp H 2 (.ref p) (.l (ws.map Wd.vl)):=Ro h (by rw[aeV];exact r.1) λi u x h1 h2=>by
 rw[ae6]at h2;obtain⟨w,hw,rfl⟩:=afa.mp h2;exact(r.2 i u w h1 hw).rp
theorem Hv{H:Hp}{v:V}{a:Vl}:∀(k:Nat) {n:Nat},Rp H n v a→Rp H (n+k) v a
 | 0,_,h=>h
 | k+1,_,h=>(Hv k h).up
def Yg(s:HS)(t:Int):Vl:=.t [.a (.int t),.l ((fld s t).map Wd.vl),.a (.bl (decide (t∉s.yng))),.a (nmV (s.aR.lookup t))]
def acw(s:HS):List Vl:=[.l (s.bq.map Wd.vl),.l (s.names.map λn=>.a (nmV n)),.l ((keys s).map (Yg s)),.l (s.dO.map λt=>.a (.int t)),.l (s.ot.map λt=>.a (.int t)),.a (.int s.nxt),.a (.bl s.rnd)]
def told(s:HS):Vl:=.l (acw s)
theorem fla{H:Hp}{n:Nat}{o:Option Int}:Rp H n (nmV o) (.a (nmV o)):=Rp.flat (by cases o<;>rfl)
theorem fli{H:Hp}{n:Nat}{t:Int}:Rp H n (.int t) (.a (.int t)):=Rp.flat rfl
def DB(D:Ad):Sp:=λvs H Q _=>∃ x A s,vs=[.ref x]∧IH D H x A s∧Good s∧(∀ p H',aC H H'→H p=none→H' p=some (.lst A.hx)→Q (.ref p) H')
abbrev zA:List Str:=["self"]
theorem wL:av zA ["self"] (ar ki):=⟨rfl,rfl,rfl,by decide +kernel,rfl,by decide +kernel,by decide +kernel⟩
theorem wM(F:Fun K "hands" "IdealHeap.hands" ki D.ck D.fi)(T:Txt K mg D)
  (bc:Ok P w K mg base 1 D.bO D.dR ["self"] (nz D)):Ok P w K mg base 2 D.ck D.fi ["self"] (DB D):=by
 refine⟨?_,F.binds (ps:=["self"]) λ_ _ _ _ _ _ us hl=>match us,hl with|[_],_=>rfl⟩
 refine F.okE wL (λvs H Q E h=>?_) (λcdv A' outer s' H vs Q E hr h=>?_)
 ·obtain⟨x,A,s,rfl,_⟩:=h
  rfl
 ·obtain⟨x,A,s,rfl,J,G,k⟩:=h
  refine⟨_,(PSs.nox (ai (aV (cE (aH (pv 0) rfl) T.aZ T.jY bc.g (hr.mono (by decide)) bc.b .nil fz)))),?_⟩;exact⟨_,rfl,x,D.aa,_,_,.ref A.hd,rfl,J.ax,T.ab,T.ay,ny,A.hd,A.hdx,_,rfl,J.ahd,rfl,A.hd,A.hdx,A.hl,A.hx,s.bq,rfl,J.hn G,k⟩
def Ow(D:Ad):Sp:=λvs H Q _=>∃ nt ntx nl xs,vs=[.ref nt]∧Nt D H nt ntx nl xs∧∀ p H',aC H H'→H p=none→H' p=some (.lst xs)→Q (.ref p) H'
abbrev rZ:List Str:=["self"]
theorem qC:av rZ ["self"] (ar iJ):=⟨rfl,rfl,rfl,by decide +kernel,rfl,by decide +kernel,by decide +kernel⟩
theorem qD(F:Fun K "all_named" "NameTable.all_named" iJ D.bH D.eD)(T:Txt K mg D):Ok P w K mg base 1 D.bH D.eD ["self"] (Ow D):=by
 refine⟨?_,F.binds (ps:=["self"]) λ_ _ _ _ _ _ us hl=>match us,hl with|[_],_=>rfl⟩
 refine F.okE qC (λvs H Q E h=>?_) (λcdv A' outer s' H vs Q E hr h=>?_)
 ·obtain⟨nt,ntx,nl,xs,rfl,_⟩:=h
  rfl
 ·obtain⟨nt,ntx,nl,xs,rfl,N,k⟩:=h
  refine⟨_,(PSs.nox (ai (aV (lV kC rfl T.sY PyProof.Rows.Boot.«list» (ae (aH (pv 0) rfl) ao))))),?_⟩;exact⟨_,rfl,nt,D.aD,ntx,_,.ref nl,rfl,N.i,T.dZ,T.b4,rfl,nl,xs,rfl,.inl (SqL.of N.l),λp hp=>k p _ (aC.upd hp) hp ah⟩
def Ic(D:Ad):Sp:=λvs H Q _=>∃ x A s,vs=[.ref x]∧IH D H x A s∧Good s∧(∀ p H',aC H H'→H p=none→H' p=some (.lst (s.names.map nmV))→Q (.ref p) H')
abbrev zB:List Str:=["self"]
theorem wN:av zB ["self"] (ar kj):=⟨rfl,rfl,rfl,by decide +kernel,rfl,by decide +kernel,by decide +kernel⟩
theorem wO(F:Fun K "names" "IdealHeap.names" kj D.cX D.gA)(T:Txt K mg D)
  (gh:Ok P w K mg base 1 D.bH D.eD ["self"] (Ow D)):Ok P w K mg base 2 D.cX D.gA ["self"] (Ic D):=by
 refine⟨?_,F.binds (ps:=["self"]) λ_ _ _ _ _ _ us hl=>match us,hl with|[_],_=>rfl⟩
 refine F.okE wN (λvs H Q E h=>?_) (λcdv A' outer s' H vs Q E hr h=>?_)
 ·obtain⟨x,A,s,rfl,_⟩:=h
  rfl
 ·obtain⟨x,A,s,rfl,J,G,k⟩:=h
  refine⟨_,(PSs.nox (ai (aV (cE (aH (pv 0) rfl) T.dZ T.qw gh.g (hr.mono (by decide)) gh.b .nil fz)))),?_⟩;exact⟨_,rfl,x,D.aa,_,_,.ref A.nt,rfl,J.ax,T.ab,T.dP,Pu,A.nt,A.ntx,_,rfl,J.ant,rfl,A.nt,A.ntx,A.nl,_,rfl,J.ntb G,k⟩
def yq(D:Ad):Sp:=λvs H Q _=>∃ x A s,vs=[.ref x]∧IH D H x A s∧Good s∧(∀ p H',aC H H'→H p=none→H' p=some (.lst ((keys s).map V.int))→Q (.ref p) H')
abbrev wQ:List Str:=["self"]
theorem uQ:av wQ ["self"] (ar jV):=⟨rfl,rfl,rfl,by decide +kernel,rfl,by decide +kernel,by decide +kernel⟩
theorem uR(F:Fun K "things" "IdealHeap.things" jV D.bW D.eI)(T:Txt K mg D):Ok P w K mg base 1 D.bW D.eI ["self"] (yq D):=by
 refine⟨?_,F.binds (ps:=["self"]) λ_ _ _ _ _ _ us hl=>match us,hl with|[_],_=>rfl⟩
 refine F.okE uQ (λvs H Q E h=>?_) (λcdv A' outer s' H vs Q E hr h=>?_)
 ·obtain⟨x,A,s,rfl,_⟩:=h
  rfl
 ·obtain⟨x,A,s,rfl,J,G,k⟩:=h
  refine⟨_,(PSs.nox (ai (aV (gK (AZ rfl) rfl T.qN PyProof.Rows.Boot.«sorted» (ae (aH (pv 0) rfl) ao))))),?_⟩;exact⟨_,rfl,x,D.aa,_,_,.ref A.fh,rfl,J.ax,T.ab,T.az,qt,A.fh,_,keys s,rfl,.inl J.afh,Px s A,(by unfold keys;rw[aeV];exact afe G.few (by decide)),G.asc.imp (λh=>Int.le_of_lt h),λp hp=>k p _ (aC.upd hp) hp ah⟩
def F8(D:Ad):Sp:=λvs H Q _=>∃ x A s,vs=[.ref x]∧IH D H x A s∧Good s∧(∀ p H',aC H H'→H p=none→H' p=some (.lst (s.dO.map V.int))→Q (.ref p) H')
abbrev wR:List Str:=["self"]
theorem uS:av wR ["self"] (ar jX):=⟨rfl,rfl,rfl,by decide +kernel,rfl,by decide +kernel,by decide +kernel⟩
theorem uT(F:Fun K "doomed" "IdealHeap.doomed" jX D.cy D.f9)(T:Txt K mg D):Ok P w K mg base 1 D.cy D.f9 ["self"] (F8 D):=by
 refine⟨?_,F.binds (ps:=["self"]) λ_ _ _ _ _ _ us hl=>match us,hl with|[_],_=>rfl⟩
 refine F.okE uS (λvs H Q E h=>?_) (λcdv A' outer s' H vs Q E hr h=>?_)
 ·obtain⟨x,A,s,rfl,_⟩:=h
  rfl
 ·obtain⟨x,A,s,rfl,J,G,k⟩:=h
  refine⟨_,(PSs.nox (ai (aV (gK (AZ rfl) rfl T.qN PyProof.Rows.Boot.«sorted» (ae (aH (pv 0) rfl) ao))))),?_⟩;exact⟨_,rfl,x,D.aa,_,_,.ref A.dm,rfl,J.ax,T.ab,T.aX,Kb,A.dm,_,s.dO,rfl,.inl J.adm,Br s.dO,afe (JI G) (by decide),G.ET.imp (λh=>Int.le_of_lt h),λp hp=>k p _ (aC.upd hp) hp ah⟩
def Md(D:Ad):Sp:=λvs H Q _=>∃ wt wtx wb wl bs zs,vs=[.ref wt]∧Wt D H wt wtx wb wl bs zs∧∀ p H',aC H H'→H p=none→H' p=some (.lst (zs.map V.int))→Q (.ref p) H'
abbrev BZ:List Str:=["self"]
theorem zC:av BZ ["self"] (ar lj):=⟨rfl,rfl,rfl,by decide +kernel,rfl,by decide +kernel,by decide +kernel⟩
theorem zD(F:Fun K "said" "WordTable.said" lj D.dC D.gU)(T:Txt K mg D):Ok P w K mg base 1 D.dC D.gU ["self"] (Md D):=by
 refine⟨?_,F.binds (ps:=["self"]) λ_ _ _ _ _ _ us hl=>match us,hl with|[_],_=>rfl⟩
 refine F.okE zC (λvs H Q E h=>?_) (λcdv A' outer s' H vs Q E hr h=>?_)
 ·obtain⟨wt,wtx,wb,wl,bs,zs,rfl,_⟩:=h
  rfl
 ·obtain⟨wt,wtx,wb,wl,bs,zs,rfl,N,k⟩:=h
  refine⟨_,(PSs.nox (ai (aV (lV kC rfl T.sY PyProof.Rows.Boot.«list» (ae (aH (pv 0) rfl) ao))))),?_⟩;exact⟨_,rfl,wt,D.aE,wtx,_,.ref wl,rfl,N.i,T.bG,T.hR,rfl,wl,_,rfl,.inl (SqL.of N.l),λp hp=>k p _ (aC.upd hp) hp ah⟩
def Me(D:Ad):Sp:=λvs H Q _=>∃ x A s,vs=[.ref x]∧IH D H x A s∧Good s∧(∀ p H',aC H H'→H p=none→H' p=some (.lst (s.ot.map V.int))→Q (.ref p) H')
abbrev B7:List Str:=["self"]
theorem zE:av B7 ["self"] (ar lE):=⟨rfl,rfl,rfl,by decide +kernel,rfl,by decide +kernel,by decide +kernel⟩
theorem zF(F:Fun K "said" "IdealHeap.said" lE D.dH D.g5)(T:Txt K mg D)
  (js:Ok P w K mg base 1 D.dC D.gU ["self"] (Md D)):Ok P w K mg base 2 D.dH D.g5 ["self"] (Me D):=by
 refine⟨?_,F.binds (ps:=["self"]) λ_ _ _ _ _ _ us hl=>match us,hl with|[_],_=>rfl⟩
 refine F.okE zE (λvs H Q E h=>?_) (λcdv A' outer s' H vs Q E hr h=>?_)
 ·obtain⟨x,A,s,rfl,_⟩:=h
  rfl
 ·obtain⟨x,A,s,rfl,J,G,k⟩:=h
  refine⟨_,(PSs.nox (ai (aV (cE (aH (pv 0) rfl) T.bG T.yw js.g (hr.mono (by decide)) js.b .nil fz)))),?_⟩;exact⟨_,rfl,x,D.aa,_,_,.ref A.wt,rfl,J.ax,T.ab,T.dQ,Pw,A.wt,A.wtx,_,rfl,J.awt,rfl,A.wt,A.wtx,A.wb,A.wl,s.aR,s.ot,rfl,J.wtb,k⟩
def Mf(D:Ad):Sp:=λvs H Q _=>∃ x A s,vs=[.ref x]∧IH D H x A s∧Good s∧(Q (.int s.nxt) H)
abbrev B8:List Str:=["self"]
theorem zG:av B8 ["self"] (ar lF):=⟨rfl,rfl,rfl,by decide +kernel,rfl,by decide +kernel,by decide +kernel⟩
theorem zH(F:Fun K "made" "IdealHeap.made" lF D.dI D.g7)(T:Txt K mg D):Ok P w K mg base 1 D.dI D.g7 ["self"] (Mf D):=by
 refine⟨?_,F.binds (ps:=["self"]) λ_ _ _ _ _ _ us hl=>match us,hl with|[_],_=>rfl⟩
 refine F.okE zG (λvs H Q E h=>?_) (λcdv A' outer s' H vs Q E hr h=>?_)
 ·obtain⟨x,A,s,rfl,_⟩:=h
  rfl
 ·obtain⟨x,A,s,rfl,J,G,k⟩:=h
  refine⟨_,(PSs.nox (ai (aV (aH (pv 0) rfl)))),?_⟩;exact⟨_,rfl,x,D.aa,_,_,.int s.nxt,rfl,J.ax,T.ab,T.fE,Yb,k⟩
def Ox(D:Ad):Sp:=λvs H Q _=>∃ wt wtx wb wl bs zs,∃ t:Int,vs=[.ref wt,.int t]∧Wt D H wt wtx wb wl bs zs∧Q (nmV (bs.lookup t)) H
abbrev uU:List Str:=["self", "t"]
theorem tw:av uU ["self", "t"] (ar jE):=⟨rfl,rfl,rfl,by decide +kernel,rfl,by decide +kernel,by decide +kernel⟩
theorem tE(F:Fun K "word_of" "WordTable.word_of" jE D.b6 D.fB)(T:Txt K mg D):Ok P w K mg base 1 D.b6 D.fB ["self", "t"] (Ox D):=by
 refine⟨?_,F.binds (ps:=["self", "t"]) λ_ _ _ _ _ _ us hl=>match us,hl with|[_,_],_=>rfl⟩
 refine F.okE tw (λvs H Q E h=>?_) (λcdv A' outer s' H vs Q E hr h=>?_)
 ·obtain⟨wt,wtx,wb,wl,bs,zs,t,rfl,_⟩:=h
  rfl
 ·obtain⟨wt,wtx,wb,wl,bs,zs,t,rfl,N,k⟩:=h
  have hu:=lL hr;refine⟨_,(PSs.nox (ai (aV (Qj hu (aH (pv 0) rfl) (pv 1) ⟨rfl,rfl,rfl,rfl⟩)))),?_⟩;refine⟨_,rfl,wt,D.aE,wtx,_,.ref wb,rfl,N.i,T.bG,T.bo,rfl,wb,rfl,.inl ⟨_,.inl N.b⟩,_,rfl,_,qc.k (k:=Sum.inl t) N.b,?_⟩;rw[Yc];cases e:bs.lookup t with
  | none=>rw[e]at k;exact k
  | some v=>rw[e]at k;exact k
def Ke(D:Ad):Sp:=λvs H Q E=>∃ x A s,∃ t:Int,vs=[.ref x,.int t]∧IH D H x A s∧Good s∧Sm t∧(t∈keys s→Q .non H)∧(t∉keys s→Bad D.eW H E)
abbrev uV:List Str:=["self", "t"]
theorem tF:av uV ["self", "t"] (ar jF):=⟨rfl,rfl,rfl,by decide +kernel,rfl,by decide +kernel,by decide +kernel⟩
theorem tG(F:Fun K "look_at_held" "Heap.look_at_held" jF D.aS D.cQ)(T:Txt K mg D)
  (ag:Ok P w K mg base 1 D.aj D.aB ["self", "text"] (DK K)):Ok P w K mg base 3 D.aS D.cQ ["self", "t"] (Ke D):=by
 refine⟨?_,F.binds (ps:=["self", "t"]) λ_ _ _ _ _ _ us hl=>match us,hl with|[_,_],_=>rfl⟩
 refine F.okE tF (λvs H Q E h=>?_) (λcdv A' outer s' H vs Q E hr h=>?_)
 ·obtain⟨x,A,s,t,rfl,_⟩:=h
  rfl
 ·obtain⟨x,A,s,t,rfl,J,G,ht,k,kb⟩:=h
  have hu:=lL hr;refine⟨_,(ai (dM (qL (j5 hu (pv 1) (aH (pv 0) rfl)) (by with_unfolding_all rfl))
    (ai (gm rfl kN (kO T.ML ag.g (hr.mono (by decide)) rfl T.MJ ag.b (Passes.x (aP λ_ _ _ q=>q)) (ae (jK (bC (lN (pv 1)) (bC iu jJ))) ao))))
    bQ)),?_⟩
  refine⟨_,rfl,_,rfl,x,D.aa,_,_,.ref A.fh,rfl,J.ax,T.ab,T.az,qt,A.fh,_,rfl,qc.k (k:=Sum.inl t) J.afh,_,rfl,?_⟩;rw[(Px s A).isS];by_cases c:t∈keys s
  ·rw[decide_eq_true c]
   exact jd (k c)
  ·rw[decide_eq_false c]
   exact oH ⟨_,rfl,t,rfl,ht,λy hy ea hea=>dt T.MK (λ_ q=>q) (kb c) ea hea⟩
def F9(D:Ad):Sp:=λvs H Q E=>∃ x A s,∃ t:Int,vs=[.ref x,.int t]∧IH D H x A s∧Good s∧Sm t∧(t∈keys s→∀ p H',aC H H'→H p=none→H' p=some (.lst (A.fx t))→Q (.ref p) H')∧(t∉keys s→Bad D.eW H E)
abbrev se:List Str:=["self", "t"]
theorem qE:av se ["self", "t"] (ar iK):=⟨rfl,rfl,rfl,by decide +kernel,rfl,by decide +kernel,by decide +kernel⟩
theorem qF(F:Fun K "fields_of" "IdealHeap.fields_of" iK D.aW D.b8)(T:Txt K mg D)
  (aT:Ok P w K mg base 3 D.aS D.cQ ["self", "t"] (Ke D)):Ok P w K mg base 4 D.aW D.b8 ["self", "t"] (F9 D):=by
 refine⟨?_,F.binds (ps:=["self", "t"]) λ_ _ _ _ _ _ us hl=>match us,hl with|[_,_],_=>rfl⟩
 refine F.okE qE (λvs H Q E h=>?_) (λcdv A' outer s' H vs Q E hr h=>?_)
 ·obtain⟨x,A,s,t,rfl,_⟩:=h
  rfl
 ·obtain⟨x,A,s,t,rfl,J,G,ht,k,kb⟩:=h
  have hu:=lL hr;refine⟨_,(ak (aG (aJ (pv 0) T.ab T.gk aT.g (hr.mono (by decide)) aT.b .nil (Passes.x (aP λ_ _ _ q=>q)) (ae (pv 1) ao)))
   (ai (aV (lV kC rfl T.sY PyProof.Rows.Boot.«list» (ae (qd hu (aH (pv 0) rfl) (pv 1) (λ_ _=>rfl)) ao))))),?_⟩
  refine⟨_,rfl,x,_,_,rfl,J.ax,(by kernel_rfl),_,rfl,x,A,s,t,rfl,J,G,ht,λm=>?_,kb⟩;obtain⟨ws,mw⟩:=mem_keys.mp m;exact⟨_,rfl,x,D.aa,_,_,.ref A.fh,rfl,J.ax,T.ab,T.az,qt,_,rfl,A.fh,_,rfl,J.Yd G mw,A.fa t,_,rfl,.inl (SqL.of (J.afl _ _ mw).1),λp hp=>k m p _ (aC.upd hp) hp ah⟩
def JN(D:Ad):Sp:=λvs H Q E=>∃ x A s,∃ t:Int,vs=[.ref x,.int t]∧IH D H x A s∧Good s∧Sm t∧(t∈keys s→Q (.bl (decide (t∉s.yng))) H)∧(t∉keys s→Bad D.eW H E)
abbrev wU:List Str:=["self", "t"]
theorem uW:av wU ["self", "t"] (ar jW):=⟨rfl,rfl,rfl,by decide +kernel,rfl,by decide +kernel,by decide +kernel⟩
theorem uX(F:Fun K "is_old" "IdealHeap.is_old" jW D.bX D.eJ)(T:Txt K mg D)
  (aT:Ok P w K mg base 3 D.aS D.cQ ["self", "t"] (Ke D)):Ok P w K mg base 4 D.bX D.eJ ["self", "t"] (JN D):=by
 refine⟨?_,F.binds (ps:=["self", "t"]) λ_ _ _ _ _ _ us hl=>match us,hl with|[_,_],_=>rfl⟩
 refine F.okE uW (λvs H Q E h=>?_) (λcdv A' outer s' H vs Q E hr h=>?_)
 ·obtain⟨x,A,s,t,rfl,_⟩:=h
  rfl
 ·obtain⟨x,A,s,t,rfl,J,G,ht,k,kb⟩:=h
  have hu:=lL hr;refine⟨_,(ak (aG (aJ (pv 0) T.ab T.gk aT.g (hr.mono (by decide)) aT.b .nil (Passes.x (aP λ_ _ _ q=>q)) (ae (pv 1) ao)))
   (ai (aV (Yq (j5 hu (pv 1) (aH (pv 0) rfl)) (by with_unfolding_all rfl))))),?_⟩
  refine⟨_,rfl,x,_,_,rfl,J.ax,(by kernel_rfl),_,rfl,x,A,s,t,rfl,J,G,ht,λm=>?_,kb⟩;refine⟨_,rfl,_,rfl,x,D.aa,_,_,.ref A.yg,rfl,J.ax,T.ab,T.a5,Ka,A.yg,_,rfl,qc.k (k:=Sum.inl t) J.ayg,?_⟩;rw[(Br s.yng).isS,show(!decide (t∈s.yng))=decide (t∉s.yng) by simp];exact k m
def JO(D:Ad):Sp:=λvs H Q E=>∃ x A s,∃ t:Int,vs=[.ref x,.int t]∧IH D H x A s∧Good s∧Sm t∧(t∈keys s→Q (nmV (s.aR.lookup t)) H)∧(t∉keys s→Bad D.eW H E)
abbrev uY:List Str:=["self", "t"]
theorem tH:av uY ["self", "t"] (ar jG):=⟨rfl,rfl,rfl,by decide +kernel,rfl,by decide +kernel,by decide +kernel⟩
theorem tI(F:Fun K "word_of" "IdealHeap.word_of" jG D.bI D.dX)(T:Txt K mg D)
  (aT:Ok P w K mg base 3 D.aS D.cQ ["self", "t"] (Ke D))
  (gO:Ok P w K mg base 1 D.b6 D.fB ["self", "t"] (Ox D)):Ok P w K mg base 4 D.bI D.dX ["self", "t"] (JO D):=by
 refine⟨?_,F.binds (ps:=["self", "t"]) λ_ _ _ _ _ _ us hl=>match us,hl with|[_,_],_=>rfl⟩
 refine F.okE tH (λvs H Q E h=>?_) (λcdv A' outer s' H vs Q E hr h=>?_)
 ·obtain⟨x,A,s,t,rfl,_⟩:=h
  rfl
 ·obtain⟨x,A,s,t,rfl,J,G,ht,k,kb⟩:=h
  have hu:=lL hr;refine⟨_,(ak (aG (aJ (pv 0) T.ab T.gk aT.g (hr.mono (by decide)) aT.b .nil (Passes.x (aP λ_ _ _ q=>q)) (ae (pv 1) ao)))
   (ai (aV (aJ (aH (pv 0) rfl) T.bG T.sX gO.g (hr.mono (by decide)) gO.b .nil (Passes.x (aP λ_ _ _ q=>q)) (ae (pv 1) ao))))),?_⟩
  refine⟨_,rfl,x,_,_,rfl,J.ax,(by kernel_rfl),_,rfl,x,A,s,t,rfl,J,G,ht,λm=>?_,kb⟩;exact⟨_,rfl,x,D.aa,_,_,.ref A.wt,rfl,J.ax,T.ab,T.dQ,Pw,A.wt,A.wtx,_,rfl,J.awt,rfl,_,rfl,A.wt,A.wtx,A.wb,A.wl,s.aR,s.ot,t,rfl,J.wtb,k m⟩
def Oy(D:Ad):Sp:=λvs H Q _=>∃ x A s,vs=[.ref x]∧IH D H x A s∧Good s∧∀ p H',aC H H'→H p=none→Rp (res H' (Ex H)) 5 (.ref p) (told s)→Q (.ref p) H'
abbrev DL:List Str:=["heap", "things", "rows"]
theorem rn:av DL ["heap"] (ar pk):=⟨rfl,rfl,rfl,by decide +kernel,rfl,by decide +kernel,by decide +kernel⟩
theorem IM(F:Fun K "_law_told" "_law_told" pk D.gF D.mx)(T:Txt K mg D)
  (cB:Ok P w K mg base 1 D.bW D.eI ["self"] (yq D))
  (aL:Ok P w K mg base 4 D.aW D.b8 ["self", "t"] (F9 D))
  (cC:Ok P w K mg base 4 D.bX D.eJ ["self", "t"] (JN D))
  (br:Ok P w K mg base 4 D.bI D.dX ["self", "t"] (JO D))
  (cZ:Ok P w K mg base 2 D.ck D.fi ["self"] (DB D))
  (iU:Ok P w K mg base 2 D.cX D.gA ["self"] (Ic D))
  (ig:Ok P w K mg base 1 D.cy D.f9 ["self"] (F8 D))
  (jt:Ok P w K mg base 2 D.dH D.g5 ["self"] (Me D))
  (ju:Ok P w K mg base 1 D.dI D.g7 ["self"] (Mf D))
  (bV:Ok P w K mg base 1 D.bw D.dw ["self"] (NK D)):Ok P w K mg base 6 D.gF D.mx ["heap"] (Oy D):=by
 refine⟨?_,F.binds (ps:=["heap"]) λ_ _ _ _ _ _ us hl=>match us,hl with|[_],_=>rfl⟩
 refine F.okE rn (λvs H Q E h=>?_) (λcdv A' outer s' H vs Q E hr h=>?_)
 ·obtain⟨x,A,s,rfl,_⟩:=h
  rfl
 ·obtain⟨x,A,s,rfl,J,G,k⟩:=h
  refine⟨_,(PSs.nox (ak (bF (i:=1) rn.nd rfl (Or.inl rfl) (cE (pv 0) T.ab T.mR cB.g (hr.mono (by decide)) cB.b .nil fz))
   (ak (UD (cl:=[("heap",s'.heap.objs.size+1)]) (x := "t") (idx:=[0]) (NC:=["t", "heap"]) (i:=2) rn.nd rfl rfl ?co1 rfl (jc (pv 1)) (λC fp s₀ H₀=>(g9 (ae (pv 0) (ae (aJ (pv 1) T.ab T.hV aL.g (hr.mono (by decide)) aL.b .nil ya (ae (pv 0) ao)) (ae (aJ (pv 1) T.ab T.mT cC.g (hr.mono (by decide)) cC.b .nil ya (ae (pv 0) ao)) (ae (aJ (pv 1) T.ab T.i8 br.g (hr.mono (by decide)) br.b .nil ya (ae (pv 0) ao)) ao)))))))
   (ai (aV (j4 (ae (cE (pv 0) T.ab T.nI cZ.g (hr.mono (by decide)) cZ.b .nil fz) (ae (cE (pv 0) T.ab T.wg iU.g (hr.mono (by decide)) iU.b .nil fz) (ae (pv 2) (ae (cE (pv 0) T.ab T.uG ig.g (hr.mono (by decide)) ig.b .nil fz) (ae (cE (pv 0) T.ab T.yG jt.g (hr.mono (by decide)) jt.b .nil fz) (ae (cE (pv 0) T.ab T.yI ju.g (hr.mono (by decide)) ju.b .nil fz) (ae (cE (pv 0) T.ab T.kT bV.g (hr.mono (by decide)) bV.b .nil fz) ao))))))))))))),?_⟩
  case co1 =>
   exact kZ (sc:=ar pk) (N:=DL) (ns:=["heap"]) rfl rfl rfl (by decide +kernel) rfl rfl (by
    intro q hq;rw[aeX.mp hq];rfl)
  refine⟨_,rfl,x,_,_,rfl,J.ax,(by kernel_rfl),x,A,s,rfl,J,G,λp1 H1 s1 hp1 z1=>?_⟩;have J1:=J.same s1;refine⟨_,rfl,p1,rfl,⟨_,SqL.of z1⟩,λL hL=>?_⟩;have hL0:H L=none:=aC.none s1 hL;have lz:(keys s).length≤10000:=by unfold keys;rw[aeV];exact G.few
  refine qv (K:=K) (a:=p1) (xs:=(keys s).map V.int) (λi ys Hc=>ys.length=i∧aC H1 Hc∧Hc L=some (.lst ys)∧∀(j:Nat) (u:V) (t:Int),ys[j]?=some u→(keys s)[j]?=some t→Rp (res Hc (ExL H L)) 3 u (Yg s t)) ⟨rfl,aC.upd hL,ah,(λj u t h=>by cases h)⟩ (λi ys Hc _ ⟨e,_,z,_⟩=>⟨z,e⟩) (λi ys Hc _ ⟨_,sc,_⟩=>SqL.of (sc _ _ z1)) (by rw[aeV];exact pU (by omega)) (λi v ys Hc hi ⟨e,sc,z,hr'⟩=>?_) (λys Hc ⟨e,sc,z,hr'⟩=>?_)
  ·rw[ae6]at hi
   obtain⟨t,ht,rfl⟩:=afa.mp hi;have mt:t∈keys s:=ae7 ht;obtain⟨ws,mw⟩:=mem_keys.mp mt;have lt:=G.lt _ _ mw;have nx:=G.nx;have smt:Sm t:=Sm.of (by omega) (by omega);have Jc:=J1.same sc;refine⟨_,rfl,_,rfl,x,_,_,rfl,Jc.ax,(by kernel_rfl),_,rfl,x,A,s,t,rfl,Jc,G,smt,λ_ p2 H2 s2 hp2 z2=>?_,λh=>absurd mt h⟩;have J2:=Jc.same s2;refine⟨_,rfl,x,_,_,rfl,J2.ax,(by kernel_rfl),_,rfl,x,A,s,t,rfl,J2,G,smt,λ_=>⟨_,rfl,x,_,_,rfl,J2.ax,(by kernel_rfl),_,rfl,x,A,s,t,rfl,J2,G,smt,λ_=>⟨by show 4≤sizeLine;decide,λq hq=>?_⟩,λh=>absurd mt h⟩,λh=>absurd mt h⟩;have s3:=aC.upd (o:=.tup [V.int t,V.ref p2,.bl (decide (t∉s.yng)),nmV (s.aR.lookup t)]) hq;have zL3:=s3 _ _ (s2 _ _ z);have s4:aC H1 (upd (upd H2 q (.tup [V.int t,V.ref p2,.bl (decide (t∉s.yng)),nmV (s.aR.lookup t)])) L (.lst (ys++[V.ref q]))):=λb u g=>by rw[af (aq g hL)];exact s3 _ _ (s2 _ _ (sc b u g))
   have up:∀ b u,b≠L→Hc b=some u→upd (upd H2 q (.tup [V.int t,V.ref p2,.bl (decide (t∉s.yng)),nmV (s.aR.lookup t)])) L (.lst (ys++[V.ref q])) b=some u:=λb u n g=>by rw[af n];exact s3 _ _ (s2 _ _ g)
   refine⟨zL3,by rw[ae3,e];rfl,s4,ah,λj u t' h1 h2=>?_⟩;rcases afX j ys.length with c|c
   ·rw[afy c]at h1
    refine(hr' j u t' h1 h2).same λb w g=>?_;obtain⟨g1,g2⟩:=res_some g;refine pW (up b w (λe=>?_) g1) g2;rw[e,z]at g1;cases g1;rcases g2 with g2|⟨us,g2⟩
    ·exact g2 (.inr e)
    ·cases g2
   ·have ej:j=ys.length:=by
     have:=(aeY.mp h1).1
     rw[ae3,afp]at this;omega
    rw[ej,afr (ae1 _),Nat.sub_self]at h1;cases h1;rw[ej,e,ht]at h2;cases h2;obtain⟨hl,rl⟩:=J.afl _ _ mw;rw[←G.fld mw]at rl;have zq:upd (upd H2 q (.tup [V.int t,V.ref p2,.bl (decide (t∉s.yng)),nmV (s.aR.lookup t)])) L (.lst (ys++[V.ref q])) q=some (.tup [V.int t,V.ref p2,.bl (decide (t∉s.yng)),nmV (s.aR.lookup t)]):=(by rw[af (λe=>by rw[e,s2 _ _ z]at hq;cases hq)];exact ah);have p2L:p2≠L:=afi (aq z hp2);have zp:upd (upd H2 q (.tup [V.int t,V.ref p2,.bl (decide (t∉s.yng)),nmV (s.aR.lookup t)])) L (.lst (ys++[V.ref q])) p2=some (.lst (A.fx t)):=(by rw[af p2L];exact s3 _ _ z2);have aeL:H p2=none:=aC.none s1 (aC.none sc hp2);refine adB (pW zq (.inr ⟨_,rfl⟩)) rfl λj u x h1 h2=>?_;have AW:fv H (res (upd (upd H2 q (.tup [V.int t,V.ref p2,.bl (decide (t∉s.yng)),nmV (s.aR.lookup t)])) L (.lst (ys++[V.ref q]))) (ExL H L)):=λb us g=>Ov _ _ (s4 _ _ (s1 _ _ g))
    match j,h1,h2 with
    | 0,h1,h2=>cases h1;cases h2;exact fli
    | 1,h1,h2=>cases h1;cases h2;exact Rq (pW zp (.inl λf=>f.elim (λ⟨_,y⟩=>by rw[aeL]at y;cases y) p2L)) (rl.keep AW)
    | 2,h1,h2=>cases h1;cases h2;exact Rp.flat rfl
    | 3,h1,h2=>cases h1;cases h2;exact fla
    | j+4,h1,h2=>cases h1
  ·rw[aeV]at e
   have sH:=s1.trans sc;have Jc:=J.same sH;refine⟨_,rfl,x,_,_,rfl,Jc.ax,(by kernel_rfl),x,A,s,rfl,Jc,G,λp2 H2 s2 hp2 z2=>?_⟩;have J2:=Jc.same s2;refine⟨_,rfl,x,_,_,rfl,J2.ax,(by kernel_rfl),x,A,s,rfl,J2,G,λp3 H3 s3 hp3 z3=>?_⟩;have J3:=J2.same s3;refine⟨_,rfl,_,rfl,x,_,_,rfl,J3.ax,(by kernel_rfl),x,A,s,rfl,J3,G,λp4 H4 s4 hp4 z4=>?_⟩;have J4:=J3.same s4;refine⟨_,rfl,x,_,_,rfl,J4.ax,(by kernel_rfl),x,A,s,rfl,J4,G,λp5 H5 s5 hp5 z5=>?_⟩;have J5:=J4.same s5;refine⟨_,rfl,x,_,_,rfl,J5.ax,(by kernel_rfl),x,A,s,rfl,J5,G,_,rfl,x,_,_,rfl,J5.ax,(by kernel_rfl),x,A,s,rfl,J5,by show 7≤sizeLine;decide,λp hp=>?_⟩;have s6:=aC.upd (o:=.lst [V.ref p2,V.ref p3,V.ref L,V.ref p4,V.ref p5,V.int s.nxt,V.bl s.rnd]) hp;have t5:=s5.trans s6;have t4:=s4.trans t5;have t3:=s3.trans t4;have t2:=s2.trans t3;have n2:H p2=none:=aC.none sH hp2;have n3:H p3=none:=aC.none (sH.trans s2) hp3;have n4:H p4=none:=aC.none ((sH.trans s2).trans s3) hp4;have n5:H p5=none:=aC.none (((sH.trans s2).trans s3).trans s4) hp5;have n6:H p=none:=aC.none ((((sH.trans s2).trans s3).trans s4).trans s5) hp;have AW:fv H (res (upd H5 p (.lst [V.ref p2,V.ref p3,V.ref L,V.ref p4,V.ref p5,V.int s.nxt,V.bl s.rnd])) (Ex H)):=λb us g=>Ov _ _ (t2 _ _ (sH _ _ g));refine k p _ (sH.trans t2) n6 (Ro (vX n6 ah) rfl λj u y h1 h2=>?_)
   match j,h1,h2 with
   | 0,h1,h2=>cases h1;cases h2;exact Hv 2 (Rq (vX n2 (t3 _ _ z2)) (J.rhl.keep AW))
   | 1,h1,h2=>cases h1;cases h2;exact Hv 3 (GX (n:=0) (λn=>.a (nmV n)) (vX n3 (t4 _ _ z3)) λz _=>fla)
   | 2,h1,h2 =>
    cases h1;cases h2;refine Ro (vX hL0 (t2 _ _ z)) (by rw[e,aeV]) λi u x h1 h2=>?_;rw[ae6]at h2;obtain⟨t,ht,rfl⟩:=afa.mp h2;exact((hr' i u t h1 ht).same (Mb λb f=>.inl f)).same (Bu t2)
   | 3,h1,h2=>cases h1;cases h2;exact Hv 3 (GX (n:=0) (λt=>.a (.int t)) (vX n4 (t5 _ _ z4)) λz _=>fli)
   | 4,h1,h2=>cases h1;cases h2;exact Hv 3 (GX (n:=0) (λt=>.a (.int t)) (vX n5 (s6 _ _ z5)) λz _=>fli)
   | 5,h1,h2=>cases h1;cases h2;exact fli
   | 6,h1,h2=>cases h1;cases h2;exact Rp.flat rfl
   | j+7,h1,h2=>cases h1
def thW(ws:List Wd):List Int:=ws.filterMap λw=>match w with|.th t=>some t|_=>none
theorem sQ{ws:List Wd}{t:Int}:t∈thW ws↔Wd.th t∈ws:=by
 unfold thW;rw[afM];constructor
 ·rintro⟨w,m,e⟩
  cases w with
  | no=>cases e
  | num n=>cases e
  | th u=>cases e;exact m
 ·intro m
  exact⟨_,m,rfl⟩
theorem Be(ws:List Wd):(thW ws).length≤ws.length:=List.length_filterMap_le _ _
theorem MY{t:Int}{zs:List Int}:inV (.int t) (zs.map V.int)=decide (t∈zs):=RH (n:=some t) (f:=nmV) rfl (λ_=>rfl)
structure Lk(H H4:Hp)(fo lf:Addr)(ts:List Int)(F:Int→List Wd)(S ms ls:List Int):Prop where
 sm:∀ b u,b≠fo→b≠lf→H b=some u→H4 b=some u
 zf:H4 fo=some (.lst (ms.map V.int))
 zl:H4 lf=some (.lst (ls.map V.int))
 nd:ms.Nodup
 snd:∀ m∈ms,Led (ts.map Wd.th) F S m
 lft:∀ u∈ls,u∈S→Led (ts.map Wd.th) F S u
 rts:∀ t∈ts,t∈S→t∈ms∨t∈ls
 cls:∀ m∈ms,∀ t,Wd.th t∈F m→t∈S→t∈ms∨t∈ls
theorem Lk.all{H H4:Hp}{fo lf:Addr}{ts:List Int}{F:Int→List Wd}{S ms:List Int}(l:Lk H H4 fo lf ts F S ms []){t:Int}(h:Led (ts.map Wd.th) F S t):t∈ms:=by
 induction h with
 | root m c =>
  obtain⟨u,mu,e⟩:=afk.mp m;cases e;exact(l.rts _ mu c).resolve_right (λz=>nomatch z)
 | step _ m c ih=>exact(l.cls _ ih _ m c).resolve_right (λz=>nomatch z)
theorem DM:∀ {l:List Int},l.Pairwise (·≤·)→l.Nodup→l.Pairwise (·< ·)
 | [],_,_=>.nil
 | a::r,h,n=>by
  rw[age]at h ⊢;rw[afU]at n;exact⟨λb m=>by have h1:=h.1 b m;have h2:a≠b:=λe=>n.1 (by rw[e];exact m);omega,DM h.2 n.2⟩
def yr:Sp:=λvs H Q _=>∃ l xs ws,vs=[.ref l]∧H l=some (.lst xs)∧Rel H xs ws∧ws.length≤100000∧∀ p H',aC H H'→H p=none→H' p=some (.lst ((thW ws).map V.int))→Q (.ref p) H'
abbrev vY:List Str:=["values"]
theorem Fd:av vY ["values"] (ar lO):=⟨rfl,rfl,rfl,by decide +kernel,rfl,by decide +kernel,by decide +kernel⟩
theorem Fe(F:Fun K "_law_things" "_law_things" lO D.dY D.iN)(T:Txt K mg D):Ok P w K mg base 1 D.dY D.iN ["values"] (yr):=by
 refine⟨?_,F.binds (ps:=["values"]) λ_ _ _ _ _ _ us hl=>match us,hl with|[_],_=>rfl⟩
 refine F.okE Fd (λvs H Q E h=>?_) (λcdv A' outer s' H vs Q E hr h=>?_)
 ·obtain⟨l,xs,ws,rfl,_⟩:=h
  rfl
 ·obtain⟨l,xs,ws,rfl,hl,rx,hw,k⟩:=h
  refine⟨_,(PSs.nox (ai (aV (LM (cl:=[]) (x := "value") (idx:=[]) (NC:=["value"]) ?co1 rfl (jc (pv 0)) (λC fp s₀ H₀=>(PW.pt (pw_and (aU FG (pv 0) j3 (cu _)) (pw_and1 (aU pj (b9 (r:=Zk K) cv (pv 0) au (λ_ _=>rfl)) bJ (cu _)))))) (λC fp s₀ H₀=>(b9 (r:=Zk K) cv (pv 0) au (λ_ _=>rfl))))))),?_⟩
  case co1 =>
   exact kZ (sc:=ar lO) (N:=vY) (ns:=[]) rfl rfl rfl (by decide +kernel) rfl rfl (by
    intro q hq;cases hq)
  refine⟨_,rfl,l,rfl,⟨_,SqL.of hl⟩,λL hL=>?_⟩;refine rA (K:=K) (a:=l) (xs:=xs) (λi ys Hc=>ys=(thW (ws.take i)).map V.int∧aC H Hc∧Hc L=some (.lst ys)) ⟨rfl,aC.upd hL,ah⟩ (λi ys Hc hi ⟨e,_,z⟩=>⟨z,by rw[e,aeV];exact afe (Be _) (by rw[afm];omega)⟩) (λi ys Hc _ ⟨_,sc,_⟩=>SqL.of (sc _ _ hl)) (by rw[rx.1];exact afe hw (by decide)) (λi v ys Hc hi ⟨e,sc,z⟩=>?_) (λys Hc ⟨e,sc,z⟩=>?_)
  ·obtain⟨w,hwi,wv⟩:=JK rx hi
   have tk:=take_snoc hwi;replace wv:=wv.keep (fv.of sc);have ap:thW (ws.take (i+1))=thW (ws.take i)++thW [w]:=(by rw[tk];unfold thW;rw[agh]);cases w with
   | no =>
    cases wv;exact⟨_,rfl,rfl,_,rfl,jd (jd ⟨by rw[ap,e];simp[thW],sc,z⟩)⟩
   | num n =>
    obtain⟨a,rfl,ha⟩:=wv;refine⟨_,rfl,rfl,_,rfl,oH ⟨_,rfl,a,_,0,.str "number",rfl,rfl,SqT.of ha,rfl,rfl,_,rfl,aQ (λy=>absurd y (by decide +kernel)) (λ_=>⟨by rw[ap,e];simp[thW],sc,z⟩)⟩⟩
   | th t =>
    obtain⟨a,rfl,ha⟩:=wv;refine⟨_,rfl,rfl,_,rfl,oH ⟨_,rfl,a,_,0,.str "thing",rfl,rfl,SqT.of ha,rfl,rfl,_,rfl,aQ (λ_=>?_) (λy=>absurd (by decide +kernel) y)⟩⟩;refine⟨_,rfl,a,_,1,.int t,rfl,rfl,SqT.of ha,rfl,z,?_,λb u q=>by rw[af (aq q hL)];exact sc b u q,ah⟩;rw[ap,e,ae8];rfl
  ·rw[rx.1,ae9 (ae1 _)]at e
   exact k L Hc sc hL (by rw[z,e])
def Oz(D:Ad):Sp:=λvs H Q _=>∃(x:Addr) (A:HA) (s:HS) (st:Addr) (ts:List Int) (sm:Addr) (S:List Int),vs=[.ref x,.ref st,.ref sm]∧IH D H x A s∧Good s∧H st=some (.lst (ts.map V.int))∧H sm=some (.lst (S.map V.int))∧(∀ t∈S,t∈keys s)∧S.Nodup∧ts.length≤100000∧(∀ ms:List Int,ms.Nodup→(∀ m∈ms,Led (ts.map Wd.th) (fld s) S m)→ms.length<64)∧∀(p:Addr) (ms:List Int) (H':Hp),aC H H'→H p=none→H' p=some (.lst (ms.map V.int))→ms.Pairwise (·< ·)→(∀ t,t∈ms↔Led (ts.map Wd.th) (fld s) S t)→Q (.ref p) H'
abbrev MZ:List Str:=["heap", "starts", "some", "found", "left", "thing"]
theorem pH:av MZ ["heap", "starts", "some"] (ar ye):=⟨rfl,rfl,rfl,by decide +kernel,rfl,by decide +kernel,by decide +kernel⟩
theorem KZ(F:Fun K "_law_led" "_law_led" ye D.iI D.oq)(T:Txt K mg D)
  (aL:Ok P w K mg base 4 D.aW D.b8 ["self", "t"] (F9 D))
  (d7:Ok P w K mg base 1 D.dY D.iN ["values"] (yr)):Ok P w K mg base 6 D.iI D.oq ["heap", "starts", "some"] (Oz D):=by
 refine⟨?_,F.binds (ps:=["heap", "starts", "some"]) λ_ _ _ _ _ _ us hl=>match us,hl with|[_,_,_],_=>rfl⟩
 refine F.okE pH (λvs H Q E h=>?_) (λcdv A' outer s' H vs Q E hr h=>?_)
 ·obtain⟨x,A,s,st,ts,sm,S,rfl,_⟩:=h
  rfl
 ·obtain⟨x,A,s,st,ts,sm,S,rfl,J,G,hst,hsm,hin,hnd,hts,h64,k⟩:=h
  refine⟨_,(PSs.nox (ak (bF (i:=3) pH.nd rfl (Or.inl rfl) (j4 ao))
   (ak (bF (i:=4) pH.nd rfl (Or.inl rfl) (lV kC rfl T.sY PyProof.Rows.Boot.«list» (ae (pv 1) ao)))
   (ak (Lz afv (Qc (pv 4) (by intro _;rfl))
    (ak (bF (i:=5) pH.nd rfl (Or.inl rfl) (Yz PySem.F.plainAttrs_list PySem.F.slot_list_pop PySem.F.type_list_pop YB (pv 4)))
    (ai (dM (PW.pt (pw_and (aU vG (pv 5) (pv 2) (by with_unfolding_all rfl)) (pw_and1 (aU mZ (pv 5) (pv 3) (by with_unfolding_all rfl)))))
     (ak (aG (FK PySem.F.plainAttrs_list PySem.F.slot_list_append PySem.F.type_list_append lW (pv 3) (ae (pv 5) ao)))
     (ai (aG (FK PySem.F.plainAttrs_list PySem.F.slot_list_extend PySem.F.type_list_extend HL (pv 4) (ae (bj d7.g (hr.mono (by decide)) rfl T.pS T.jP d7.b .nil fz (ae (aJ (pv 0) T.ab T.hV aL.g (hr.mono (by decide)) aL.b .nil fz (ae (pv 5) ao)) ao)) ao)))))
     bQ))))
   (ai (aV (gK Ih rfl T.qN PyProof.Rows.Boot.«sorted» (ae (pv 3) ao)))))))),?_⟩
  refine⟨by show 0≤sizeLine;decide,λfo hfo=>?_⟩;have s1:=aC.upd (o:=.lst ([]:List V)) hfo;refine⟨_,rfl,st,_,rfl,.inl (SqL.of (s1 _ _ hst)),λlf hlf=>?_⟩;have s2:=aC.upd (o:=.lst (ts.map V.int)) hlf;have adC:H lf=none:=aC.none s1 hlf;have nfl:fo≠lf:=aq (k6 s1) hlf;have kS:S.length≤10000:=afe (iq hnd hin) (by unfold keys;rw[aeV];exact G.few);refine⟨λm σ H4=>∃(v5:Option V) (ms ls:List Int),m=7*(S.length-ms.length)+ls.length∧σ=[some (.ref x),some (.ref st),some (.ref sm),some (.ref fo),some (.ref lf),v5]∧Lk H H4 fo lf ts (fld s) S ms ls∧ls.length≤100000+6*ms.length,⟨_,none,[],ts,rfl,rfl,⟨λb u _ _ q=>s2 _ _ (s1 _ _ q),s2 _ _ (k6 s1),k6 s2,List.nodup_nil,(λm h=>nomatch h),(λu mu c=>.root (afk.mpr ⟨u,mu,rfl⟩) c),(λt mt _=>.inr mt),(λm h=>nomatch h)⟩,by simpa using hts⟩,?_⟩;clear s1 s2;rintro m σ H4 ⟨v5,ms,ls,rfl,rfl,W,hll⟩;have msS:∀ u∈ms,u∈S:=λu mu=>(W.snd u mu).mem;have msl:=iq W.nd msS;refine⟨_,rfl,_,.inl ⟨_,SqL.of W.zl,rfl⟩,?_⟩;cases hls:ls with
  | nil =>
   subst hls;refine jd ?_;refine⟨_,rfl,fo,ms,rfl,SqL.of W.zf,h64 ms W.nd W.snd,λl ns hl pm srt=>?_⟩;have nl:∀ {b:Addr} {u:HO},H b=some u→b≠fo∧b≠lf:=λq=>⟨aq q hfo,aq q adC⟩;have sH:aC H H4:=λb u q=>W.sm b u (nl q).1 (nl q).2 q;exact k l ns _ (sH.trans (aC.upd hl)) (aC.none sH hl) ah (DM srt (pm.nodup_iff.mpr W.nd)) λt=>(pm.mem_iff).trans ⟨W.snd t,W.all⟩
  | cons z0 r0 =>
   have hne:ls≠[]:=(by rw[hls];intro z;cases z);have e9:(!(List.map V.int (z0::r0)).isEmpty)=true:=rfl;refine Ht e9 ?_;rw[←hls];clear e9;refine⟨λσ' H'=>∃ m',m'<7*(S.length-ms.length)+ls.length∧∃(v5:Option V) (ms ls:List Int),m'=7*(S.length-ms.length)+ls.length∧σ'=[some (.ref x),some (.ref st),some (.ref sm),some (.ref fo),some (.ref lf),v5]∧Lk H H' fo lf ts (fld s) S ms ls∧ls.length≤100000+6*ms.length,λ_ _ h=>h,?_⟩;obtain⟨r,y,ely⟩:∃ r y,ls=r++[y]:=⟨ls.dropLast,ls.getLast hne,(List.dropLast_concat_getLast hne).symm⟩;clear hls;subst ely;have hy:((r++[y]).map V.int)[((r++[y]).map V.int).length-1]?=some (.int y):=by
    rw[aeV,ae3,afp,Nat.add_sub_cancel,ae6,afr (ae1 _),Nat.sub_self];rfl
   refine⟨_,rfl,.inl ⟨rfl,_,SqL.of W.zl⟩,lf,_,.int y,rfl,rfl,W.zl,hy,?_⟩;have edl:((r++[y]).map V.int).dropLast=r.map V.int:=(by rw[ae8];exact List.dropLast_concat);rw[edl];have nl:∀ {b:Addr} {u:HO},H b=some u→b≠fo∧b≠lf:=λq=>⟨aq q hfo,aq q adC⟩;obtain⟨H5,e5⟩:∃ H5,upd H4 lf (.lst (r.map V.int))=H5:=⟨_,rfl⟩;have zl5:H5 lf=some (.lst (r.map V.int)):=(by rw[←e5];exact ah);have zf5:H5 fo=some (.lst (ms.map V.int)):=(by rw[←e5,af nfl];exact W.zf);have sm5:∀ b u,b≠fo→b≠lf→H b=some u→H5 b=some u:=λb u n1 n2 q=>by rw[←e5,af n2];exact W.sm b u n1 n2 q
   rw[e5];clear e5;have sH:aC H H5:=λb u q=>sm5 b u (nl q).1 (nl q).2 q;have ll:r.length+1≤100000+6*ms.length:=(by rw[ae3,afp]at hll;exact hll);have skip:(y∉S∨y∈ms)→∃ m',m'<7*(S.length-ms.length)+(r++[y]).length∧∃(v5:Option V) (ms ls:List Int),m'=7*(S.length-ms.length)+ls.length∧([some (.ref x),some (.ref st),some (.ref sm),some (.ref fo),some (.ref lf),some (.int y)]:St)=[some (.ref x),some (.ref st),some (.ref sm),some (.ref fo),some (.ref lf),v5]∧Lk H H5 fo lf ts (fld s) S ms ls∧ls.length≤100000+6*ms.length:=λc=>by
    have back:∀ t,t∈S→t∈ms∨t∈r++[y]→t∈ms∨t∈r:=λt tS h=>by
     rcases h with h|h
     ·exact .inl h
     ·rcases afd.mp h with h|h
      ·exact .inr h
      ·rw[aeX.mp h]at tS ⊢
       rcases c with c|c
       ·exact absurd tS c
       ·exact .inl c
    refine⟨_,?_,_,ms,r,rfl,rfl,⟨sm5,zf5,zl5,W.nd,W.snd,λu mu=>W.lft u (afj _ mu),λt mt tS=>back t tS (W.rts t mt tS),λm mm t h tS=>back t tS (W.cls m mm t h tS)⟩,by omega⟩;rw[ae3,afp];omega
   refine⟨_,rfl,_,rfl,sm,_,rfl,.inl (SqL.of (sH _ _ hsm)),rfl,lX S,_,rfl,?_⟩;show if inV (.int y) (S.map V.int)=true then _ else _;rw[MY];by_cases cS:y∈S
   ·rw[decide_eq_true cS]
    refine oH ⟨_,rfl,_,rfl,fo,_,rfl,.inl (SqL.of zf5),rfl,lX ms,_,rfl,?_⟩;show if(!inV (.int y) (ms.map V.int))=true then _ else _;rw[MY];by_cases cm:y∈ms
    ·rw[decide_eq_true cm]
     exact jd (skip (.inr cm))
    ·rw[decide_eq_false cm]
     have ly:Led (ts.map Wd.th) (fld s) S y:=W.lft y (aeZ _ (aeX.mpr rfl)) cS;obtain⟨wy,mw⟩:=mem_keys.mp (hin y cS);have lt:=G.lt _ _ mw;have nx:=G.nx;have fm:=G.fld mw;refine oH ⟨_,rfl,.inl ⟨rfl,_,SqL.of zf5⟩,_,rfl,fo,_,_,rfl,rfl,zf5,by rw[aeV];exact qP (by omega),?_⟩;obtain⟨H6,e6⟩:∃ H6,upd H5 fo (.lst (ms.map V.int++[.int y]))=H6:=⟨_,rfl⟩;have zf6:H6 fo=some (.lst ((ms++[y]).map V.int)):=(by rw[←e6,ae8];exact ah);have zl6:H6 lf=some (.lst (r.map V.int)):=(by rw[←e6,af (afi nfl)];exact zl5);have sm6:∀ b u,b≠fo→b≠lf→H b=some u→H6 b=some u:=λb u n1 n2 q=>by rw[←e6,af n1];exact sm5 b u n1 n2 q
     rw[e6];clear e6;have sH6:aC H H6:=λb u q=>sm6 b u (nl q).1 (nl q).2 q;have J6:=J.same sH6;obtain⟨hl0,rl⟩:=J6.afl _ _ mw;rw[←fm]at rl;have f6:=G.f6 _ _ mw;rw[←fm]at f6;refine⟨_,rfl,.inl ⟨rfl,_,SqL.of zl6⟩,_,rfl,x,_,_,rfl,J6.ax,(by kernel_rfl),_,rfl,x,A,s,y,rfl,J6,G,Sm.of (by omega) (by omega),λ_ p2 H7 s7 hp2 z2=>⟨p2,_,fld s y,rfl,z2,rl.keep (fv.of s7),by omega,λp3 H8 s8 hp3 z3=>?_⟩,λh=>absurd (hin y cS) h⟩;have t8:=s7.trans s8;have tl:=Be (fld s y);have zl8:=t8 _ _ zl6;refine⟨lf,p3,_,_,rfl,rfl,zl8,z3,?_,?_⟩
     ·rw[aeV,aeV]
      exact afe (show r.length+(thW (fld s y)).length≤200000 by omega) (by decide)
     ·have nd2:=L4 W.nd cm
      have mS:ms.length+1≤S.length:=by
       have:=iq nd2 (ks:=S) λu mu=>by
        rcases afd.mp mu with q|q
        ·exact msS u q
        ·rw[aeX.mp q];exact cS
       rw[ae3,afp]at this;exact this
      have lft:∀ u∈r++thW (fld s y),u∈S→Led (ts.map Wd.th) (fld s) S u:=λu mu c=>by
       rcases afd.mp mu with q|q
       ·exact W.lft u (afj _ q) c
       ·exact .step ly (sQ.mp q) c
      have grow:∀ t,t∈ms∨t∈r++[y]→t∈ms++[y]∨t∈r++thW (fld s y):=λt h=>by
       rcases h with h|h
       ·exact .inl (afj _ h)
       ·rcases afd.mp h with h|h
        ·exact .inr (afj _ h)
        ·exact .inl (aeZ _ h)
      refine⟨7*(S.length-(ms++[y]).length)+(r++thW (fld s y)).length,?_,_,ms++[y],r++thW (fld s y),rfl,rfl,⟨λb u n1 n2 q=>by rw[af n2];exact t8 _ _ (sm6 b u n1 n2 q),by rw[af nfl];exact t8 _ _ zf6,by rw[ah,ae8],nd2,λm mm=>?_,lft,λt mt tS=>grow t (W.rts t mt tS),λm mm t h tS=>?_⟩,?_⟩
      ·simp only[ae3,afp]
       omega
      ·rcases afd.mp mm with q|q
       ·exact W.snd m q
       ·rw[aeX.mp q];exact ly
      ·rcases afd.mp mm with q|q
       ·exact grow t (W.cls m q t h tS)
       ·rw[aeX.mp q]at h
        exact .inr (aeZ _ (sQ.mpr h))
      ·rw[ae3,ae3,afp]
       omega
   ·rw[decide_eq_false cS]
    exact jd (jd (skip (.inl cS)))
def tot(fs:List (Int×List Wd)):Nat:=(fs.map λp=>(thW p.2).length).sum
def cnt(s:HS):Nat:=tot s.aN
theorem U0{a b:List (Int×List Wd)}:tot (a++b)=tot a+tot b:=by unfold tot;rw[ae8,List.sum_append]
theorem ou{fs:List (Int×List Wd)}{p:Int×List Wd→Bool}:tot (fs.filter p)≤tot fs:=by
 induction fs with
 | nil=>exact ae1 _
 | cons q r ih =>
  rw[List.filter_cons];have e:tot (q::r)=(thW q.2).length+tot r:=rfl;by_cases c:p q=true
  ·rw[if_pos c,e]
   show(thW q.2).length+tot (r.filter p)≤_;omega
  ·rw[if_neg c,e]
   omega
theorem U1{ws:List Wd}{k:Nat}{w:Wd}:(thW (ws.set k w)).length≤(thW ws).length+1:=by
 induction ws generalizing k with
 | nil=>simp[thW]
 | cons a r ih =>
  have split:∀(b:Wd) (l:List Wd),(thW (b::l)).length=(thW [b]).length+(thW l).length:=λb l=>by
   have:thW (b::l)=thW [b]++thW l:=by unfold thW;rw[←agh];rfl
   rw[this,ae3]
  have one:∀ b:Wd,(thW [b]).length≤1:=λb=>Be [b];cases k with
  | zero =>
   have i:=one w;rw[List.set_cons_zero,split w r,split a r];omega
  | succ k =>
   have i:=ih (k:=k);rw[List.set_cons_succ,split a (r.set k w),split a r];omega
theorem U2{fs:List (Int×List Wd)}(nd:(fs.map (·.1)).Nodup){t:Int}{ws w0:List Wd}(m:(t,w0)∈fs)(h:(thW ws).length≤(thW w0).length+1):tot (oM fs t ws)≤tot fs+1:=by
 induction fs with
 | nil=>cases m
 | cons q r ih =>
  rw[afq,afU]at nd;have e1:tot (q::r)=(thW q.2).length+tot r:=rfl;have e2:tot (oM (q::r) t ws)=(thW (if q.1=t then(t,ws) else q).2).length+tot (oM r t ws):=rfl;rw[e1,e2];rcases aff.mp m with e|m
  ·cases e
   rw[if_pos rfl];have er:oM r t ws=r:=by
    unfold oM;rw[afP (g:=id) λp hp=>by rw[if_neg λz=>nd.1 (by rw[←z];exact afk.mpr ⟨p,hp,rfl⟩)];rfl];simp
   rw[er];show(thW ws).length+tot r≤_;have h:(thW ws).length≤(thW w0).length+1:=h;show _≤(thW w0).length+tot r+1;omega
  ·have:=ih nd.2 m
   rw[if_neg λz=>nd.1 (by rw[z];exact afk.mpr ⟨_,m,rfl⟩)];omega
theorem U3{n:Nat}:thW (List.replicate n Wd.no)=[]:=by
 induction n with
 | zero=>rfl
 | succ n ih=>rw[afG];unfold thW at ih ⊢;rw[List.filterMap_cons];exact ih
theorem Y7{s:HS}{n:Int}:cnt (mkR s n)≤cnt s:=by
 unfold mkR;split
 ·exact ou
 ·exact ae1 _
theorem Y8{s:HS}{n:Option Int}:cnt (rdR s n)=cnt s:=by
 unfold rdR;split
 ·split<;>rfl
 ·rfl
theorem Y9{s:HS}(d:Gd s){dd:Dd}:(dDo s dd).2.nxt+(cnt (dDo s dd).2:Int)≤s.nxt+cnt s+1:=by
 have same:s.nxt+(cnt s:Int)≤s.nxt+cnt s+1:=by omega
 have nd:=iY d.g.asc;cases dd with
 | make h n =>
  show(kQ s h n).2.nxt+(cnt (kQ s h n).2:Int)≤_;have c1:=Y7 (s:=s) (n:=n);have n1:=vV (s:=s) (n:=n);unfold kQ;split
  ·split
   ·split
    ·show(mkR s n).nxt+(cnt (mkR s n):Int)≤_
     omega
    ·have:cnt (JH (mkR s n) h n)=cnt (mkR s n):=by
      show tot ((mkR s n).aN++[((mkR s n).nxt,List.replicate n.toNat Wd.no)])=_;rw[U0];show _+((thW (List.replicate n.toNat Wd.no)).length+0)=_;rw[U3];rfl
     show(mkR s n).nxt+1+(cnt (JH (mkR s n) h n):Int)≤_;omega
   ·exact same
  ·exact same
 | store g k h =>
  show(ip s g k h).2.nxt+(cnt (ip s g k h).2:Int)≤_;unfold ip;split
  ·rename_i t e
   split
   ·rename_i w e2
    split
    ·have:=U2 nd (d.g.hand e) (U1 (ws:=fld s t) (k:=k.toNat) (w:=w))
     show s.nxt+(tot (oM s.aN t ((fld s t).set k.toNat w)):Int)≤s.nxt+(tot s.aN:Int)+1;omega
    ·exact same
   ·exact same
  ·exact same
 | load h g k =>
  show(kW s h g k).2.nxt+(cnt (kW s h g k).2:Int)≤_;unfold kW;split
  ·split
   ·split<;>exact same
   ·exact same
  ·exact same
 | copy h g =>
  show(qu s h g).2.nxt+(cnt (qu s h g).2:Int)≤_;unfold qu;split
  ·split<;>exact same
  ·exact same
 | drop h =>
  show(tm s h).2.nxt+(cnt (tm s h).2:Int)≤_;unfold tm;split<;>exact same
 | number h x =>
  show(iV s h x).2.nxt+(cnt (iV s h x).2:Int)≤_;unfold iV;split
  ·split<;>exact same
  ·exact same
 | name w h =>
  show(mM s w h).2.nxt+(cnt (mM s w h).2:Int)≤_;unfold mM;split
  ·split<;>exact same
  ·exact same
 | read h w =>
  show(kP s h w).2.nxt+(cnt (kP s h w).2:Int)≤_;unfold kP;split
  ·split
   ·show(rdR _ _).nxt+(cnt (rdR _ _):Int)≤_
    rw[JM,Y8];exact same
   ·exact same
  ·exact same
 | word h x =>
  show(kX s h x).2.nxt+(cnt (kX s h x).2:Int)≤_;unfold kX;split
  ·split
   ·split<;>exact same
   ·exact same
  ·exact same
 | small =>
  have:cnt (aO s)≤cnt s:=ou
  show s.nxt+(cnt (aO s):Int)≤_;omega
 | turn =>
  show(yp s).2.nxt+(cnt (yp s).2:Int)≤_;unfold yp;split
  ·rename_i c
   rw[show PX s=(none,PV s) from if_pos c]
   have:cnt (PV s)≤cnt s:=ou
   show s.nxt+(cnt (PV s):Int)≤_;omega
  ·rename_i c
   rw[show Bd s=(none,Om (aO s)) from if_neg c]
   have:cnt (Om (aO s))≤cnt s:=ou
   show s.nxt+(cnt (Om (aO s)):Int)≤_;omega
theorem U4{fs:List (Int×List Wd)}:(fs.flatMap λp=>thW p.2).length=tot fs:=by
 unfold tot;rw[List.length_flatMap]
theorem U5{s:HS}(g:Good s){ts S:List Int}(hts:∀ t∈ts,Wd.th t∈s.bq∨∃ u ws,(u,ws)∈s.aN∧Wd.th t∈ws)(hS:∀ t∈S,t∈keys s)(few:s.nxt+(cnt s:Int)≤110)(ms:List Int)(nd:ms.Nodup)(h:∀ m∈ms,Led (ts.map Wd.th) (fld s) S m):ms.length<64:=by
 have l1:ms.length≤(thW s.bq++s.aN.flatMap λp=>thW p.2).length:=iq nd λm mm=>by
  have one:Wd.th m∈s.bq∨∃ u ws,(u,ws)∈s.aN∧Wd.th m∈ws:=by
   cases h m mm with
   | root r c=>obtain⟨u,mu,e⟩:=afk.mp r;cases e;exact hts m mu
   | step a b c =>
    rename_i u;obtain⟨ws,mw⟩:=mem_keys.mp (hS u a.mem);rw[g.fld mw]at b;exact .inr ⟨u,ws,mw,b⟩
  rcases one with z|⟨u,ws,mw,z⟩
  ·exact afj _ (sQ.mpr z)
  ·exact aeZ _ (agA.mpr ⟨(u,ws),mw,sQ.mpr z⟩)
 have l2:ms.length≤(keys s).length:=iq nd λm mm=>hS m (h m mm).mem;rw[ae3,U4]at l1;have l3:=Be s.bq;rw[g.h8]at l3;have l4:(keys s).length=s.aN.length:=by unfold keys;rw[aeV]
 have:=g.sd
 have c:cnt s=tot s.aN:=rfl;omega
theorem JP:∀ {a b:List Int},a.Pairwise (·< ·)→b.Pairwise (·< ·)→(∀ t,t∈a↔t∈b)→a=b
 | [],[],_,_,_=>rfl
 | [],y::b,_,_,h=>absurd ((h y).mpr afg) (by simp)
 | x::a,[],_,_,h=>absurd ((h x).mp afg) (by simp)
 | x::a,y::b,pa,pb,h=>by
  rw[age]at pa pb;have e:x=y:=by
   rcases aff.mp ((h x).mp afg) with e|e
   ·exact e
   ·rcases aff.mp ((h y).mpr afg) with f|f
    ·exact f.symm
    ·have:=pb.1 x e
     have:=pa.1 y f
     omega
  subst e;rw[JP pa.2 pb.2 λt=>⟨λm=>?_,λm=>?_⟩]
  ·rcases aff.mp ((h t).mp (afn _ m)) with e|e
   ·have:=pa.1 t m;omega
   ·exact e
  ·rcases aff.mp ((h t).mpr (afn _ m)) with e|e
   ·have:=pb.1 t m;omega
   ·exact e
theorem U6{s s':HS}{gs:List Int}(g:Good s)(e:s'.aN=drG s.aN gs){t:Int}(m:t∉gs)(k:t∈keys s):fld s' t=fld s t:=by
 obtain⟨ws,mw⟩:=mem_keys.mp k;have e2:s'.aN.lookup t=some ws:=by rw[e];exact mem_lookup (iY (afL (agB _ afI) g.asc)) (jm.mpr ⟨mw,m⟩)
 rw[g.fld mw];unfold fld;rw[e2];rfl
theorem acx{us:List V}{xs:List Vl}(h:us.length=xs.length){a b c d e f g:Vl}(q:xs=[a,b,c,d,e,f,g]):∃ u0 u1 u2 u3 u4 u5 u6,us=[u0,u1,u2,u3,u4,u5,u6]:=by
 rw[q]at h
 match us,h with
 | [u0,u1,u2,u3,u4,u5,u6],_=>exact⟨u0,u1,u2,u3,u4,u5,u6,rfl⟩
theorem four{us:List V}{xs:List Vl}(h:us.length=xs.length){a b c d:Vl}(q:xs=[a,b,c,d]):∃ u0 u1 u2 u3,us=[u0,u1,u2,u3]:=by
 rw[q]at h
 match us,h with
 | [u0,u1,u2,u3],_=>exact⟨u0,u1,u2,u3,rfl⟩
theorem adD{α:Type}{H:Hp}{n:Nat}{v:V}{zs:List α}{f:α→V}(r:Rp H (n+1) v (.l (zs.map λz=>.a (f z)))):∃ p,v=.ref p∧H p=some (.lst (zs.map f)):=by
 obtain⟨p,us,e,h,l,k⟩:=r;refine⟨p,e,?_⟩;rw[h]
 have:us=zs.map f:=List.ext_getElem? λi=>by
  rw[ae6];cases hu:us[i]? with
  | none =>
   have q:zs.length≤i:=(by have:=List.getElem?_eq_none_iff.mp hu;rw[l,aeV]at this;exact this);rw[List.getElem?_eq_none_iff.mpr q];rfl
  | some u =>
   have hi:i<zs.length:=(by have:=(aeY.mp hu).1;rw[l,aeV]at this;exact this);have hz:=aeW hi;rw[hz];obtain⟨e0,_⟩:=(k i u _ hu (by rw[ae6,hz];rfl)).yc;rw[e0];rfl
 rw[this]
def stW(s:HS)(ks:List Int):List Int:=thW s.bq++ks.flatMap λt=>if t∈s.yng then[] else thW (fld s t)
theorem NM{s:HS}(g:Good s):∀ {ks:List Int},(∀ t∈ks,t∈keys s)→(stW s ks).length≤8+6*ks.length
 | [],_=>by
  unfold stW
  have:=Be s.bq
  rw[g.h8]at this;simpa using this
 | a::r,h=>by
  have i:=NM g (ks:=r) λt m=>h t (afn _ m);obtain⟨ws,mw⟩:=mem_keys.mp (h a afg);have f6:=g.f6 _ _ mw;rw[←g.fld mw]at f6;have l:=Be (fld s a);unfold stW at i ⊢;rw[List.flatMap_cons];simp only[ae3,afA]at i ⊢
  have:(if a∈s.yng then([]:List Int) else thW (fld s a)).length≤6:=by
   split
   ·exact afw _
   ·omega
  omega
theorem JQ{s:HS}(g:Good s){t:Int}:t∈stW s (keys s)↔Wd.th t∈Bs s:=by
 unfold stW Bs;rw[afd,afd,sQ,Gw,agA];refine or_congr Iff.rfl ⟨λ⟨u,mu,h⟩=>?_,λ⟨u,ws,mw,c,h⟩=>?_⟩
 ·obtain⟨ws,mw⟩:=mem_keys.mp mu
  by_cases c:u∈s.yng
  ·rw[if_pos c]at h;cases h
  ·rw[if_neg c,sQ,g.fld mw]at h
   exact⟨u,ws,mw,c,h⟩
 ·exact⟨u,mem_keys.mpr ⟨ws,mw⟩,by rw[if_neg c,sQ,g.fld mw];exact h⟩
theorem Rr{rs rs':List Wd}{F:Int→List Wd}{S:List Int}(h:∀ t,Wd.th t∈rs→Wd.th t∈rs'){t:Int}(l:Led rs F S t):Led rs' F S t:=by
 induction l with
 | root m c=>exact .root (h _ m) c
 | step _ m c ih=>exact .step ih m c
theorem Za{s:HS}(g:Good s){t:Int}:Led ((stW s (keys s)).map Wd.th) (fld s) s.yng t↔Led (Bs s) (fld s) s.yng t :=
 ⟨Rr λt m=>by obtain⟨u,mu,e⟩:=afk.mp m;cases e;exact(JQ g).mp mu,Rr λt m=>afk.mpr ⟨t,(JQ g).mpr m,rfl⟩⟩
theorem acy{s:HS}(g:Good s):∀ t∈stW s (keys s),Wd.th t∈s.bq∨∃ u ws,(u,ws)∈s.aN∧Wd.th t∈ws:=λt m=>by
 rcases afd.mp (show Wd.th t∈s.bq++JL s.aN s.yng from(JQ g).mp m) with h|h
 ·exact .inl h
 ·obtain⟨u,ws,mw,_,h⟩:=Gw.mp h
  exact .inr ⟨u,ws,mw,h⟩
theorem U7{n:Option Int}:nmG [] n=n:=by cases n<;>simp[nmG]
theorem K0{s:HS}:aO (aO s)=aO s:=by
 have e:bN (aO s)=[]:=rfl;show letGo {aO s with yng:=[]} (bN (aO s))=_;rw[e];unfold letGo;rw[JJ];have e2:(aO s).names.map (nmG [])=(aO s).names:=by rw[show(nmG [])=id from funext λn=>U7];simp
 have e3:brG (aO s).aR []=(aO s).aR:=by unfold brG;simp
 show({aO s with yng:=[],aN:=(aO s).aN,names:=(aO s).names.map (nmG []),aR:=brG (aO s).aR [],ot:=(aO s).ot++sdG (aO s).aR []}:HS)=_;rw[e2,e3,show sdG (aO s).aR []=[] from rfl,afF];rfl
theorem M0{s:HS}:keys (aO s)=(keys s).filter λt=>decide (t∉bN s):=by
 show(drG s.aN (bN s)).map (·.1)=_;unfold drG keys;rw[agr];rfl
theorem Pc{s:HS}(g:Good s){t:Int}(m:t∉bN s)(k:t∈keys s):Yg (aO s) t=.t [.a (.int t),.l ((fld s t).map Wd.vl),.a (.bl true),.a (nmV (s.aR.lookup t))]:=by
 unfold Yg;rw[U6 (s':=aO s) (gs:=bN s) g rfl m k,show(aO s).aR.lookup t=s.aR.lookup t from F6 m,show(aO s).yng=[] from rfl];simp
theorem Pz{H:Hp}{F:Addr→Prop}{b:Addr}{u:HO}(h:H b=some u)(n:¬F b):res H F b=some u:=pW h (.inl n)
theorem pw9{b:Nat}(h:b≤70000):b≤sizeLine:=afe h (by decide)
theorem mN{l:List Int}{p:Int→Bool}{i:Nat}{t:Int}(ht:l[i]?=some t):(l.take (i+1)).filter p=(l.take i).filter p++if p t=true then[t] else[]:=by
 rw[take_snoc ht,af5];congr 1
 cases h:p t<;>simp[h]
def Rt(D:Ad):Sp:=λvs H Q _=>∃ x A s,vs=[.ref x]∧IH D H x A s∧Gd s∧s.nxt+(cnt s:Int)≤110∧∀ A' H',IH D H' x A' (aO s)→Fr (bU x A s) H (bU x A' (aO s)) H'→Q (.bl true) H'
abbrev gg:List Str:=["heap", "before", "things", "young", "starts", "t", "stay", "gone", "words", "rows", "names", "due"]
theorem aK:av gg ["heap"] (ar dq):=⟨rfl,rfl,rfl,by decide +kernel,rfl,by decide +kernel,by decide +kernel⟩
theorem uZ(F:Fun K "_law_small_right" "_law_small_right" dq D.bY D.gb)(T:Txt K mg D)
  (iy:Ok P w K mg base 6 D.gF D.mx ["heap"] (Oy D))
  (cB:Ok P w K mg base 1 D.bW D.eI ["self"] (yq D))
  (cC:Ok P w K mg base 4 D.bX D.eJ ["self", "t"] (JN D))
  (cZ:Ok P w K mg base 2 D.ck D.fi ["self"] (DB D))
  (d7:Ok P w K mg base 1 D.dY D.iN ["values"] (yr))
  (aL:Ok P w K mg base 4 D.aW D.b8 ["self", "t"] (F9 D))
  (rM:Ok P w K mg base 6 D.iI D.oq ["heap", "starts", "some"] (Oz D))
  (br:Ok P w K mg base 4 D.bI D.dX ["self", "t"] (JO D))
  (aI:Ok P w K mg base 5 D.bB D.cV ["self"] (uP D)):Ok P w K mg base 7 D.bY D.gb ["heap"] (Rt D):=by
 refine⟨?_,F.binds (ps:=["heap"]) λ_ _ _ _ _ _ us hl=>match us,hl with|[_],_=>rfl⟩
 refine F.okE aK (λvs H Q E h=>?_) (λcdv A' outer s' H vs Q E hr h=>?_)
 ·obtain⟨x,A,s,rfl,_⟩:=h
  rfl
 ·obtain⟨x,A,s,rfl,J,Gs,few,k⟩:=h
  have hu5:=afS (Nat.add_le_add_left (by decide:5≤64) _) hr.units;refine⟨_,(PSs.nox (ak (bF (i:=1) aK.nd rfl (Or.inl rfl) (bj iy.g (hr.mono (by decide)) rfl T.ux T.mD iy.b .nil fz (ae (pv 0) ao)))
   (ak (bF (i:=2) aK.nd rfl (Or.inl rfl) (cE (pv 0) T.ab T.mR cB.g (hr.mono (by decide)) cB.b .nil fz))
   (ak (Gp (cl:=[("heap",s'.heap.objs.size+1)]) (x := "t") (idx:=[0]) (NC:=["t", "heap"]) (i:=3) aK.nd rfl rfl ?co3 rfl (jc (pv 2)) (λC fp s₀ H₀=>(sR (Bb (aJ (pv 1) T.ab T.mT cC.g (hr.mono (by decide)) cC.b .nil ya (ae (pv 0) ao))))) (λC fp s₀ H₀=>(pv 0)))
   (ak (bF (i:=4) aK.nd rfl (Or.inl rfl) (bj d7.g (hr.mono (by decide)) rfl T.pS T.jP d7.b .nil fz (ae (cE (pv 0) T.ab T.nI cZ.g (hr.mono (by decide)) cZ.b .nil fz) ao)))
   (ak (mX afv rfl (jc (pv 2)) (eh (i:=5) aK.nd rfl (Or.inl rfl))
    (ai (dM (aU mZ (pv 5) (pv 3) (by with_unfolding_all rfl))
     (ai (bF (i:=4) aK.nd rfl (Or.inl rfl) (eF BA (pv 4) (bj d7.g (hr.mono (by decide)) rfl T.pS T.jP d7.b .nil fz (ae (aJ (pv 0) T.ab T.hV aL.g (hr.mono (by decide)) aL.b .nil fz (ae (pv 5) ao)) ao)))))
     bQ)))
   (ak (bF (i:=6) aK.nd rfl (Or.inr rfl) (bj rM.g (hr.mono (by decide)) rfl T.MT T.yl rM.b .nil fz (ae (pv 0) (ae (pv 4) (ae (pv 3) ao)))))
   (ak (bF (i:=7) aK.nd rfl (Or.inr rfl) (LM (cl:=[("stay",s'.heap.objs.size+2)]) (x := "t") (idx:=[6]) (NC:=["t", "stay"]) ?co2 rfl (jc (pv 3)) (λC fp s₀ H₀=>(aU (r:=rIn K true) mZ (pv 0) (pv 1) (by with_unfolding_all rfl))) (λC fp s₀ H₀=>(pv 0))))
   (ak (Gp (cl:=[("heap",s'.heap.objs.size+1)]) (x := "t") (idx:=[0]) (NC:=["t", "heap"]) (i:=8) aK.nd rfl rfl ?co1 rfl (jc (pv 7)) (λC fp s₀ H₀=>(aU FG (aJ (pv 1) T.ab T.i8 br.g (hr.mono (by decide)) br.b .nil ya (ae (pv 0) ao)) j3 (cu _))) (λC fp s₀ H₀=>(aJ (pv 1) T.ab T.i8 br.g (hr.mono (by decide)) br.b .nil ya (ae (pv 0) ao))))
   (ak (aG (cE (pv 0) T.ab T.gf aI.g (hr.mono (by decide)) aI.b .nil fz))
   (ak (Qu (cl:=[("gone",s'.heap.objs.size+3)]) (xs:=["t", "row", "old", "word"]) (idx:=[7]) (NC:=["t", "row", "old", "word", "gone"]) (g:=acF K 4 (Mp (kU 0) (Mp (kU 1) (Mp (kU 2) (Mp (kU 3) acE))))) (i:=9) aK.nd rfl rfl (by exact Qv (sc:=ar dq) (N:=gg) (ns:=["gone"]) rfl rfl rfl (by decide +kernel) rfl rfl (by intro q hq;rw[aeX.mp hq];rfl)) rfl (jc (b9 gj (pv 1) au (λ_ _=>rfl))) (λc C fp s₀ H₀=>JR rfl (j1 (JY (i:=0) c rfl) (j1 (JY (i:=1) c rfl) (j1 (JY (i:=2) c rfl) (j1 (JY (i:=3) c rfl) FE))))) (λC fp s₀ H₀=>(aU (r:=rIn K true) mZ (pv 0) (pv 4) (by with_unfolding_all rfl))) (λC fp s₀ H₀=>(g9 (ae (pv 0) (ae (pv 1) (ae FD (ae (pv 3) ao)))))))
   (ak (bF (i:=10) aK.nd rfl (Or.inl rfl) (j4 ao))
   (ak (mX afv rfl (jc (b9 gj (pv 1) au (λ_ _=>rfl))) (eh (i:=5) aK.nd rfl (Or.inl rfl))
    (ai (dM (aU vG (pv 5) (pv 7) (by with_unfolding_all rfl))
     (ai (aG (FK PySem.F.plainAttrs_list PySem.F.slot_list_append PySem.F.type_list_append lW (pv 10) (ae j3 ao))))
     (ai (aG (FK PySem.F.plainAttrs_list PySem.F.slot_list_append PySem.F.type_list_append lW (pv 10) (ae (pv 5) ao)))))))
   (ak (bF (i:=11) aK.nd rfl (Or.inl rfl) (eF BA (j4 (ae (b9 gj (pv 1) au (λ_ _=>rfl)) (ae (pv 10) (ae (pv 9) (ae (b9 gj (pv 1) au (λ_ _=>rfl)) (ae (eF BA (b9 gj (pv 1) au (λ_ _=>rfl)) (pv 8)) ao)))))) (LC NY (pv 1) (NV au) NU)))
   (ak (dM (aU (YU (n:=5) hu5) (bj iy.g (hr.mono (by decide)) rfl T.ux T.mD iy.b .nil fz (ae (pv 0) ao)) (pv 11) (cu _))
    (ai (aV FD))
    bQ)
   (ak (aG (cE (pv 0) T.ab T.gf aI.g (hr.mono (by decide)) aI.b .nil fz))
   (ai (aV (NT (YT (n:=5) hu5) (bj iy.g (hr.mono (by decide)) rfl T.ux T.mD iy.b .nil fz (ae (pv 0) ao)) (pv 11) (cu _)))))))))))))))))))),?_⟩
  case co1 =>
   exact kZ (sc:=ar dq) (N:=gg) (ns:=["heap"]) rfl rfl rfl (by decide +kernel) rfl rfl (by
    intro q hq;rw[aeX.mp hq];rfl)
  case co2 =>
   exact kZ (sc:=ar dq) (N:=gg) (ns:=["stay"]) rfl rfl rfl (by decide +kernel) rfl rfl (by
    intro q hq;rw[aeX.mp hq];rfl)
  case co3 =>
   exact kZ (sc:=ar dq) (N:=gg) (ns:=["heap"]) rfl rfl rfl (by decide +kernel) rfl rfl (by
    intro q hq;rw[aeX.mp hq];rfl)
  have G:=Gs.g;have lz:(keys s).length≤10000:=by unfold keys;rw[aeV];exact G.few
  have nx:=G.nx;have kt:∀ {t:Int},t∈keys s→Sm t:=λ{t} m=>by
   obtain⟨ws,mw⟩:=mem_keys.mp m;have lt:=G.lt _ _ mw;exact Sm.of (by omega) (by omega)
  have ly:s.yng.length≤10000:=afe (iq (iY G.ym) λt m=>mem_keys.mpr (G.yk t m)) lz;refine⟨_,rfl,x,A,s,rfl,J,G,λpb H1 s1 hpb rb=>?_⟩;have J1:=J.same s1;refine⟨_,rfl,x,_,_,rfl,J1.ax,(by kernel_rfl),x,A,s,rfl,J1,G,λp1 H2 s2 hp1 z1=>?_⟩;have J2:=J1.same s2;refine⟨_,rfl,p1,rfl,⟨_,SqL.of z1⟩,λpy hpy=>?_⟩;refine rA (K:=K) (a:=p1) (xs:=(keys s).map V.int) (λi ys Hc=>ys=(((keys s).take i).filter λt=>decide (t∈s.yng)).map V.int∧aC H2 Hc∧Hc py=some (.lst ys)) ⟨rfl,aC.upd hpy,ah⟩ (λi ys Hc _ ⟨e,_,z⟩=>⟨z,by rw[e,aeV];exact afe (afJ _ _) (by rw[afm];omega)⟩) (λi ys Hc _ ⟨_,sc,_⟩=>SqL.of (sc _ _ z1)) (by rw[aeV];exact pU (by omega)) (λi v ys Hc hi ⟨e,sc,z⟩=>?_) (λys H3 ⟨e,s3,zy⟩=>?_)
  ·rw[ae6]at hi
   obtain⟨t,ht,rfl⟩:=afa.mp hi;have tk:=mN (p:=λt=>decide (t∈s.yng)) ht;have mt:t∈keys s:=ae7 ht;have Jc:=J2.same sc;refine⟨_,rfl,x,_,_,rfl,Jc.ax,(by kernel_rfl),_,rfl,x,A,s,t,rfl,Jc,G,kt mt,λ_=>⟨_,rfl,?_⟩,λh=>absurd mt h⟩;by_cases c:t∈s.yng
   ·rw[if_pos (decide_eq_true c)]at tk
    exact Ht (by simp[c]) ⟨_,rfl,z,by rw[tk,e,ae8];rfl,λb u q=>by rw[af (aq q hpy)];exact sc b u q,ah⟩
   ·rw[if_neg (by simpa using c),afF]at tk
    exact Hs (by simp[c]) ⟨by rw[tk,e],sc,z⟩
  ·rw[aeV,ae9 (ae1 _)]at e
   have ey:((keys s).filter λt=>decide (t∈s.yng))=s.yng:=JP (afL afI G.asc) G.ym λt=>by
    rw[afz,decide_eq_true_iff];exact⟨λh=>h.2,λh=>⟨mem_keys.mpr (G.yk t h),h⟩⟩
   rw[ey]at e;subst e;have J3:=J2.same s3;refine⟨_,rfl,x,_,_,rfl,J3.ax,(by kernel_rfl),x,A,s,rfl,J3,G,λp2 H4 s4 hp2 z2=>⟨p2,A.hx,s.bq,rfl,z2,(J3.same s4).rhl,by rw[G.h8];decide,λsp0 H5 s5 hsp0 zs0=>?_⟩⟩;have t5:=s4.trans s5;have J5:=J3.same t5;have z15:=t5 _ _ (s3 _ _ z1);have zy5:=t5 _ _ zy;refine⟨_,rfl,p1,rfl,⟨_,SqL.of z15⟩,Bh (K:=K) (a:=p1) (xs:=(keys s).map V.int) (λi σ Hx=>∃(v5:Option V) (sp:Addr),σ=[some (.ref x),some (.ref pb),some (.ref p1),some (.ref py),some (.ref sp),v5,none,none,none,none,none,none]∧aC H5 Hx∧Hx sp=some (.lst ((stW s ((keys s).take i)).map V.int))) ⟨none,sp0,rfl,(λ_ _ q=>q),by rw[zs0];simp[stW]⟩ (λi σ Hx _ ⟨_,_,_,sx,_⟩=>SqL.of (sx _ _ z15)) ?_ ?_⟩
   ·rintro i v σ Hx hi ⟨v5,sp,rfl,sx,zs⟩
    rw[ae6]at hi;obtain⟨t,ht,rfl⟩:=afa.mp hi;have mt:t∈keys s:=ae7 ht;obtain⟨ws,mw⟩:=mem_keys.mp mt;have f6:=G.f6 _ _ mw;have hil:=(aeY.mp ht).1;have Jx:=J5.same sx;have ap:stW s ((keys s).take (i+1))=stW s ((keys s).take i)++(if t∈s.yng then[] else thW (fld s t)):=(by rw[take_snoc ht];unfold stW;rw[List.flatMap_append,agx];simp);refine⟨_,rfl,_,rfl,py,_,rfl,.inl (SqL.of (sx _ _ zy5)),rfl,lX s.yng,_,rfl,?_⟩;show if(!inV (.int t) (s.yng.map V.int))=true then _ else _;rw[MY];by_cases c:t∈s.yng
    ·rw[decide_eq_true c]
     exact jd ⟨_,sp,rfl,sx,by rw[ap,if_pos c,afF];exact zs⟩
    ·rw[decide_eq_false c]
     obtain⟨hl,rl⟩:=Jx.afl _ _ mw;refine oH ⟨_,rfl,_,rfl,x,_,_,rfl,Jx.ax,(by kernel_rfl),_,rfl,x,A,s,t,rfl,Jx,G,kt mt,λ_ p5 H6 s6 hp5 z5=>⟨p5,_,ws,rfl,z5,rl.keep (fv.of s6),by omega,λp6 H7 s7 hp6 z6=>?_⟩,λh=>absurd mt h⟩;have t7:=s6.trans s7;have l1:=NM G (ks:=(keys s).take i) λu m=>agn m;have l2:=Be ws;have l3:((keys s).take i).length≤10000:=(by rw[afm];omega);refine⟨sp,p6,_,_,rfl,rfl,SqL.of (t7 _ _ zs),SqL.of z6,by rw[aeV,aeV];exact pw9 (by omega),λp8 hp8=>⟨_,p8,rfl,sx.trans (t7.trans (aC.upd hp8)),?_⟩⟩;rw[ah,ap,if_neg c,ae8,G.fld mw]
   ·rintro σ H6 ⟨v5,sp,rfl,s6,zs⟩
    rw[aeV,ae9 (ae1 _)]at zs;have J6:=J5.same s6;have zy6:=s6 _ _ zy5;have l1:=NM G (ks:=keys s) λu m=>m;refine⟨_,rfl,_,rfl,_,rfl,x,A,s,sp,stW s (keys s),py,s.yng,rfl,J6,G,zs,zy6,(λt m=>mem_keys.mpr (G.yk t m)),iY G.ym,by omega,U5 G (acy G) (λt m=>mem_keys.mpr (G.yk t m)) few,λp7 ms H7 s7 hp7 z7 asc7 m7=>?_⟩;have J7:=J6.same s7;have zy7:=s7 _ _ zy6;refine⟨_,rfl,py,rfl,⟨_,SqL.of zy7⟩,λpg hpg=>?_⟩;refine rA (K:=K) (a:=py) (xs:=s.yng.map V.int) (λi ys Hc=>ys=((s.yng.take i).filter λt=>decide (t∉ms)).map V.int∧aC H7 Hc∧Hc pg=some (.lst ys)) ⟨rfl,aC.upd hpg,ah⟩ (λi ys Hc _ ⟨e,_,z⟩=>⟨z,by rw[e,aeV];exact afe (afJ _ _) (by rw[afm];omega)⟩) (λi ys Hc _ ⟨_,sc,_⟩=>SqL.of (sc _ _ zy7)) (by rw[aeV];exact pU (by omega)) (λi v ys Hc hi ⟨e,sc,z⟩=>?_) (λys H8 ⟨e,s8,zg⟩=>?_)
    ·rw[ae6]at hi
     obtain⟨t,ht,rfl⟩:=afa.mp hi;have tk:=mN (p:=λt=>decide (t∉ms)) ht;refine⟨_,rfl,_,rfl,p7,_,rfl,.inl (SqL.of (sc _ _ z7)),rfl,lX ms,_,rfl,?_⟩;show if(!inV (.int t) (ms.map V.int))=true then _ else _;rw[MY];by_cases c:t∈ms
     ·rw[if_neg (by simpa using c),afF]at tk
      rw[decide_eq_true c];exact jd ⟨by rw[tk,e],sc,z⟩
     ·rw[if_pos (decide_eq_true c)]at tk
      rw[decide_eq_false c];exact oH ⟨_,rfl,z,by rw[tk,e,ae8];rfl,λb u q=>by rw[af (aq q hpg)];exact sc b u q,ah⟩
    ·rw[aeV,ae9 (ae1 _)]at e
     have eg:(s.yng.filter λt=>decide (t∉ms))=bN s:=JP (afL afI G.ym) (rL G) λt=>by
      rw[afz,decide_eq_true_iff,gN,m7 t,Za G]
     rw[eg]at e;subst e;have J8:=J7.same s8;have lg:(bN s).length≤10000:=afe (iq (iY (rL G)) λt m=>mem_keys.mpr (vI G t m)) lz;refine⟨_,rfl,pg,rfl,⟨_,SqL.of zg⟩,λpw hpw=>?_⟩;refine rA (K:=K) (a:=pg) (xs:=(bN s).map V.int) (λi ys Hc=>ys=(sdG s.aR ((bN s).take i)).map V.int∧aC H8 Hc∧Hc pw=some (.lst ys)) ⟨rfl,aC.upd hpw,ah⟩ (λi ys Hc _ ⟨e,_,z⟩=>⟨z,by rw[e,aeV];exact afe (Kd _ _) (by rw[afm];omega)⟩) (λi ys Hc _ ⟨_,sc,_⟩=>SqL.of (sc _ _ zg)) (by rw[aeV];exact pU (by omega)) (λi v ys Hc hi ⟨e,sc,z⟩=>?_) (λys H9 ⟨e,s9,zw⟩=>?_)
     ·rw[ae6]at hi
      obtain⟨t,ht,rfl⟩:=afa.mp hi;have mt:t∈keys s:=mem_keys.mpr (vI G t (ae7 ht));have tk:=take_snoc ht;have Jc:=J8.same sc;have sn:=Gu (bs:=s.aR) (gs:=(bN s).take i) (t:=t);rw[←tk]at sn;refine⟨_,rfl,x,_,_,rfl,Jc.ax,(by kernel_rfl),_,rfl,x,A,s,t,rfl,Jc,G,kt mt,λ_=>?_,λh=>absurd mt h⟩;cases hb:s.aR.lookup t with
      | none =>
       rw[hb]at sn;exact⟨rfl,_,rfl,jd ⟨by rw[sn,e,afF],sc,z⟩⟩
      | some v =>
       rw[hb]at sn;refine⟨rfl,_,rfl,oH ⟨_,rfl,x,_,_,rfl,Jc.ax,(by kernel_rfl),_,rfl,x,A,s,t,rfl,Jc,G,kt mt,λ_=>?_,λh=>absurd mt h⟩⟩;rw[hb];exact⟨z,by rw[sn,e,ae8];rfl,λb u q=>by rw[af (aq q hpw)];exact sc b u q,ah⟩
     ·rw[aeV,ae9 (ae1 _)]at e
      subst e;have J9:=J8.same s9;refine⟨_,rfl,x,_,_,rfl,J9.ax,(by kernel_rfl),x,A,s,rfl,J9,G,λA1 HA JA fr=>?_⟩;have ft:∀ b,bU x A s b→Ex H b:=λb f=>by obtain⟨u,q,_⟩:=J.is f;exact⟨u,q⟩
      have adE:aC H1 H9:=s2.trans (s3.trans (t5.trans (s6.trans (s7.trans (s8.trans s9)))));have rbA:=((rb.same (Mb (F':=bU x A s) ft)).same (Bu adE)).same (Mc fr);have zgA:=(fr.out (J7.fresh hpg) (s9 _ _ zg)).1;have zwA:=(fr.out (J8.fresh hpw) zw).1;have G1:=Gs.small;clear rb J1 J2 J3 J5 J6 J7 J8 J9 zs0 z15 zy5 zy6 zy7 zs m7 asc7 z7 z1 z2 zy zg zw;obtain⟨pb',us,e,hbR,lu,ru⟩:=id rbA;cases e;have hb:=ir _ _ hbR;obtain⟨u0,u1,u2,u3,u4,u5,u6,rfl⟩:=acx lu rfl;have ru0:=ru 0 _ _ rfl rfl;have ru3:=ru 3 _ _ rfl rfl;have ru5:=ru 5 _ _ rfl rfl;have ru6:=ru 6 _ _ rfl rfl;obtain⟨pn,rfl,aeM⟩:=adD (ru 1 _ _ rfl rfl);obtain⟨p4,rfl,aeN⟩:=adD (ru 4 _ _ rfl rfl);obtain⟨pr,rws,rfl,aeO,lr,rr⟩:=id (ru 2 _ _ rfl rfl);have hpn:=ir _ _ aeM;have hp4:=ir _ _ aeN;have hpr:=ir _ _ aeO;have lk:rws.length=(keys s).length:=(by rw[lr,aeV]);refine⟨_,rfl,pb,_,2,.ref pr,rfl,rfl,SqL.of hb,rfl,pr,rfl,⟨_,SqL.of hpr⟩,λL hL=>?_⟩;refine MD (K:=K) (a:=pr) (xs:=rws) (λi ys Hc=>aC HA Hc∧Hc L=some (.lst ys)∧ys.length≤i∧ys.length=(((keys s).take i).filter λt=>decide (t∉bN s)).length∧∀(j:Nat) (u:V) (t:Int),ys[j]?=some u→(((keys s).take i).filter λt=>decide (t∉bN s))[j]?=some t→∃ q rY,u=.ref q∧Hc q=some (.tup [.int t,rY,.bl true,nmV (s.aR.lookup t)])∧Rp (res HA (bU x A1 (aO s))) 2 rY (.l ((fld s t).map Wd.vl))) ⟨aC.upd hL,ah,ae1 _,rfl,(λj u t h=>by cases h)⟩ (λi ys Hc _ ⟨_,z,l,_⟩=>⟨z,l⟩) (λi ys Hc _ ⟨sc,_⟩=>SqL.of (sc _ _ hpr)) (by rw[lk];exact pU (by omega)) (λi v ys Hc hi ⟨sc,z,l,e,hr'⟩=>?_) (λys HB ⟨sB,zL,l,e,hr'⟩=>?_)
      ·have hlt:i<(keys s).length:=by rw[←lk];exact(aeY.mp hi).1
       have ht:(keys s)[i]?=some (keys s)[i]:=aeW hlt;obtain⟨t,et⟩:∃ t,(keys s)[i]=t:=⟨_,rfl⟩;rw[et]at ht;have tk:=mN (p:=λt=>decide (t∉bN s)) ht;obtain⟨q0,qs,rfl,hq0,l0,k0⟩:=rr i v _ hi (by rw[ae6,ht];rfl);obtain⟨a0,a1,a2,a3,rfl⟩:=four l0 rfl;have r1:=k0 1 _ _ rfl rfl;obtain⟨rfl,_⟩:=(k0 0 _ _ rfl rfl).yc;obtain⟨rfl,_⟩:=(k0 3 _ _ rfl rfl).yc;intro vs lvs
       match vs,lvs with
       | [w0,w1,w2,w3],_ =>
        refine⟨q0,_,rfl,SqT.of (sc _ _ (ir _ _ hq0)),rfl,_,_,rfl,_,_,rfl,_,_,rfl,_,_,rfl,rfl,[_,_,_,_],rfl,rfl,?_⟩;refine⟨_,rfl,_,rfl,pg,_,rfl,.inl (SqL.of (sc _ _ zgA)),rfl,lX _,_,rfl,?_⟩;show if(!inV (.int t) ((bN s).map V.int))=true then _ else _;rw[MY];by_cases c:t∈bN s
        ·rw[if_neg (by simpa using c),afF]at tk
         rw[decide_eq_true c];refine jd ⟨sc,z,by omega,?_,?_⟩
         ·rw[tk];exact e
         ·rw[tk];exact hr'
        ·rw[if_pos (decide_eq_true c)]at tk
         rw[decide_eq_false c];refine oH ⟨_,rfl,_,rfl,_,rfl,by show 4≤sizeLine;decide,λq hq=>?_⟩;have sq:=aC.upd (o:=.tup [V.int t,a1,.bl true,nmV (s.aR.lookup t)]) hq;have zq:=sq _ _ z;refine⟨zq,λb u g=>by rw[af (aq g hL)];exact sq _ _ (sc b u g),ah,by rw[ae3,afp];omega,?_,λj u t' h1 h2=>?_⟩
         ·rw[tk,ae3,ae3,e];rfl
         ·rw[tk]at h2
          rcases afX j ys.length with cj|cj
          ·rw[afy cj]at h1
           rw[afy (by rw[←e];exact cj)]at h2;obtain⟨q',rw',e1,e2,e3⟩:=hr' j u t' h1 h2;exact⟨q',rw',e1,by rw[af (aw (sq _ _ e2) zq (by intro y;cases y))];exact sq _ _ e2,e3⟩
          ·rw[afr cj]at h1
           rw[afr (by rw[←e];exact cj),←e]at h2;have c0:j-ys.length=0:=(by have:=(aeY.mp h1).1;rw[afp]at this;omega);rw[c0]at h1 h2;cases h1;cases h2;exact⟨q,a1,rfl,by rw[af (aw (k6 sq) zq (by intro y;cases y))];exact k6 sq,r1⟩
      ·rw[lk,ae9 (ae1 _)]at e hr'
       refine⟨by show 0≤sizeLine;decide,λpm hpm=>?_⟩;have hbB:=sB _ _ hb;have pmb:pb≠pm:=aq hbB hpm;have up:=aC.upd (o:=.lst ([]:List V)) hpm;refine⟨_,rfl,pb,_,1,.ref pn,rfl,rfl,SqL.of (up _ _ hbB),rfl,pn,rfl,⟨_,SqL.of (up _ _ (sB _ _ hpn))⟩,Bh (K:=K) (a:=pn) (xs:=s.names.map nmV) (λi σ Hx=>∃ v5:Option V,σ=[some (.ref x),some (.ref pb),some (.ref p1),some (.ref py),some (.ref sp),v5,some (.ref p7),some (.ref pg),some (.ref pw),some (.ref L),some (.ref pm),none]∧aC HB Hx∧Hx pm=some (.lst ((s.names.take i).map λn=>nmV (nmG (bN s) n)))) ⟨_,rfl,up,ah⟩ (λi σ Hx _ ⟨_,_,sx,_⟩=>SqL.of (sx _ _ (sB _ _ hpn))) ?_ ?_⟩
       ·rintro i v σ Hx hi ⟨v5,rfl,sx,zm⟩
        rw[ae6]at hi;obtain⟨n,hn,rfl⟩:=afa.mp hi;have tk:=take_snoc hn;have ll:((s.names.take i).map λn=>nmV (nmG (bN s) n)).length<sizeLine:=(by rw[aeV,afm];exact qP (by rw[G.n8];omega));have put:∀(w:V),w=nmV (nmG (bN s) n)→aC HB (upd Hx pm (.lst (((s.names.take i).map λn=>nmV (nmG (bN s) n))++[w])))∧upd Hx pm (.lst (((s.names.take i).map λn=>nmV (nmG (bN s) n))++[w])) pm=some (.lst ((s.names.take (i+1)).map λn=>nmV (nmG (bN s) n))):=λw ew=>⟨λb u g=>by rw[af (aq g hpm)];exact sx b u g,by rw[ah,tk,ae8,ew];rfl⟩;refine⟨_,rfl,_,rfl,pg,_,rfl,.inl (SqL.of (sx _ _ (sB _ _ zgA))),(by cases n<;>rfl),lX _,_,rfl,?_⟩;show if inV (nmV n) ((bN s).map V.int)=true then _ else _;rw[RH (f:=nmV) rfl (λ_=>rfl)];cases n with
        | none=>exact jd ⟨_,rfl,.inl ⟨rfl,_,SqL.of zm⟩,_,rfl,pm,_,_,rfl,rfl,zm,ll,⟨_,rfl,put _ rfl⟩⟩
        | some t =>
         show if decide (t∈bN s)=true then _ else _;by_cases c:t∈bN s
         ·rw[decide_eq_true c]
          exact oH ⟨_,rfl,.inl ⟨rfl,_,SqL.of zm⟩,pm,_,_,rfl,rfl,zm,ll,⟨_,rfl,put _ (by rw[show nmG (bN s) (some t)=none from if_pos c];rfl)⟩⟩
         ·rw[decide_eq_false c]
          exact jd ⟨_,rfl,.inl ⟨rfl,_,SqL.of zm⟩,_,rfl,pm,_,_,rfl,rfl,zm,ll,⟨_,rfl,put _ (by rw[show nmG (bN s) (some t)=some t from if_neg c])⟩⟩
       ·rintro σ HC ⟨v5,rfl,sC,zm⟩
        rw[aeV,ae9 (ae1 _)]at zm;have tC:=sB.trans sC;have hbC:=tC _ _ hb;have aeP:=tC _ _ hp4;have zwC:=tC _ _ zwA;have lsd:=G.sd;have lsw:=Kd s.aR (bN s);refine⟨_,rfl,pb,_,0,u0,rfl,rfl,SqL.of hbC,rfl,_,rfl,_,rfl,_,rfl,pb,_,3,u3,rfl,rfl,SqL.of hbC,rfl,_,rfl,pb,_,4,.ref p4,rfl,rfl,SqL.of hbC,rfl,_,rfl,p4,pw,_,_,rfl,rfl,SqL.of aeP,SqL.of zwC,by rw[aeV,aeV];exact pw9 (by omega),λp5 hp5=>?_⟩;have s5':=aC.upd (o:=.lst (s.ot.map V.int++(sdG s.aR (bN s)).map V.int)) hp5;refine⟨by show 5≤sizeLine;decide,λpl hpl=>?_⟩;have s6':=aC.upd (o:=.lst [u0,V.ref pm,V.ref L,u3,V.ref p5]) hpl;refine⟨_,rfl,5,rfl,pb,_,rfl,SqL.of (s6' _ _ (s5' _ _ hbC)),λp6 hp6=>?_⟩;have aeQ:PN [u0,V.ref pn,V.ref pr,u3,V.ref p4,u5,u6] (some 5) none=[u5,u6]:=rfl;rw[aeQ];have s7':=aC.upd (o:=.lst [u5,u6]) hp6;refine⟨pl,p6,_,_,rfl,rfl,SqL.of (s7' _ _ (k6 s6')),SqL.of (k6 s7'),by show 7≤sizeLine;decide,λpd hpd=>?_⟩;have s8':=aC.upd (o:=.lst ([u0,V.ref pm,V.ref L,u3,V.ref p5]++[u5,u6])) hpd;have nL:¬bU x A1 (aO s) L:=JA.fresh hL;have nm':¬bU x A1 (aO s) pm:=(JA.same sB).fresh hpm;have n5:¬bU x A1 (aO s) p5:=(JA.same tC).fresh hp5;have JD:=(((JA.same tC).same s5').same s6').same (s7'.trans s8');have nd:¬bU x A1 (aO s) pd:=((((JA.same tC).same s5').same s6').same s7').fresh hpd;obtain⟨HD,eHD⟩:∃ HD,upd (upd (upd (upd HC p5 (.lst (s.ot.map V.int++(sdG s.aR (bN s)).map V.int))) pl (.lst [u0,V.ref pm,V.ref L,u3,V.ref p5])) p6 (.lst [u5,u6])) pd (.lst ([u0,V.ref pm,V.ref L,u3,V.ref p5]++[u5,u6]))=HD:=⟨_,rfl⟩;have zd:=k6 s8';rw[eHD]at s8' JD zd ⊢;have tD:aC HC HD:=((s5'.trans s6').trans s7').trans s8';have tAD:=tC.trans tD;have z5D:=s8' _ _ (s7' _ _ (s6' _ _ (k6 s5')));clear eHD s5' s6' s7' s8' hpd hp6 hpl hp5;have rD:Rp (res HD (bU x A1 (aO s))) 5 (.ref pd) (told (aO s)):=by
         have gr:=Bu (F:=bU x A1 (aO s)) tAD;refine Ro (Pz zd nd) rfl λj u y h1 h2=>?_
         match j,h1,h2 with
         | 0,h1,h2=>cases h1;cases h2;exact ru0.same gr
         | 1,h1,h2 =>
          cases h1;cases h2;have zmD:=tD _ _ zm;rw[show(s.names.map λn=>nmV (nmG (bN s) n))=(aO s).names.map nmV by show _=(s.names.map (nmG (bN s))).map nmV;rw[afE];rfl]at zmD;exact Hv 3 (GX (n:=0) (λn=>.a (nmV n)) (Pz zmD nm') λz _=>fla)
         | 2,h1,h2 =>
          cases h1;cases h2;rw[M0];refine Ro (Pz (tD _ _ (sC _ _ zL)) nL) (by rw[aeV];exact e) λi u y h1 h2=>?_;rw[ae6]at h2;obtain⟨t,ht,rfl⟩:=afa.mp h2;obtain⟨q,rw',rfl,hq,r1⟩:=hr' i u t h1 ht;have mm:=afz.mp (ae7 ht);rw[Pc G (by simpa using mm.2) mm.1];refine adB (pW (tD _ _ (sC _ _ hq)) (.inr ⟨_,rfl⟩)) rfl λj u y h1 h2=>?_
          match j,h1,h2 with
          | 0,h1,h2=>cases h1;cases h2;exact fli
          | 1,h1,h2=>cases h1;cases h2;exact r1.same gr
          | 2,h1,h2=>cases h1;cases h2;exact Rp.flat rfl
          | 3,h1,h2=>cases h1;cases h2;exact fla
          | j+4,h1,h2=>cases h1
         | 3,h1,h2=>cases h1;cases h2;exact ru3.same gr
         | 4,h1,h2 =>
          cases h1;cases h2;rw[←ae8]at z5D;exact Hv 3 (GX (n:=0) (λt=>.a (.int t)) (Pz z5D n5) λz _=>fli)
         | 5,h1,h2=>cases h1;cases h2;exact ru5.same gr
         | 6,h1,h2=>cases h1;cases h2;exact ru6.same gr
         | j+7,h1,h2=>cases h1
        refine⟨_,rfl,x,A1,aO s,rfl,JD,G1.g,λpt HT sT hpt rT=>⟨_,rfl,told (aO s),told (aO s),rT.same ir,(rD.same ir).same sT,_,rfl,Hs (by rw[Bm (rT.same ir) (rT.same ir)];rfl) ?_⟩⟩;have JT:=JD.same sT;refine⟨_,rfl,x,_,_,rfl,JT.ax,(by kernel_rfl),x,A1,aO s,rfl,JT,G1.g,λA2 HE JE fr2=>?_⟩;rw[K0]at JE fr2;have rE:=(rD.same (Bu sT)).same (Mc fr2);refine⟨_,rfl,x,A2,aO s,rfl,JE,G1.g,λpt2 HF sF hpt2 rF=>⟨_,rfl,told (aO s),told (aO s),rF.same ir,(rE.same ir).same sF,?_⟩⟩;rw[Bm (rF.same ir) (rF.same ir)];exact k A2 HF (JE.same sF) (((((Fr.same (s1.trans adE)).trans fr).trans (Fr.same (tAD.trans sT))).trans fr2).trans (Fr.same sF))
structure Kl(D:Ad)(H:Hp)(x:Addr)(A:HA)(s:HS)(ld:Addr)(dv:List V)(i:Nat):Prop where
 j:IH D H x A s
 g:Gd s
 n:s.nxt+(cnt s:Int)≤i
 d:H ld=some (.lst dv)
 dx:¬bU x A s ld
 ds:∀ v∈dv,∃ q dd,v=.ref q∧H q=some (.tup (Dd.its dd))∧dd.ok
section
variable{D:Ad}{H H':Hp}{x:Addr}{A A':HA}{s s':HS}{ld:Addr}{dv:List V}{i j:Nat}
theorem Kl.same(t:Kl D H x A s ld dv i)(k:aC H H'):Kl D H' x A s ld dv i :=
 ⟨t.j.same k,t.g,t.n,k _ _ t.d,t.dx,λv m=>by obtain⟨q,dd,e,h,ok⟩:=t.ds v m;exact⟨q,dd,e,k _ _ h,ok⟩⟩
theorem Kl.step(t:Kl D H x A s ld dv i)(J:IH D H' x A' s')(fr:Fr (bU x A s) H (bU x A' s') H')(g:Gd s')(n:s'.nxt+(cnt s':Int)≤j):Kl D H' x A' s' ld dv j:=by
 have o:=fr.out t.dx t.d;exact⟨J,g,n,o.1,o.2,λv m=>by obtain⟨q,dd,e,h,ok⟩:=t.ds v m;exact⟨q,dd,e,fr.tup _ _ h,ok⟩⟩
end
theorem U8{s:HS}:(aO s).nxt+(cnt (aO s):Int)≤s.nxt+cnt s:=by
 have:cnt (aO s)≤cnt s:=ou
 show s.nxt+(cnt (aO s):Int)≤_;omega
abbrev PB:List Str:=["script", "heap", "place", "deed"]
theorem Kf:av PB ["script"] (ar oo):=⟨rfl,rfl,rfl,by decide +kernel,rfl,by decide +kernel,by decide +kernel⟩
theorem Zb(F:Fun K "law" "law" oo D.Bn D.ME)(T:Txt K mg D)
  (pI:Ok P w K mg base 6 D.gG D.mz ["script"] (Ou D K))
  (nF:Ok P w K mg base 3 D.cP D.kI ["script", "most"] (Ma K))
  (eK:Ok P w K mg base 7 D.bY D.gb ["heap"] (Rt D))
  (pJ:Ok P w K mg base 10 D.gE D.mj ["hall", "deed"] (Ot D)):Ok P w K mg base 12 D.Bn D.ME ["script"] (Py K):=by
 refine⟨?_,F.binds (ps:=["script"]) λ_ _ _ _ _ _ us hl=>match us,hl with|[_],_=>rfl⟩
 refine F.okE Kf (λvs H Q E h=>?_) (λcdv A' outer s' H vs Q E hr h=>?_)
 ·obtain⟨a,ns,rfl,_⟩:=h
  rfl
 ·obtain⟨a,ns,rfl,hS,hlen,k⟩:=h
  have S0:PS (cxE P w K mg base PB "law" (ar oo) D.Bn cdv A' outer s' H E).nox ((cT oo).getD 0 (.Pass ⟨0,0,0,0⟩)) _:=(bF (i:=1) Kf.nd rfl (Or.inl rfl) (bj pI.g (hr.mono (by decide)) rfl T.KI T.uy pI.b .nil fz (ae (pv 0) ao)));have S1:PS (cxE P w K mg base PB "law" (ar oo) D.Bn cdv A' outer s' H E).nox ((cT oo).getD 1 (.Pass ⟨0,0,0,0⟩)) _:=(mX afv rfl (JC rfl T.mE (ae (bj nF.g (hr.mono (by decide)) rfl T.Iq T.rg nF.b .nil fz (ae (pv 0) (ae au ao))) ao)) (JR rfl (j1 (eh (i:=2) Kf.nd rfl (Or.inl rfl)) (j1 (eh (i:=3) Kf.nd rfl (Or.inl rfl)) FE)))
    (ai (dM (PW.pt (pw_or (aU pj (b9 cv (pv 3) au (λ_ _=>rfl)) bJ (cu _)) (pw_or1 (aU pj (eF kM (pv 2) au) au (cu _)))))
     (ai (dM (sR (Bb (bj eK.g (hr.mono (by decide)) rfl T.nJ T.ia eK.b .nil fz (ae (pv 1) ao))))
      (ai (aV FD))
      bQ))
     (ai (aG (bj pJ.g (hr.mono (by decide)) rfl T.KH T.uw pJ.b .nil fz (ae (pv 1) (ae (pv 3) ao))))))))
  have S2:PS (cxE P w K mg base PB "law" (ar oo) D.Bn cdv A' outer s' H E).nox ((cT oo).getD 2 (.Pass ⟨0,0,0,0⟩)) _:=(aV (bj eK.g (hr.mono (by decide)) rfl T.nJ T.ia eK.b .nil fz (ae (pv 1) ao)));have hb:cT oo=[(cT oo).getD 0 (.Pass ⟨0,0,0,0⟩),(cT oo).getD 1 (.Pass ⟨0,0,0,0⟩),(cT oo).getD 2 (.Pass ⟨0,0,0,0⟩)]:=rfl;generalize (cT oo).getD 0 (.Pass ⟨0,0,0,0⟩)=st0 at S0 hb;generalize (cT oo).getD 1 (.Pass ⟨0,0,0,0⟩)=st1 at S1 hb;generalize (cT oo).getD 2 (.Pass ⟨0,0,0,0⟩)=st2 at S2 hb;generalize cT oo=bd at hb ⊢;subst hb;refine⟨_,(PSs.nox (ak S0 (ak S1 (ai S2)))),?_⟩;refine⟨_,rfl,a,ns,rfl,hS,λx A room limit H1 s1 F0 J0 _=>?_⟩;refine⟨_,rfl,a,ns,90,rfl,s1.seq hS,hlen,λld dv HF sF hld zld ldv zds=>?_⟩;have Z0:Kl D HF x A (s0 (decide (room>0)) room limit) ld dv 0 :=
   ⟨J0.same sF,gd0,by show(0:Int)+((0:Nat):Int)≤((0:Nat):Int);decide,zld,J0.fresh hld,zds⟩
  have l93:dv.length≤93:=ldv.2 (by decide);refine⟨ld,rfl,⟨_,SqL.of zld⟩,Gn (K:=K) (a:=ld) (xs:=dv) (λi σ Hx=>∃ A s v2 v3,σ=[some (.ref a),some (.ref x),v2,v3]∧Kl D Hx x A s ld dv i)
   ⟨A,_,none,none,rfl,Z0⟩ (λi σ Hx _ ⟨_,_,_,_,_,Z⟩=>SqL.of Z.d) ?_ ?_⟩
  ·rintro i v σ Hx tp hi ⟨A,s,v2,v3,rfl,Z0⟩ htp
   have hil:i<dv.length:=(aeY.mp hi).1;have u1:=aC.upd (o:=.tup [.int (i:Int),v]) htp;refine⟨tp,_,rfl,SqT.of (k6 u1),rfl,_,_,rfl,_,_,rfl,rfl,?_⟩;have Z:=Z0.same u1;obtain⟨q,dd,rfl,hq,ok⟩:=Z.ds v (ae7 hi);obtain⟨Hy,eHy⟩:∃ Hy,upd Hx tp (.tup [.int (i:Int),.ref q])=Hy:=⟨_,rfl⟩;rw[eHy]at Z hq ⊢;clear eHy u1 Z0;have Zn:=Z.n;have c0:(0:Int)≤(cnt s:Int):=Int.natCast_nonneg _;have n0:=Z.g.g.n0;have few:s.nxt<10000:=(by omega);obtain⟨g3,n3,n4⟩:=acv Z.g few ok;have cn:=Y9 (dd:=dd) Z.g;have sn:=U8 (s:=s);have sm:∃ P:St→Hp→Prop,True:=⟨λ_ _=>True,trivial⟩;cases dd with
   | small =>
    replace hq:Hy q=some (.tup [.str "small"]):=hq;refine⟨_,rfl,q,_,0,.str "small",rfl,rfl,SqT.of hq,rfl,rfl,_,rfl,aQ (λ_=>oH ?_) (λz=>absurd (by decide +kernel) z)⟩;exact⟨_,rfl,x,A,s,rfl,Z.j,Z.g,by omega,λA1 H1 J1 fr1=>⟨true,rfl,jd ⟨A1,_,_,_,rfl,Z.step J1 fr1 Z.g.small (by omega)⟩⟩⟩
   | make h n =>
    replace hq:Hy q=some (.tup [.str "make",.int h,.int n]):=hq;refine⟨_,rfl,q,_,0,.str "make",rfl,rfl,SqT.of hq,rfl,rfl,_,rfl,aQ (λz=>absurd z (by decide +kernel)) (λ_=>?_)⟩;refine⟨_,rfl,(i:Int),10,rfl,rfl,(by show(0:Int)<10;decide),rfl,_,rfl,aQ (λ_=>?_) (λ_=>?_)⟩
    ·exact⟨_,rfl,x,A,s,rfl,Z.j,Z.g,by omega,λA1 H1 J1 fr1=>⟨true,rfl,jd ⟨A1,_,_,_,rfl,Z.step J1 fr1 Z.g.small (by omega)⟩⟩⟩
    ·exact⟨_,rfl,_,rfl,x,A,s,q,.make h n,rfl,Z.j,Z.g,few,hq,ok,λA1 H1 J1 fr1=>⟨A1,_,_,_,rfl,Z.step J1 fr1 g3 (by omega)⟩⟩
   | store g kk h =>
    replace hq:Hy q=some (.tup [.str "store",.int g,.int kk,.int h]):=hq;refine⟨_,rfl,q,_,0,.str "store",rfl,rfl,SqT.of hq,rfl,rfl,_,rfl,aQ (λz=>absurd z (by decide +kernel)) (λ_=>?_)⟩;refine⟨_,rfl,(i:Int),10,rfl,rfl,(by show(0:Int)<10;decide),rfl,_,rfl,aQ (λ_=>?_) (λ_=>?_)⟩
    ·exact⟨_,rfl,x,A,s,rfl,Z.j,Z.g,by omega,λA1 H1 J1 fr1=>⟨true,rfl,jd ⟨A1,_,_,_,rfl,Z.step J1 fr1 Z.g.small (by omega)⟩⟩⟩
    ·exact⟨_,rfl,_,rfl,x,A,s,q,.store g kk h,rfl,Z.j,Z.g,few,hq,ok,λA1 H1 J1 fr1=>⟨A1,_,_,_,rfl,Z.step J1 fr1 g3 (by omega)⟩⟩
   | load h g kk =>
    replace hq:Hy q=some (.tup [.str "load",.int h,.int g,.int kk]):=hq;refine⟨_,rfl,q,_,0,.str "load",rfl,rfl,SqT.of hq,rfl,rfl,_,rfl,aQ (λz=>absurd z (by decide +kernel)) (λ_=>?_)⟩;refine⟨_,rfl,(i:Int),10,rfl,rfl,(by show(0:Int)<10;decide),rfl,_,rfl,aQ (λ_=>?_) (λ_=>?_)⟩
    ·exact⟨_,rfl,x,A,s,rfl,Z.j,Z.g,by omega,λA1 H1 J1 fr1=>⟨true,rfl,jd ⟨A1,_,_,_,rfl,Z.step J1 fr1 Z.g.small (by omega)⟩⟩⟩
    ·exact⟨_,rfl,_,rfl,x,A,s,q,.load h g kk,rfl,Z.j,Z.g,few,hq,ok,λA1 H1 J1 fr1=>⟨A1,_,_,_,rfl,Z.step J1 fr1 g3 (by omega)⟩⟩
   | copy h g =>
    replace hq:Hy q=some (.tup [.str "copy",.int h,.int g]):=hq;refine⟨_,rfl,q,_,0,.str "copy",rfl,rfl,SqT.of hq,rfl,rfl,_,rfl,aQ (λz=>absurd z (by decide +kernel)) (λ_=>?_)⟩;refine⟨_,rfl,(i:Int),10,rfl,rfl,(by show(0:Int)<10;decide),rfl,_,rfl,aQ (λ_=>?_) (λ_=>?_)⟩
    ·exact⟨_,rfl,x,A,s,rfl,Z.j,Z.g,by omega,λA1 H1 J1 fr1=>⟨true,rfl,jd ⟨A1,_,_,_,rfl,Z.step J1 fr1 Z.g.small (by omega)⟩⟩⟩
    ·exact⟨_,rfl,_,rfl,x,A,s,q,.copy h g,rfl,Z.j,Z.g,few,hq,ok,λA1 H1 J1 fr1=>⟨A1,_,_,_,rfl,Z.step J1 fr1 g3 (by omega)⟩⟩
   | drop h =>
    replace hq:Hy q=some (.tup [.str "drop",.int h]):=hq;refine⟨_,rfl,q,_,0,.str "drop",rfl,rfl,SqT.of hq,rfl,rfl,_,rfl,aQ (λz=>absurd z (by decide +kernel)) (λ_=>?_)⟩;refine⟨_,rfl,(i:Int),10,rfl,rfl,(by show(0:Int)<10;decide),rfl,_,rfl,aQ (λ_=>?_) (λ_=>?_)⟩
    ·exact⟨_,rfl,x,A,s,rfl,Z.j,Z.g,by omega,λA1 H1 J1 fr1=>⟨true,rfl,jd ⟨A1,_,_,_,rfl,Z.step J1 fr1 Z.g.small (by omega)⟩⟩⟩
    ·exact⟨_,rfl,_,rfl,x,A,s,q,.drop h,rfl,Z.j,Z.g,few,hq,ok,λA1 H1 J1 fr1=>⟨A1,_,_,_,rfl,Z.step J1 fr1 g3 (by omega)⟩⟩
   | number h z =>
    replace hq:Hy q=some (.tup [.str "number",.int h,.int z]):=hq;refine⟨_,rfl,q,_,0,.str "number",rfl,rfl,SqT.of hq,rfl,rfl,_,rfl,aQ (λz=>absurd z (by decide +kernel)) (λ_=>?_)⟩;refine⟨_,rfl,(i:Int),10,rfl,rfl,(by show(0:Int)<10;decide),rfl,_,rfl,aQ (λ_=>?_) (λ_=>?_)⟩
    ·exact⟨_,rfl,x,A,s,rfl,Z.j,Z.g,by omega,λA1 H1 J1 fr1=>⟨true,rfl,jd ⟨A1,_,_,_,rfl,Z.step J1 fr1 Z.g.small (by omega)⟩⟩⟩
    ·exact⟨_,rfl,_,rfl,x,A,s,q,.number h z,rfl,Z.j,Z.g,few,hq,ok,λA1 H1 J1 fr1=>⟨A1,_,_,_,rfl,Z.step J1 fr1 g3 (by omega)⟩⟩
   | name w h =>
    replace hq:Hy q=some (.tup [.str "name",.int w,.int h]):=hq;refine⟨_,rfl,q,_,0,.str "name",rfl,rfl,SqT.of hq,rfl,rfl,_,rfl,aQ (λz=>absurd z (by decide +kernel)) (λ_=>?_)⟩;refine⟨_,rfl,(i:Int),10,rfl,rfl,(by show(0:Int)<10;decide),rfl,_,rfl,aQ (λ_=>?_) (λ_=>?_)⟩
    ·exact⟨_,rfl,x,A,s,rfl,Z.j,Z.g,by omega,λA1 H1 J1 fr1=>⟨true,rfl,jd ⟨A1,_,_,_,rfl,Z.step J1 fr1 Z.g.small (by omega)⟩⟩⟩
    ·exact⟨_,rfl,_,rfl,x,A,s,q,.name w h,rfl,Z.j,Z.g,few,hq,ok,λA1 H1 J1 fr1=>⟨A1,_,_,_,rfl,Z.step J1 fr1 g3 (by omega)⟩⟩
   | read h w =>
    replace hq:Hy q=some (.tup [.str "read",.int h,.int w]):=hq;refine⟨_,rfl,q,_,0,.str "read",rfl,rfl,SqT.of hq,rfl,rfl,_,rfl,aQ (λz=>absurd z (by decide +kernel)) (λ_=>?_)⟩;refine⟨_,rfl,(i:Int),10,rfl,rfl,(by show(0:Int)<10;decide),rfl,_,rfl,aQ (λ_=>?_) (λ_=>?_)⟩
    ·exact⟨_,rfl,x,A,s,rfl,Z.j,Z.g,by omega,λA1 H1 J1 fr1=>⟨true,rfl,jd ⟨A1,_,_,_,rfl,Z.step J1 fr1 Z.g.small (by omega)⟩⟩⟩
    ·exact⟨_,rfl,_,rfl,x,A,s,q,.read h w,rfl,Z.j,Z.g,few,hq,ok,λA1 H1 J1 fr1=>⟨A1,_,_,_,rfl,Z.step J1 fr1 g3 (by omega)⟩⟩
   | word h z =>
    replace hq:Hy q=some (.tup [.str "word",.int h,.int z]):=hq;refine⟨_,rfl,q,_,0,.str "word",rfl,rfl,SqT.of hq,rfl,rfl,_,rfl,aQ (λz=>absurd z (by decide +kernel)) (λ_=>?_)⟩;refine⟨_,rfl,(i:Int),10,rfl,rfl,(by show(0:Int)<10;decide),rfl,_,rfl,aQ (λ_=>?_) (λ_=>?_)⟩
    ·exact⟨_,rfl,x,A,s,rfl,Z.j,Z.g,by omega,λA1 H1 J1 fr1=>⟨true,rfl,jd ⟨A1,_,_,_,rfl,Z.step J1 fr1 Z.g.small (by omega)⟩⟩⟩
    ·exact⟨_,rfl,_,rfl,x,A,s,q,.word h z,rfl,Z.j,Z.g,few,hq,ok,λA1 H1 J1 fr1=>⟨A1,_,_,_,rfl,Z.step J1 fr1 g3 (by omega)⟩⟩
   | turn =>
    replace hq:Hy q=some (.tup [.str "turn"]):=hq;refine⟨_,rfl,q,_,0,.str "turn",rfl,rfl,SqT.of hq,rfl,rfl,_,rfl,aQ (λz=>absurd z (by decide +kernel)) (λ_=>?_)⟩;refine⟨_,rfl,(i:Int),10,rfl,rfl,(by show(0:Int)<10;decide),rfl,_,rfl,aQ (λ_=>?_) (λ_=>?_)⟩
    ·exact⟨_,rfl,x,A,s,rfl,Z.j,Z.g,by omega,λA1 H1 J1 fr1=>⟨true,rfl,jd ⟨A1,_,_,_,rfl,Z.step J1 fr1 Z.g.small (by omega)⟩⟩⟩
    ·exact⟨_,rfl,_,rfl,x,A,s,q,.turn,rfl,Z.j,Z.g,few,hq,ok,λA1 H1 J1 fr1=>⟨A1,_,_,_,rfl,Z.step J1 fr1 g3 (by omega)⟩⟩
  ·rintro σ Hx ⟨A,s,v2,v3,rfl,Z⟩
   have Zn:=Z.n;exact⟨_,rfl,x,A,s,rfl,Z.j,Z.g,by omega,λA1 H1 _ _=>k H1⟩
end
open PySem.W
section
variable{K:Frag}
def LK(K:Frag)(n q:Str)(s:Stmt)(f:Addr):Prop:=(∃ d,Fun K n q s f d)∧keepIn K (.ref f)=true∧isFn K (.ref f)=true
theorem LK.mk{n q:Str}{s:Stmt}{f:Addr}{od an:Option Addr}{sl:Array (Option Value)}{oc kV dc pm cd ct:Value}(h1:K.lookup f=some ⟨oc,od,.func (fnOf n q (sO s) (cT s) (ar s) .none kV dc pm an cd ct),sl⟩)(h2:codeIn K cd q=true)(h3:keepIn K (.ref f)=true)(h4:isFn K (.ref f)=true):LK K n q s f:=⟨⟨_,YC (st:=s) h1 h2 h3⟩,h3,h4⟩
def FI(K:Frag)(c:Addr)(n:Str)(f:Addr):Prop:=findIn K (.ref c) n=some (some (.ref f))
def NF(K:Frag)(c:Addr)(n:Str):Prop:=findIn K (.ref c) n=some none
structure PK(K:Frag)(c:Addr):Prop where
 g:plainGet K c Str.empty=true
 d:hasDictIn K c=true
 o:plainOver K c=true
 s:findIn K (.ref c) "__setattr__" = some (some (.builtin "object.__setattr__"))
 k:keepIn K (.ref c)=true
structure EK(K:Frag)(b e i:Addr):Prop where
 x:JV K e=true
 a:findIn K (.ref e) "__getattribute__" = some (some (.builtin "BaseException.__getattribute__"))
 t:findIn K (.ref e) "__getattr__" = some none
 c:findIn K (.ref e) "__class__" = some (some (.builtin "object.__class__"))
 i:findIn K (.ref e) "__init__" = some (some (.ref i))
 k:keepIn K (.ref e)=true
 v:kitOne K (.ref e) (.type "ValueError")=some true
 s:mroIn K e (.ref b)=some true
end
theorem all_mk{l:OpenLaw}{w:World}{K:Frag}{h:Heap}{mg:Str→Option Value}{fa aM cJ bE eE eO bM eW iW gH gI a6 aE aD aY aa aj cK cL cc cf dj bh cM cN eL d8 de iX gM b5 bp da cF cO dA cG bO eZ gC eX eU fN ba bR dB b6 cw dC fF bS dD cU bH cx cH b7 fT eV fU fV dW fW bP fX bD di aS bg bt eR bT dE dF eN dS dr dG bB cW el bw ck cX bW aW bX bI cy dH dI cY d9 gD fG gE gF dY iI gG cP bY Bn:Addr}{FT m9 lQ ng nj nk kq:Tok}(X:K.In h)(G:h.Ns mainGlobals mg)(hfa:mg "law" = some (.ref fa))
  (nH:nsIn K mainGlobals "HeapError" = some (some (.ref aM)))
  (xH:JV K aM=true)
  (Ff:nsIn K mainGlobals "number_value" = some (some (.ref d8)))
  (GY:nsIn K mainGlobals "thing_value" = some (some (.ref de)))
  (Pd:nsIn K mainGlobals "kind_of" = some (some (.ref iX)))
  (M3:nsIn K mainGlobals "words_of" = some (some (.ref gM)))
  (B9:nsIn K mainGlobals "look_at_number" = some (some (.ref b5)))
  (Fg:nsIn K mainGlobals "look_at_hand" = some (some (.ref bp)))
  (Fh:nsIn K mainGlobals "look_at_name" = some (some (.ref da)))
  (Ek:nsIn K mainGlobals "look_at_field" = some (some (.ref cF)))
  (Ca:nsIn K mainGlobals "look_at_limits" = some (some (.ref cO)))
  (IP:nsIn K mainGlobals "last_steps" = some (some (.ref fF)))
  (GZ:nsIn K mainGlobals "thing_among" = some (some (.ref eR)))
  (Fi:nsIn K mainGlobals "_law_numbers" = some (some (.ref d9)))
  (K1:nsIn K mainGlobals "_law_deed" = some (some (.ref gD)))
  (IQ:nsIn K mainGlobals "_law_plain" = some (some (.ref fG)))
  (K2:nsIn K mainGlobals "_law_done" = some (some (.ref gE)))
  (K3:nsIn K mainGlobals "_law_told" = some (some (.ref gF)))
  (G0:nsIn K mainGlobals "_law_things" = some (some (.ref dY)))
  (M4:nsIn K mainGlobals "_law_led" = some (some (.ref iI)))
  (K4:nsIn K mainGlobals "_law_heap" = some (some (.ref gG)))
  (IS:nsIn K mainGlobals "_law_deeds" = some (some (.ref cP)))
  (wV:nsIn K mainGlobals "_law_small_right" = some (some (.ref bY)))
  (Yh:nsIn K mainGlobals "law" = some (some (.ref Bn)))
  (QG:nsIn K mainGlobals "Hands" = some (some (.ref a6)))
  (u7:PK K a6)
  (QH:FI K a6 "__init__" dA)
  (Gq:makesIn K a6=true)
  (u9:NF K a6 "words_held")
  (Cb:FI K a6 "word_in" cG)
  (wW:FI K a6 "all_words" bO)
  (IT:FI K a6 "put" eZ)
  (G4:FI K a6 "copy" gC)
  (El:FI K a6 "number" eX)
  (G5:FI K a6 "kind" eU)
  (Fj:FI K a6 "value" fN)
  (wX:FI K a6 "thing_due" ba)
  (IU:nsIn K mainGlobals "WordTable" = some (some (.ref aE)))
  (kJ:PK K aE)
  (IV:FI K aE "__init__" bR)
  (qX:makesIn K aE=true)
  (oX:NF K aE "words_borne")
  (pY:NF K aE "words_said")
  (zI:FI K aE "bear" dB)
  (tJ:FI K aE "word_of" b6)
  (va:FI K aE "settle" cw)
  (zJ:FI K aE "said" dC)
  (IW:nsIn K mainGlobals "NameTable" = some (some (.ref aD)))
  (kK:PK K aD)
  (IX:FI K aD "__init__" bS)
  (qY:makesIn K aD=true)
  (ow:NF K aD "things_named")
  (zK:FI K aD "name" dD)
  (wY:FI K aD "named" cU)
  (qG:FI K aD "all_named" bH)
  (vc:FI K aD "settle" cx)
  (U9:nsIn K mainGlobals "Heap" = some (some (.ref aY)))
  (Cc:PK K aY)
  (Va:FI K aY "__init__" cH)
  (N9:makesIn K aY=true)
  (ve:NF K aY "makes_young")
  (Cd:NF K aY "in_hands")
  (wZ:NF K aY "weak_names")
  (w8:NF K aY "last_words")
  (vg:NF K aY "fields_held")
  (tK:NF K aY "young_things")
  (xa:NF K aY "next_thing")
  (zM:FI K aY "add_thing" b7)
  (IY:FI K aY "load" fT)
  (G6:FI K aY "store" eV)
  (IZ:FI K aY "copy" fU)
  (I0:FI K aY "drop" fV)
  (Fl:FI K aY "number" dW)
  (Ja:FI K aY "name" fW)
  (xb:FI K aY "read_thing" bP)
  (Jb:FI K aY "word" fX)
  (vh:FI K aY "small_round" bD)
  (Fm:FI K aY "let_go" di)
  (tL:FI K aY "look_at_held" aS)
  (vi:FI K aY "words_among" bg)
  (zN:FI K aY "led_among" bt)
  (Vb:readsIn K aY (.type "type")=true)
  (Vc:findCls K (.ref aY) (.type "type") "__init__" = some (.val (.ref cH)))
  (Vd:specialIn K (.ref aY) "__getattribute__" = some (some (.builtin "type.__getattribute__")))
  (Jd:nsIn K mainGlobals "IdealHeap" = some (some (.ref aa)))
  (kL:PK K aa)
  (Je:FI K aa "__init__" bT)
  (qZ:makesIn K aa=true)
  (oY:NF K aa "makes_young")
  (sg:NF K aa "in_hands")
  (pZ:NF K aa "weak_names")
  (p0:NF K aa "last_words")
  (oZ:NF K aa "fields_held")
  (oy:NF K aa "young_things")
  (p9:NF K aa "next_thing")
  (qa:NF K aa "young_room")
  (xg:NF K aa "limit")
  (nG:NF K aa "doomed_things")
  (sh:NF K aa "in_round")
  (qH:FI K aa "add_thing" b7)
  (zO:FI K aa "load" fT)
  (xh:FI K aa "store" eV)
  (zP:FI K aa "copy" fU)
  (zQ:FI K aa "drop" fV)
  (vj:FI K aa "number" dW)
  (zR:FI K aa "name" fW)
  (qb:FI K aa "read_thing" bP)
  (zS:FI K aa "word" fX)
  (pe:FI K aa "small_round" bD)
  (vk:FI K aa "let_go" di)
  (oz:FI K aa "look_at_held" aS)
  (ph:FI K aa "words_among" bg)
  (qI:FI K aa "led_among" bt)
  (zT:FI K aa "make" dE)
  (zU:FI K aa "read" dF)
  (zV:FI K aa "kind" eN)
  (xi:FI K aa "value" dS)
  (vm:FI K aa "fields" dr)
  (zW:FI K aa "held" dG)
  (xj:FI K aa "small" bB)
  (xk:FI K aa "begin" cW)
  (Ce:FI K aa "end" el)
  (si:FI K aa "round_on" bw)
  (xm:FI K aa "hands" ck)
  (xn:FI K aa "names" cX)
  (vo:FI K aa "things" bW)
  (qJ:FI K aa "fields_of" aW)
  (vp:FI K aa "is_old" bX)
  (tM:FI K aa "word_of" bI)
  (vq:FI K aa "doomed" cy)
  (zX:FI K aa "said" dH)
  (zY:FI K aa "made" dI)
  (xo:FI K aa "spare" cY)
  (M5:nsIn K mainGlobals "BadCount" = some (some (.ref cJ)))
  (fi0:FI K cJ "__init__" aj)
  (iA:EK K aM cJ aj)
  (K5:FI K cJ "called" cf)
  (Pe:nsIn K mainGlobals "BadHand" = some (some (.ref bE)))
  (jv:EK K aM bE aj)
  (M6:FI K bE "called" cK)
  (Pf:nsIn K mainGlobals "BadName" = some (some (.ref eE)))
  (jw:EK K aM eE aj)
  (M7:FI K eE "called" cL)
  (M8:nsIn K mainGlobals "BadField" = some (some (.ref eO)))
  (iB:EK K aM eO aj)
  (K6:FI K eO "called" cc)
  (Fn:nsIn K mainGlobals "TooManyWords" = some (some (.ref bM)))
  (eC:EK K aM bM aj)
  (Em:FI K bM "called" bh)
  (Pg:nsIn K mainGlobals "BadView" = some (some (.ref eW)))
  (jx:EK K aM eW aj)
  (M9:FI K eW "called" eL)
  (QI:nsIn K mainGlobals "NoRoom" = some (some (.ref iW)))
  (j8:EK K aM iW aj)
  (Ph:FI K iW "called" dj)
  (Pj:nsIn K mainGlobals "RoundOn" = some (some (.ref gH)))
  (jy:EK K aM gH aj)
  (Na:FI K gH "called" cM)
  (Pk:nsIn K mainGlobals "NoRound" = some (some (.ref gI)))
  (jz:EK K aM gI aj)
  (Nb:FI K gI "called" cN)
  (tN:LK K "__init__" "HeapError.__init__" i0 aj)
  (Cf:LK K "called" "BadHand.called" qf cK)
  (Cg:LK K "called" "BadName.called" qg cL)
  (zZ:LK K "called" "BadField.called" oI cc)
  (z8:LK K "called" "BadCount.called" oJ cf)
  (En:LK K "called" "NoRoom.called" rB dj)
  (sj:LK K "called" "TooManyWords.called" kR bh)
  (Ci:LK K "called" "RoundOn.called" qh cM)
  (Cj:LK K "called" "NoRound.called" qi cN)
  (Ck:LK K "called" "BadView.called" qj eL)
  (Fo:LK K "number_value" "number_value" nU d8)
  (G7:LK K "thing_value" "thing_value" pL de)
  (Pl:LK K "kind_of" "kind_of" Dz iX)
  (Nc:LK K "words_of" "words_of" yd gM)
  (Cm:LK K "look_at_number" "look_at_number" k7 b5)
  (Fp:LK K "look_at_hand" "look_at_hand" nV bp)
  (Fq:LK K "look_at_name" "look_at_name" nW da)
  (Eo:LK K "look_at_field" "look_at_field" mG cF)
  (Cn:LK K "look_at_limits" "look_at_limits" k8 cO)
  (Co:LK K "__init__" "Hands.__init__" k9 dA)
  (Ep:LK K "word_in" "Hands.word_in" mI cG)
  (z9:LK K "all_words" "Hands.all_words" j9 bO)
  (K7:LK K "put" "Hands.put" ug eZ)
  (Jf:LK K "copy" "Hands.copy" qS gC)
  (Fs:LK K "number" "Hands.number" nX eX)
  (Jg:LK K "kind" "Hands.kind" qT eU)
  (G8:LK K "value" "Hands.value" pM fN)
  (Aa:LK K "thing_due" "Hands.thing_due" ka ba)
  (tO:LK K "__init__" "WordTable.__init__" i3 bR)
  (Cp:LK K "bear" "WordTable.bear" lh dB)
  (vt:LK K "word_of" "WordTable.word_of" jE b6)
  (xq:LK K "settle" "WordTable.settle" jT cw)
  (Cq:LK K "said" "WordTable.said" lj dC)
  (Jh:LK K "last_steps" "last_steps" qU fF)
  (tP:LK K "__init__" "NameTable.__init__" i4 bS)
  (Cr:LK K "name" "NameTable.name" lp dD)
  (Ab:LK K "named" "NameTable.named" kc cU)
  (sk:LK K "all_named" "NameTable.all_named" iJ bH)
  (xr:LK K "settle" "NameTable.settle" hW cx)
  (Es:LK K "__init__" "Heap.__init__" mJ cH)
  (Cs:LK K "add_thing" "Heap.add_thing" lq b7)
  (K8:LK K "load" "Heap.load" uh fT)
  (Ji:LK K "store" "Heap.store" qV eV)
  (K9:LK K "copy" "Heap.copy" ui fU)
  (La:LK K "drop" "Heap.drop" uj fV)
  (G9:LK K "number" "Heap.number" pN dW)
  (Lb:LK K "name" "Heap.name" uk fW)
  (Ac:LK K "read_thing" "Heap.read_thing" ke bP)
  (Lc:LK K "word" "Heap.word" um fX)
  (xt:LK K "small_round" "Heap.small_round" hX bD)
  (Ha:LK K "let_go" "Heap.let_go" pO di)
  (vv:LK K "look_at_held" "Heap.look_at_held" jF aS)
  (xu:LK K "words_among" "Heap.words_among" hZ bg)
  (Ct:LK K "led_among" "Heap.led_among" gQ bt)
  (Hb:LK K "thing_among" "thing_among" pP eR)
  (tQ:LK K "__init__" "IdealHeap.__init__" i6 bT)
  (Cu:LK K "make" "IdealHeap.make" lA dE)
  (Cw:LK K "read" "IdealHeap.read" lB dF)
  (Cy:LK K "kind" "IdealHeap.kind" lC eN)
  (Ae:LK K "value" "IdealHeap.value" kf dS)
  (xv:LK K "fields" "IdealHeap.fields" jU dr)
  (Cz:LK K "held" "IdealHeap.held" lD dG)
  (Af:LK K "small" "IdealHeap.small" kg bB)
  (Ag:LK K "begin" "IdealHeap.begin" kh cW)
  (Et:LK K "end" "IdealHeap.end" mK el)
  (tR:LK K "round_on" "IdealHeap.round_on" i7 bw)
  (Ah:LK K "hands" "IdealHeap.hands" ki ck)
  (Ai:LK K "names" "IdealHeap.names" kj cX)
  (xw:LK K "things" "IdealHeap.things" jV bW)
  (so:LK K "fields_of" "IdealHeap.fields_of" iK aW)
  (xx:LK K "is_old" "IdealHeap.is_old" jW bX)
  (vw:LK K "word_of" "IdealHeap.word_of" jG bI)
  (xy:LK K "doomed" "IdealHeap.doomed" jX cy)
  (CA:LK K "said" "IdealHeap.said" lE dH)
  (CB:LK K "made" "IdealHeap.made" lF dI)
  (Aj:LK K "spare" "IdealHeap.spare" km cY)
  (Ft:LK K "_law_numbers" "_law_numbers" nY d9)
  (Ld:LK K "_law_deed" "_law_deed" uo gD)
  (Jj:LK K "_law_plain" "_law_plain" qW fG)
  (Le:LK K "_law_done" "_law_done" uq gE)
  (Lf:LK K "_law_told" "_law_told" pk gF)
  (Hd:LK K "_law_things" "_law_things" lO dY)
  (Nd:LK K "_law_led" "_law_led" ye iI)
  (Lg:LK K "_law_heap" "_law_heap" ur gG)
  (Jk:LK K "_law_deeds" "_law_deeds" bL cP)
  (xA:LK K "_law_small_right" "_law_small_right" dq bY)
  (acz:LK K "law" "law" oo Bn)
  (Bo:nsIn K mainGlobals "len" = some none)
  (FX:nsIn K mainGlobals "range" = some none)
  (sY:nsIn K mainGlobals "list" = some none)
  (qN:nsIn K mainGlobals "sorted" = some none)
  (RI:nsIn K mainGlobals "sum" = some none)
  (RJ:nsIn K mainGlobals "abs" = some none)
  (mE:nsIn K mainGlobals "enumerate" = some none)
  (rh:nsIn K mainGlobals "ValueError" = some none)
  (FY:nsIn K mainGlobals "HANDS" = some (some (.int 8 FT)))
  (nu:nsIn K mainGlobals "WEAK_NAMES" = some (some (.int 8 m9)))
  (pT:nsIn K mainGlobals "MOST_FIELDS" = some (some (.int 6 lQ)))
  (nv:nsIn K mainGlobals "LEAST_ROOM" = some (some (.int 7 ng)))
  (rj:nsIn K mainGlobals "MOST_YOUNG" = some (some (.int 64 nj)))
  (rk:nsIn K mainGlobals "MOST_LIMIT" = some (some (.int 400 nk)))
  (ku:nsIn K mainGlobals "MOST_BEARERS" = some (some (.int 12 kq))) :
  ∃ fd:FuncData,(∀(s:Shared) (v:Value),BindsTo s fd ⟨[v],[]⟩ [("script",v)])∧∀ base:Heap,K.In base→base.Ns mainGlobals mg→Bw l.prog w K mg base (CXE l.prog w) 12 fa fd ["script"] (Py K):=by
 have e:=(mg_of X G Yh).symm.trans hfa;cases e;obtain⟨cdH,_,yH⟩:=mP xH;obtain⟨DN,Lh,yt⟩:=mP iA.x;obtain⟨Ga,Nf,DC⟩:=mP jv.x;obtain⟨Gb,Ng,DD⟩:=mP jw.x;obtain⟨DO,Li,yu⟩:=mP iB.x;obtain⟨rN,Eu,og⟩:=mP eC.x;obtain⟨Ge,Nh,DE⟩:=mP jx.x;obtain⟨Ie,Pm,Gx⟩:=mP j8.x;obtain⟨Gf,Ni,DF⟩:=mP jy.x;obtain⟨Gg,Nj,DG⟩:=mP jz.x;have su:∀ {D:Addr} {cd:ClassData},clsIn K D=some cd→iZ K D cd→mroIn K D (.ref aM)=some true→∃ cd,iZ K D cd∧cd.mro.contains (.ref aM)=true:=λ{D cd} hc y sb=>⟨cd,y,by
  unfold mroIn at sb;rw[hc,Option.bind_some,if_neg (by rw[y.Gk];decide)]at sb;exact afo sb⟩
 have m:=λ{n:Str} {v:Value} (q:nsIn K mainGlobals n=some (some v))=>mg_of X G q;obtain⟨⟨aB,tT⟩,Kg,bA⟩:=tN;obtain⟨⟨fI,CC⟩,CD,CF⟩:=Cf;obtain⟨⟨fJ,CG⟩,CI,CJ⟩:=Cg;obtain⟨⟨fe,Ak⟩,Al,Am⟩:=zZ;obtain⟨⟨fg,An⟩,Ao,Ap⟩:=z8;obtain⟨⟨gn,Ew⟩,Ey,Ez⟩:=En;obtain⟨⟨c5,sr⟩,sv,sA⟩:=sj;obtain⟨⟨fK,CK⟩,CL,CM⟩:=Ci;obtain⟨⟨fL,CN⟩,CO,CP⟩:=Cj;obtain⟨⟨je,CQ⟩,CS,CT⟩:=Ck;obtain⟨⟨i9,Fu⟩,nZ,P0⟩:=Fo;obtain⟨⟨gJ,He⟩,jO,Ru⟩:=G7;obtain⟨⟨oj,Pn⟩,vH,Zd⟩:=Pl;obtain⟨⟨lP,Nk⟩,rG,Yi⟩:=Nc;obtain⟨⟨fM,CU⟩,jg,OA⟩:=Cm;obtain⟨⟨cD,Fv⟩,ed,P1⟩:=Fp;obtain⟨⟨hG,Fw⟩,kr,P8⟩:=Fq;obtain⟨⟨gp,EA⟩,jQ,PD⟩:=Eo;obtain⟨⟨gR,CV⟩,lH,OB⟩:=Cn;obtain⟨⟨gS,CW⟩,OC,CY⟩:=Co;obtain⟨⟨fA,EB⟩,EC,ED⟩:=Ep;obtain⟨⟨dR,Aq⟩,Ar,As⟩:=z9;obtain⟨⟨iw,Lj⟩,Ll,Lm⟩:=K7;obtain⟨⟨kD,Jl⟩,Jm,Jn⟩:=Jf;obtain⟨⟨ja,Fx⟩,Fy,Fz⟩:=Fs;obtain⟨⟨iD,Jo⟩,Jp,Jq⟩:=Jg;obtain⟨⟨jL,Hg⟩,Hh,Hi⟩:=G8;obtain⟨⟨cg,Au⟩,Av,Aw⟩:=Aa;obtain⟨⟨eP,tU⟩,Kh,tV⟩:=tO;obtain⟨⟨gT,CZ⟩,C0,C1⟩:=Cp;obtain⟨⟨fB,vx⟩,vz,vA⟩:=vt;obtain⟨⟨fY,xB⟩,xC,xD⟩:=xq;obtain⟨⟨gU,C2⟩,C3,C4⟩:=Cq;obtain⟨⟨kF,Jr⟩,ra,RS⟩:=Jh;obtain⟨⟨eQ,tW⟩,Ki,tX⟩:=tP;obtain⟨⟨gW,C5⟩,C6,C7⟩:=Cr;obtain⟨⟨gx,Ax⟩,Ay,Az⟩:=Ab;obtain⟨⟨eD,sD⟩,sE,sG⟩:=sk;obtain⟨⟨fZ,xE⟩,xF,xG⟩:=xr;obtain⟨⟨iG,EE⟩,EF,EG⟩:=Es;obtain⟨⟨gX,C8⟩,qm,qo⟩:=Cs;obtain⟨⟨lZ,Ln⟩,DP,DQ⟩:=K8;obtain⟨⟨kG,Js⟩,A9,Ba⟩:=Ji;obtain⟨⟨l7,Lo⟩,DR,DS⟩:=K9;obtain⟨⟨l8,Lp⟩,DT,DU⟩:=La;obtain⟨⟨jM,Hj⟩,vZ,v7⟩:=G9;obtain⟨⟨l9,Lq⟩,DV,DW⟩:=Lb;obtain⟨⟨gy,AA⟩,oU,oV⟩:=Ac;obtain⟨⟨me,Lr⟩,DX,DY⟩:=Lc;obtain⟨⟨f7,xI⟩,nP,nQ⟩:=xt;obtain⟨⟨iM,Hk⟩,v8,v9⟩:=Ha;obtain⟨⟨cQ,vB⟩,mV,mW⟩:=vv;obtain⟨⟨eG,xJ⟩,nR,nS⟩:=xu;obtain⟨⟨eM,C9⟩,qq,qr⟩:=Ct;obtain⟨⟨jN,Hl⟩,lR,Rv⟩:=Hb;obtain⟨⟨eS,tY⟩,Kj,tZ⟩:=tQ;obtain⟨⟨gY,De⟩,Df,Dg⟩:=Cu;obtain⟨⟨gZ,Dh⟩,Di,Dj⟩:=Cw;obtain⟨⟨jf,Dk⟩,Dm,Dn⟩:=Cy;obtain⟨⟨iP,AB⟩,AD,AE⟩:=Ae;obtain⟨⟨h9,xK⟩,xM,xN⟩:=xv;obtain⟨⟨g4,Dp⟩,Dq,Dr⟩:=Cz;obtain⟨⟨cV,AF⟩,AG,AH⟩:=Af;obtain⟨⟨gz,AI⟩,AJ,AK⟩:=Ag;obtain⟨⟨iH,EH⟩,EI,EJ⟩:=Et;obtain⟨⟨dw,t9⟩,ua,ub⟩:=tR;obtain⟨⟨fi,AL⟩,AM,AN⟩:=Ah;obtain⟨⟨gA,AO⟩,AQ,AR⟩:=Ai;obtain⟨⟨eI,xO⟩,xP,xQ⟩:=xw;obtain⟨⟨b8,sI⟩,sJ,sL⟩:=so;obtain⟨⟨eJ,xR⟩,xS,xT⟩:=xx;obtain⟨⟨dX,vC⟩,vD,vE⟩:=vw;obtain⟨⟨f9,xU⟩,xV,xW⟩:=xy;obtain⟨⟨g5,Ds⟩,Dt,Du⟩:=CA;obtain⟨⟨g7,Dv⟩,Dw,Dx⟩:=CB;obtain⟨⟨gB,AS⟩,AU,AV⟩:=Aj;obtain⟨⟨jb,FA⟩,oa,P9⟩:=Ft;obtain⟨⟨mh,Ls⟩,uv,Vh⟩:=Ld;obtain⟨⟨kH,Jt⟩,rf,RT⟩:=Jj;obtain⟨⟨mj,Lu⟩,uw,Vi⟩:=Le;obtain⟨⟨mx,Lv⟩,mD,Vj⟩:=Lf;obtain⟨⟨iN,Hm⟩,jP,Rw⟩:=Hd;obtain⟨⟨oq,Nl⟩,yl,Yj⟩:=Nd;obtain⟨⟨mz,Lw⟩,uy,Vk⟩:=Lg;obtain⟨⟨kI,Ju⟩,rg,RU⟩:=Jk;obtain⟨⟨gb,xX⟩,ia,Ml⟩:=xA;obtain⟨⟨ME,Yk⟩,X8,aeT⟩:=acz
 let D:Ad:=⟨aM,cJ,bE,eE,eO,bM,eW,iW,gH,gI,a6,aE,aD,aY,aa,aj,aB,cK,fI,cL,fJ,cc,fe,cf,fg,dj,gn,bh,c5,cM,fK,cN,fL,eL,je,d8,i9,de,gJ,iX,oj,gM,lP,b5,fM,bp,cD,da,hG,cF,gp,cO,gR,dA,gS,cG,fA,bO,dR,eZ,iw,gC,kD,eX,ja,eU,iD,fN,jL,ba,cg,bR,eP,dB,gT,b6,fB,cw,fY,dC,gU,fF,kF,bS,eQ,dD,gW,cU,gx,bH,eD,cx,fZ,cH,iG,b7,gX,fT,lZ,eV,kG,fU,l7,fV,l8,dW,jM,fW,l9,bP,gy,fX,me,bD,f7,di,iM,aS,cQ,bg,eG,bt,eM,eR,jN,bT,eS,dE,gY,dF,gZ,eN,jf,dS,iP,dr,h9,dG,g4,bB,cV,cW,gz,el,iH,bw,dw,ck,fi,cX,gA,bW,eI,aW,b8,bX,eJ,bI,dX,cy,f9,dH,g5,dI,g7,cY,gB,d9,jb,gD,mh,fG,kH,gE,mj,gF,mx,dY,iN,iI,oq,gG,mz,cP,kI,bY,gb,fa,ME,FT,m9,lQ,ng,nj,nk,kq⟩
 have T:Txt K mg D:=⟨⟨cdH,yH⟩,m nH,m M5,⟨⟨DN,yt⟩,⟨iA.a,iA.t⟩,iA.c⟩,⟨⟨DN,yt⟩,iA.i,bA,iA.k⟩,iA.v,su Lh yt iA.s,⟨K5,Ap,Ao⟩,m Pe,⟨⟨Ga,DC⟩,⟨jv.a,jv.t⟩,jv.c⟩,⟨⟨Ga,DC⟩,jv.i,bA,jv.k⟩,jv.v,su Nf DC jv.s,⟨M6,CF,CD⟩,m Pf,⟨⟨Gb,DD⟩,⟨jw.a,jw.t⟩,jw.c⟩,⟨⟨Gb,DD⟩,jw.i,bA,jw.k⟩,jw.v,su Ng DD jw.s,⟨M7,CJ,CI⟩,m M8,⟨⟨DO,yu⟩,⟨iB.a,iB.t⟩,iB.c⟩,⟨⟨DO,yu⟩,iB.i,bA,iB.k⟩,iB.v,su Li yu iB.s,⟨K6,Am,Al⟩,m Fn,⟨⟨rN,og⟩,⟨eC.a,eC.t⟩,eC.c⟩,⟨⟨rN,og⟩,eC.i,bA,eC.k⟩,eC.v,su Eu og eC.s,⟨Em,sA,sv⟩,m Pg,⟨⟨Ge,DE⟩,⟨jx.a,jx.t⟩,jx.c⟩,⟨⟨Ge,DE⟩,jx.i,bA,jx.k⟩,jx.v,su Nh DE jx.s,⟨M9,CT,CS⟩,m QI,⟨⟨Ie,Gx⟩,⟨j8.a,j8.t⟩,j8.c⟩,⟨⟨Ie,Gx⟩,j8.i,bA,j8.k⟩,j8.v,su Pm Gx j8.s,⟨Ph,Ez,Ey⟩,m Pj,⟨⟨Gf,DF⟩,⟨jy.a,jy.t⟩,jy.c⟩,⟨⟨Gf,DF⟩,jy.i,bA,jy.k⟩,jy.v,su Ni DF jy.s,⟨Na,CM,CL⟩,m Pk,⟨⟨Gg,DG⟩,⟨jz.a,jz.t⟩,jz.c⟩,⟨⟨Gg,DG⟩,jz.i,bA,jz.k⟩,jz.v,su Nj DG jz.s,⟨Nb,CP,CO⟩,m QG,⟨u7.g,u7.d,u7.o,u7.s⟩,⟨Gq,QH,CY,u7.k⟩,u9,⟨Cb,ED,EC⟩,⟨wW,As,Ar⟩,⟨IT,Lm,Ll⟩,⟨G4,Jn,Jm⟩,⟨El,Fz,Fy⟩,⟨G5,Jq,Jp⟩,⟨Fj,Hi,Hh⟩,⟨wX,Aw,Av⟩,m IU,⟨kJ.g,kJ.d,kJ.o,kJ.s⟩,⟨qX,IV,tV,kJ.k⟩,oX,pY,⟨zI,C1,C0⟩,⟨tJ,vA,vz⟩,⟨va,xD,xC⟩,⟨zJ,C4,C3⟩,m IW,⟨kK.g,kK.d,kK.o,kK.s⟩,⟨qY,IX,tX,kK.k⟩,ow,⟨zK,C7,C6⟩,⟨wY,Az,Ay⟩,⟨qG,sG,sE⟩,⟨vc,xG,xF⟩,m U9,⟨Cc.g,Cc.d,Cc.o,Cc.s⟩,⟨N9,Va,EG,Cc.k⟩,ve,Cd,wZ,w8,vg,tK,xa,⟨zM,qo,qm⟩,⟨IY,DQ,DP⟩,⟨G6,Ba,A9⟩,⟨IZ,DS,DR⟩,⟨I0,DU,DT⟩,⟨Fl,v7,vZ⟩,⟨Ja,DW,DV⟩,⟨xb,oV,oU⟩,⟨Jb,DY,DX⟩,⟨vh,nQ,nP⟩,⟨Fm,v9,v8⟩,⟨tL,mW,mV⟩,⟨vi,nS,nR⟩,⟨zN,qr,qq⟩,⟨Vb,Vc,Vd,EF⟩,m Jd,⟨kL.g,kL.d,kL.o,kL.s⟩,⟨qZ,Je,tZ,kL.k⟩,oY,sg,pZ,p0,oZ,oy,p9,qa,xg,nG,sh,⟨qH,qo,qm⟩,⟨zO,DQ,DP⟩,⟨xh,Ba,A9⟩,⟨zP,DS,DR⟩,⟨zQ,DU,DT⟩,⟨vj,v7,vZ⟩,⟨zR,DW,DV⟩,⟨qb,oV,oU⟩,⟨zS,DY,DX⟩,⟨pe,nQ,nP⟩,⟨vk,v9,v8⟩,⟨oz,mW,mV⟩,⟨ph,nS,nR⟩,⟨qI,qr,qq⟩,⟨zT,Dg,Df⟩,⟨zU,Dj,Di⟩,⟨zV,Dn,Dm⟩,⟨xi,AE,AD⟩,⟨vm,xN,xM⟩,⟨zW,Dr,Dq⟩,⟨xj,AH,AG⟩,⟨xk,AK,AJ⟩,⟨Ce,EJ,EI⟩,⟨si,ub,ua⟩,⟨xm,AN,AM⟩,⟨xn,AR,AQ⟩,⟨vo,xQ,xP⟩,⟨qJ,sL,sJ⟩,⟨vp,xT,xS⟩,⟨tM,vE,vD⟩,⟨vq,xW,xV⟩,⟨zX,Du,Dt⟩,⟨zY,Dx,Dw⟩,⟨xo,AV,AU⟩,m Ff,nZ,m GY,jO,m Pd,vH,m M3,rG,m B9,jg,m Fg,ed,m Fh,kr,m Ek,jQ,m Ca,lH,m IP,ra,m GZ,lR,m Fi,oa,m K1,uv,m IQ,rf,m K2,uw,m K3,mD,m G0,jP,m M4,yl,m K4,uy,m IS,rg,m wV,ia,m Yh,X8,mg_none_of X G Bo,mg_none_of X G FX,mg_none_of X G sY,mg_none_of X G qN,mg_none_of X G RI,mg_none_of X G RJ,mg_none_of X G mE,mg_none_of X G rh,m FY,m nu,m pT,m nv,m rj,m rk,m ku⟩;refine⟨ME,λs v=>?_,λbase _ _=>?_⟩
 ·obtain⟨_,_,_,_,_,_,_,_,_,e,_⟩:=Yk.ex
  rw[e];exact .of_eq rfl
 have ag:=rP (P:=l.prog) (w:=w) (mg:=mg) (base:=base) tT T;have fu:=wk (P:=l.prog) (w:=w) (mg:=mg) (base:=base) An T;have fP:=yJ (P:=l.prog) (w:=w) (mg:=mg) (base:=base) CC T;have fQ:=yK (P:=l.prog) (w:=w) (mg:=mg) (base:=base) CG T;have fq:=wm (P:=l.prog) (w:=w) (mg:=mg) (base:=base) Ak T;have c6:=qy (P:=l.prog) (w:=w) (mg:=mg) (base:=base) sr T;have OD:=yL (P:=l.prog) (w:=w) (mg:=mg) (base:=base) CQ T;have gv:=BG (P:=l.prog) (w:=w) (mg:=mg) (base:=base) Ew T;have fR:=yM (P:=l.prog) (w:=w) (mg:=mg) (base:=base) CK T;have fS:=yN (P:=l.prog) (w:=w) (mg:=mg) (base:=base) CN T;have j7:=MV (P:=l.prog) (w:=w) (mg:=mg) (base:=base) Pn T;have aA:=D8 (P:=l.prog) (w:=w) (mg:=mg) (base:=base) Fv T ag;have eY:=Ea (P:=l.prog) (w:=w) (mg:=mg) (base:=base) Fw T ag;have jl:=KL (P:=l.prog) (w:=w) (mg:=mg) (base:=base) Nk T ag;have eu:=BI (P:=l.prog) (w:=w) (mg:=mg) (base:=base) EA T ag;have dJ:=yP (P:=l.prog) (w:=w) (mg:=mg) (base:=base) CU T ag;have kz:=Ed (P:=l.prog) (w:=w) (mg:=mg) (base:=base) Fu T dJ;have cI:=E1 (P:=l.prog) (w:=w) (mg:=mg) (base:=base) He T ag;have jk:=yR (P:=l.prog) (w:=w) (mg:=mg) (base:=base) CV T ag;have jj:=yT (P:=l.prog) (w:=w) (mg:=mg) (base:=base) CW T;have gq:=rR (P:=l.prog) (w:=w) (mg:=mg) (base:=base) tW T;have bK:=BN (P:=l.prog) (w:=w) (mg:=mg) (base:=base) EB T aA;have cq:=Iu (P:=l.prog) (w:=w) (mg:=mg) (base:=base) Lj T aA;have nA:=GJ (P:=l.prog) (w:=w) (mg:=mg) (base:=base) Jl T aA bK;have kA:=Eg (P:=l.prog) (w:=w) (mg:=mg) (base:=base) Fx T aA kz;have du:=GK (P:=l.prog) (w:=w) (mg:=mg) (base:=base) Jo T j7 bK;have lT:=E5 (P:=l.prog) (w:=w) (mg:=mg) (base:=base) Hg T ag du;have aF:=wq (P:=l.prog) (w:=w) (mg:=mg) (base:=base) Au T ag du;have bc:=wx (P:=l.prog) (w:=w) (mg:=mg) (base:=base) Aq T;have jh:=yX (P:=l.prog) (w:=w) (mg:=mg) (base:=base) C5 T eY;have iQ:=wA (P:=l.prog) (w:=w) (mg:=mg) (base:=base) Ax T eY;have gu:=rU (P:=l.prog) (w:=w) (mg:=mg) (base:=base) tU T;have ji:=y8 (P:=l.prog) (w:=w) (mg:=mg) (base:=base) CZ T ag;have pB:=Iz (P:=l.prog) (w:=w) (mg:=mg) (base:=base) Lo T nA;have pD:=IB (P:=l.prog) (w:=w) (mg:=mg) (base:=base) Lp T cq;have lU:=E7 (P:=l.prog) (w:=w) (mg:=mg) (base:=base) Hj T kA;have pE:=IC (P:=l.prog) (w:=w) (mg:=mg) (base:=base) Lq T aF jh;have pF:=ID (P:=l.prog) (w:=w) (mg:=mg) (base:=base) Lr T aF dJ ji;have pA:=IE (P:=l.prog) (w:=w) (mg:=mg) (base:=base) Ln T aA aF eu cq;have nC:=GO (P:=l.prog) (w:=w) (mg:=mg) (base:=base) Js T aF bK eu;have jR:=BR (P:=l.prog) (w:=w) (mg:=mg) (base:=base) EE T jj gq gu;have gw:=rW (P:=l.prog) (w:=w) (mg:=mg) (base:=base) tY T jk jR;have jo:=y9 (P:=l.prog) (w:=w) (mg:=mg) (base:=base) C8 T cI cq;have iR:=wB (P:=l.prog) (w:=w) (mg:=mg) (base:=base) AA T aA iQ cq cI;have cA:=uI (P:=l.prog) (w:=w) (mg:=mg) (base:=base) xJ T jl;have jn:=zc (P:=l.prog) (w:=w) (mg:=mg) (base:=base) Dp T cA;have OE:=zh (P:=l.prog) (w:=w) (mg:=mg) (base:=base) Dk T du;have Nv:=wD (P:=l.prog) (w:=w) (mg:=mg) (base:=base) AB T lT;have Mm:=uK (P:=l.prog) (w:=w) (mg:=mg) (base:=base) xK T aF;have nB:=GQ (P:=l.prog) (w:=w) (mg:=mg) (base:=base) Jr T;have iO:=E9 (P:=l.prog) (w:=w) (mg:=mg) (base:=base) Hl T j7;have bu:=zj (P:=l.prog) (w:=w) (mg:=mg) (base:=base) C9 T iO nB;have ib:=uM (P:=l.prog) (w:=w) (mg:=mg) (base:=base) xE T;have ic:=uN (P:=l.prog) (w:=w) (mg:=mg) (base:=base) xB T;have fO:=Fb (P:=l.prog) (w:=w) (mg:=mg) (base:=base) Hk T ib ic;have ie:=uO (P:=l.prog) (w:=w) (mg:=mg) (base:=base) xI T bc bu fO;have aI:=wI (P:=l.prog) (w:=w) (mg:=mg) (base:=base) AF T ie;have iT:=wJ (P:=l.prog) (w:=w) (mg:=mg) (base:=base) AI T ag aI bc bu;have jS:=BW (P:=l.prog) (w:=w) (mg:=mg) (base:=base) EH T ag fO;have bV:=rY (P:=l.prog) (w:=w) (mg:=mg) (base:=base) t9 T;have iS:=wK (P:=l.prog) (w:=w) (mg:=mg) (base:=base) AS T cI bu;have jq:=zt (P:=l.prog) (w:=w) (mg:=mg) (base:=base) De T ag aA jl cA aI jn jo;have jr:=zu (P:=l.prog) (w:=w) (mg:=mg) (base:=base) Dh T iR iS;have kB:=Ej (P:=l.prog) (w:=w) (mg:=mg) (base:=base) FA T;have pG:=II (P:=l.prog) (w:=w) (mg:=mg) (base:=base) Ls T;have nE:=GV (P:=l.prog) (w:=w) (mg:=mg) (base:=base) Jt T jq nC pA pB pD lU pE jr pF aI bV jS iT;have pJ:=IK (P:=l.prog) (w:=w) (mg:=mg) (base:=base) Lu T nE fP fQ fq fu gv c6 fR fS;have pI:=IL (P:=l.prog) (w:=w) (mg:=mg) (base:=base) Lw T gw;have nF:=GW (P:=l.prog) (w:=w) (mg:=mg) (base:=base) Ju T pG kB;have cZ:=wM (P:=l.prog) (w:=w) (mg:=mg) (base:=base) AL T bc;have gh:=qD (P:=l.prog) (w:=w) (mg:=mg) (base:=base) sD T;have iU:=wO (P:=l.prog) (w:=w) (mg:=mg) (base:=base) AO T gh;have cB:=uR (P:=l.prog) (w:=w) (mg:=mg) (base:=base) xO T;have ig:=uT (P:=l.prog) (w:=w) (mg:=mg) (base:=base) xU T;have js:=zD (P:=l.prog) (w:=w) (mg:=mg) (base:=base) C2 T;have jt:=zF (P:=l.prog) (w:=w) (mg:=mg) (base:=base) Ds T js;have ju:=zH (P:=l.prog) (w:=w) (mg:=mg) (base:=base) Dv T;have gO:=tE (P:=l.prog) (w:=w) (mg:=mg) (base:=base) vx T;have aT:=tG (P:=l.prog) (w:=w) (mg:=mg) (base:=base) vB T ag;have aL:=qF (P:=l.prog) (w:=w) (mg:=mg) (base:=base) sI T aT;have cC:=uX (P:=l.prog) (w:=w) (mg:=mg) (base:=base) xR T aT;have br:=tI (P:=l.prog) (w:=w) (mg:=mg) (base:=base) vC T aT gO;have iy:=IM (P:=l.prog) (w:=w) (mg:=mg) (base:=base) Lv T cB aL cC br cZ iU ig jt ju bV;have d7:=Fe (P:=l.prog) (w:=w) (mg:=mg) (base:=base) Hm T;have rM:=KZ (P:=l.prog) (w:=w) (mg:=mg) (base:=base) Nl T aL d7;have eK:=uZ (P:=l.prog) (w:=w) (mg:=mg) (base:=base) xX T iy cB cC cZ d7 aL rM br aI;exact(Zb (P:=l.prog) (w:=w) (mg:=mg) (base:=base) Yk T pI nF eK pJ).g
theorem walk{l:OpenLaw}{q:Program}{loose:List Str}{XP:(Str→Option Value)→Heap→Prop}{YP:World→Heap→Prop}{d:DefRec}{K:Params→Frag}(hn:l.most=some 63)(hdf:d.params.defaults=[])
  (hY:∀(w:World) (h:Heap),YP w h→(K w.params).In h)
  (F:∀(w:World) (mg:Str→Option Value) (fa:Addr) (h:Heap),(K w.params).In h→h.Ns mainGlobals mg→mg d.name=some (.ref fa) →
   ∃ fd:FuncData,(∀(s:Shared) (u:Value),BindsTo s fd ⟨[u],[]⟩ [("script",u)])∧∀ base:Heap,(K w.params).In base→base.Ns mainGlobals mg→Bw l.prog w (K w.params) mg base (CXE l.prog w) 12 fa fd ["script"] (Py (K w.params))) :
  WalkO q loose XP YP l.row.toRowW d [] (λf vs=>PySem.call f vs) :=
 L2.R6 (n:=63) (k:=12) (x := "script") (CX:=λw=>CXE l.prog w) (sp:=λw=>Py (K w.params)) hn (by decide) hdf ⟨rfl,by decide,by decide⟩ hY F (λ_ _ a ns hl _ hS=>⟨a,ns,rfl,hS,hl,λ_=>rfl⟩) λ_ _ _ _ _ z=>aca z
end K08
end
section
open PySem PySem.W PyProof.Rows
set_option maxRecDepth 100000 in
set_option maxHeartbeats 0 in
theorem PySem.Challenge.cw_stillheap_k08_whole_small_rounds_holds : PySem.Challenge.rw_stillheap_k08_whole_small_rounds.Holds := by
 w_on;o_law
 refine holds_open (q:=K08.hQ) (loose:=K08.hLo) (Xt:=λs=>xlAt K08.hQ [] s&&recOk (RowW.records (OpenRow.toRowW (OpenLaw.row PySem.Challenge.rw_stillheap_k08_whole_small_rounds))) s)
  (XP:=XL K08.hQ []) (Yf:=Hook.obs (kHook K08.hK K08.hAs K08.sU)) (Ya:=Hook.val (kHook K08.hK K08.hAs K08.sU)) (YP:=Hook.says (kHook K08.hK K08.hAs K08.sU)) (N:=12592)
  ?hl (Hook.of (kHook K08.hK K08.hAs K08.sU)) (Hook.keeps (kHook K08.hK K08.hAs K08.sU))
  (λs e=>xl_of s (Bool.and_eq_true_iff.mp e).1) XL.keeps (by rfl) (by rfl) (by rfl)
  (λs e=>recFacts_of (Bool.and_eq_true_iff.mp e).2) (by rfl) (by first|assumption|decide +kernel)
  (by decide +kernel) ⟨rfl,rfl,rfl,rfl,rfl,by decide +kernel⟩ ?hw ?hc
 (case hl=>exact K08.abZ)
 (case hw=>w_witness2)
 k_fill
 refine K08.walk (l:=PySem.Challenge.rw_stillheap_k08_whole_small_rounds) rfl rfl (λw h Y=>PySem.W.kIn_of Y) ?F
 case F =>
  intro w mg fa h KX G hmg;refine' K08.all_mk KX G hmg ?_ ?_ ?_ ?_ ?_ ?_ ?_ ?_ ?_ ?_ ?_ ?_ ?_ ?_ ?_ ?_ ?_ ?_ ?_ ?_ ?_ ?_ ?_ ?_ ?_ ?_ ?_ ?_ ?_ ?_ ?_ ?_ ?_ ?_ ?_ ?_ ?_ ?_ ?_ ?_ ?_ ?_ ?_ ?_ ?_ ?_ ?_ ?_ ?_ ?_ ?_ ?_ ?_ ?_ ?_ ?_ ?_ ?_ ?_ ?_ ?_ ?_ ?_ ?_ ?_ ?_ ?_ ?_ ?_ ?_ ?_ ?_ ?_ ?_ ?_ ?_ ?_ ?_ ?_ ?_ ?_ ?_ ?_ ?_ ?_ ?_ ?_ ?_ ?_ ?_ ?_ ?_ ?_ ?_ ?_ ?_ ?_ ?_ ?_ ?_ ?_ ?_ ?_ ?_ ?_ ?_ ?_ ?_ ?_ ?_ ?_ ?_ ?_ ?_ ?_ ?_ ?_ ?_ ?_ ?_ ?_ ?_ ?_ ?_ ?_ ?_ ?_ ?_ ?_ ?_ ?_ ?_ ?_ ?_ ?_ ?_ ?_ ?_ ?_ ?_ ?_ ?_ ?_ ?_ ?_ ?_ ?_ ?_ ?_ ?_ ?_ ?_ ?_ ?_ ?_ ?_ ?_ ?_ ?_ ?_ ?_ ?_ ?_ ?_ ?_ ?_ ?_ ?_ ?_ ?_ ?_ ?_ ?_ ?_ ?_ ?_ ?_ ?_ ?_ ?_ ?_ ?_ ?_ ?_ ?_ ?_ ?_ ?_ ?_ ?_ ?_ ?_ ?_ ?_ ?_ ?_ ?_ ?_ ?_ ?_ ?_ ?_ ?_ ?_ ?_ ?_ ?_ ?_ ?_ ?_ ?_ ?_ ?_ ?_ ?_ ?_ ?_ ?_ ?_ ?_ ?_ ?_ ?_ ?_ ?_ ?_ ?_ ?_ ?_ ?_ ?_ ?_ ?_ ?_ ?_ ?_ ?_ ?_ ?_ ?_ ?_ ?_ ?_ ?_ ?_ ?_ ?_ ?_ ?_ ?_ ?_ ?_ ?_ ?_ ?_ ?_ ?_ ?_ ?_ ?_ ?_ ?_ ?_
  all_goals first
   | k_is
   | (unfold K08.FI;k_is)
   | (unfold K08.NF;k_is)
   | (refine' K08.LK.mk ?la ?lb ?lc ?ld;(case la=>k_is);(case lb=>k_is);(case lc=>k_is);(case ld=>k_is))
   | kernel_rfl
   | (refine' K08.PK.mk ?_ ?_ ?_ ?_ ?_<;>k_is)
   | (refine' K08.EK.mk ?_ ?_ ?_ ?_ ?_ ?_ ?_ ?_<;>first|k_is|kernel_rfl)
   | skip
end
