import PyProof.Rows.All
import Wide.All
import OpenK.AllK
import Wide.FinOn
import Lean
import PyProof.EqAt
import PyProof.EqKinds
import PyProof.TupleCall
import PyProof.DictRoadsH
import PyProof.TupleKey
import PyProof.NeKinds
import PyProof.ZipIter
import KE.KRevIter
import PyProof.ListRange
import KE.LcSums
import PyProof.Rows.MinMaxN
import KE.KTryDeep
import PyProof.ExcArgsOwn
import PyProof.ExcAttrAll.ValueError
import PyProof.MaxThree
import PyProof.AutoSeq1
import KE.KDictSum
import PyProof.Rows.SetFrom
import KE.KIsAll
import KE.RegKIsAll
import PySem.Challenge.RW_evenmix_k68_pairs_and_copies
set_option linter.all false
set_option maxRecDepth 100000
namespace L2
open PySem
abbrev qj:=Int × List Int
section
variable {prog:Program}{w:World}
abbrev inner (prog:Program) (w:World):=PySem.intKind prog w
def ir (h:Heap) (k:qj) (a:Addr):Prop :=
  ∃o n t b,h.get? a=some o∧o.cls=.type "tuple"∧o.data=.seq #[.int k.1 t,.ref b] n∧IsTupleKey (inner prog w) h k.2 b
def rX (prog:Program) (w:World) (k:qj):Int:=reduceHash (Builtin.Tuple.tupleHashOf [hashInt k.1,tupleKeyHash (inner prog w) k.2])
theorem ir.ty {s:Shared}{k:qj}{a:Addr} (x:ir (prog:=prog) (w:=w) s.heap k a):s.TypeIs (.ref a) "tuple":=by
  obtain ⟨o,n,t,b,e,c,_⟩:=x
  exact⟨o,e,c⟩
theorem ir.uniq {h:Heap}{a:Addr}{x y:qj} (hx:ir (prog:=prog) (w:=w) h x a) (hy:ir (prog:=prog) (w:=w) h y a):x=y:=by
  obtain ⟨o,n,t,b,e,c,d,i⟩:=hx
  obtain ⟨o',n',t',b',e',c',d',i'⟩:=hy
  rw[e] at e'
  cases e'
  rw[d] at d'
  injection d' with q1 _
  have q2:=congrArg Array.toList q1
  injection q2 with q3 q4
  injection q3 with q5 _
  injection q4 with q6 _
  injection q6 with q7
  subst q7
  exact Prod.ext q5 (i.inj i')
theorem ir.stays {h h':Heap}{k:qj}{a d:Addr}{o:Obj}{es ep} (x:ir (prog:=prog) (w:=w) h k a) (ho:h.get? d=some o) (hd:o.data=.dict es ep) (hs:Heap.SameBut d h h'):ir (prog:=prog) (w:=w) h' k a:=by
  obtain ⟨o',n,t,b,e,c,q,i⟩:=x
  have ne:a≠d:=fun z=>by
    rw[z,ho] at e
    cases e
    rw[hd] at q
    exact nomatch q
  exact⟨o',n,t,b,(hs.2 a ne).trans e,c,q,i.keeps ho hd hs⟩
theorem yB {p1 p2:Program}{w1 w2:World}{ks:List Int}{vs:List Value} (h:ItemsAre (intKind p1 w1) ks vs):ItemsAre (intKind p2 w2) ks vs:=by
  induction h with
  | nil=>exact .nil
  | cons a _ ih=>exact .cons a ih
theorem xn {p1 p2:Program}{w1 w2:World}{h:Heap}{ks:List Int}{a:Addr} (x:IsTupleKey (intKind p1 w1) h ks a):IsTupleKey (intKind p2 w2) h ks a:=by
  obtain ⟨o,it,n,e1,e2,e3,e4⟩:=x
  exact⟨o,it,n,e1,e2,e3,yB e4⟩
variable {A:Around}{E:Value→Shared→Prop}{s:Shared}
theorem Ax {k:qj}{a:Addr}{Q:Int→Shared→Prop} (hu:A.units+2<cLine) (hk:ir (prog:=prog) (w:=w) s.heap k a) (h:Q (rX prog w k) { s with toks:=s.toks+(k.2.length+3) }):wpAny (model prog w) A (pyHash (.ref a)) Q E s:=by
  have ty:=hk.ty
  obtain ⟨o,n,t,b,ho,_,hd,hi⟩:=hk
  unfold pyHash
  first | unfold pyHashByItsType | skip
  first | refine wpAny_bind (wpAny_cRoomFor_or (.inr (by omega)) ?_) | skip
  refine (wpAny_bind (wpAny_specialOf ty F.slot_tuple_hash.lookup ?_))
  show wpAny (model prog w) A (if (some (Value.builtin "tuple.__hash__") == some Value.none)=true then _ else _) Q E s
  rw[if_neg (fun z=>by rw[beq_builtin_none] at z;cases z)]
  refine (wpAny_bind (wpAny_specialOf ty F.slot_tuple_hash.lookup ?_))
  show wpAny (model prog w) A (callSpecialIfBoundUnlessNone? (.ref a) "__hash__" _ >>= _) Q E s
  refine wpAny_bind (wpAny_callSpecialIfBoundUnlessNone?_slot ty F.slot_tuple_hash (wpAny_call_entry F.slot_tuple_hash ty F.entry_tuple_hash ?_ (F.args_tuple_hash_1 _)))
  show wpAny (model prog w) _ (Builtin.Tuple.tupleItemsOf (.ref a) >>= _) _ _ s
  refine wpAny_bind (wpAny_tupleItemsOf ho hd (wpAny_bind ?_))
  rw[← Array.forIn_toList]
  refine wpAny_forIn_list _ (fun rest (z:Array Int) s'=>(rest=[.int k.1 t,.ref b]∧z.toList=[]∧s'=s)∨(rest=[.ref b]∧z.toList=[hashInt k.1]∧s'={ s with toks:=s.toks+1 })∨(rest=[]∧z.toList=[hashInt k.1,tupleKeyHash (inner prog w) k.2]∧s'={ s with toks:=s.toks+1+(k.2.length+1) })) _ ?_ ?_ _ _ (.inl ⟨rfl,rfl,rfl⟩)
  · rintro x rest z s' (⟨e1,e2,rfl⟩ | ⟨e1,e2,rfl⟩ | ⟨e1,_⟩)
    · cases e1
      refine wpAny_bind ((inner prog w).pyHash (k:=k.1) (by simp [inner,intKind,Value.isInt]) ?_)
      first
        | exact wpAny_pure (.inr (.inl ⟨rfl,by simp [e2];rfl,rfl⟩))
        | exact wpAny_bind (wpAny_pure (wpAny_pure (.inr (.inl ⟨rfl,by simp [e2];rfl,rfl⟩))))
    · cases e1
      refine wpAny_bind (wpAny_pyHash_tuple (knd:=inner prog w) (ks:=k.2) (by first | omega | (show A.in1.units<cLine;show A.units+1<cLine;omega)) hi ?_)
      first
        | exact wpAny_pure (.inr (.inr ⟨rfl,by simp [e2],rfl⟩))
        | exact wpAny_bind (wpAny_pure (wpAny_pure (.inr (.inr ⟨rfl,by simp [e2],rfl⟩))))
    · cases e1
  · rintro z s' (⟨e1,_⟩ | ⟨e1,_⟩ | ⟨_,e2,rfl⟩)
    · cases e1
    · cases e1
    show wpAny (model prog w) _ (retInt (Builtin.Tuple.tupleHashOf z.toList)) _ _ _
    rw[e2]
    refine wpAny_ret_mkInt ?_
    unfold rX reduceHash at h
    generalize Builtin.Tuple.tupleHashOf [hashInt k.1,tupleKeyHash (inner prog w) k.2]=m at h ⊢
    rw[show s.toks+(k.2.length+3)=s.toks+1+(k.2.length+1)+1 by omega] at h
    show wpAny (model prog w) A (if (decide (-(2:Int) ^ 63≤m) && decide (m<2 ^ 63))=true then _ else _) Q E _
    by_cases hr:(decide (-(2:Int) ^ 63≤m) && decide (m<2 ^ 63))=true
    · rw[if_pos hr] at h ⊢
      exact wpAny_pure h
    · rw[if_neg hr] at h ⊢
      exact wpAny_bind (wpAny_rule (wpAny_pure h))
theorem Ea {x y:qj}{a b:Addr} (hu:A.units+2<cLine) (hx:ir (prog:=prog) (w:=w) s.heap x a) (hy:ir (prog:=prog) (w:=w) s.heap y b):SeqAt.EqAt A s (.ref a) (.ref b) (decide (x=y)):=by
  by_cases hab:a=b
  · subst hab
    rw[hx.uniq hy,decide_eq_true rfl]
    exact SeqAt.EqAt.same _
  · obtain ⟨o1,n1,t1,b1,g1,c1,d1,i1⟩:=hx
    obtain ⟨o2,n2,t2,b2,g2,c2,d2,i2⟩:=hy
    have r1:s.heap.IsTuple a #[.int x.1 t1,.ref b1]:=⟨o1,g1,c1,n1,d1⟩
    have r2:s.heap.IsTuple b #[.int y.1 t2,.ref b2]:=⟨o2,g2,c2,n2,d2⟩
    have inn:SeqAt.EqAt A.in1 s (.ref b1) (.ref b2) (decide (x.2=y.2)):=fun prog' w' E' Q' q=>by
      have:=wpAny_eqBool_tuple (prog:=prog') (w:=w') (knd:=intKind prog' w') (A:=A.in1) (E:=E') (s:=s) (x:=x.2) (y:=y.2) (a:=b1) (b:=b2) (Q:=Q') (by show A.units+1<cLine;omega) (xn i1) (xn i2) q
      exact this
    have key:=SeqAt.RcAt.tuples (A:=A) (e:=fun j=>if j=0 then decide (x.1=y.1) else decide (x.2=y.2)) r1 r2 (by omega) (fun j h1 h2=>by
      have hj:j=0∨j=1:=by simp at h1;omega
      rcases hj with rfl | rfl
      · have:=SeqAt.EqAt.int_int (A:=A.in1) (s:=s) x.1 t1 y.1 t2
        rw[show (x.1 == y.1)=decide (x.1=y.1) from rfl] at this
        exact this
      · exact inn)
    refine SeqAt.EqAt.of_refs hab ?_
    have e:decide (x=y)=((List.range (min (#[Value.int x.1 t1,Value.ref b1]:Array Value).size (#[Value.int y.1 t2,Value.ref b2]:Array Value).size)).all (fun j=>if j=0 then decide (x.1=y.1) else decide (x.2=y.2)) && (#[Value.int x.1 t1,Value.ref b1]:Array Value).size == (#[Value.int y.1 t2,Value.ref b2]:Array Value).size):=by
      rw[show (List.range (min (#[Value.int x.1 t1,Value.ref b1]:Array Value).size (#[Value.int y.1 t2,Value.ref b2]:Array Value).size))=[0,1] from rfl]
      rw[Bool.eq_iff_iff]
      simp [Prod.ext_iff]
    rw[e]
    exact key
theorem yK {ks:List Int}{a:Addr}{n:Nat}{Q:Bool→Shared→Prop} (hk:IsTupleKey (inner prog w) s.heap ks a) (h:Q true s):wpAny (model prog w) A (eqIsQuiet (n+1) (.ref a)) Q E s:=by
  have ty:=hk.typeIs
  obtain ⟨o,it,m,ho,_,hd,hi⟩:=hk
  unfold eqIsQuiet
  refine (wpAny_bind (wpAny_specialOf ty F.slot_tuple_eq.lookup ?_))
  show wpAny (model prog w) A (isInstance (.ref a) (.type "tuple") >>= _) Q E s
  refine (wpAny_bind (wpAny_isInstance ty isSubtype_tuple_tuple ?_))
  simp only[Bool.not_true,Bool.false_eq_true,if_false]
  refine (wpAny_bind (wpAny_seqItems ho hd (wpAny_bind ?_)))
  show wpAny (model prog w) A (forIn it _ _) _ E s
  rw[← Array.forIn_toList]
  refine wpAny_forIn_list _ (fun rest r s'=>(r.1=none∧s'=s)∧∀v∈rest,carriedByValue v=true) _ ?_ ?_ _ _ ⟨⟨rfl,rfl⟩,hi.byValue⟩
  · rintro v rest r s' ⟨⟨hr,rfl⟩,hall⟩
    rw[eqIsQuiet_byValue _ (hall v List.mem_cons_self)]
    refine wpAny_bind (wpAny_pure ?_)
    simp only[Bool.not_true,Bool.false_eq_true,if_false]
    exact wpAny_pure ⟨⟨rfl,rfl⟩,fun u hu=>hall u (List.mem_cons_of_mem _ hu)⟩
  · rintro ⟨r1,r2⟩ s' ⟨⟨hr,rfl⟩,_⟩
    simp only at hr
    subst hr
    exact wpAny_pure h
theorem yV {k:qj}{a:Addr}{Q:Bool→Shared→Prop} (hk:ir (prog:=prog) (w:=w) s.heap k a) (h:Q true s):wpAny (model prog w) A (eqIsQuiet 8 (.ref a)) Q E s:=by
  have ty:=hk.ty
  obtain ⟨o,n,t,b,ho,_,hd,hi⟩:=hk
  unfold eqIsQuiet
  refine (wpAny_bind (wpAny_specialOf ty F.slot_tuple_eq.lookup ?_))
  show wpAny (model prog w) A (isInstance (.ref a) (.type "tuple") >>= _) Q E s
  refine (wpAny_bind (wpAny_isInstance ty isSubtype_tuple_tuple ?_))
  simp only[Bool.not_true,Bool.false_eq_true,if_false]
  refine (wpAny_bind (wpAny_seqItems ho hd (wpAny_bind ?_)))
  show wpAny (model prog w) A (forIn (#[Value.int k.1 t,Value.ref b]:Array Value) _ _) _ E s
  rw[← Array.forIn_toList]
  refine wpAny_forIn_list _ (fun rest r s'=>(r.1=none∧s'=s)∧∀v∈rest,v=.int k.1 t∨v=.ref b) _ ?_ ?_ _ _ ⟨⟨rfl,rfl⟩,fun v hv=>by simpa using hv⟩
  · rintro v rest r s' ⟨⟨hr,rfl⟩,hall⟩
    rcases hall v List.mem_cons_self with rfl | rfl
    · rw[eqIsQuiet_byValue _ rfl]
      refine wpAny_bind (wpAny_pure ?_)
      simp only[Bool.not_true,Bool.false_eq_true,if_false]
      exact wpAny_pure ⟨⟨rfl,rfl⟩,fun u hu=>hall u (List.mem_cons_of_mem _ hu)⟩
    · refine wpAny_bind (yK hi ?_)
      simp only[Bool.not_true,Bool.false_eq_true,if_false]
      exact wpAny_pure ⟨⟨rfl,rfl⟩,fun u hu=>hall u (List.mem_cons_of_mem _ hu)⟩
  · rintro ⟨r1,r2⟩ s' ⟨⟨hr,rfl⟩,_⟩
    simp only at hr
    subst hr
    exact wpAny_pure h
end
def Cg (prog:Program) (w:World):HeapKind prog w qj where
  is:=ir (prog:=prog) (w:=w)
  hash:=rX prog w
  draws:=fun k=>k.2.length+3
  room:=fun A=>A.units+2<cLine
  inj:=fun hx hy=>hx.uniq hy
  keeps:=fun x ho hd hs=>x.stays ho hd hs
  pyHash:=fun hu hk h=>Ax hu hk h
  eqBool:=fun hu hx hy h=>Ea hu hx hy _ _ _ _ h
  quiet:=fun hk h=>yV hk h
end L2
set_option Elab.async false
namespace L2
open PySem PySem.Spec PyProof.Rows
abbrev Key:=Sum Int Str
def EK:Key→Value→Bool
  | .inl k,v=>Value.isInt k v
  | .inr x,v=>Value.isStrOf x v
def Hu (w:World):Key→Int
  | .inl k=>hashInt k
  | .inr x=>hashStr w x
theorem dC:∀{k:Key}{v:Value},EK k v=true→(∃i t,k=Sum.inl i∧v=Value.int i t)∨(∃x t,k=Sum.inr x∧v=Value.str x t)
  | .inl i,v,h=>by
    obtain ⟨t,e⟩:=Value.isInt_shape (k:=i) (v:=v) h
    exact .inl ⟨i,t,rfl,e⟩
  | .inr x,v,h=>by
    obtain ⟨t,e⟩:=Value.isStrOf_shape (x:=x) (v:=v) h
    exact .inr ⟨x,t,rfl,e⟩
theorem FL (a b:Int):decide ((Sum.inl a:Key)=Sum.inl b)=(a == b):=by
  by_cases e:a=b
  · subst e;simp
  · have h:¬ (Sum.inl a:Key)=Sum.inl b:=fun q=>e (Sum.inl.inj q)
    rw[decide_eq_false h]
    exact (beq_eq_false_iff_ne.mpr e).symm
theorem F4 (a b:Str):decide ((Sum.inr a:Key)=Sum.inr b)=decide (a=b):=by
  by_cases e:a=b
  · subst e;simp
  · have h:¬ (Sum.inr a:Key)=Sum.inr b:=fun q=>e (Sum.inr.inj q)
    rw[decide_eq_false h,decide_eq_false e]
theorem Gs (a:Int) (b:Str):decide ((Sum.inl a:Key)=Sum.inr b)=false:=decide_eq_false (fun q=>nomatch q)
theorem Fw (a:Str) (b:Int):decide ((Sum.inr a:Key)=Sum.inl b)=false:=decide_eq_false (fun q=>nomatch q)
def zQ (prog:Program) (w:World):PySem.KeyKind prog w Key where
  is:=EK
  hash:=Hu w
  inj:=fun v a b ha hb=>by
    rcases dC ha with ⟨i,t,rfl,rfl⟩ | ⟨x,t,rfl,rfl⟩
    · rcases dC hb with ⟨j,u,rfl,e⟩ | ⟨y,u,rfl,e⟩
      · injection e with e1 _;rw[e1]
      · exact nomatch e
    · rcases dC hb with ⟨j,u,rfl,e⟩ | ⟨y,u,rfl,e⟩
      · exact nomatch e
      · injection e with e1 _;rw[e1]
  byValue:=fun k v h=>by
    rcases dC h with ⟨i,t,rfl,rfl⟩ | ⟨x,t,rfl,rfl⟩<;>rfl
  pyHash:=fun hv h=>by
    rcases dC hv with ⟨i,t,rfl,rfl⟩ | ⟨x,t,rfl,rfl⟩
    · exact wpAny_pyHash_int h
    · exact wpAny_pyHash_str h
  eqBool:=fun hu hv h=>by
    rcases dC hu with ⟨i,t,rfl,rfl⟩ | ⟨x,t,rfl,rfl⟩
    · rcases dC hv with ⟨j,u,rfl,rfl⟩ | ⟨y,u,rfl,rfl⟩
      · rw[FL] at h;exact wpAny_eqBool_int h
      · rw[Gs] at h;exact SeqAt.EqAt.int_str i t y u _ _ _ _ h
    · rcases dC hv with ⟨j,u,rfl,rfl⟩ | ⟨y,u,rfl,rfl⟩
      · rw[Fw] at h;exact SeqAt.EqAt.str_int x t j u _ _ _ _ h
      · rw[F4] at h;exact wpAny_eqBool_str h
  «strs»:=fun k x t v h=>by
    rcases dC h with ⟨i,u,rfl,e⟩ | ⟨y,u,rfl,e⟩
    · exact nomatch e
    · injection e with e1 _
      subst e1
      cases v<;>rfl
end L2
namespace L2
open PySem PySem.Spec PyProof.Rows
inductive V where
  | non | bl (b:Bool) | int (i:Int) | str (x:Str) | byt (b:Array UInt8) | flt (b:UInt64) | ref (a:Addr) | ty (n:String)
  deriving DecidableEq
def RelV:V→Value→Prop
  | .non,u=>u=Value.none
  | .bl b,u=>u=Value.bool b
  | .int i,u=>∃t,u=Value.int i t
  | .str x,u=>∃t,u=Value.str x t
  | .byt b,u=>∃t,u=Value.bytes b t
  | .flt b,u=>∃t,u=Value.float b t
  | .ref a,u=>u=Value.ref a
  | .ty n,u=>u=Value.type n
abbrev Vals:List V→List Value→Prop:=Paired RelV
theorem Vals.length {xs:List V}{us:List Value} (r:Vals xs us):xs.length=us.length:=Paired.length r
theorem Vals.get:∀{xs:List V}{us:List Value}{i:Nat}{x:V},Vals xs us→xs[i]?=some x→∃u,us[i]?=some u∧RelV x u
  | _,_,_,_,.nil,e=>by simp at e
  | _,_,0,_,.cons r _,e=>by simp at e;subst e;exact⟨_,rfl,r⟩
  | _,_,i+1,x,.cons _ t,e=>by
    obtain ⟨u,h1,h2⟩:=Vals.get (i:=i) (x:=x) t (by simpa using e)
    exact⟨u,by simpa using h1,h2⟩
theorem Vals.set {x:V}{u:Value} (r:RelV x u):∀{xs:List V}{us:List Value} (i:Nat),Vals xs us→Vals (xs.set i x) (us.set i u)
  | _,_,_,.nil=>.nil
  | _,_,0,.cons _ t=>.cons r t
  | _,_,i+1,.cons q t=>.cons q (Vals.set r i t)
theorem Vals.append:∀{xs ys:List V}{us ws:List Value},Vals xs us→Vals ys ws→Vals (xs++ys) (us++ws)
  | _,_,_,_,.nil,s=>s
  | _,_,_,_,.cons r t,s=>.cons r (Vals.append t s)
theorem Vals.take:∀{xs:List V}{us:List Value} (n:Nat),Vals xs us→Vals (xs.take n) (us.take n)
  | _,_,0,_=>.nil
  | _,_,_+1,.nil=>.nil
  | _,_,n+1,.cons r t=>.cons r (Vals.take n t)
theorem Vals.drop:∀{xs:List V}{us:List Value} (n:Nat),Vals xs us→Vals (xs.drop n) (us.drop n)
  | _,_,0,r=>r
  | _,_,_+1,.nil=>.nil
  | _,_,n+1,.cons _ t=>Vals.drop n t
def tU:Option V→Option Value→Prop
  | some v,some u=>RelV v u
  | none,none=>True
  | _,_=>False
def KV {κ:Type}:List (κ × V)→List (κ × Value)→Prop:=Paired fun (p:κ × V) (q:κ × Value)=>p.1=q.1∧RelV p.2 q.2
def kV:Key→V
  | .inl i=>.int i
  | .inr x=>.str x
inductive HO where
    | lst (xs:List V)
    | tup (xs:List V)
    | dK (kvs:List (Key × V)) | dT (kvs:List (List Key × V))
    | set (S:Int→Bool) (n:Nat)
    | ins (C dx:Addr) (fs:List (Str × V))
    | own (x:Addr)
    | xd (fs:List (Str × V))
    | met (f x:Addr)
    | rng (lo hi:Int)
    | frz (o:Obj) (u:HO)
    | tbl (ps:Array Value)
    | ext (φ:Heap→Prop)
  | memo (φ:Int→List Int→Int→Prop) (ks:List qj)
abbrev Hp:=Addr→Option HO
def upd (H:Hp) (a:Addr) (o:HO):Hp:=fun b=>if b=a then some o else H b
theorem aP {H:Hp}{a:Addr}{o:HO}:upd H a o a=some o:=by unfold upd;rw[if_pos rfl]
theorem bf {H:Hp}{a b:Addr}{o:HO} (h:b≠a):upd H a o b=H b:=by unfold upd;rw[if_neg h]
theorem cI {H:Hp}{a b:Addr}{o:HO} (h:H a=some o) (h':H b=none):a≠b:=by
  intro e;subst e;rw[h] at h';cases h'
def HA (k:qj):Bool:=decide (0≤k.1) && decide (k.1<8) && decide (k.2.length≤5) && k.2.all fun e=>decide (0≤e) && decide (e<7)
def Gq (H:Hp) (φ:Int→List Int→Int→Prop) (x:qj × Addr × Value):Prop:=∃b n t,H x.2.1=some (.tup [.int x.1.1,.ref b])∧H b=some (.tup (x.1.2.map V.int))∧x.2.2=.int n t∧φ x.1.1 x.1.2 n∧HA x.1=true
section
variable (P:Program) (w:World)
def fO (H:Hp) (h:Heap) (a:Addr):HO→Prop
  | .lst xs=>xs.length≤sizeLine∧∃(its:List Value) (n:Nat),Vals xs its∧h.get? a=some { cls:=.type "list",data:=.seq its.toArray n }
  | .tup xs=>xs.length≤sizeLine∧∃its:List Value,Vals xs its∧IsTup h a its.toArray
  | .dK kvs=>kvs.length≤sizeLine∧(a == sysModules)=false∧∃vs,KV kvs vs∧h.DictOf (zQ P w) a vs
  | .dT kvs=>kvs.length≤sizeLine∧(a == sysModules)=false∧∃xs:List (List Key × Addr × Value),
      Paired (fun (p:List Key × V) (q:List Key × Addr × Value)=>p.1=q.1∧H q.2.1=some (.tup (p.1.map kV))∧RelV p.2 q.2.2) kvs xs ∧
      ∃o es ep,h.get? a=some o∧o.ExactDict∧o.data=.dict es ep∧es.toList=xs.map (entryOfKey (tupleKind (zQ P w)))∧(xs.map (·.1)).Nodup
  | .set S n=>h.SetOf (intKind P w) a S n
  | .ins C dx fs=>H dx=some (.own a)∧fs.length≤1000∧dx≠a∧h.get? a=some (PySem.W.instObj C dx) ∧
      ∃mA,h.Ns1 dx mA∧(∀f,tU (fs.lookup f) (mA f))∧PySem.Within mA (fs.map (·.1))
  | .own _=>∃o,h.get? a=some o
  | .xd fs=>∃mA,h.Ns1 a mA∧∀f,tU (fs.lookup f) (mA f)
  | .rng lo hi=>∃t u v,h.get? a=some { cls:=.type "range",data:=.fields #[.int lo t,.int hi u,.int 1 v] }
  | .frz o u=>h.get? a=some o∧fO H h a u
  | .tbl ps=>h.get? a=some { cls:=.none,data:=.fields ps }
  | .met f x=>h.get? a=some (PySem.W.methodObj (.ref f) (.ref x))
  | .memo φ ks=>(a == sysModules)=false∧∃xs:List (qj × Addr × Value),(∀x∈xs,Gq H φ x)∧(∀k∈ks,k∈xs.map (·.1)) ∧
      ∃o es ep,h.get? a=some o∧o.ExactDict∧o.data=.dict es ep∧es.toList=xs.map (entryOfKey (Cg P w))∧(xs.map (·.1)).Nodup
  | .ext φ=>φ h∧(∃o,h.get? a=some o)∧∀h1 h2:Heap,φ h1→(∀o,h1.get? a=some o→h2.get? a=some o)→φ h2
def HOk (H:Hp) (h:Heap):Prop:=∀a o,H a=some o→fO P w H h a o
end
section
variable {P:Program}{w:World}{H H':Hp}{h h':Heap}{a:Addr}{o:HO}
theorem fO.lt (x:fO P w H h a o):a<h.objs.size:=by
  cases o with
  | lst xs=>obtain ⟨_,_,_,_,e⟩:=x;exact Heap.lt_size e
  | tup xs=>obtain ⟨_,_,_,p⟩:=x;exact p.lt
  | dK kvs=>obtain ⟨_,_,_,_,o,_,_,e,_⟩:=x;exact Heap.lt_size e
  | dT kvs=>obtain ⟨_,_,_,_,o,_,_,e,_⟩:=x;exact Heap.lt_size e
  | set S n=>obtain ⟨o,_,_,_,e,_⟩:=x;exact Heap.lt_size e
  | ins C dx fs=>obtain ⟨_,_,_,e,_⟩:=x;exact Heap.lt_size e
  | own y=>obtain ⟨_,e⟩:=x;exact Heap.lt_size e
  | xd fs=>obtain ⟨_,⟨_,_,_,e,_⟩,_⟩:=x;exact Heap.lt_size e
  | rng lo hi=>obtain ⟨_,_,_,e⟩:=x;exact Heap.lt_size e
  | frz ob u=>obtain ⟨e,_⟩:=x;exact Heap.lt_size e
  | tbl ps=>exact Heap.lt_size (show h.get? a=some _ from x)
  | met f y=>exact Heap.lt_size (show h.get? a=some _ from x)
  | ext φ=>obtain ⟨_,⟨_,e⟩,_⟩:=x;exact Heap.lt_size e
  | memo φ ks=>obtain ⟨_,_,_,_,_,_,_,e,_⟩:=x;exact Heap.lt_size e
theorem Paired.G8 {α β:Type}{F G:α→β→Prop}:∀{l₁:List α}{l₂:List β},Paired F l₁ l₂→(∀a b,F a b→G a b)→Paired G l₁ l₂
  | _,_,.nil,_=>.nil
  | _,_,.cons r t,f=>.cons (f _ _ r) (Paired.G8 t f)
theorem fO.tL (x:fO P w H h a o) (k:∀b u,(b=a∨H b=some (.own a))→h.get? b=some u→h'.get? b=some u)
    (ho:∀b,H b=some (.own a)→H' b=some (.own a)) (ht:∀b xs,H b=some (.tup xs)→H' b=some (.tup xs)):fO P w H' h' a o:=by
  induction o with
  | lst xs=>obtain ⟨z,its,n,r,e⟩:=x;exact⟨z,its,n,r,k _ _ (.inl rfl) e⟩
  | tup xs=>obtain ⟨z,its,r,ob,e,c⟩:=x;exact⟨z,its,r,ob,k _ _ (.inl rfl) e,c⟩
  | dK kvs=>obtain ⟨z,y,vs,r,ob,es,ep,e,c⟩:=x;exact⟨z,y,vs,r,ob,es,ep,k _ _ (.inl rfl) e,c⟩
  | dT kvs =>
    obtain ⟨z,y,xs,r,ob,es,ep,e,c⟩:=x
    exact⟨z,y,xs,Paired.G8 r fun p q z=>⟨z.1,ht _ _ z.2.1,z.2.2⟩,ob,es,ep,k _ _ (.inl rfl) e,c⟩
  | set S n=>obtain ⟨ob,es,ep,t,e,c⟩:=x;exact⟨ob,es,ep,t,k _ _ (.inl rfl) e,c⟩
  | ins C dx fs =>
    obtain ⟨d,z,ne,e,mA,⟨od,es,ep,e2,c⟩,r⟩:=x
    exact⟨ho _ d,z,ne,k _ _ (.inl rfl) e,mA,⟨od,es,ep,k _ _ (.inr d) e2,c⟩,r⟩
  | own y=>obtain ⟨ob,e⟩:=x;exact⟨ob,k _ _ (.inl rfl) e⟩
  | xd fs=>obtain ⟨mA,⟨od,es,ep,e,c⟩,r⟩:=x;exact⟨mA,⟨od,es,ep,k _ _ (.inl rfl) e,c⟩,r⟩
  | rng lo hi=>obtain ⟨t,u,v,e⟩:=x;exact⟨t,u,v,k _ _ (.inl rfl) e⟩
  | frz ob u ih=>obtain ⟨e,q⟩:=x;exact⟨k _ _ (.inl rfl) e,ih q⟩
  | tbl ps =>
    have e:h.get? a=some { cls:=.none,data:=.fields ps }:=x
    show h'.get? a=some { cls:=.none,data:=.fields ps }
    exact k a _ (.inl rfl) e
  | met f y =>
    have e:h.get? a=some (PySem.W.methodObj (.ref f) (.ref y)):=x
    show h'.get? a=some (PySem.W.methodObj (.ref f) (.ref y))
    exact k a _ (.inl rfl) e
  | memo φ ks =>
    obtain ⟨y,xs,hx,hk,ob,es,ep,e,c⟩:=x
    exact⟨y,xs,fun z hz=>let ⟨b,n,t,q1,q2,q3⟩:=hx z hz;⟨b,n,t,ht _ _ q1,ht _ _ q2,q3⟩,hk,ob,es,ep,k _ _ (.inl rfl) e,c⟩
  | ext φ=>obtain ⟨p,⟨o,e⟩,st⟩:=x;exact⟨st _ _ p fun o q=>k _ _ (.inl rfl) q,⟨o,k _ _ (.inl rfl) e⟩,st⟩
theorem HOk.lt (x:HOk P w H h) (e:H a=some o):a<h.objs.size:=(x a o e).lt
theorem HOk.fresh (x:HOk P w H h) (e:h.objs.size≤a):H a=none:=by
  cases q:H a with
  | none=>rfl
  | some u=>exact absurd (Nat.lt_of_lt_of_le (x.lt q) e) (Nat.lt_irrefl _)
theorem HOk.kept (x:HOk P w H h) (k:∀b u,h.get? b=some u→h'.get? b=some u):HOk P w H h':=fun a o e =>
  (x a o e).tL (fun b u _ q=>k b u q) (fun _ q=>q) fun _ _ q=>q
theorem HOk.laid (x:HOk P w H h) (k:∀b u,h.get? b=some u→h'.get? b=some u) (hp:h.objs.size≤a) (new:fO P w (upd H a o) h' a o):HOk P w (upd H a o) h':=fun b u e=>by
  have hn:=x.fresh hp
  by_cases hb:b=a
  · subst hb;rw[aP] at e;cases e;exact new
  · rw[bf hb] at e
    exact (x b u e).tL (fun c v _ q=>k c v q) (fun c q=>by rw[bf (cI q hn)];exact q) fun c xs q=>by rw[bf (cI q hn)];exact q
end
def Rd (H:Hp) (a:Addr) (u:HO):Prop:=H a=some u∨∃o,H a=some (.frz o u)
theorem Rd.ok {P:Program}{w:World}{H:Hp}{h:Heap}{a:Addr}{u:HO} (r:Rd H a u) (x:HOk P w H h):fO P w H h a u:=by
  rcases r with r | ⟨o,r⟩
  · exact x a u r
  · obtain ⟨_,q⟩:=x a _ r
    exact q
def Mut:Option HO→Prop
  | some (.lst _)=>True
  | some (.dK _)=>True
  | some (.dT _)=>True
  | some (.set _ _)=>True
  | some (.ins _ _ _)=>True
  | some (.ext _)=>True
  | some (.memo _ _)=>True
  | _=>False
section
variable {P:Program}{w:World}{H:Hp}{h h':Heap}{x e:Addr}{o':HO}
theorem HOk.write (ok:HOk P w H h) (mu:Mut (H x)) (he:e=x∨H e=some (.own x)) (k:∀b u,b≠e→h.get? b=some u→h'.get? b=some u) (heo:∃u,h'.get? e=some u)
    (new:fO P w (upd H x o') h' x o'):HOk P w (upd H x o') h':=fun b u q=>by
  have nown:∀c y,H c=some (.own y)→c≠x:=fun c y r z=>by subst z;rw[r] at mu;exact mu
  have ntup:∀c xs,H c=some (.tup xs)→c≠x:=fun c xs r z=>by subst z;rw[r] at mu;exact mu
  by_cases hb:b=x
  · subst hb;rw[aP] at q;cases q;exact new
  · rw[bf hb] at q
    by_cases hbe:b=e
    · have q':H b=some (.own x):=by
        rcases he with z | z
        · exact absurd (hbe.trans z) hb
        · rw[hbe];exact z
      rw[q] at q';cases q'
      obtain ⟨v,hv⟩:=heo
      exact⟨v,by rw[hbe];exact hv⟩
    · refine (ok b u q).tL (fun c v hc r=>k c v ?_ r) (fun c r=>by rw[bf (nown c b r)];exact r) fun c xs r=>by rw[bf (ntup c xs r)];exact r
      rcases hc with rfl | hc
      · exact hbe
      · rintro rfl
        rcases he with z | z
        · exact nown c b hc z
        · rw[hc] at z;cases z;exact hb rfl
end
structure Un (fs ex:List Addr) (H H':Hp) (h h':Heap):Prop where
  keep:∀b o,h.get? b=some o→H b=none→b∉fs→b∉ex→h'.get? b=some o
  slot:∀b o,h.get? b=some o→H b=none→b∈fs→b∉ex→∃sl,h'.get? b=some { o with slots:=sl }
  free:∀b o,h.get? b=some o→H b=none→b∉ex→H' b=none
  there:∀b o,h.get? b=some o→b∉ex→∃o',h'.get? b=some o'
  tups:∀b xs,H b=some (.tup xs)→H' b=some (.tup xs)
  frzs:∀b o u,H b=some (.frz o u)→H' b=some (.frz o u)
  tbls:∀b ps,H b=some (.tbl ps)→∃more,H' b=some (.tbl (ps++more))
section
variable {fs fs' ex ex':List Addr}{H H1 H2:Hp}{h h1 h2 h':Heap}{a x e:Addr}{o:HO}
theorem Un.any (u:Un fs ex H H1 h h1) {b:Addr}{ob:Obj} (q:h.get? b=some ob) (n:H b=none) (hx:b∉ex):∃sl,h1.get? b=some { ob with slots:=sl }:=by
  by_cases hb:b∈fs
  · exact u.slot b ob q n hb hx
  · exact⟨ob.slots,u.keep b ob q n hb hx⟩
theorem Un.kept (k:∀b u,h.get? b=some u→h'.get? b=some u):Un fs ex H H h h' :=
  ⟨fun b ob q _ _ _=>k b ob q,fun b ob q _ _ _=>⟨ob.slots,k b ob q⟩,fun _ _ _ n _=>n,fun b ob q _=>⟨ob,k b ob q⟩,fun _ _ q=>q,fun _ _ _ q=>q,fun _ ps q=>⟨#[],by rw[q];simp⟩⟩
theorem Un.refl:Un fs ex H H h h:=Un.kept fun _ _ q=>q
theorem Un.laid (k:∀b u,h.get? b=some u→h'.get? b=some u) (hp:h.objs.size≤a) (hn:H a=none):Un fs ex H (upd H a o) h h' where
  keep:=fun b u q _ _ _=>k b u q
  slot:=fun b u q _ _ _=>⟨u.slots,k b u q⟩
  free:=fun b u q n _=>by rw[bf (Nat.ne_of_lt (Nat.lt_of_lt_of_le (Heap.lt_size q) hp))];exact n
  there:=fun b u q _=>⟨u,k b u q⟩
  tups:=fun b xs q=>by rw[bf (cI q hn)];exact q
  frzs:=fun b u xs q=>by rw[bf (cI q hn)];exact q
  tbls:=fun b ps q=>⟨#[],by rw[bf (cI q hn),q];simp⟩
theorem Un.write (mu:Mut (H x)) (he:e=x∨H e=some (.own x)) (k:∀b u,b≠e→h.get? b=some u→h'.get? b=some u) (heo:∃u,h'.get? e=some u):Un fs ex H (upd H x o) h h':=by
  have hx:∀b,H b=none→b≠x:=fun b n z=>by subst z;rw[n] at mu;exact mu
  have hb:∀b,H b=none→b≠e:=fun b n z=>by
    subst z
    rcases he with r | r
    · exact hx b n r
    · rw[n] at r;cases r
  have hm:∀b u,H b=some u→¬ Mut (some u)→b≠x:=fun b u q nm z=>by subst z;rw[q] at mu;exact nm mu
  refine⟨fun b u q n _ _=>k b u (hb b n) q,fun b u q n _ _=>⟨u.slots,k b u (hb b n) q⟩,fun b u q n _=>by rw[bf (hx b n)];exact n,fun b u q _=>?_,
    fun b xs q=>by rw[bf (hm b _ q fun z=>z)];exact q,fun b u xs q=>by rw[bf (hm b _ q fun z=>z)];exact q,fun b ps q=>⟨#[],by rw[bf (hm b _ q fun z=>z),q];simp⟩⟩
  by_cases hbe:b=e
  · subst hbe;exact heo
  · exact⟨u,k b u hbe q⟩
end
def trk (h:Heap) (H:Hp):List Addr:=(List.range h.objs.size).filter fun a=>(H a).isSome
def wC (h:Heap) (H:Hp):Heap:=PySem.W.hideAll h (trk h H)
theorem A7 (h:Heap) (H:Hp):(wC h H).objs.size=h.objs.size:=PySem.W.hideAll_size _ _
theorem Bl {h:Heap}{H:Hp}{b:Addr}{o:Obj} (e:h.get? b=some o) (n:H b=none):(wC h H).get? b=some o :=
  PySem.W.hideAll_get _ e fun hm=>by
    have q:(H b).isSome=true:=(List.mem_filter.mp hm).2
    rw[n] at q;simp at q
theorem Ej {h:Heap}{H:Hp}{b:Addr}{o:Obj} (e:(wC h H).get? b=some o):h.get? b=some o∧H b=none:=by
  have e':h.get? b=some o:=PySem.W.of_hideAll (trk h H) e
  refine⟨e',?_⟩
  cases q:H b with
  | none=>rfl
  | some x =>
    have hm:b∈trk h H:=List.mem_filter.mpr ⟨List.mem_range.mpr (Heap.lt_size e'),by simp [q]⟩
    have z:(wC h H).get? b=none:=PySem.W.hideAll_none (trk h H) hm
    rw[z] at e;cases e
end L2
namespace L2
open PySem PySem.Spec PyProof.Rows
structure Mod (K:PySem.W.Frag) (mg:Str→Option Value) (base:Heap):Prop where
  kin:K.In base
  glob:base.Ns mainGlobals mg
  blt:∃mb,base.Ns builtinsNs mb∧∀x:Str,x≠"__name__"→mb x=bootBuiltins x
  nolimit:base.NoLimit
structure Cx where
  prog:Program
  w:World
  K:PySem.W.Frag
  mg:Str→Option Value
  base:Heap
  A:Around
  N:List Str
  s₀:Shared
  H₀:Hp
  env:Env
  outer:List Env
  stack:List Env
  ex:List Addr
  fn:Str→Bool
  calm:Bool
  pn:List (Addr × Obj)
  xe:Value→Shared→Prop
def frs (l:List Env):List Addr:=l.filterMap (·.frame)
abbrev Cx.fs (X:Cx):List Addr:=frs X.outer
def Vis (sc:Scope) (x:Str):Prop:=sc.names.lookup x=some .local∨sc.names.lookup x=some .cell∨sc.names.lookup x=some .free
def Loc (sc:Scope) (x:Str):Prop:=sc.names.lookup x=some .local∨sc.names.lookup x=some .cell
def Look (env:Env) (h:Heap) (m:Str→Option Value) (x:Str) (u:Value):Prop :=
  (env.kindOf x=some .local∧m x=some u)∨((env.kindOf x=some .cell∨env.kindOf x=some .free)∧∃c,env.cells.lookup x=some c∧h.IsCell c (some u))
structure Cx.Ok (X:Cx):Prop where
  mod:Mod X.K X.mg X.base
  kind:X.env.scope.kind=.function
  glob:X.env.globals=mainGlobals
  blt:X.env.builtins=builtinsNs
  above:X.s₀.heap.objs.size≤X.env.locals
  inj:∀x y c,X.env.cells.lookup x=some c→X.env.cells.lookup y=some c→x=y
  has:∀x,(X.env.kindOf x=some .cell∨X.env.kindOf x=some .free)→∃c,X.env.cells.lookup x=some c
  cab:∀x c,X.fn x=true→X.env.cells.lookup x=some c→X.s₀.heap.objs.size≤c
  hd:X.calm=true→X.A.handled=none
  frames:X.A.frames=some X.stack
  stk:X.stack=X.outer∨(X.stack=X.env::X.outer∧X.env.frame=some X.env.locals)
  exf:∀b∈X.ex,b≠X.env.locals∧∀x c,X.env.cells.lookup x=some c→c≠b
  bs:∀b o,X.base.get? b=some o→X.s₀.heap.get? b=some o∧X.H₀ b=none
  bsz:X.base.objs.size≤X.s₀.heap.objs.size
  noex:∀b o,X.base.get? b=some o→b∉X.ex
  exfs:∀b∈X.ex,b∉X.fs
  pJ:X.s₀.heap.FunFrames X.base X.outer
  frf:∀b∈X.fs,X.H₀ b=none
structure Inv (X:Cx) (pins:List (Addr × Obj)) (σ:List (Option V)) (H:Hp) (s:Shared):Prop where
  ok:X.Ok
  os:s.os=X.s₀.os
  bare:AllBare s.gens
  base:Un X.fs X.ex X.H₀ H X.s₀.heap s.heap
  loc:∃m,s.heap.Ns X.env.locals m∧∀(i:Nat) (x:Str) (v:V),X.N[i]?=some x→σ[i]?=some (some v)→Vis X.env.scope x→∃u,RelV v u∧Look X.env s.heap m x u
  cell:∀x c,X.env.cells.lookup x=some c→∃v,s.heap.IsCell c v
  free:H X.env.locals=none
  freeC:∀x c,X.env.cells.lookup x=some c→H c=none
  pin:∀p∈X.pn++pins,s.heap.get? p.1=some p.2∧H p.1=none∧p.1≠X.env.locals∧p.1∉X.fs∧∀v,p.2.data≠.cell v
  hok:HOk X.prog X.w H s.heap
  len:σ.length=X.N.length
section
variable {X:Cx}{pins:List (Addr × Obj)}{σ:List (Option V)}{H H':Hp}{s:Shared}{h':Heap}
theorem Cx.Ok.Hv (ok:X.Ok) {b:Addr}{o:Obj} (e:X.base.get? b=some o):b∉X.fs:=fun hb=>by
  have:=(ok.pJ.mem hb).1
  rw[e] at this;cases this
theorem Inv.bs (I:Inv X pins σ H s):∀b o,X.base.get? b=some o→s.heap.get? b=some o∧H b=none:=fun b o e =>
  ⟨I.base.keep b o (I.ok.bs b o e).1 (I.ok.bs b o e).2 (I.ok.Hv e) (I.ok.noex b o e),I.base.free b o (I.ok.bs b o e).1 (I.ok.bs b o e).2 (I.ok.noex b o e)⟩
theorem Inv.bk (I:Inv X pins σ H s):∀b o,X.base.get? b=some o→s.heap.get? b=some o:=fun b o e=>(I.bs b o e).1
theorem Inv.mod (I:Inv X pins σ H s):Mod X.K X.mg X.base:=I.ok.mod
theorem Inv.kIn (I:Inv X pins σ H s):X.K.In s.heap:=I.ok.mod.kin.keeps I.bk
theorem Inv.lt (I:Inv X pins σ H s):X.env.locals<s.heap.objs.size:=let ⟨_,hn,_⟩:=I.loc;hn.lt
theorem Inv.sz (I:Inv X pins σ H s):X.s₀.heap.objs.size≤s.heap.objs.size:=Nat.le_trans I.ok.above (Nat.le_of_lt I.lt)
theorem Inv.Hh (I:Inv X pins σ H s) {a:Addr} (h:s.heap.objs.size≤a):a∉X.fs:=fun hb=>by
  obtain ⟨_,o,ho,_⟩:=I.ok.pJ.mem hb
  exact absurd (Nat.lt_of_lt_of_le (Heap.lt_size ho) (Nat.le_trans I.sz h)) (Nat.lt_irrefl _)
theorem Inv.cne (I:Inv X pins σ H s):∀x c,X.env.cells.lookup x=some c→c≠X.env.locals:=fun x c e z=>by
  obtain ⟨v,o,ho,hd⟩:=I.cell x c e
  obtain ⟨m,⟨o',es,ep,ho',hd',_⟩,_⟩:=I.loc
  rw[z,ho'] at ho;cases ho;rw[hd'] at hd;cases hd
theorem Inv.pJ (I:Inv X pins σ H s):s.heap.FunFrames X.base X.outer:=by
  have all:∀(l:List Env),(∀b∈frs l,b∈X.fs)→X.s₀.heap.FunFrames X.base l→s.heap.FunFrames X.base l:=by
    intro l
    induction l with
    | nil=>intro _ _;trivial
    | cons env r ih =>
      intro hs hl
      obtain ⟨hk,⟨L,o,hf,hn,ho,hd⟩,hr⟩:=hl
      have hL:L∈X.fs:=hs L (by unfold frs;rw[List.filterMap_cons,hf];exact List.mem_cons_self)
      obtain ⟨sl,e⟩:=I.base.slot L o ho (I.ok.frf L hL) hL fun z=>I.ok.exfs L z hL
      exact⟨hk,⟨L,_,hf,hn,e,hd⟩,ih (fun b hb=>hs b (by unfold frs;rw[List.filterMap_cons,hf];exact List.mem_cons_of_mem _ hb)) hr⟩
  exact all X.outer (fun _ hb=>hb) I.ok.pJ
theorem Inv.stack (I:Inv X pins σ H s):s.heap.FunFrames X.base X.stack:=by
  rcases I.ok.stk with e | ⟨e,hf⟩
  · rw[e];exact I.pJ
  · rw[e]
    obtain ⟨m,hn,_⟩:=I.loc
    refine .cons (by rw[I.ok.kind];decide) hf hn ?_ I.pJ
    exact Heap.get?_none_of_le (Nat.le_trans I.ok.bsz I.ok.above)
theorem Inv.ra (I:Inv X pins σ H s):∀b∈frs X.stack,b∈X.env.locals::X.fs:=fun b hb=>by
  rcases I.ok.stk with e | ⟨e,hf⟩
  · rw[e] at hb;exact List.mem_cons_of_mem _ hb
  · rw[e] at hb
    unfold frs at hb
    rw[List.filterMap_cons,hf] at hb
    exact hb
theorem Inv.qZ (I:Inv X pins σ H s):∀b∈frs X.stack,H b=none:=fun b hb=>by
  rcases List.mem_cons.mp (I.ra b hb) with e | hb
  · rw[e];exact I.free
  · obtain ⟨_,o,ho,_⟩:=I.ok.pJ.mem hb
    exact I.base.free b o ho (I.ok.frf b hb) fun z=>I.ok.exfs b z hb
theorem Inv.step {g':Array GenState}{t':Nat}{d':Drawn}{ch:List Addr} (I:Inv X pins σ H s)
    (hch:∀b∈ch,(b∈X.ex∨X.s₀.heap.objs.size≤b)∧b≠X.env.locals∧(∀x c,X.env.cells.lookup x=some c→c≠b)∧∀p∈X.pn++pins,p.1≠b)
    (keep:∀b o,b≠X.env.locals→b∉X.fs→b∉ch→s.heap.get? b=some o→H b=none→h'.get? b=some o)
    (slot:∀b o,b≠X.env.locals→b∈X.fs→b∉ch→s.heap.get? b=some o→H b=none→∃sl,h'.get? b=some { o with slots:=sl }) (free:∀b o,b∉ch→s.heap.get? b=some o→H b=none→H' b=none)
    (there:∀b o,b∉ch→s.heap.get? b=some o→∃o',h'.get? b=some o')
    (tups:∀b xs,H b=some (.tup xs)→H' b=some (.tup xs)) (frzs:∀b o u,H b=some (.frz o u)→H' b=some (.frz o u)) (tbls:∀b ps,H b=some (.tbl ps)→∃more,H' b=some (.tbl (ps++more)))
    (ns:∀m,s.heap.Ns X.env.locals m→h'.Ns X.env.locals m) (hok:HOk X.prog X.w H' h') (hg:AllBare g') :
    Inv X pins σ H' { s with heap:=h',gens:=g',drawn:=d',toks:=t' }:=by
  have neL:∀b o,X.s₀.heap.get? b=some o→b≠X.env.locals:=fun b o e=>Nat.ne_of_lt (Nat.lt_of_lt_of_le (Heap.lt_size e) I.ok.above)
  have neC:∀b o,X.s₀.heap.get? b=some o→b∉X.ex→b∉ch:=fun b o e hx hb=>by
    rcases (hch b hb).1 with z | z
    · exact hx z
    · exact absurd (Nat.lt_of_lt_of_le (Heap.lt_size e) z) (Nat.lt_irrefl _)
  have cellK:∀x c,X.env.cells.lookup x=some c→∀v,s.heap.IsCell c v→h'.IsCell c v:=fun x c e v ⟨o,ho,hd⟩=>by
    have nch:c∉ch:=fun z=>(hch c z).2.2.1 x c e rfl
    by_cases hc:c∈X.fs
    · obtain ⟨sl,q⟩:=slot c o (I.cne x c e) hc nch ho (I.freeC x c e)
      exact⟨_,q,hd⟩
    · exact⟨o,keep c o (I.cne x c e) hc nch ho (I.freeC x c e),hd⟩
  refine⟨I.ok,I.os,hg,⟨fun b o e n hb hx=>?_,fun b o e n hb hx=>?_,fun b o e n hx=>?_,fun b o e hx=>?_,fun b xs e=>tups b xs (I.base.tups b xs e),fun b o xs e=>frzs b o xs (I.base.frzs b o xs e),fun b ps e=>?_⟩,?_,fun x c e=>?_,?_,fun x c e=>?_,fun p hp=>?_,hok,I.len⟩
  · exact keep b o (neL b o e) hb (neC b o e hx) (I.base.keep b o e n hb hx) (I.base.free b o e n hx)
  · obtain ⟨sl,e1⟩:=I.base.slot b o e n hb hx
    obtain ⟨sl',e2⟩:=slot b _ (neL b o e) hb (neC b o e hx) e1 (I.base.free b o e n hx)
    exact⟨sl',e2⟩
  · obtain ⟨o',e1⟩:=I.base.there b o e hx
    exact free b o' (neC b o e hx) e1 (I.base.free b o e n hx)
  · obtain ⟨o',e1⟩:=I.base.there b o e hx
    exact there b o' (neC b o e hx) e1
  · obtain ⟨m1,e1⟩:=I.base.tbls b ps e
    obtain ⟨m2,e2⟩:=tbls b _ e1
    exact⟨m1++m2,by rw[e2,Array.append_assoc]⟩
  · obtain ⟨m,hn,hl⟩:=I.loc
    refine⟨m,ns m hn,fun i x v e1 e2 e3=>?_⟩
    obtain ⟨u,r,l⟩:=hl i x v e1 e2 e3
    refine⟨u,r,?_⟩
    rcases l with l | ⟨k,c,e,z⟩
    · exact .inl l
    · exact .inr ⟨k,c,e,cellK x c e _ z⟩
  · obtain ⟨v,z⟩:=I.cell x c e
    exact⟨v,cellK x c e v z⟩
  · obtain ⟨m,⟨o,_,_,ho,_⟩,_⟩:=I.loc
    exact free _ o (fun z=>(hch _ z).2.1 rfl) ho I.free
  · obtain ⟨v,o,ho,hd⟩:=I.cell x c e
    exact free c o (fun z=>(hch c z).2.2.1 x c e rfl) ho (I.freeC x c e)
  · obtain ⟨e,n,ne,nf,d⟩:=I.pin p hp
    have nch:p.1∉ch:=fun z=>(hch p.1 z).2.2.2 p hp rfl
    exact⟨keep p.1 p.2 ne nf nch e n,free p.1 p.2 nch e n,ne,nf,d⟩
theorem Inv.un {t':Nat} (I:Inv X pins σ H s) (u:Un X.fs [] H H' s.heap h') (hok:HOk X.prog X.w H' h'):Inv X pins σ H' { s with heap:=h',toks:=t' }:=by
  obtain ⟨m,⟨o,es,ep,ho,r⟩,_⟩:=id I.loc
  obtain ⟨sl,hL⟩:=u.any ho I.free (by simp)
  exact I.step (g':=s.gens) (d':=s.drawn) (ch:=[]) (fun _ z=>nomatch z) (fun b o _ hb _ e n=>u.keep b o e n hb (by simp)) (fun b o _ hb _ e n=>u.slot b o e n hb (by simp)) (fun b o _ e n=>u.free b o e n (by simp)) (fun b o _ e=>u.there b o e (by simp)) u.tups u.frzs u.tbls (fun m' hm=>by
    obtain ⟨o',es',ep',ho',r'⟩:=hm
    rw[ho] at ho';cases ho'
    exact⟨_,es',ep',hL,r'⟩) hok I.bare
theorem Inv.call {g':Array GenState}{t':Nat}{d':Drawn}{ch:List Addr} (I:Inv X pins σ H s) (u:Un (frs X.stack) ch H H' s.heap h') (hok:HOk X.prog X.w H' h') (hg:AllBare g')
    (hch:∀b∈ch,(b∈X.ex∨X.s₀.heap.objs.size≤b)∧b≠X.env.locals∧(∀x c,X.env.cells.lookup x=some c→c≠b)∧∀p∈X.pn++pins,p.1≠b) :
    Inv X pins σ H' { s with heap:=h',gens:=g',drawn:=d',toks:=t' }:=by
  obtain ⟨m,⟨o,es,ep,ho,r⟩,_⟩:=id I.loc
  obtain ⟨sl,hL⟩:=u.any ho I.free fun z=>(hch _ z).2.1 rfl
  exact I.step (ch:=ch) hch (fun b o hL hb hc e n=>u.keep b o e n (fun z=>(List.mem_cons.mp (I.ra b z)).elim hL hb) hc) (fun b o _ _ hc e n=>u.any e n hc) (fun b o hc e n=>u.free b o e n hc) (fun b o hc e=>u.there b o e hc) u.tups u.frzs u.tbls (fun m' hm=>by
    obtain ⟨o',es',ep',ho',r'⟩:=hm
    rw[ho] at ho';cases ho'
    exact⟨_,es',ep',hL,r'⟩) hok hg
theorem Inv.turned {t':Nat}{it:Addr} (I:Inv X pins σ H s) (k:∀b o,b≠it→s.heap.get? b=some o→h'.get? b=some o) (hn:H it=none) (hL:it≠X.env.locals)
    (h1:it∈X.ex∨X.s₀.heap.objs.size≤it) (h2:∀x c,X.env.cells.lookup x=some c→c≠it) (h3:∀p∈X.pn++pins,p.1≠it):Inv X pins σ H { s with heap:=h',toks:=t' }:=by
  have nit:∀b u,H b=some u→b≠it:=fun b u e z=>by rw[z,hn] at e;cases e
  refine I.step (g':=s.gens) (d':=s.drawn) (ch:=[it]) (fun b hb=>?_) (fun b o _ _ hc e _=>k b o (fun z=>hc (by simp [z])) e) (fun b o _ _ hc e _=>⟨o.slots,k b o (fun z=>hc (by simp [z])) e⟩) (fun _ _ _ _ n=>n)
    (fun b o hc e=>⟨o,k b o (fun z=>hc (by simp [z])) e⟩) (fun _ _ e=>e) (fun _ _ _ e=>e) (fun b ps e=>⟨#[],by rw[e];simp⟩) (fun m hm=>?_) (fun b u e=>?_) I.bare
  · have e:b=it:=by simpa using hb
    subst e
    exact⟨h1,hL,h2,h3⟩
  · obtain ⟨o,es,ep,ho,r⟩:=hm
    exact⟨o,es,ep,k _ o (Ne.symm hL) ho,r⟩
  · refine (I.hok b u e).tL (fun c v hc q=>k c v ?_ q) (fun _ q=>q) fun _ _ q=>q
    rcases hc with z | z
    · rw[z];exact nit b u e
    · exact nit c _ z
theorem Inv.tok (I:Inv X pins σ H s) (t:Nat):Inv X pins σ H { s with toks:=t }:=I.un (h':=s.heap) (t':=t) Un.refl I.hok
theorem Inv.kept {t':Nat} (I:Inv X pins σ H s) (k:∀b u,s.heap.get? b=some u→h'.get? b=some u):Inv X pins σ H { s with heap:=h',toks:=t' }:=I.un (Un.kept k) (I.hok.kept k)
theorem Inv.laid {a:Addr}{o:HO}{t':Nat} (I:Inv X pins σ H s) (k:∀b u,s.heap.get? b=some u→h'.get? b=some u) (hp:s.heap.objs.size≤a) (new:fO X.prog X.w (upd H a o) h' a o) :
    Inv X pins σ (upd H a o) { s with heap:=h',toks:=t' }:=I.un (Un.laid k hp (I.hok.fresh hp)) (I.hok.laid k hp new)
theorem Inv.write {x e:Addr}{o:HO}{t':Nat} (I:Inv X pins σ H s) (mu:Mut (H x)) (he:e=x∨H e=some (.own x)) (k:∀b u,b≠e→s.heap.get? b=some u→h'.get? b=some u) (heo:∃u,h'.get? e=some u)
    (new:fO X.prog X.w (upd H x o) h' x o):Inv X pins σ (upd H x o) { s with heap:=h',toks:=t' }:=I.un (Un.write mu he k heo) (I.hok.write mu he k heo new)
theorem Inv.weak {σ':List (Option V)} (I:Inv X pins σ H s) (hl:σ'.length=σ.length) (w:∀(i:Nat) v,σ'[i]?=some (some v)→σ[i]?=some (some v)):Inv X pins σ' H s :=
  ⟨I.ok,I.os,I.bare,I.base,let ⟨m,hn,hl'⟩:=I.loc;⟨m,hn,fun i x v e1 e2 e3=>hl' i x v e1 (w i v e2) e3⟩,I.cell,I.free,I.freeC,I.pin,I.hok,hl.trans I.len⟩
theorem Inv.oB {pins':List (Addr × Obj)} (I:Inv X pins σ H s) (h:∀p∈pins',s.heap.get? p.1=some p.2∧H p.1=none∧p.1≠X.env.locals∧p.1∉X.fs∧∀v,p.2.data≠.cell v):Inv X pins' σ H s :=
  ⟨I.ok,I.os,I.bare,I.base,I.loc,I.cell,I.free,I.freeC,fun p hp=>(List.mem_append.mp hp).elim (fun z=>I.pin p (List.mem_append_left _ z)) (h p),I.hok,I.len⟩
theorem xD {N:List Str} (hN:N.Nodup) {i j:Nat}{x:Str} (a:N[i]?=some x) (b:N[j]?=some x):i=j:=by
  obtain ⟨h1,e1⟩:=List.getElem?_eq_some_iff.mp a
  obtain ⟨h2,e2⟩:=List.getElem?_eq_some_iff.mp b
  exact (List.getElem_inj hN).mp (e1.trans e2.symm)
theorem vd {M:Model}{A:Around}{E:Value→Shared→Prop}{i:Nat}{x:Str}{v:V}{u:Value}{Q:Unit→Shared→Prop} (I:Inv X pins σ H s) (hN:X.N.Nodup) (hi:X.N[i]?=some x) (hx:Loc X.env.scope x) (r:RelV v u)
    (h:∀s',Inv X pins (σ.set i (some v)) H s'→(∃a,Heap.SameBut a s.heap s'.heap∧(a=X.env.locals∨X.env.cells.lookup x=some a))→Q () s') (hf:X.fn x=true∨X.env.scope.names.lookup x=some .local:=by first | exact .inl rfl | exact .inr rfl | assumption):wpAny M A (storeName X.env x u) Q E s:=by
  obtain ⟨m,hn,hl⟩:=id I.loc
  have hcls:(X.env.scope.kind == .class || (X.env.scope.kind == .module && X.env.locals != X.env.globals))=false:=by rw[I.ok.kind];rfl
  have hiσ:i<σ.length:=by rw[I.len];exact (List.getElem?_eq_some_iff.mp hi).1
  have cne:=I.cne
  have tracked:∀{a:Addr}{h':Heap},(∃o,s.heap.get? a=some o∧H a=none)→Heap.SameBut a s.heap h'→HOk X.prog X.w H h':=fun {a h'} ha hs b ob e=>by
    obtain ⟨_,_,hfree⟩:=ha
    refine (I.hok b ob e).tL (fun c w' hc q=>(hs.2 c ?_).trans q) (fun _ q=>q) fun _ _ q=>q
    rintro rfl
    rcases hc with rfl | hc
    · rw[hfree] at e;cases e
    · rw[hfree] at hc;cases hc
  rcases hx with hk | hk
  · refine wpAny_storeName_local hk hn (fun h' hn' hs=>?_) hcls
    obtain ⟨oL,_,_,hoL,_⟩:=id hn
    refine h _ ⟨I.ok,I.os,I.bare,⟨fun b o e n hb hx=>?_,fun b o e n hb hx=>?_,I.base.free,fun b o e hx=>?_,I.base.tups,I.base.frzs,I.base.tbls⟩,⟨_,hn',fun j y v' e1 e2 e3=>?_⟩,fun y c e=>?_,I.free,I.freeC,fun p hp=>?_,tracked ⟨oL,hoL,I.free⟩ hs,by simpa using I.len⟩ ⟨_,hs,.inl rfl⟩
    · exact (hs.2 b (Nat.ne_of_lt (Nat.lt_of_lt_of_le (Heap.lt_size e) I.ok.above))).trans (I.base.keep b o e n hb hx)
    · obtain ⟨sl,e1⟩:=I.base.slot b o e n hb hx
      exact⟨sl,(hs.2 b (Nat.ne_of_lt (Nat.lt_of_lt_of_le (Heap.lt_size e) I.ok.above))).trans e1⟩
    · obtain ⟨o',e1⟩:=I.base.there b o e hx
      exact⟨o',(hs.2 b (Nat.ne_of_lt (Nat.lt_of_lt_of_le (Heap.lt_size e) I.ok.above))).trans e1⟩
    · by_cases hj:j=i
      · subst hj
        rw[hi] at e1;cases e1
        rw[List.getElem?_set_self hiσ] at e2
        cases e2
        exact⟨u,r,.inl ⟨hk,by simp⟩⟩
      · rw[List.getElem?_set_ne (Ne.symm hj)] at e2
        obtain ⟨u',r',q⟩:=hl j y v' e1 e2 e3
        refine⟨u',r',?_⟩
        rcases q with ⟨k,e⟩ | ⟨k,c,e,z⟩
        · refine .inl ⟨k,?_⟩
          have:y≠x:=fun e=>hj (xD hN e1 (e▸hi))
          simp [this,e]
        · exact .inr ⟨k,c,e,z.sameBut hs (cne y c e)⟩
    · obtain ⟨w',z⟩:=I.cell y c e
      exact⟨w',z.sameBut hs (cne y c e)⟩
    · obtain ⟨e,n,ne,nf,d⟩:=I.pin p hp
      exact⟨(hs.2 p.1 ne).trans e,n,ne,nf,d⟩
  · have hfn:X.fn x=true:=by
      rcases hf with z | z
      · exact z
      · rw[z] at hk;cases hk
    obtain ⟨c,hc⟩:=I.ok.has x (.inl hk)
    obtain ⟨w',z⟩:=I.cell x c hc
    refine wpAny_storeName_cell I.ok.kind hk hc z (fun h' hc' hs=>?_)
    obtain ⟨oc,hoc,hocd⟩:=id z
    refine h { s with heap:=h' } ⟨I.ok,I.os,I.bare,⟨fun b o e n hb hx=>?_,fun b o e n hb hx=>?_,I.base.free,fun b o e hx=>?_,I.base.tups,I.base.frzs,I.base.tbls⟩,⟨m,hn.sameBut hs (Ne.symm (cne x c hc)),fun j y v' e1 e2 e3=>?_⟩,fun y c' e=>?_,I.free,I.freeC,fun p hp=>?_,tracked ⟨oc,hoc,I.freeC x c hc⟩ hs,by simpa using I.len⟩ ⟨c,hs,.inr hc⟩
    · exact (hs.2 b (Nat.ne_of_lt (Nat.lt_of_lt_of_le (Heap.lt_size e) (I.ok.cab x c hfn hc)))).trans (I.base.keep b o e n hb hx)
    · obtain ⟨sl,e1⟩:=I.base.slot b o e n hb hx
      exact⟨sl,(hs.2 b (Nat.ne_of_lt (Nat.lt_of_lt_of_le (Heap.lt_size e) (I.ok.cab x c hfn hc)))).trans e1⟩
    · obtain ⟨o',e1⟩:=I.base.there b o e hx
      exact⟨o',(hs.2 b (Nat.ne_of_lt (Nat.lt_of_lt_of_le (Heap.lt_size e) (I.ok.cab x c hfn hc)))).trans e1⟩
    · by_cases hj:j=i
      · subst hj
        rw[hi] at e1;cases e1
        rw[List.getElem?_set_self hiσ] at e2
        cases e2
        exact⟨u,r,.inr ⟨.inl hk,c,hc,hc'⟩⟩
      · rw[List.getElem?_set_ne (Ne.symm hj)] at e2
        obtain ⟨u',r',q⟩:=hl j y v' e1 e2 e3
        refine⟨u',r',?_⟩
        rcases q with q | ⟨k,c',e,z'⟩
        · exact .inl q
        · refine .inr ⟨k,c',e,z'.sameBut hs ?_⟩
          rintro rfl
          exact hj (xD hN e1 (I.ok.inj _ _ _ e hc▸hi))
    · by_cases hcc:c'=c
      · subst hcc;exact⟨_,hc'⟩
      · obtain ⟨w2,z2⟩:=I.cell y c' e
        exact⟨w2,z2.sameBut hs hcc⟩
    · obtain ⟨e,n,ne,nf,d⟩:=I.pin p hp
      refine⟨(hs.2 p.1 ?_).trans e,n,ne,nf,d⟩
      intro q
      rw[q,hoc] at e
      have q':oc=p.2:=Option.some.inj e
      exact d w' (by rw[← q'];exact hocd)
theorem w5 {M:Model}{A:Around}{E:Value→Shared→Prop}{i:Nat}{x:Str}{v:V}{u:Value}{Q:Unit→Shared→Prop} (I:Inv X pins σ H s) (hN:X.N.Nodup) (hi:X.N[i]?=some x) (hx:Loc X.env.scope x) (r:RelV v u)
    (h:∀s',Inv X pins (σ.set i (some v)) H s'→Q () s') (hf:X.fn x=true∨X.env.scope.names.lookup x=some .local:=by first | exact .inl rfl | exact .inr rfl | assumption):wpAny M A (storeName X.env x u) Q E s :=
  vd I hN hi hx r (fun s' I' _=>h s' I') hf
theorem Inv.xq {s':Shared}{ch:List Addr} (I:Inv X pins σ H s) (ho:s'.os=s.os) (u:Un (frs X.stack) ch H H' s.heap s'.heap) (hok:HOk X.prog X.w H' s'.heap) (hg:AllBare s'.gens)
    (hch:∀b∈ch,(b∈X.ex∨X.s₀.heap.objs.size≤b)∧b≠X.env.locals∧(∀x c,X.env.cells.lookup x=some c→c≠b)∧∀p∈X.pn++pins,p.1≠b):Inv X pins σ H' s':=by
  obtain ⟨h',g',d',t',o'⟩:=s'
  have e:o'=s.os:=ho
  subst e
  exact I.call (g':=g') (t':=t') (d':=d') u hok hg hch
end
abbrev XK:=Value→Option Addr→Hp→Prop
abbrev St:=List (Option V)
abbrev VK:=V→Hp→Prop
abbrev TE:=St→Hp→VK→Prop
abbrev TT:=St→Hp→(Bool→Hp→Prop)→Prop
abbrev TA:=St→Hp→(List V→Hp→Prop)→Prop
structure Ends where
  nx:St→Hp→Prop
  rt:VK
  bk:St→Hp→Prop:=fun _ _=>False
  ct:St→Hp→Prop:=fun _ _=>False
abbrev TS:=Ends→St→Hp→Prop
def EP (X:Cx) (pins:List (Addr × Obj)) (σ:St) (Q:VK) (u:Value) (s':Shared):Prop:=∃v H',Inv X pins σ H' s'∧RelV v u∧Q v H'
def TP (X:Cx) (pins:List (Addr × Obj)) (σ:St) (Q:Bool→Hp→Prop) (b:Bool) (s':Shared):Prop:=∃H',Inv X pins σ H' s'∧Q b H'
def AP (X:Cx) (pins:List (Addr × Obj)) (σ:St) (Q:List V→Hp→Prop) (us:List Value) (s':Shared):Prop:=∃vs H',Inv X pins σ H' s'∧Vals vs us∧Q vs H'
def SP (X:Cx) (pins:List (Addr × Obj)) (D:Ends) (f:Flow) (s':Shared):Prop :=
  match f with
  | .next=>∃σ' H',Inv X pins σ' H' s'∧D.nx σ' H'
  | .brk=>∃σ' H',Inv X pins σ' H' s'∧D.bk σ' H'
  | .cont=>∃σ' H',Inv X pins σ' H' s'∧D.ct σ' H'
  | .ret u=>∃v σ' H',Inv X pins σ' H' s'∧RelV v u∧D.rt v H'
def PE (X:Cx) (e:Expr) (t:TE):Prop :=
  ∀(pins:List (Addr × Obj)) (s:Shared) (σ:St) (H:Hp) (Q:VK),Inv X pins σ H s→t σ H Q→wpAny (model X.prog X.w) X.A (eval e X.env) (EP X pins σ Q) X.xe s
def PT (X:Cx) (e:Expr) (t:TT):Prop :=
  ∀(pins:List (Addr × Obj)) (s:Shared) (σ:St) (H:Hp) (Q:Bool→Hp→Prop),Inv X pins σ H s→t σ H Q→wpAny (model X.prog X.w) X.A (isTrue e X.env (eval e X.env)) (TP X pins σ Q) X.xe s
def PW (X:Cx) (e:Expr) (t:TT):Prop :=
  ∀(whole:Sem Value) (pins:List (Addr × Obj)) (s:Shared) (σ:St) (H:Hp) (Q:Bool→Hp→Prop),Inv X pins σ H s→t σ H Q→wpAny (model X.prog X.w) X.A (isTrue e X.env whole) (TP X pins σ Q) X.xe s
theorem PW.pt {X:Cx}{e:Expr}{t:TT} (h:PW X e t):PT X e t:=h _
def PA (X:Cx) (es:List Expr) (t:TA):Prop :=
  ∀(pos:Pos) (pins:List (Addr × Obj)) (s:Shared) (σ:St) (H:Hp) (Q:List V→Hp→Prop),Inv X pins σ H s→t σ H Q→wpAny (model X.prog X.w) X.A (spliced (backTo pos (starEach es X.env))) (AP X pins σ Q) X.xe s
def PS (X:Cx) (st:Stmt) (t:TS):Prop :=
  ∀(pins:List (Addr × Obj)) (s:Shared) (σ:St) (H:Hp) (D:Ends),Inv X pins σ H s→t D σ H→wpAny (model X.prog X.w) X.A (exec st X.env) (SP X pins D) X.xe s
def PSs (X:Cx) (st:List Stmt) (t:TS):Prop :=
  ∀(pins:List (Addr × Obj)) (s:Shared) (σ:St) (H:Hp) (D:Ends),Inv X pins σ H s→t D σ H→wpAny (model X.prog X.w) X.A (execs st X.env) (SP X pins D) X.xe s
theorem thn {α:Type}{t:Sem α}{Q Q':α→Shared→Prop}{M:Model}{A:Around}{E:Value→Shared→Prop}{s:Shared} (h:wpAny M A t Q E s) (hQ:∀a s,Q a s→Q' a s):wpAny M A t Q' E s:=wpAny_mono h hQ fun _ _ x=>x
end L2
namespace L2
open PySem PySem.Spec PyProof.Rows
section
variable {X:Cx}
def jd (i:Nat):TE:=fun σ H Q=>∃v,σ[i]?=some (some v)∧Q v H
def tC (v:V):TE:=fun _ H Q=>Q v H
theorem FE {i:Nat}{x:Str}{pos:Pos} (hN:X.N[i]?=some x) (hv:Vis X.env.scope x) (hd:(x == ("__debug__" : Str))=false:=by decide) (hcd:(x == ("__classdict__" : Str))=false:=by decide):PE X (.Name x pos) (jd i):=by
  intro pins s σ H Q I h
  obtain ⟨v,e,h⟩:=h
  obtain ⟨m,hn,hl⟩:=I.loc
  obtain ⟨u,r,l⟩:=hl i x v hN e hv
  have fin:EP X pins σ Q u s:=⟨v,H,I,r,h⟩
  rcases l with ⟨hk,hm⟩ | ⟨hk,c,hc,hcell⟩
  · exact wpAny_Name (wpAny_loadName_local I.ok.kind hk hn hm fin) hd
  · rcases hk with hk | hk
    · exact wpAny_Name (wpAny_loadName_cell I.ok.kind hk hc hcell fin) hd
    · exact wpAny_Name (wpAny_loadName_free I.ok.kind hk hc hcell fin hcd) hd
theorem ak {i j pos}:PE X (.Constant (.int i) j pos) (tC (.int i)):=fun _ _ _ H _ I h=>wpAny_Constant_int ⟨.int i,H,I.tok _,⟨_,rfl⟩,h⟩
theorem dH {b j pos}:PE X (.Constant (.bool b) j pos) (tC (.bl b)):=fun _ _ _ H _ I h=>Constant_bool ⟨.bl b,H,I,rfl,h⟩
theorem yx {x j pos}:PE X (.Constant (.str x) j pos) (tC (.str x)):=fun _ _ _ H _ I h=>Calls.Constant_str ⟨.str x,H,I.tok _,⟨_,rfl⟩,h⟩
def Gl (X:Cx) (x:Str):Prop:=X.env.kindOf x=some .globalImplicit
theorem kU {E:Value→Shared→Prop}{pins:List (Addr × Obj)}{s:Shared}{σ:St}{H:Hp}{x:Str}{u:Value}{pos:Pos}{Q:Value→Shared→Prop} (I:Inv X pins σ H s) (hg:Gl X x) (hm:X.mg x=some u) (h:Q u s)
    (hd:(x == ("__debug__" : Str))=false:=by decide):wpAny (model X.prog X.w) X.A (eval (.Name x pos) X.env) Q E s :=
  Calls.Name_function_global I.ok.kind hg (Calls.loadGlobal_global (by rw[I.ok.glob];exact I.mod.glob.keeps I.bk) hm h) hd
theorem lz {E:Value→Shared→Prop}{pins:List (Addr × Obj)}{s:Shared}{σ:St}{H:Hp}{x:Str}{u:Value}{pos:Pos}{Q:Value→Shared→Prop} (I:Inv X pins σ H s) (hg:Gl X x) (hm:X.mg x=none) (hv:bootBuiltins x=some u) (h:Q u s)
    (hn:x≠"__name__":=by decide) (hd:(x == ("__debug__" : Str))=false:=by decide):wpAny (model X.prog X.w) X.A (eval (.Name x pos) X.env) Q E s:=by
  obtain ⟨mb,h1,h2⟩:=I.mod.blt
  exact Calls.Name_function_global I.ok.kind hg (Calls.loadGlobal_builtin (by rw[I.ok.glob];exact I.mod.glob.keeps I.bk) hm (by rw[I.ok.blt];exact h1.keeps I.bk) ((h2 x hn).trans hv) h) hd
theorem fX {x:Str}{v:V}{u:Value}{pos:Pos} (hg:Gl X x) (hm:X.mg x=some u) (r:RelV v u) (hd:(x == ("__debug__" : Str))=false:=by decide):PE X (.Name x pos) (tC v) :=
  fun _ _ _ H _ I h=>kU I hg hm ⟨v,H,I,r,h⟩ hd
theorem mC {x:Str}{v:V}{u:Value}{pos:Pos} (hg:Gl X x) (hm:X.mg x=none) (hv:bootBuiltins x=some u) (r:RelV v u) (hn:x≠"__name__":=by decide) (hd:(x == ("__debug__" : Str))=false:=by decide):PE X (.Name x pos) (tC v) :=
  fun _ _ _ H _ I h=>lz I hg hm hv ⟨v,H,I,r,h⟩ hn hd
variable {a b:Expr}{ta tb:TE}{pos:Pos}
def tB (t:TE):TT:=fun σ H Q=>t σ H fun x H1=>∃c,x=.bl c∧Q c H1
theorem cB {e:Expr}{t:TE} (h:PE X e t) (he:∀whole,isTrue e X.env whole=(do let v ← whole;standAt e.pos;holding [v] (truthy v)):=by intro _;rfl):PT X e (tB t):=by
  intro pins s σ H Q I hw
  refine isTrue_plain (thn (h pins s σ H _ I hw) fun v s1 ⟨x,H1,I1,r1,q1⟩=>?_) (he _)
  obtain ⟨d,rfl,q⟩:=q1
  cases r1
  exact wpAny_truthy_bool ⟨H1,I1,q⟩
variable {tA tB':TT}{rest:List Expr}
def Hf (t u:TT):TT:=fun σ H Q=>t σ H fun c H1=>if c=true then u σ H1 Q else Q false H1
def tOr (t u:TT):TT:=fun σ H Q=>t σ H fun c H1=>if c=true then Q true H1 else u σ H1 Q
def GK (t:TT):TT:=fun σ H Q=>t σ H fun c H1=>Q (!c) H1
theorem Ae (ha:PT X a tA):PW X (.BoolOp .And [a] pos) tA:=by
  intro wh pins s σ H Q I h
  refine isTrue_and (thn (ha pins s σ H Q I h) fun c s1 e=>?_)
  cases c with
  | true=>exact isTrue_and_nil e
  | false=>exact e
theorem jN (ha:PT X a tA):PW X (.BoolOp .Or [a] pos) tA:=by
  intro wh pins s σ H Q I h
  refine isTrue_or (thn (ha pins s σ H Q I h) fun c s1 e=>?_)
  cases c with
  | false=>exact isTrue_or_nil e
  | true=>exact e
theorem C5 (ha:PT X a tA) (hb:PW X (.BoolOp .And (b::rest) pos) tB'):PW X (.BoolOp .And (a::b::rest) pos) (Hf tA tB'):=by
  intro wh pins s σ H Q I h
  refine isTrue_and (thn (ha pins s σ H _ I h) fun c s1 ⟨H1,I1,q1⟩=>?_)
  cases c with
  | true=>exact hb wh pins s1 σ H1 Q I1 q1
  | false=>exact⟨H1,I1,q1⟩
theorem kN (ha:PT X a tA) (hb:PW X (.BoolOp .Or (b::rest) pos) tB'):PW X (.BoolOp .Or (a::b::rest) pos) (tOr tA tB'):=by
  intro wh pins s σ H Q I h
  refine isTrue_or (thn (ha pins s σ H _ I h) fun c s1 ⟨H1,I1,q1⟩=>?_)
  cases c with
  | true=>exact⟨H1,I1,q1⟩
  | false=>exact hb wh pins s1 σ H1 Q I1 q1
theorem cL (ha:PT X a tA):PT X (.UnaryOp .Not a pos) (GK tA):=by
  intro pins s σ H Q I h
  exact isTrue_not (ha pins s σ H (fun c H1=>Q (!c) H1) I h)
def E6 (ta tb:TE):TE:=fun σ H Q=>ta σ H fun x H1=>∃c,x=.bl c∧if c=true then tb σ H1 Q else Q (.bl false) H1
def GC (ta tb:TE):TE:=fun σ H Q=>ta σ H fun x H1=>∃c,x=.bl c∧if c=true then Q (.bl true) H1 else tb σ H1 Q
theorem ib {op}{t:TE} (h:PE X a t):PE X (.BoolOp op [a] pos) t:=fun pins s σ H Q I hw=>BoolOp_one (h pins s σ H Q I hw)
theorem ie (ha:PE X a ta) (hb:PE X (.BoolOp .And (b::rest) pos) tb):PE X (.BoolOp .And (a::b::rest) pos) (E6 ta tb):=by
  intro pins s σ H Q I h
  refine BoolOp_and (thn (ha pins s σ H _ I h) fun v s1 ⟨x,H1,I1,r1,q1⟩=>?_)
  obtain ⟨c,rfl,q1⟩:=q1
  cases r1
  refine wpAny_truthy_bool ?_
  cases c with
  | true=>exact hb pins s1 σ H1 Q I1 q1
  | false=>exact⟨.bl false,H1,I1,rfl,q1⟩
theorem G3 (ha:PE X a ta) (hb:PE X (.BoolOp .Or (b::rest) pos) tb):PE X (.BoolOp .Or (a::b::rest) pos) (GC ta tb):=by
  intro pins s σ H Q I h
  refine BoolOp_or (thn (ha pins s σ H _ I h) fun v s1 ⟨x,H1,I1,r1,q1⟩=>?_)
  obtain ⟨c,rfl,q1⟩:=q1
  cases r1
  refine wpAny_truthy_bool ?_
  cases c with
  | false=>exact hb pins s1 σ H1 Q I1 q1
  | true=>exact⟨.bl true,H1,I1,rfl,q1⟩
end
end L2
namespace L2
open PySem PySem.Spec PyProof.Rows
def SqL (K:PySem.W.Frag) (H:Hp) (a:Addr) (xs:List V):Prop :=
  Rd H a (.lst xs) ∨
    ∃(o:Obj) (its:Array Value) (n:Nat),K.lookup a=some o∧o.cls=.type "list"∧o.dict=none∧o.data=.seq its n∧its.size≤sizeLine∧Vals xs its.toList
def SqT (K:PySem.W.Frag) (H:Hp) (a:Addr) (xs:List V):Prop :=
  Rd H a (.tup xs) ∨
    ∃(o:Obj) (its:Array Value) (n:Nat),K.lookup a=some o∧o.cls=.type "tuple"∧o.data=.seq its n∧its.size≤sizeLine∧Vals xs its.toList
def HC:Value→Option V
  | .none=>some .non
  | .bool b=>some (.bl b)
  | .int i _=>some (.int i)
  | .str x _=>some (.str x)
  | .bytes b _=>some (.byt b)
  | .float b _=>some (.flt b)
  | .ref a=>some (.ref a)
  | .type n=>some (.ty n)
  | _=>none
theorem RelV.abs {x:V}{u:Value} (r:RelV x u):HC u=some x:=by
  cases x with
  | non=>cases r;rfl
  | bl _=>cases r;rfl
  | int _=>obtain ⟨t,rfl⟩:=r;rfl
  | str _=>obtain ⟨t,rfl⟩:=r;rfl
  | byt _=>obtain ⟨t,rfl⟩:=r;rfl
  | flt _=>obtain ⟨t,rfl⟩:=r;rfl
  | ref _=>cases r;rfl
  | ty _=>cases r;rfl
theorem RelV.inj {x y:V}{u:Value} (r:RelV x u) (q:RelV y u):x=y:=Option.some.inj (r.abs.symm.trans q.abs)
theorem Vals.inj:∀{xs ys:List V}{us:List Value},Vals xs us→Vals ys us→xs=ys
  | _,_,_,.nil,.nil=>rfl
  | _,_,_,.cons r t,.cons r' t'=>by rw[r.inj r',Vals.inj t t']
section
variable {X:Cx}{pins:List (Addr × Obj)}{σ:St}{H:Hp}{s:Shared}{a:Addr}{xs ys:List V}
theorem SqL.of {K:PySem.W.Frag} (h:H a=some (.lst xs)):SqL K H a xs:=.inl (.inl h)
theorem SqT.of {K:PySem.W.Frag} (h:H a=some (.tup xs)):SqT K H a xs:=.inl (.inl h)
theorem Inv.list (I:Inv X pins σ H s) (h:SqL X.K H a xs):∃its:List Value,Vals xs its∧PlainL s.heap a its.toArray∧xs.length≤sizeLine:=by
  rcases h with h | ⟨o,its,n,hk,hc,hd,hs,hz,r⟩
  · obtain ⟨z,its,n,r,e⟩:=h.ok I.hok
    exact⟨its,r,⟨_,n,e,rfl,rfl,rfl⟩,z⟩
  · refine⟨its.toList,r,⟨o,n,I.kIn a o hk,hc,hd,by simpa using hs⟩,?_⟩
    have e:=r.length
    simp only[Array.length_toList] at e
    omega
theorem Inv.tuple (I:Inv X pins σ H s) (h:SqT X.K H a xs):∃its:List Value,Vals xs its∧IsTup s.heap a its.toArray∧xs.length≤sizeLine:=by
  rcases h with h | ⟨o,its,n,hk,hc,hs,hz,r⟩
  · obtain ⟨z,its,r,p⟩:=h.ok I.hok
    exact⟨its,r,p,z⟩
  · refine⟨its.toList,r,⟨o,I.kIn a o hk,hc,n,by simpa using hs⟩,?_⟩
    have e:=r.length
    simp only[Array.length_toList] at e
    omega
theorem Inv.rO (I:Inv X pins σ H s) (h:SqL X.K H a xs) (h':SqL X.K H a ys):xs=ys:=by
  obtain ⟨its,r,⟨o,n,e,_,_,d⟩,_⟩:=I.list h
  obtain ⟨its',r',⟨o',n',e',_,_,d'⟩,_⟩:=I.list h'
  rw[e] at e';cases e'
  rw[d] at d'
  injection d' with d1 _
  have:its=its':=by simpa using congrArg Array.toList d1
  subst this
  exact r.inj r'
end
abbrev Cx.ph (X:Cx) (E:Value→Shared→Prop):Cx:={ X with xe:=E }
abbrev Cx.nox (X:Cx):Cx:=X.ph fun _ _=>False
theorem Cx.Ok.ph {X:Cx} (ok:X.Ok) (E:Value→Shared→Prop):(X.ph E).Ok :=
  ⟨ok.mod,ok.kind,ok.glob,ok.blt,ok.above,ok.inj,ok.has,ok.cab,ok.hd,ok.frames,ok.stk,ok.exf,ok.bs,ok.bsz,ok.noex,ok.exfs,ok.pJ,ok.frf⟩
theorem Cx.Ok.iX {X:Cx}{E:Value→Shared→Prop} (ok:(X.ph E).Ok):X.Ok :=
  ⟨ok.mod,ok.kind,ok.glob,ok.blt,ok.above,ok.inj,ok.has,ok.cab,ok.hd,ok.frames,ok.stk,ok.exf,ok.bs,ok.bsz,ok.noex,ok.exfs,ok.pJ,ok.frf⟩
section
variable {X:Cx}{pins:List (Addr × Obj)}{σ:St}{H:Hp}{s:Shared}{E:Value→Shared→Prop}
theorem Inv.ph (I:Inv X pins σ H s) (E:Value→Shared→Prop):Inv (X.ph E) pins σ H s:=⟨I.ok.ph E,I.os,I.bare,I.base,I.loc,I.cell,I.free,I.freeC,I.pin,I.hok,I.len⟩
theorem Inv.iX (I:Inv (X.ph E) pins σ H s):Inv X pins σ H s:=⟨I.ok.iX,I.os,I.bare,I.base,I.loc,I.cell,I.free,I.freeC,I.pin,I.hok,I.len⟩
theorem SP.iX {D:Ends}{f:Flow}{s':Shared} (h:SP (X.ph E) pins D f s'):SP X pins D f s':=by
  cases f with
  | next=>obtain ⟨σ',H',I,q⟩:=h;exact⟨σ',H',I.iX,q⟩
  | brk=>obtain ⟨σ',H',I,q⟩:=h;exact⟨σ',H',I.iX,q⟩
  | cont=>obtain ⟨σ',H',I,q⟩:=h;exact⟨σ',H',I.iX,q⟩
  | ret u=>obtain ⟨v,σ',H',I,r,q⟩:=h;exact⟨v,σ',H',I.iX,r,q⟩
theorem PT.nox {e:Expr}{t:TT} (h:PT X.nox e t):PT X e t:=fun pins s σ H Q I hw =>
  wpAny_mono (h pins s σ H Q (I.ph _) hw) (fun _ _ ⟨H',I',q⟩=>⟨H',I'.iX,q⟩) fun _ _ z=>False.elim z
theorem PSs.nox {st:List Stmt}{t:TS} (h:PSs X.nox st t):PSs X st t:=fun pins s σ H D I hw =>
  wpAny_mono (h pins s σ H D (I.ph _) hw) (fun _ _ q=>q.iX) fun _ _ z=>False.elim z
end
section
variable {X:Cx}{st:Stmt}{rest:List Stmt}{t u:TS}{e:Expr}{te:TE}{pos:Pos}
def ET:TS:=fun D σ H=>D.nx σ H
def DW (t u:TS):TS:=fun D σ H=>t { D with nx:=u D } σ H
theorem a8:PSs X [] ET:=fun _ _ σ H _ I h=>wpAny_execs_nil ⟨σ,H,I,h⟩
theorem ar (h1:PS X st t) (h2:PSs X rest u):PSs X (st::rest) (DW t u):=by
  intro pins s σ H D I h
  refine wpAny_execs_cons (thn (h1 pins s σ H { D with nx:=u D } I h) fun f s1 q=>?_)
  cases f with
  | next =>
    obtain ⟨σ',H',I',q⟩:=q
    exact h2 pins s1 σ' H' D I' q
  | ret v=>exact q
  | brk=>exact q
  | cont=>exact q
theorem av (h1:PS X st t):PSs X [st] t:=by
  intro pins s σ H D I h
  refine wpAny_execs_cons (thn (h1 pins s σ H D I h) fun f s1 q=>?_)
  cases f with
  | next=>exact wpAny_execs_nil q
  | ret v=>exact q
  | brk=>exact q
  | cont=>exact q
theorem Inv.quiet {pins:List (Addr × Obj)}{σ:St}{H:Hp}{s:Shared} (I:Inv X pins σ H s):interactive X.env=false:=by simp [interactive,I.ok.kind]
def qz (te:TE):TS:=fun D σ H=>te σ H fun _ H1=>D.nx σ H1
theorem kf (he:PE X e te) (hs:swapsWith e none pos.line X.env=pure false:=by rfl):PS X (.Expr e pos) (qz te):=by
  intro pins s σ H D I h
  exact wpAny_Expr_any (thn (he pins s σ H _ I h) fun v s1 ⟨x,H1,I1,r1,q1⟩=>⟨σ,H1,I1,q1⟩) I.quiet hs
def FJ (te:TE):TS:=fun D σ H=>te σ H D.rt
theorem aH (he:PE X e te):PS X (.Return (some e) pos) (FJ te):=by
  intro pins s σ H D I h
  exact wpAny_Return_some (thn (he pins s σ H _ I h) fun v s1 ⟨x,H1,I1,r1,q1⟩=>⟨x,σ,H1,I1,r1,q1⟩)
def Gp (c:TT) (t u:TS):TS:=fun D σ H=>c σ H fun b H1=>if b=true then t D σ H1 else u D σ H1
theorem b5 {c:Expr}{a b:List Stmt}{tc:TT} (hc:PT X c tc) (ha:PSs X a t) (hb:PSs X b u):PS X (.If c a b pos) (Gp tc t u):=by
  intro pins s σ H D I h
  refine wpAny_If (thn (hc pins s σ H _ I h) fun d s1 ⟨H1,I1,q1⟩=>?_)
  cases d with
  | true=>exact ha pins s1 σ H1 D I1 q1
  | false=>exact hb pins s1 σ H1 D I1 q1
end
abbrev TG:=V→St→Hp→(St→Hp→Prop)→Prop
abbrev TGs:=List V→St→Hp→(St→Hp→Prop)→Prop
def PG (X:Cx) (target:Expr) (t:TG):Prop :=
  ∀(pins:List (Addr × Obj)) (s:Shared) (σ:St) (H:Hp) (v:V) (u:Value) (Q:St→Hp→Prop),Inv X pins σ H s→RelV v u→t v σ H Q →
    wpAny (model X.prog X.w) X.A (assign target X.env u) (fun _ s'=>∃σ' H',Inv X pins σ' H' s'∧Q σ' H') X.xe s
def PGs (X:Cx) (ts:List Expr) (t:TGs):Prop :=
  ∀(pins:List (Addr × Obj)) (s:Shared) (σ:St) (H:Hp) (vs:List V) (us:List Value) (Q:St→Hp→Prop),Inv X pins σ H s→Vals vs us→t vs σ H Q →
    wpAny (model X.prog X.w) X.A (assignInOrder ((assignEach ts X.env).map (·.2)) us) (fun _ s'=>∃σ' H',Inv X pins σ' H' s'∧Q σ' H') X.xe s
abbrev FF:=V→V→V→Hp→(Hp→Prop)→Prop
def G5 (X:Cx) (t:FF):Prop :=
  ∀(pins:List (Addr × Obj)) (s:Shared) (σ:St) (H:Hp) (o i v:V) (ov iv u:Value) (Q:Hp→Prop),Inv X pins σ H s→RelV o ov→RelV i iv→RelV v u→t o i v H Q →
    wpAny (model X.prog X.w) X.A (setItem ov iv u) (fun _ s'=>∃H',Inv X pins σ H' s'∧Q H') X.xe s
section
variable {X:Cx}{pos:Pos}
def lY (i:Nat):TG:=fun v σ H Q=>Q (σ.set i (some v)) H
theorem ba {i:Nat}{x:Str} (hN:X.N.Nodup) (hi:X.N[i]?=some x) (hx:Loc X.env.scope x) (hf:X.fn x=true∨X.env.scope.names.lookup x=some .local:=by first | exact .inl rfl | exact .inr rfl | assumption):PG X (.Name x pos) (lY i):=by
  intro pins s σ H v u Q I r h
  exact wpAny_assign_Name (w5 I hN hi hx r (fun s' I'=>⟨_,H,I',h⟩) hf)
def Hm:TGs:=fun vs σ H Q=>vs=[]∧Q σ H
def Fd (t:TG) (u:TGs):TGs:=fun vs σ H Q=>∃v r,vs=v::r∧t v σ H fun σ' H'=>u r σ' H' Q
theorem zj:PGs X [] Hm:=by
  intro pins s σ H vs us Q I r h
  obtain ⟨e,h⟩:=h
  subst e
  cases r
  exact assignInOrder_nil ⟨σ,H,I,h⟩
theorem oG {e:Expr}{es:List Expr}{t:TG}{u:TGs} (h1:PG X e t) (h2:PGs X es u)
    (hs:(assignEach (e::es) X.env).map (·.2)=assign e X.env::(assignEach es X.env).map (·.2):=by rfl):PGs X (e::es) (Fd t u):=by
  intro pins s σ H vs us Q I r h
  obtain ⟨v,vr,e1,h⟩:=h
  subst e1
  cases r with
  | cons r rr =>
    rw[hs]
    refine assignInOrder_cons (thn (h1 pins s σ H _ _ _ I r h) fun _ s1 ⟨σ1,H1,I1,q1⟩=>?_)
    exact h2 pins s1 σ1 H1 _ _ Q I1 rr q1
def F6 (K:PySem.W.Frag) (n:Nat) (t:TGs):TG:=fun v σ H Q=>∃a xs,v=.ref a∧SqT K H a xs∧xs.length=n∧t xs σ H Q
theorem Ft {es:List Expr}{k:Nat}{t:TGs}{n:Nat} (hc:X.calm=true) (h:PGs X es t)
    (hn:(assignEach es X.env).length=n:=by rfl) (hst:(assignEach es X.env).findIdx? (·.1)=none:=by rfl):PG X (.Tuple es k pos) (F6 X.K n t):=by
  intro pins s σ H v u Q I r hw
  obtain ⟨a,xs,e1,hq,hl,hw⟩:=hw
  subst e1
  cases r
  obtain ⟨its,rv,ht,hz⟩:=I.tuple hq
  refine assign_Tuple_tuple (I.ok.hd hc) ht (by simp [hn,← hl,rv.length]) hst fun h' hx=>?_
  have I1:Inv X pins σ H { s with heap:=h' }:=I.kept (t':=s.toks) fun b o e=>hx b o (Nat.ne_of_lt (Heap.lt_size e)) e
  exact h pins _ σ H xs _ Q I1 (by simpa using rv) hw
def El (to ti:TE) (t:FF):TG:=fun v σ H Q=>to σ H fun o H1=>ti σ H1 fun i H2=>t o i v H2 fun H3=>Q σ H3
theorem nj {o i:Expr}{to ti:TE}{t:FF} (ho:PE X o to) (hi:PE X i ti) (hs:G5 X t)
    (ha:∀v,assign (.Subscript o i pos) X.env v=(do
      let ov ← holding [v] (eval o X.env)
      let iv ← holding [v,ov] (eval i X.env)
      standAt pos
      holding [v,ov,iv] (setItem ov iv v)
      release [v,ov,iv] []):=by intro _;rfl):PG X (.Subscript o i pos) (El to ti t):=by
  intro pins s σ H v u Q I r h
  rw[ha]
  refine wpAny_bind (wpAny_holding (thn (ho pins s σ H _ I h) fun ov s1 ⟨x,H1,I1,r1,q1⟩=>?_))
  refine wpAny_bind (wpAny_holding (thn (hi pins s1 σ H1 _ I1 q1) fun iv s2 ⟨y,H2,I2,r2,q2⟩=>?_))
  refine wpAny_bind (wpAny_standAt (wpAny_bind (wpAny_holding (thn (hs pins s2 σ H2 x y v ov iv u _ I2 r1 r2 r q2) fun _ s3 ⟨H3,I3,q3⟩=>?_))))
  exact wpAny_release ⟨σ,H3,I3,q3⟩
def t4 (te:TE) (g:TG):TS:=fun D σ H=>te σ H fun x H1=>g x σ H1 D.nx
theorem nQ {tg e:Expr}{te:TE}{g:TG} (he:PE X e te) (hg:PG X tg g) (hs:swapsWithSole [tg] e pos.line X.env=pure false:=by rfl) (hw:swappedStores [tg] e X.env=pure none:=by rfl)
    (h1:(assignEach [tg] X.env).map (·.2)=[assign tg X.env]:=by rfl):PS X (.Assign [tg] e pos) (t4 te g):=by
  intro pins s σ H D I h
  refine wpAny_Assign_stores (thn (he pins s σ H _ I h) fun v s1 ⟨x,H1,I1,r1,q1⟩=>?_) hs hw
  rw[h1]
  exact thn (hg pins s1 σ H1 x v _ I1 r1 q1) fun _ s2 q=>q
theorem bp {i:Nat}{x:Str}{e:Expr}{te:TE}{pos':Pos} (hN:X.N.Nodup) (hi:X.N[i]?=some x) (hx:Loc X.env.scope x) (he:PE X e te) (hs:swapsWith e (some (.Name x pos')) pos.line X.env=pure false:=by rfl) (hf:X.fn x=true∨X.env.scope.names.lookup x=some .local:=by first | exact .inl rfl | exact .inr rfl | assumption) :
    PS X (.Assign [.Name x pos'] e pos) (t4 te (lY i)):=by
  intro pins s σ H D I h
  refine wpAny_Assign_Name (thn (he pins s σ H _ I h) fun v s1 ⟨y,H1,I1,r1,q1⟩=>?_) hs
  exact w5 I1 hN hi hx r1 (fun s2 I2=>⟨_,H1,I2,q1⟩) hf
end
section
variable {X:Cx}{pos:Pos}
end
structure It where
  go:Nat→Hp→Prop
  yld:Nat→Hp→V→Hp→Prop
  stop:Nat→Hp→Prop
def sg (X:Cx) (pins:List (Addr × Obj)) (H:Hp) (b:Addr):Prop :=
  H b=none∧b≠X.env.locals∧b∉X.fs∧(b∈X.ex∨X.s₀.heap.objs.size≤b)∧(∀x c,X.env.cells.lookup x=some c→c≠b)∧∀p∈X.pn++pins,p.1≠b
theorem Inv.Fo {X:Cx}{pins:List (Addr × Obj)}{σ:St}{H H':Hp}{s:Shared}{b:Addr} (I:Inv X pins σ H s) (hb:s.heap.objs.size≤b) (hn:H' b=none):sg X pins H' b:=by
  refine⟨hn,Nat.ne_of_gt (Nat.lt_of_lt_of_le I.lt hb),I.Hh hb,.inr (Nat.le_trans I.sz hb),fun x c e z=>?_,fun p hp z=>?_⟩
  · obtain ⟨v,q⟩:=I.cell x c e
    exact absurd (Nat.lt_of_lt_of_le q.lt (by rw[z];exact hb)) (Nat.lt_irrefl _)
  · exact absurd (Nat.lt_of_lt_of_le (Heap.lt_size (I.pin p hp).1) (by rw[z];exact hb)) (Nat.lt_irrefl _)
structure Turn (P:Program) (w:World) (K:PySem.W.Frag) (tg:Expr) (J:It) (fp:List Addr) (it:Addr) (tn:Nat→Heap→Prop):Prop where
  mem:it∈fp
  obj:∀i h,tn i h→∀b∈fp,∃o,h.get? b=some o∧∀v,o.data≠.cell v
  keep:∀i h h',tn i h→(∀b∈fp,∀o,h.get? b=some o→h'.get? b=some o)→tn i h'
  item:∀(X:Cx),X.prog=P→X.w=w→X.K=K→X.calm=true→∀(i:Nat) (pins:List (Addr × Obj)) (s:Shared) (σ:St) (H:Hp) (E:Value→Shared→Prop),Inv X pins σ H s→(∀b∈fp,sg X pins H b)→tn i s.heap→J.go i H →
    wpAny (model P w) X.A (pyNext (.ref it)) (fun r s1=>∃u,r=some u ∧
      wpAny (model P w) X.A (letOwnedTupleGo tg (.ref it) u) (fun _ s2=>∃x H',Inv X pins σ H' s2∧RelV x u∧J.yld i H x H'∧tn (i+1) s2.heap∧∀b∈fp,H' b=none) E s1) E s
  done:∀(X:Cx),X.prog=P→X.w=w→X.K=K→X.calm=true→∀(i:Nat) (pins:List (Addr × Obj)) (s:Shared) (σ:St) (H:Hp) (E:Value→Shared→Prop),Inv X pins σ H s→(∀b∈fp,sg X pins H b)→tn i s.heap→J.stop i H →
    wpAny (model P w) X.A (pyNext (.ref it)) (fun r s1=>r=none∧Inv X pins σ H s1) E s
  self:∀(A:Around) (i:Nat) (s:Shared) (Q:Value→Shared→Prop) (E:Value→Shared→Prop),tn i s.heap→Q (.ref it) s→wpAny (model P w) A (pyIter (.ref it)) Q E s
abbrev TI:=St→Hp→(It→Hp→Prop)→Prop
def PIE (X:Cx) (pins:List (Addr × Obj)) (σ:St) (tg:Expr) (R:It→Hp→Prop) (itv:Value) (s2:Shared):Prop :=
  ∃(it:Addr) (fp:List Addr) (tn:Nat→Heap→Prop) (J:It) (H':Hp),itv=.ref it∧Inv X pins σ H' s2∧Turn X.prog X.w X.K tg J fp it tn∧tn 0 s2.heap∧(∀b∈fp,sg X pins H' b)∧R J H'
def PI (X:Cx) (tg iter:Expr) (wi:TI):Prop :=
  ∀(pins:List (Addr × Obj)) (s:Shared) (σ:St) (H:Hp) (R:It→Hp→Prop),Inv X pins σ H s→wi σ H R →
    wpAny (model X.prog X.w) X.A (eval iter X.env) (fun v s1=>wpAny (model X.prog X.w) X.A (pyIter v) (PIE X pins σ tg R) X.xe s1) X.xe s
theorem Fh {M:Model}{A:Around}{E:Value→Shared→Prop}{s:Shared}{tg:Expr}{it:Addr}{u:Value}{o:Obj}{n:String}{vs:Array Value}{Q:Unit→Shared→Prop} (ho:s.heap.get? it=some o) (hc:o.cls=.type n) (hd:o.data=.fields vs)
    (hn:["enumerate","zip","dict_itemiterator","dict_reverseitemiterator","odict_iterator","itertools.zip_longest","itertools.pairwise"].contains n=false) (hQ:Q () s):wpAny M A (letOwnedTupleGo tg (.ref it) u) Q E s:=by
  unfold letOwnedTupleGo
  cases tg<;>first
    | exact wpAny_pure hQ
    | (cases u<;>first
        | exact wpAny_pure hQ
        | (refine wpAny_bind (wpAny_load ho ?_)
           rw[hc,hd]
           show wpAny M A (if (["enumerate","zip","dict_itemiterator","dict_reverseitemiterator","odict_iterator","itertools.zip_longest","itertools.pairwise"].contains n && vs[0]? == some (rawInt _))=true then _ else _) Q E s
           rw[if_neg (by intro h;rw[hn,Bool.false_and] at h;cases h)]
           exact wpAny_pure hQ))
def Itl (K:PySem.W.Frag) (a:Addr):It :=
  ⟨fun i H=>∃xs x,SqL K H a xs∧xs[i]?=some x,fun i H x H'=>H'=H∧∀xs,SqL K H a xs→xs[i]?=some x,fun i H=>∃xs,SqL K H a xs∧xs.length≤i⟩
def Itr (lo:Int) (n:Nat):It:=⟨fun i _=>i<n,fun i H x H'=>H'=H∧x=.int (lo+i),fun i _=>n≤i⟩
theorem A3 {P:Program}{w:World}{K:PySem.W.Frag}{tg:Expr} (a it:Addr):Turn P w K tg (Itl K a) [it] it (fun i h=>h.IsListIter it a i) where
  mem:=by simp
  obj:=fun i h st b hb=>by
    have e:b=it:=by simpa using hb
    subst e
    obtain ⟨o,e,c,d⟩:=st
    exact⟨o,e,fun v z=>by rw[d] at z;cases z⟩
  keep:=fun i h h' st k=>st.at fun o e=>k it (by simp) o e
  item:=by
    intro X hP hw hK hc i pins s σ H E I hf st hg
    subst hP hw hK
    obtain ⟨xs,x,hq,hx⟩:=hg
    obtain ⟨its,rv,p,hz⟩:=I.list hq
    obtain ⟨u,hu,ru⟩:=rv.get hx
    obtain ⟨f0,f1,f2,f3,f4,f5⟩:=hf it (by simp)
    refine wpAny_pyNext_list_item st p.isList (x:=u) (by simpa using hu) fun h' st' sb=>?_
    have I1:Inv X pins σ H { s with heap:=h' }:=I.turned (t':=s.toks) (fun b o hb e=>(sb.2 b hb).trans e) f0 f1 f3 f4 f5
    obtain ⟨o,e,c,d⟩:=id st'
    exact⟨u,rfl,Fh (s:={ s with heap:=h' }) e c d (by decide) ⟨x,H,I1,ru,⟨rfl,fun ys hy=>by rw[I.rO hy hq];exact hx⟩,st',fun b hb=>(hf b hb).1⟩⟩
  done:=by
    intro X hP hw hK hc i pins s σ H E I hf st hg
    subst hP hw hK
    obtain ⟨xs,hq,hx⟩:=hg
    obtain ⟨its,rv,p,hz⟩:=I.list hq
    obtain ⟨f0,f1,f2,f3,f4,f5⟩:=hf it (by simp)
    have hl:=rv.length
    exact wpAny_pyNext_list_end (I.ok.hd hc) st p.isList (by simp;omega) fun h' eb=>⟨rfl,I.turned (t':=s.toks) (fun b o hb e=>eb b o hb e) f0 f1 f3 f4 f5⟩
  self:=fun _ _ _ _ _ st h=>wpAny_pyIter_listiter st h
theorem yo {P:Program}{w:World}{K:PySem.W.Frag}{tg:Expr} (it:Addr) (lo:Int) (n:Nat):Turn P w K tg (Itr lo n) [it] it (fun i h=>IsRangeIter h it (lo+(i:Nat)*1) ((n:Int) - (i:Nat)) 1) where
  mem:=by simp
  obj:=fun i h st b hb=>by
    have e:b=it:=by simpa using hb
    subst e
    exact⟨_,st,fun v z=>by
      have z':Data.fields _=Data.cell v:=z
      cases z'⟩
  keep:=fun i h h' st k=>k it (by simp) _ st
  item:=by
    intro X hP hw hK hc i pins s σ H E I hf st hg
    subst hP hw hK
    obtain ⟨f0,f1,f2,f3,f4,f5⟩:=hf it (by simp)
    have W:=Walks.range (prog:=X.prog) (w:=X.w) (I.ok.hd hc) it lo 1 n
    refine W.item i s _ _ hg st fun v h' tk hv st' kk=>?_
    obtain ⟨t,rfl⟩:=hv
    have I1:Inv X pins σ H { s with heap:=h',toks:=tk }:=I.turned (fun b o hb e=>kk b o (by simpa using hb) e) f0 f1 f3 f4 f5
    refine⟨_,rfl,Fh (s:={ s with heap:=h',toks:=tk }) (n:="range_iterator") st' rfl rfl (by decide) ⟨.int (lo+i),H,I1,⟨t,?_⟩,⟨rfl,rfl⟩,st',fun b hb=>(hf b hb).1⟩⟩
    rw[Int.mul_one]
  done:=by
    intro X hP hw hK hc i pins s σ H E I hf st hg
    subst hP hw hK
    obtain ⟨f0,f1,f2,f3,f4,f5⟩:=hf it (by simp)
    exact wpAny_pyNext_range_end (I.ok.hd hc) st (by have:n≤i:=hg;omega) fun h' eb=>⟨rfl,I.turned (t':=s.toks) (fun b o hb e=>eb b o hb e) f0 f1 f3 f4 f5⟩
  self:=fun _ _ _ _ _ st h=>wpAny_pyIter_rangeiter st h
end L2
namespace L2
open PySem PySem.Spec PyProof.Rows
section
variable {X:Cx}{tg:Expr}
def zc (K:PySem.W.Frag) (tl:TE):TI:=fun σ H R=>tl σ H fun x H1=>∃a,x=.ref a∧(∃xs,SqL K H1 a xs)∧R (Itl K a) H1
theorem DH {l:Expr}{tl:TE} (hl:PE X l tl):PI X tg l (zc X.K tl):=by
  intro pins s σ H R I h
  refine thn (hl pins s σ H _ I h) fun v s1 ⟨x,H1,I1,r1,q1⟩=>?_
  obtain ⟨a,e,⟨xs,hq⟩,q⟩:=q1
  subst e
  cases r1
  obtain ⟨its,rv,p,hz⟩:=I1.list hq
  refine wpAny_pyIter_list p.isList ?_
  refine⟨s1.heap.objs.size,[s1.heap.objs.size],_,_,H1,rfl,I1.kept (t':=s1.toks) fun b o e=>Heap.get?_push_of_some _ e,A3 a _,⟨_,Heap.get?_push_size _ rfl,rfl,rfl⟩,fun b hb=>?_,q⟩
  have e:b=s1.heap.objs.size:=by simpa using hb
  subst e
  exact I1.Fo (Nat.le_refl _) (I1.hok.fresh (Nat.le_refl _))
theorem xf {pins:List (Addr × Obj)}{σ:St}{H:Hp}{s:Shared}{R:It→Hp→Prop}{E:Value→Shared→Prop}{lo hi:Int}{t u v:Tok}{tk:Nat} (I:Inv X pins σ H s) (h1 : -(2 ^ 62)≤lo) (h2:lo<2 ^ 62) (h3 : -(2 ^ 62)≤hi) (h4:hi<2 ^ 62)
    (q:R (Itr lo (hi - lo).toNat) H):wpAny (model X.prog X.w) X.A (pyIter (.ref s.heap.objs.size)) (PIE X pins σ tg R) E { s with heap:=s.heap.push { cls:=.type "range",data:=.fields #[.int lo t,.int hi u,.int 1 v] },toks:=tk }:=by
  refine wpAny_pyIter_range (IsRange.new ..) (small_one h1 h2 h3 h4) ?_
  have I1:Inv X pins σ H { s with heap:=s.heap.push { cls:=.type "range",data:=.fields #[.int lo t,.int hi u,.int 1 v] },toks:=tk }:=I.kept fun b o e=>Heap.get?_push_of_some _ e
  refine⟨(s.heap.push { cls:=.type "range",data:=.fields #[.int lo t,.int hi u,.int 1 v] }).objs.size,[(s.heap.push { cls:=.type "range",data:=.fields #[.int lo t,.int hi u,.int 1 v] }).objs.size],_,_,H,rfl,
    I1.kept (t':=tk) fun b o e=>Heap.get?_push_of_some _ e,yo _ lo (hi - lo).toNat,?_,fun b hb=>?_,q⟩
  · have e1:lo+((0:Nat):Int)*1=lo:=by simp
    have e2:(((hi - lo).toNat:Nat):Int) - ((0:Nat):Int)=Builtin.Range.rangeSize lo hi 1:=by rw[rangeSize_one];split<;>omega
    show IsRangeIter _ _ (lo+((0:Nat):Int)*1) ((((hi - lo).toNat:Nat):Int) - ((0:Nat):Int)) 1
    rw[e1,e2]
    exact Heap.get?_push_size _ rfl
  · have e:b=(s.heap.push { cls:=.type "range",data:=.fields #[.int lo t,.int hi u,.int 1 v] }).objs.size:=by simpa using hb
    subst e
    exact I1.Fo (Nat.le_refl _) (I1.hok.fresh (Nat.le_refl _))
def EU (ta:TA):TI:=fun σ H R=>ta σ H fun vs H1=>∃j:Int,vs=[.int j]∧-(2 ^ 62)≤j∧j<2 ^ 62∧R (Itr 0 j.toNat) H1
def E2 (ta:TA):TI:=fun σ H R=>ta σ H fun vs H1=>∃i j:Int,vs=[.int i,.int j]∧(-(2 ^ 62)≤i∧i<2 ^ 62∧-(2 ^ 62)≤j∧j<2 ^ 62)∧R (Itr i (j - i).toNat) H1
theorem eE {a:Expr}{ta:TA}{p pos:Pos} (hg:Gl X "range") (hm:X.mg "range" = none) (ha:PA X [a] ta) (hs:starEach [a] X.env=[(false,eval a X.env)]:=by rfl):PI X tg (.Call (.Name "range" p) [a] [] pos) (EU ta):=by
  intro pins s σ H R I h
  refine Call_ (lz I hg hm boot_range (PyProof.Rows.callWith_type1 (thn (ha pos pins s σ H _ I h) fun us s1 ⟨vs,H1,I1,r1,q1⟩=>?_) hs rfl))
  obtain ⟨j,e,q1,q2,q⟩:=q1
  subst e
  cases r1 with
  | cons r rr =>
    cases rr
    obtain ⟨t,rfl⟩:=r
    exact call_range_1 (xf I1 (by omega) (by omega) q1 q2 (by simpa using q))
theorem AJ {a b:Expr}{ta:TA}{p pos:Pos} (hg:Gl X "range") (hm:X.mg "range" = none) (ha:PA X [a,b] ta) (hs:starEach [a,b] X.env=[(false,eval a X.env),(false,eval b X.env)]:=by rfl) (hs2:starEach [b] X.env=[(false,eval b X.env)]:=by rfl) :
    PI X tg (.Call (.Name "range" p) [a,b] [] pos) (E2 ta):=by
  intro pins s σ H R I h
  refine Call_ (lz I hg hm boot_range (PyProof.Rows.callWith_type1 (thn (ha pos pins s σ H _ I h) fun us s1 ⟨vs,H1,I1,r1,q1⟩=>?_) (by rw[hs,hs2]) (by rw[hs2];rfl)))
  obtain ⟨i,j,e,⟨q1,q2,q3,q4⟩,q⟩:=q1
  subst e
  cases r1 with
  | cons r rr =>
    cases rr with
    | cons r' rr =>
      cases rr
      obtain ⟨t,rfl⟩:=r
      obtain ⟨t',rfl⟩:=r'
      exact call_range_2 (xf I1 q1 q2 q3 q4 q)
def Ew (wi:TI) (g:TG) (tb:TS):TS:=fun D σ H=>wi σ H fun J H1=>∃W:Nat→Nat→St→Hp→Prop,(∃m,W 0 m σ H1)∧∀i m σ H,W i m σ H →
  (J.stop i H∧D.nx σ H)∨(J.go i H∧∃N:St→Hp→Prop,(∀σ' H',N σ' H'→∃m',m' < m∧W (i+1) m' σ' H')∧∀x H',J.yld i H x H'→g x σ H' fun σ2 H2=>tb { D with nx:=N,ct:=N,bk:=D.nx } σ2 H2)
def mn (fp:List Addr) (h:Heap):List (Addr × Obj):=fp.filterMap fun b=>(h.get? b).map fun o=>(b,o)
theorem lg {fp:List Addr}{h:Heap}{b:Addr}{o:Obj} (hb:b∈fp) (e:h.get? b=some o):(b,o)∈mn fp h:=List.mem_filterMap.mpr ⟨b,hb,by rw[e];rfl⟩
theorem uk {fp:List Addr}{h:Heap}{p:Addr × Obj} (hp:p∈mn fp h):p.1∈fp∧h.get? p.1=some p.2:=by
  obtain ⟨b,hb,e⟩:=List.mem_filterMap.mp hp
  cases q:h.get? b with
  | none=>rw[q] at e;cases e
  | some o =>
    rw[q] at e
    have e':(b,o)=p:=Option.some.inj e
    subst e'
    exact⟨hb,q⟩
theorem Inv.pinned {pins:List (Addr × Obj)}{σ:St}{H:Hp}{s:Shared}{fp:List Addr} (I:Inv X pins σ H s) (hf:∀b∈fp,sg X pins H b) (ho:∀b∈fp,∃o,s.heap.get? b=some o∧∀v,o.data≠.cell v):Inv X (pins++mn fp s.heap) σ H s :=
  I.oB fun p hp=>(List.mem_append.mp hp).elim (fun z=>I.pin p (List.mem_append_right _ z)) fun z=>by
    obtain ⟨hb,e⟩:=uk z
    obtain ⟨f0,f1,f2,_⟩:=hf p.1 hb
    obtain ⟨o,e',d⟩:=ho p.1 hb
    rw[e] at e';cases e'
    exact⟨e,f0,f1,f2,d⟩
theorem Inv.oN {pins pl:List (Addr × Obj)}{σ:St}{H:Hp}{s:Shared} (I:Inv X (pins++pl) σ H s):Inv X pins σ H s:=I.oB fun p hp=>I.pin p (List.mem_append_right _ (List.mem_append_left _ hp))
theorem i6 {iter:Expr}{body:List Stmt}{wi:TI}{g:TG}{tb:TS}{pos:Pos} (hp:PassesOwn (model X.prog X.w) X.A X.env X.xe) (hc:X.calm=true) (hi:PI X tg iter wi) (hg:PG X tg g) (hb:PSs X body tb)
    (hs:∀x,foldedSetIterable iter X.env x=pure x:=by intro _;rfl):PS X (.For tg iter body [] pos) (Ew wi g tb):=by
  intro pins s σ H D I h
  refine wpAny_For (thn (hi pins s σ H _ I h) fun v s1 h1=>thn h1 fun itv s2 h2=>?_) hs
  obtain ⟨it,fp,tn,J,H2,e,I2,T,st2,f2,W,⟨m0,w0⟩,turn⟩:=h2
  subst e
  have stat:∀{H':Hp},(∀b∈fp,H' b=none)→∀b∈fp,sg X pins H' b:=fun hn b hb=>⟨hn b hb,(f2 b hb).2⟩
  refine codeAny_forLoop_any (fun n s'=>∃i σ' H',Inv X pins σ' H' s'∧tn i s'.heap∧(∀b∈fp,H' b=none)∧W i n σ' H') ?_ m0 ⟨0,σ,H2,I2,st2,fun b hb=>(f2 b hb).1,w0⟩
  rintro n s3 ⟨i,σ3,H3,I3,st3,fr3,w3⟩
  rcases turn i n σ3 H3 w3 with ⟨stop,qn⟩ | ⟨go,N,hN,step⟩
  · refine wpAny_passesOwn hp (thn (T.done X rfl rfl rfl hc i pins s3 σ3 H3 X.xe I3 (stat fr3) st3 stop) fun r s4 ⟨hr,I4⟩=>?_)
    subst hr
    exact wpAny_execs_nil ⟨σ3,H3,I4,qn⟩
  · refine wpAny_passesOwn hp (thn (T.item X rfl rfl rfl hc i pins s3 σ3 H3 X.xe I3 (stat fr3) st3 go) fun r s4 ⟨u,hr,h4⟩=>?_)
    subst hr
    refine wpAny_passesOwn hp (thn h4 fun _ s5 ⟨x,H5,I5,r5,y5,st5,fr5⟩=>?_)
    have I5':=I5.pinned (stat fr5) (T.obj _ _ st5)
    refine wpAny_passesOwn hp (thn (hg _ s5 σ3 H5 x u _ I5' r5 (step x H5 y5)) fun _ s6 ⟨σ6,H6,I6,q6⟩=>?_)
    refine wpAny_passesOwn hp (thn (hb _ s6 σ6 H6 _ I6 q6) fun f s7 q7=>?_)
    have again:∀{σ7:St}{H7:Hp},Inv X (pins++mn fp s5.heap) σ7 H7 s7→N σ7 H7→∃m,m<n∧∃i σ' H',Inv X pins σ' H' s7∧tn i s7.heap∧(∀b∈fp,H' b=none)∧W i m σ' H':=fun {σ7 H7} I7 n7=>by
      obtain ⟨m',hm,w7⟩:=hN σ7 H7 n7
      refine⟨m',hm,i+1,σ7,H7,I7.oN,T.keep _ _ _ st5 fun b hb o e=>(I7.pin (b,o) (List.mem_append_right _ (List.mem_append_right _ (lg hb e)))).1,fun b hb=>?_,w7⟩
      obtain ⟨o,e,d⟩:=T.obj _ _ st5 b hb
      exact (I7.pin (b,o) (List.mem_append_right _ (List.mem_append_right _ (lg hb e)))).2.1
    cases f with
    | next=>obtain ⟨σ7,H7,I7,n7⟩:=q7;exact again I7 n7
    | cont=>obtain ⟨σ7,H7,I7,n7⟩:=q7;exact again I7 n7
    | brk=>obtain ⟨σ7,H7,I7,q7⟩:=q7;exact⟨σ7,H7,I7.oN,q7⟩
    | ret v=>obtain ⟨x7,σ7,H7,I7,r7,q7⟩:=q7;exact⟨x7,σ7,H7,I7.oN,r7,q7⟩
end
end L2
namespace L2
open PySem PySem.Spec PyProof.Rows
abbrev R2:=V→V→Hp→VK→Prop
def OpR (X:Cx) (f:Value→Value→Sem Value) (r:R2):Prop :=
  ∀(pins:List (Addr × Obj)) (s:Shared) (σ:St) (H:Hp) (x y:V) (v u:Value) (Q:VK),Inv X pins σ H s→RelV x v→RelV y u→r x y H Q →
    wpAny (model X.prog X.w) X.A (f v u) (EP X pins σ Q) X.xe s
def UnR (X:Cx) (f:Value→Sem Value) (r:V→Hp→VK→Prop):Prop :=
  ∀(pins:List (Addr × Obj)) (s:Shared) (σ:St) (H:Hp) (x:V) (v:Value) (Q:VK),Inv X pins σ H s→RelV x v→r x H Q →
    wpAny (model X.prog X.w) X.A (f v) (EP X pins σ Q) X.xe s
def iU (X:Cx) (f:Value) (r:List V→Hp→VK→Prop):Prop :=
  ∀(pins:List (Addr × Obj)) (s:Shared) (σ:St) (H:Hp) (xs:List V) (us:List Value) (Q:VK),Inv X pins σ H s→Vals xs us→r xs H Q →
    wpAny (model X.prog X.w) X.A (call f us) (EP X pins σ Q) X.xe s
def tOp (r:R2) (ta tb:TE):TE:=fun σ H Q=>ta σ H fun x H1=>tb σ H1 fun y H2=>r x y H2 Q
def tUn (r:V→Hp→VK→Prop) (ta:TE):TE:=fun σ H Q=>ta σ H fun x H1=>r x H1 Q
def rI (C:Int→Int→Prop) (g:Int→Int→V):R2:=fun x y H Q=>∃i j,x=.int i∧y=.int j∧C i j∧Q (g i j) H
def rI0 (g:Int→Int→V):R2:=fun x y H Q=>∃i j,x=.int i∧y=.int j∧Q (g i j) H
def rU (g:Int→V):V→Hp→VK→Prop:=fun x H Q=>∃i,x=.int i∧Q (g i) H
section
variable {X:Cx}{a b c:Expr}{ta tb tc:TE}{pos:Pos}
theorem Gi (ha:PE X a ta) (hb:PE X b tb) {pins:List (Addr × Obj)}{s:Shared}{σ:St}{H:Hp}{R:V→V→Hp→Prop} (I:Inv X pins σ H s)
    (h:ta σ H fun x H1=>tb σ H1 fun y H2=>R x y H2) {Q:Value→Shared→Prop}{f:Value→Value→Sem Value}
    (hf:∀v u s2 x y H2,Inv X pins σ H2 s2→RelV x v→RelV y u→R x y H2→wpAny (model X.prog X.w) X.A (f v u) Q X.xe s2) :
    wpAny (model X.prog X.w) X.A (eval a X.env) (fun v s₁=>wpAny (model X.prog X.w) X.A (eval b X.env) (fun u s₂=>wpAny (model X.prog X.w) X.A (f v u) Q X.xe s₂) X.xe s₁) X.xe s:=by
  refine thn (ha pins s σ H _ I h) fun v s1 ⟨x,H1,I1,r1,q1⟩=>?_
  refine thn (hb pins s1 σ H1 _ I1 q1) fun u s2 ⟨y,H2,I2,r2,q2⟩=>?_
  exact hf v u s2 x y H2 I2 r1 r2 q2
theorem bj {op:Operator}{r:R2} (ho:OpR X (binaryOp op) r) (ha:PE X a ta) (hb:PE X b tb):PE X (.BinOp a op b pos) (tOp r ta tb):=by
  intro pins s σ H Q I h
  exact wpAny_BinOp (Gi ha hb I h fun v u s2 x y H2 I2 rx ry q=>ho pins s2 σ H2 x y v u Q I2 rx ry q)
theorem Ff {op:UnaryOp}{r:V→Hp→VK→Prop} (ho:UnR X (unaryOp op) r) (ha:PE X a ta):PE X (.UnaryOp op a pos) (tUn r ta):=by
  intro pins s σ H Q I h
  exact UnaryOp_ (thn (ha pins s σ H _ I h) fun v s1 ⟨x,H1,I1,r1,q1⟩=>ho pins s1 σ H1 x v Q I1 r1 q1)
theorem opI {f:Value→Value→Sem Value}{C:Int→Int→Prop}{g:Int→Int→Int}
    (rule:∀(i j:Int) (t u:Tok) (s:Shared) (Q:Value→Shared→Prop) (E:Value→Shared→Prop),C i j→Q (.int (g i j) s.toks) { s with toks:=s.toks+1 }→wpAny (model X.prog X.w) X.A (f (.int i t) (.int j u)) Q E s) :
    OpR X f (rI C fun i j=>.int (g i j)):=by
  intro pins s σ H x y v u Q I rx ry h
  obtain ⟨i,j,rfl,rfl,hc,q⟩:=h
  obtain ⟨t,rfl⟩:=rx
  obtain ⟨t',rfl⟩:=ry
  exact rule i j t t' s _ _ hc ⟨.int (g i j),H,I.tok _,⟨_,rfl⟩,q⟩
theorem GL {f:Value→Value→Sem Value}{g:Int→Int→Int}
    (rule:∀(i j:Int) (t u:Tok) (s:Shared) (Q:Value→Shared→Prop) (E:Value→Shared→Prop),Q (.int (g i j) s.toks) { s with toks:=s.toks+1 }→wpAny (model X.prog X.w) X.A (f (.int i t) (.int j u)) Q E s) :
    OpR X f (rI0 fun i j=>.int (g i j)):=by
  intro pins s σ H x y v u Q I rx ry h
  obtain ⟨i,j,rfl,rfl,q⟩:=h
  obtain ⟨t,rfl⟩:=rx
  obtain ⟨t',rfl⟩:=ry
  exact rule i j t t' s _ _ ⟨.int (g i j),H,I.tok _,⟨_,rfl⟩,q⟩
theorem D7 {f:Value→Value→Sem Value}{g:Int→Int→Bool}
    (rule:∀(i j:Int) (t u:Tok) (s:Shared) (Q:Value→Shared→Prop) (E:Value→Shared→Prop),Q (.bool (g i j)) s→wpAny (model X.prog X.w) X.A (f (.int i t) (.int j u)) Q E s) :
    OpR X f (rI0 fun i j=>.bl (g i j)):=by
  intro pins s σ H x y v u Q I rx ry h
  obtain ⟨i,j,rfl,rfl,q⟩:=h
  obtain ⟨t,rfl⟩:=rx
  obtain ⟨t',rfl⟩:=ry
  exact rule i j t t' s _ _ ⟨.bl (g i j),H,I,rfl,q⟩
def HD (i j:Int):Prop:=0≤j∧j≤1000000∧i.natAbs<2 ^ 64
theorem iz:OpR X (binaryOp .Add) (rI0 fun i j=>.int (i+j)):=GL fun _ _ _ _ _ _ _ q=>add_int q
theorem jK:OpR X (binaryOp .Sub) (rI0 fun i j=>.int (i - j)):=GL fun _ _ _ _ _ _ _ q=>sub_int q
theorem jR:OpR X (binaryOp .Mod) (rI (fun _ j=>0<j) fun i j=>.int (i % j)):=opI fun i j _ _ _ _ _ hc q=>by
  have h1:(0:Int)<j:=hc
  exact mod_int' (by omega) (by rw[Int.fmod_eq_emod_of_nonneg i (by omega)];exact q)
theorem B5:OpR X (binaryOp .Pow) (rI HD fun i j=>.int (i ^ j.toNat)):=opI fun _ _ _ _ _ _ _ hc q=>pow_int_small hc.1 hc.2.1 hc.2.2 q
theorem unI {f:Value→Sem Value}{g:Int→Int}
    (rule:∀(i:Int) (t:Tok) (s:Shared) (Q:Value→Shared→Prop) (E:Value→Shared→Prop),Q (.int (g i) s.toks) { s with toks:=s.toks+1 }→wpAny (model X.prog X.w) X.A (f (.int i t)) Q E s) :
    UnR X f (rU fun i=>.int (g i)):=by
  intro pins s σ H x v Q I rx h
  obtain ⟨i,rfl,q⟩:=h
  obtain ⟨t,rfl⟩:=rx
  exact rule i t s _ _ ⟨.int (g i),H,I.tok _,⟨_,rfl⟩,q⟩
theorem Bq:UnR X (unaryOp .USub) (rU fun i=>.int (-i)):=unI fun _ _ _ _ _ q=>neg_int q
end
def bC:V→V→Bool
  | .non,.non=>true | .non,.int _=>true | .int _,.non=>true | .non,.bl _=>true | .bl _,.non=>true | .non,.str _=>true | .str _,.non=>true
  | .int _,.int _=>true | .bl _,.bl _=>true | .str _,.str _=>true | .byt _,.byt _=>true
  | .int _,.str _=>true | .str _,.int _=>true | .bl _,.str _=>true | .str _,.bl _=>true
  | _,_=>false
def rEq:R2:=fun x y H Q=>bC x y=true∧Q (.bl (decide (x=y))) H
def rNe:R2:=fun x y H Q=>bC x y=true∧Q (.bl (!decide (x=y))) H
theorem An {i j:Int}:decide (V.int i=V.int j)=(i == j):=by
  rw[Bool.eq_iff_iff]
  simp
theorem BV {i j:Bool}:decide (V.bl i=V.bl j)=(i == j):=by
  rw[Bool.eq_iff_iff]
  simp
theorem Ac {i j:Str}:decide (V.str i=V.str j)=(i == j):=by
  rw[Bool.eq_iff_iff]
  simp
theorem zW {i j:Array UInt8}:decide (V.byt i=V.byt j)=(i.toList == j.toList):=by
  rw[Bool.eq_iff_iff]
  cases i
  cases j
  simp
section
variable {X:Cx}{a b c:Expr}{ta tb tc:TE}{pos:Pos}
theorem bW {pins:List (Addr × Obj)}{σ:St}{H:Hp}{s:Shared}{Q:VK}{k k':Bool} (I:Inv X pins σ H s) (q:Q (.bl k) H) (e:k=k'):EP X pins σ Q (.bool k') s:=by
  subst e
  exact⟨.bl k,H,I,rfl,q⟩
theorem cY:OpR X (compareOp .Eq) rEq:=by
  intro pins s σ H x y v u Q I rx ry h
  obtain ⟨hs,q⟩:=h
  cases x with
  | non =>
    cases rx
    cases y with
    | non=>cases ry;exact PySem.EqNone.eq_none_none (bW I q (by simp))
    | bl j=>cases ry;exact PySem.EqNone.eq_none_bool (bW I q (by simp))
    | int j=>obtain ⟨t',rfl⟩:=ry;exact PySem.EqNone.eq_none_int (bW I q (by simp))
    | str j=>obtain ⟨t',rfl⟩:=ry;exact PySem.EqNone.eq_none_str (bW I q (by simp))
    | _=>exact absurd (show false=true from hs) Bool.false_ne_true
  | bl i =>
    cases rx
    cases y with
    | non=>cases ry;exact PySem.EqNone.eq_bool_none (bW I q (by simp))
    | bl j=>cases ry;exact eq_bool (bW I q BV)
    | str j=>obtain ⟨t',rfl⟩:=ry;exact PySem.EqMixed.eq_bool_str (bW I q (by simp))
    | _=>exact absurd (show false=true from hs) Bool.false_ne_true
  | int i =>
    obtain ⟨t,rfl⟩:=rx
    cases y with
    | non=>cases ry;exact PySem.EqNone.eq_int_none (bW I q (by simp))
    | int j=>obtain ⟨t',rfl⟩:=ry;exact eq_int (bW I q An)
    | str j=>obtain ⟨t',rfl⟩:=ry;exact PySem.EqMixed.eq_int_str (bW I q (by simp))
    | _=>exact absurd (show false=true from hs) Bool.false_ne_true
  | str i =>
    obtain ⟨t,rfl⟩:=rx
    cases y with
    | non=>cases ry;exact PySem.EqNone.eq_str_none (bW I q (by simp))
    | bl j=>cases ry;exact PySem.EqMixed.eq_str_bool (bW I q (by simp))
    | int j=>obtain ⟨t',rfl⟩:=ry;exact PySem.EqMixed.eq_str_int (bW I q (by simp))
    | str j=>obtain ⟨t',rfl⟩:=ry;exact eq_str (bW I q Ac)
    | _=>exact absurd (show false=true from hs) Bool.false_ne_true
  | byt i =>
    obtain ⟨t,rfl⟩:=rx
    cases y with
    | byt j=>obtain ⟨t',rfl⟩:=ry;exact PySem.W.eq_bytes (bW I q zW)
    | _=>exact absurd (show false=true from hs) Bool.false_ne_true
  | _=>cases y<;>exact absurd (show false=true from hs) Bool.false_ne_true
theorem tq:OpR X (compareOp .NotEq) rNe:=by
  intro pins s σ H x y v u Q I rx ry h
  obtain ⟨hs,q⟩:=h
  cases x with
  | non =>
    cases rx
    cases y with
    | non=>cases ry;exact PySem.EqNone.ne_none_none (bW I q (by simp))
    | bl j=>cases ry;exact PySem.EqNone.ne_none_bool (bW I q (by simp))
    | int j=>obtain ⟨t',rfl⟩:=ry;exact PySem.EqNone.ne_none_int (bW I q (by simp))
    | str j=>obtain ⟨t',rfl⟩:=ry;exact PySem.EqNone.ne_none_str (bW I q (by simp))
    | _=>exact absurd (show false=true from hs) Bool.false_ne_true
  | bl i =>
    cases rx
    cases y with
    | non=>cases ry;exact PySem.EqNone.ne_bool_none (bW I q (by simp))
    | bl j=>cases ry;exact ne_bool (bW I q (congrArg not BV))
    | str j=>obtain ⟨t',rfl⟩:=ry;exact PySem.EqMixed.ne_bool_str (bW I q (by simp))
    | _=>exact absurd (show false=true from hs) Bool.false_ne_true
  | int i =>
    obtain ⟨t,rfl⟩:=rx
    cases y with
    | non=>cases ry;exact PySem.EqNone.ne_int_none (bW I q (by simp))
    | int j=>obtain ⟨t',rfl⟩:=ry;exact ne_int (bW I q (congrArg not An))
    | str j=>obtain ⟨t',rfl⟩:=ry;exact PySem.EqMixed.ne_int_str (bW I q (by simp))
    | _=>exact absurd (show false=true from hs) Bool.false_ne_true
  | str i =>
    obtain ⟨t,rfl⟩:=rx
    cases y with
    | non=>cases ry;exact PySem.EqNone.ne_str_none (bW I q (by simp))
    | bl j=>cases ry;exact PySem.EqMixed.ne_str_bool (bW I q (by simp))
    | int j=>obtain ⟨t',rfl⟩:=ry;exact PySem.EqMixed.ne_str_int (bW I q (by simp))
    | str j=>obtain ⟨t',rfl⟩:=ry;exact ne_str (bW I q (congrArg not Ac))
    | _=>exact absurd (show false=true from hs) Bool.false_ne_true
  | byt i =>
    obtain ⟨t,rfl⟩:=rx
    cases y with
    | byt j=>obtain ⟨t',rfl⟩:=ry;exact PySem.W.ne_bytes (bW I q (congrArg not zW))
    | _=>exact absurd (show false=true from hs) Bool.false_ne_true
  | _=>cases y<;>exact absurd (show false=true from hs) Bool.false_ne_true
theorem BR:OpR X (compareOp .Lt) (rI0 fun i j=>.bl (decide (i<j))):=D7 fun _ _ _ _ _ _ _ q=>lt_int q
theorem qD:OpR X (compareOp .LtE) (rI0 fun i j=>.bl (decide (i≤j))):=D7 fun _ _ _ _ _ _ _ q=>le_int q
theorem Cq:OpR X (compareOp .Gt) (rI0 fun i j=>.bl (decide (j<i))):=D7 fun _ _ _ _ _ _ _ q=>gt_int q
theorem Bi:OpR X (compareOp .GtE) (rI0 fun i j=>.bl (decide (j≤i))):=D7 fun _ _ _ _ _ _ _ q=>ge_int q
theorem a6 (b:Expr) {op:CmpOp} (h:op≠.In:=by decide) (h2:op≠.NotIn:=by decide):behindInMarks op b=false:=by
  have e1:(op == CmpOp.In)=false:=by cases op<;>first | rfl | exact absurd rfl h
  have e2:(op == CmpOp.NotIn)=false:=by cases op<;>first | rfl | exact absurd rfl h2
  cases b<;>simp [behindInMarks,e1,e2]
theorem cE {op:CmpOp}{r:R2} (ho:OpR X (compareOp op) r) (ha:PE X a ta) (hb:PE X b tb) (hm:behindInMarks op b=false):PE X (.Compare a [op] [b] pos) (tOp r ta tb):=by
  intro pins s σ H Q I h
  exact wpAny_Compare1 (Gi ha hb I h fun v u s2 x y H2 I2 rx ry q=>ho pins s2 σ H2 x y v u Q I2 rx ry q) hm
def By (t:TE):TT:=fun σ H Q=>t σ H fun x H'=>∃k,x=.bl k∧Q k H'
theorem bD {op:CmpOp}{r:R2} (ho:OpR X (compareOp op) r) (ha:PE X a ta) (hb:PE X b tb) (hm:behindInMarks op b=false):PT X (.Compare a [op] [b] pos) (By (tOp r ta tb)):=by
  intro pins s σ H Q I h
  refine wpAny_isTrue_Compare1 (thn (ha pins s σ H _ I h) fun v s1 ⟨x,H1,I1,r1,q1⟩=>thn (hb pins s1 σ H1 _ I1 q1) fun u s2 ⟨y,H2,I2,r2,q2⟩ =>
    thn (ho pins s2 σ H2 x y v u _ I2 r1 r2 q2) fun c s3 ⟨z,H3,I3,r3,k,e,q3⟩=>?_) hm
  subst e
  cases r3
  exact wpAny_truthy_bool ⟨H3,I3,q3⟩
def yn (r r':R2) (ta tb tc:TE):TE:=fun σ H Q=>ta σ H fun x H1=>tb σ H1 fun y H2=>r x y H2 fun z H3=>∃k,z=.bl k ∧
  (if k=true then tc σ H3 fun w' H4=>r' y w' H4 Q else Q (.bl false) H3)
theorem ma {op op':CmpOp}{r r':R2} (ho:OpR X (compareOp op) r) (ho':OpR X (compareOp op') r') (ha:PE X a ta) (hb:PE X b tb) (hc:PE X c tc)
    (hm:lastMarks [op,op'] [b,c]=false:=by with_unfolding_all rfl):PE X (.Compare a [op,op'] [b,c] pos) (yn r r' ta tb tc):=by
  intro pins s σ H Q I h
  refine Compare_chain (thn (ha pins s σ H _ I h) fun v s1 ⟨x,H1,I1,r1,q1⟩=>chain_link (thn (hb pins s1 σ H1 _ I1 q1) fun u s2 ⟨y,H2,I2,r2,q2⟩ =>
    thn (ho pins s2 σ H2 x y v u _ I2 r1 r2 q2) fun d s3 ⟨z,H3,I3,r3,k,e,q3⟩=>?_)) hm
  subst e
  cases r3
  refine wpAny_truthy_bool ?_
  cases k with
  | false=>exact ite_ff ⟨.bl false,H3,I3,rfl,q3⟩
  | true=>exact ite_tt (chain_last (thn (hc pins s3 σ H3 _ I3 q3) fun w' s4 ⟨z',H4,I4,r4,q4⟩=>ho' pins s4 σ H4 y z' u w' Q I4 r2 r4 q4))
theorem xN {op op':CmpOp}{r r':R2} (ho:OpR X (compareOp op) r) (ho':OpR X (compareOp op') r') (ha:PE X a ta) (hb:PE X b tb) (hc:PE X c tc)
    (hm:lastMarks [op,op'] [b,c]=false:=by with_unfolding_all rfl):PT X (.Compare a [op,op'] [b,c] pos) (By (yn r r' ta tb tc)):=by
  intro pins s σ H Q I h
  refine isTrue_chain (thn (ha pins s σ H _ I h) fun v s1 ⟨x,H1,I1,r1,q1⟩=>test_link (thn (hb pins s1 σ H1 _ I1 q1) fun u s2 ⟨y,H2,I2,r2,q2⟩ =>
    thn (ho pins s2 σ H2 x y v u _ I2 r1 r2 q2) fun d s3 ⟨z,H3,I3,r3,k,e,q3⟩=>?_)) hm
  subst e
  cases r3
  refine wpAny_truthy_bool ?_
  cases k with
  | false =>
    obtain ⟨k',e',q'⟩:=q3
    cases e'
    exact ite_ff ⟨H3,I3,q'⟩
  | true =>
    refine ite_tt (test_last (thn (hc pins s3 σ H3 _ I3 q3) fun w' s4 ⟨z',H4,I4,r4,q4⟩=>thn (ho' pins s4 σ H4 y z' u w' _ I4 r2 r4 q4) fun d' s5 ⟨z2,H5,I5,r5,k2,e2,q5⟩=>?_))
    subst e2
    cases r5
    exact wpAny_truthy_bool ⟨H5,I5,q5⟩
theorem vw:(sizeLine:Nat)<2 ^ 63:=by rw[sizeLine_eq];decide
theorem vals1 {x:V}{us:List Value} (r:Vals [x] us):∃u,us=[u]∧RelV x u:=by
  cases r with
  | cons r1 r2=>cases r2;exact⟨_,rfl,r1⟩
theorem vals2 {x y:V}{us:List Value} (r:Vals [x,y] us):∃u w',us=[u,w']∧RelV x u∧RelV y w':=by
  cases r with
  | cons r1 r2 =>
    cases r2 with
    | cons r3 r4=>cases r4;exact⟨_,_,rfl,r1,r3⟩
theorem B6:iU X (.builtin "abs") (fun xs H Q=>∃i,xs=[.int i]∧Q (.int (if i<0 then -i else i)) H):=by
  intro pins s σ H xs us Q I r h
  obtain ⟨i,rfl,q⟩:=h
  obtain ⟨u,rfl,t,rfl⟩:=vals1 r
  exact call_abs_int fun u tk=>⟨.int (if i<0 then -i else i),H,I.tok _,⟨_,rfl⟩,q⟩
end
end L2
namespace L2
open PySem PySem.Spec PyProof.Rows
structure yt (h:Heap) (x dx C:Addr) (mA:Str→Option Value):Prop where
  obj:h.get? x=some (PySem.W.instObj C dx)
  ns:h.Ns1 dx mA
  ne:dx≠x
theorem As {h:Heap}{dx:Addr}{mA:Str→Option Value} (n:h.Ns1 dx mA):∃od,h.get? dx=some od∧∀name,PySem.W.lookIn name od=some (mA name):=by
  obtain ⟨o,es,ep,ho,hd,hk,_,hm⟩:=n
  refine⟨o,ho,fun name=>?_⟩
  have e:=hm name
  unfold nsFind findBy at e
  rw[← Array.find?_toList] at e
  unfold PySem.W.lookIn
  rw[hd]
  dsimp only
  split
  · rename_i y q
    rw[q] at e
    exact congrArg some e
  · rename_i q
    rw[q] at e
    have a:es.toList.any (·.refKey)=false:=by
      rw[List.any_eq_false]
      intro y hy
      obtain ⟨z,t,hkey⟩:=hk y (Array.mem_toList_iff.mp hy)
      simp [DictEntry.refKey,hkey]
    have a':¬ es.toList.any (·.refKey)=true:=by rw[a];exact Bool.false_ne_true
    rw[if_neg a']
    exact congrArg some e
theorem yt.look {h:Heap}{x dx C:Addr}{mA:Str→Option Value} (I:yt h x dx C mA):∃od,PySem.W.InstAt h x (PySem.W.instObj C dx) C (some od)∧∀name,PySem.W.lookIn name od=some (mA name) :=
  let ⟨od,ho,hl⟩:=As I.ns
  ⟨od,⟨I.obj,rfl,rfl,ho⟩,hl⟩
section
variable {prog:Program}{w:World}{A:Around}{E:Value→Shared→Prop}{s:Shared}{K:PySem.W.Frag}{x dx C f:Addr}{mA:Str→Option Value}{name:Str}{v:Value}
theorem get_map {expr:Bool}{Q:Value→Shared→Prop} (X:K.In s.heap) (I:yt s.heap x dx C mA) (hg:PySem.W.plainGet K C name=true) (hh:PySem.W.hasDictIn K C=true)
    (ha:PySem.W.findIn K (.ref C) name=some none) (hv:mA name=some v) (hv':PySem.W.handedIn v=true) (h:Q v { s with toks:=s.toks+1 }) :
    wpAny (model prog w) A (getAttr (.ref x) name expr) Q E s:=by
  obtain ⟨od,J,hl⟩:=I.look
  exact PySem.W.get_value X J (PySem.W.plainGet_of hg).1 (PySem.W.findObj_own hh ha rfl (by rw[hl,hv])) hv' h
theorem B8 {pl:Sem Bool}{Q:Value × List Value→Shared→Prop} (X:K.In s.heap) (I:yt s.heap x dx C mA) (hg:PySem.W.plainGet K C name=true)
    (hf:PySem.W.findIn K (.ref C) name=some (some (.ref f))) (ht:PySem.W.isFn K (.ref f)=true) (hv:mA name=none) (h:Q (.ref f,[.ref x]) s) :
    wpAny (model prog w) A (getMethod (.ref x) name pl) Q E s:=by
  obtain ⟨od,J,hl⟩:=I.look
  exact PySem.W.method_fn X J (PySem.W.plainGet_of hg).1 (PySem.W.plainGet_of hg).2 hf (beq_iff_eq.mp ht) (by show (PySem.W.lookIn name od).map (·.isSome)=some false;rw[hl,hv];rfl) h
theorem DP {ns:List Str}{Q:Unit→Shared→Prop} (X:K.In s.heap) (I:yt s.heap x dx C mA)
    (hs:PySem.W.findIn K (.ref C) "__setattr__" = some (some (.builtin "object.__setattr__"))) (hp:PySem.W.plainOver K C=true) (ht:PySem.W.takerIn K C name=some none) (hh:PySem.W.hasDictIn K C=true)
    (hw:PySem.Within mA ns) (hsz:ns.length≤sizeLine)
    (h:∀h',yt h' x dx C (fun y=>if y=name then some v else mA y)→Heap.SameBut dx s.heap h'→Q () { s with heap:=h',toks:=s.toks+2 }) :
    wpAny (model prog w) A (setAttr (.ref x) name v) Q E s:=by
  obtain ⟨od,J,hl⟩:=I.look
  refine PySem.W.set_plain X J hs (PySem.W.osa_open (s:={ s with toks:=s.toks+1 }) (r:=none) X J hp ht fun b=>?_)
  obtain ⟨cd,hc,hd'⟩:=PySem.W.any_some hh
  have hx:s.heap.get? x=some ⟨.ref C,some dx,.plain,#[]⟩:=I.obj
  refine wpAny_bind (wpAny_pure (wpAny_bind (wpAny_bind (wpAny_loadPart hx (wpAny_bind (PySem.W.Looks.here (s:={ s with toks:=s.toks+1 }) (PySem.W.looks_clsIn X hc) ?_))))))
  rw[hd']
  refine wpAny_pure (a:=some dx) (wpAny_bind (wpAny_pure (wpAny_bind ?_)))
  refine wpAny_nsSet1 (s:={ s with toks:=s.toks+1 }) I.ns fun h' hn2 hs2=>?_
  obtain ⟨oD,esD,epD,hoD,hdD,hcD⟩:=hn2.count (PySem.Within.cons name v hw)
  refine wpAny_bind (wpAny_lookBehind hoD (by rw[hdD];exact pastItsLine_dict (Nat.le_trans hcD (by rw[List.length_cons];omega))) ?_)
  exact wpAny_pure (h _ ⟨(hs2.2 _ (Ne.symm I.ne)).trans I.obj,hn2,I.ne⟩ hs2)
theorem Bh {R:Result→Shared→Prop}{vs:List Value}{kw:List (Str × Value)} (X:K.In s.heap) (hm:PySem.W.makesIn K C=true)
    (hi:PySem.W.findIn K (.ref C) "__init__" = some (some (.ref f))) (hf:PySem.W.typeIn K (.ref f)=some (.type "function"))
    (h:codeAny (model prog w) (A.under (.builtin "type.__call__" ⟨.ref C::vs,kw⟩)) (.call (.ref f) ⟨.ref (s.heap.objs.size+1)::vs,kw⟩) (PySem.W.InitBack (s.heap.objs.size+1) R)
      { s with heap:=(s.heap.push PySem.W.emptyDict).push (PySem.W.instObj C s.heap.objs.size) }) :
    codeAny (model prog w) A (.call (.ref C) ⟨vs,kw⟩) R s:=by
  obtain ⟨hh,g,d,t,os⟩:=s
  exact PySem.W.make_core (PySem.W.makes_of X hm) (PySem.W.looks_findIn X hi) (fun self=>PySem.W.bind_fn X self hf) (.inl rfl) h
theorem Ar {R:Result→Shared→Prop} (X:K.In s.heap) (hm:PySem.W.makesIn K C=true)
    (hi:PySem.W.findIn K (.ref C) "__init__" = some (some (.builtin "object.__init__")))
    (hb:∀self,PySem.W.Looks (model prog w) s.heap (bindSpecial (.builtin "object.__init__") self) (.builtin "object.__init__",[self]))
    (h:codeAny (model prog w) (A.under (.builtin "type.__call__" ⟨[.ref C],[]⟩)) (.call (.builtin "object.__init__") ⟨[.ref (s.heap.objs.size+1)],[]⟩) (PySem.W.InitBack (s.heap.objs.size+1) R)
      { s with heap:=(s.heap.push PySem.W.emptyDict).push (PySem.W.instObj C s.heap.objs.size) }) :
    codeAny (model prog w) A (.call (.ref C) ⟨[],[]⟩) R s:=by
  obtain ⟨hh,g,d,t,os⟩:=s
  exact PySem.W.make_core (PySem.W.makes_of X hm) (PySem.W.looks_findIn X hi) hb (.inr ⟨rfl,rfl⟩) h
end
def kK (f:Str) (v:V):List (Str × V)→List (Str × V)
  | []=>[(f,v)]
  | (g,x)::r=>if g=f then (g,v)::r else (g,x)::kK f v r
theorem qo (f g:Str) (v:V):∀fs:List (Str × V),(kK f v fs).lookup g=if g=f then some v else fs.lookup g
  | []=>by
    show List.lookup g [(f,v)]=_
    by_cases h:g=f
    · have hb:(g == f)=true:=beq_iff_eq.mpr h
      simp only[List.lookup,hb,if_pos h]
    · have hb:(g == f)=false:=beq_eq_false_iff_ne.mpr h
      simp only[List.lookup,hb,if_neg h]
  | (k,x)::r=>by
    have ih:=qo f g v r
    rw[show kK f v ((k,x)::r)=(if k=f then (k,v)::r else (k,x)::kK f v r) from rfl]
    by_cases hk:k=f
    · rw[if_pos hk]
      by_cases h:g=k
      · have hb:(g == k)=true:=beq_iff_eq.mpr h
        simp only[List.lookup,hb,if_pos (h.trans hk)]
      · have hb:(g == k)=false:=beq_eq_false_iff_ne.mpr h
        simp only[List.lookup,hb,if_neg (fun e:g=f=>h (e.trans hk.symm))]
    · rw[if_neg hk]
      by_cases h:g=k
      · have hb:(g == k)=true:=beq_iff_eq.mpr h
        simp only[List.lookup,hb,if_neg (fun e:g=f=>hk (h.symm.trans e))]
      · have hb:(g == k)=false:=beq_eq_false_iff_ne.mpr h
        simp only[List.lookup,hb]
        exact ih
theorem qe (f:Str) (v:V):∀fs:List (Str × V),f∈(kK f v fs).map (·.1)∧∀g,g∈fs.map (·.1)→g∈(kK f v fs).map (·.1)
  | []=>⟨by simp [kK],fun g h=>by simp at h⟩
  | (k,x)::r=>by
    obtain ⟨i1,i2⟩:=qe f v r
    rw[show kK f v ((k,x)::r)=(if k=f then (k,v)::r else (k,x)::kK f v r) from rfl]
    by_cases hk:k=f
    · rw[if_pos hk]
      subst hk
      exact⟨by simp,fun g h=>by simpa using h⟩
    · rw[if_neg hk]
      refine⟨?_,fun g h=>?_⟩
      · rw[List.map_cons]
        exact List.mem_cons_of_mem _ i1
      · rw[List.map_cons] at h ⊢
        rcases List.mem_cons.mp h with e | e
        · exact List.mem_cons.mpr (.inl e)
        · exact List.mem_cons_of_mem _ (i2 g e)
theorem qw (f:Str) (v:V):∀fs:List (Str × V),(kK f v fs).length≤fs.length+1
  | []=>by simp [kK]
  | (k,x)::r=>by
    have ih:=qw f v r
    rw[show kK f v ((k,x)::r)=(if k=f then (k,v)::r else (k,x)::kK f v r) from rfl]
    by_cases hk:k=f
    · rw[if_pos hk,List.length_cons,List.length_cons];omega
    · rw[if_neg hk,List.length_cons,List.length_cons];omega
theorem tU.some_of {v:V}{o:Option Value} (r:tU (some v) o):∃u,o=some u∧RelV v u:=by
  cases o with
  | none=>exact (show False from r).elim
  | some u=>exact⟨u,rfl,r⟩
theorem tU.none_of {o:Option Value} (r:tU none o):o=none:=by
  cases o with
  | none=>rfl
  | some u=>exact (show False from r).elim
theorem AF {v:V}{u:Value} (r:RelV v u):PySem.W.handedIn u=true:=by
  cases v with
  | non=>cases (show u=Value.none from r);rfl
  | bl b=>cases (show u=Value.bool b from r);rfl
  | int i=>obtain ⟨t,e⟩:=(show ∃t,u=Value.int i t from r);cases e;rfl
  | str x=>obtain ⟨t,e⟩:=(show ∃t,u=Value.str x t from r);cases e;rfl
  | byt b=>obtain ⟨t,e⟩:=(show ∃t,u=Value.bytes b t from r);cases e;rfl
  | flt b=>obtain ⟨t,e⟩:=(show ∃t,u=Value.float b t from r);cases e;rfl
  | ref a=>cases (show u=Value.ref a from r);rfl
  | ty n=>cases (show u=Value.type n from r);rfl
section
variable {P:Program}{w:World}{H H':Hp}{h h':Heap}{a C dx:Addr}{fs fs':List (Str × V)}
theorem qX (hok:HOk P w H h) (e:H a=some (.ins C dx fs)):∃mA,yt h a dx C mA∧(∀f,tU (fs.lookup f) (mA f))∧PySem.Within mA (fs.map (·.1))∧fs.length≤1000∧H dx=some (.own a):=by
  obtain ⟨d,z,ne,ob,mA,n,r,q⟩:=(show fO P w H h a (.ins C dx fs) from hok a _ e)
  exact⟨mA,⟨ob,n,ne⟩,r,q,z,d⟩
end
structure Cls (K:PySem.W.Frag) (C:Addr):Prop where
  pg:PySem.W.plainGet K C Str.empty=true
  hd:PySem.W.hasDictIn K C=true
  po:PySem.W.plainOver K C=true
  sa:PySem.W.findIn K (.ref C) "__setattr__" = some (some (.builtin "object.__setattr__"))
theorem Cls.get {K:PySem.W.Frag}{C:Addr} (c:Cls K C) (f:Str):PySem.W.plainGet K C f=true:=c.pg
def bB (K:PySem.W.Frag) (C:Addr) (f:Str):Prop:=PySem.W.findIn K (.ref C) f=some none
theorem bB.taker {K:PySem.W.Frag}{C:Addr}{f:Str} (n:bB K C f):PySem.W.takerIn K C f=some none:=by
  unfold PySem.W.takerIn
  rw[show PySem.W.findIn K (.ref C) f=some none from n]
  rfl
structure Meth (K:PySem.W.Frag) (C:Addr) (m:Str) (f:Addr):Prop where
  at_:PySem.W.findIn K (.ref C) m=some (some (.ref f))
  fn:PySem.W.isFn K (.ref f)=true
  kp:PySem.W.keepIn K (.ref f)=true
section
variable {X:Cx}{pins:List (Addr × Obj)}{σ:St}{H:Hp}{s:Shared}{a C dx:Addr}{fs:List (Str × V)}{f:Str}{v:V}{A:Around}{E:Value→Shared→Prop}
theorem yI {b:Bool}{Q:Value→Shared→Prop} (I:Inv X pins σ H s) (e:H a=some (.ins C dx fs)) (c:Cls X.K C) (n:bB X.K C f) (l:fs.lookup f=some v)
    (h:∀u s',Inv X pins σ H s'→RelV v u→Q u s'):wpAny (model X.prog X.w) A (getAttr (.ref a) f b) Q E s:=by
  obtain ⟨mA,O,r,_,_,_⟩:=qX I.hok e
  obtain ⟨u,hu,ru⟩:=tU.some_of (v:=v) (o:=mA f) (by rw[← l];exact r f)
  exact get_map I.kIn O (c.get f) c.hd n hu (AF ru) (h u _ (I.tok _) ru)
theorem yD {m:Str}{g:Addr}{pl:Sem Bool}{Q:Value × List Value→Shared→Prop} (I:Inv X pins σ H s) (e:H a=some (.ins C dx fs)) (c:Cls X.K C) (k:Meth X.K C m g) (l:fs.lookup m=none)
    (h:Q (.ref g,[.ref a]) s):wpAny (model X.prog X.w) A (getMethod (.ref a) m pl) Q E s:=by
  obtain ⟨mA,O,r,_,_,_⟩:=qX I.hok e
  have hn:mA m=none:=tU.none_of (by rw[← l];exact r m)
  exact B8 I.kIn O (c.get m) k.at_ k.fn hn h
theorem y7 {y:V}{u:Value}{Q:Unit→Shared→Prop} (I:Inv X pins σ H s) (e:H a=some (.ins C dx fs)) (c:Cls X.K C) (n:bB X.K C f) (hl:fs.length<1000) (ry:RelV y u)
    (h:∀s',Inv X pins σ (upd H a (.ins C dx (kK f y fs))) s'→Q () s'):wpAny (model X.prog X.w) A (setAttr (.ref a) f u) Q E s:=by
  obtain ⟨mA,O,r,wi,_,ho⟩:=qX I.hok e
  have hz:(fs.map (·.1)).length≤sizeLine:=by rw[List.length_map,sizeLine_eq];omega
  refine DP I.kIn O c.sa c.po n.taker c.hd wi hz fun h' O' sb=>h _ ?_
  have hd:∃o,h'.get? dx=some o:=let ⟨o,_,_,e',_⟩:=O'.ns;⟨o,e'⟩
  refine I.write (x:=a) (e:=dx) (by rw[e];exact True.intro) (.inr ho) (fun b q hb z=>(sb.2 b hb).trans z) hd ?_
  refine⟨by rw[bf O.ne];exact ho,?_,O.ne,O'.obj,_,O'.ns,fun g=>?_,fun g hg=>?_⟩
  · have:=qw f y fs;omega
  · show tU ((kK f y fs).lookup g) (if g=f then some u else mA g)
    rw[qo]
    by_cases q:g=f
    · rw[if_pos q,if_pos q];exact ry
    · rw[if_neg q,if_neg q];exact r g
  · by_cases q:g=f
    · rw[q];exact (qe f y fs).1
    · refine (qe f y fs).2 g (wi g fun z=>hg ?_)
      show (if g=f then some u else mA g)=none
      rw[if_neg q];exact z
theorem Inv.made (I:Inv X pins σ H s):Inv X pins σ (upd (upd H s.heap.objs.size (.own (s.heap.objs.size+1))) (s.heap.objs.size+1) (.ins C s.heap.objs.size []))
    { s with heap:=(s.heap.push PySem.W.emptyDict).push (PySem.W.instObj C s.heap.objs.size) }:=by
  have e1:(s.heap.push PySem.W.emptyDict).get? s.heap.objs.size=some PySem.W.emptyDict:=Heap.get?_push_size s.heap rfl
  have e2:((s.heap.push PySem.W.emptyDict).push (PySem.W.instObj C s.heap.objs.size)).get? (s.heap.objs.size+1)=some (PySem.W.instObj C s.heap.objs.size):=by
    have:=Heap.get?_push_size (s.heap.push PySem.W.emptyDict) (o:=PySem.W.instObj C s.heap.objs.size) rfl
    rwa [Heap.size_push] at this
  have e3:(s.heap.push PySem.W.emptyDict).Ns s.heap.objs.size (fun _=>none):=⟨PySem.W.emptyDict,#[],_,e1,rfl,(fun e he=>absurd he (by simp)),fun _=>rfl⟩
  have I1:=I.laid (a:=s.heap.objs.size) (o:=.own (s.heap.objs.size+1)) (h':=s.heap.push PySem.W.emptyDict) (t':=s.toks) (fun b u q=>Heap.get?_push_of_some _ q) (Nat.le_refl _) ⟨_,e1⟩
  refine I1.laid (a:=s.heap.objs.size+1) (o:=.ins C s.heap.objs.size []) (t':=s.toks) (fun b u q=>Heap.get?_push_of_some _ q) (Nat.le_of_eq (Heap.size_push _ _)) ?_
  have ne:s.heap.objs.size≠s.heap.objs.size+1:=Nat.ne_of_lt (Nat.lt_succ_self _)
  refine⟨by rw[bf ne,aP],Nat.zero_le _,ne,e2,fun _=>none,(Heap.Ns1.of_empty e3).at fun o q=>Heap.get?_push_of_some _ q,fun _=>True.intro,fun y hy=>absurd rfl hy⟩
theorem Dy {prog:Program}{w:World}{env:Env}{e:Expr}{f:Str}{pos:Pos}{s:Shared}{Q:Value→Shared→Prop} (hb:attributeBase e f env (eval e env)=eval e env)
    (h:wpAny (model prog w) A (eval e env) (fun o s₁=>wpAny (model prog w) A (getAttr o f true) Q E s₁) E s):wpAny (model prog w) A (eval (.Attribute e f pos) env) Q E s :=
  Attribute_any_ h (by rw[arm_eval_Attribute,hb])
end
def F3 (K:PySem.W.Frag) (ta:TE) (f:Str):TE:=fun σ H Q=>ta σ H fun x H1=>∃a C dx fs v,x=.ref a∧H1 a=some (.ins C dx fs)∧Cls K C∧bB K C f∧fs.lookup f=some v∧Q v H1
def yN (K:PySem.W.Frag) (ta tv:TE) (f:Str):TS:=fun D σ H=>tv σ H fun y H1=>ta σ H1 fun x H2=>∃a C dx fs,x=.ref a∧H2 a=some (.ins C dx fs)∧Cls K C∧bB K C f∧fs.length<1000 ∧
  D.nx σ (upd H2 a (.ins C dx (kK f y fs)))
section
variable {X:Cx}{o e value:Expr}{f:Str}{pos pos' tpos:Pos}{ta tv:TE}
theorem Fn (he:PE X e ta) (hb:attributeBase e f X.env (eval e X.env)=eval e X.env):PE X (.Attribute e f pos) (F3 X.K ta f):=by
  intro pins s σ H Q I h
  refine Dy hb (thn (he pins s σ H _ I h) fun u s1 ⟨x,H1,I1,rx,a,C,dx,fs,v,ex,ea,c,n,l,q⟩=>?_)
  subst ex
  obtain rfl:u=Value.ref a:=rx
  exact yI I1 ea c n l fun u' s2 I2 ru=>⟨v,H1,I2,ru,q⟩
theorem Gb (ha:PE X o ta) (hv:PE X value tv) (hs:swapsWith value (some (.Attribute o f pos')) pos.line X.env=pure false):PS X (.Assign [.Attribute o f pos'] value pos) (yN X.K ta tv f):=by
  intro pins s σ H D I h
  refine plainObj_wpAny_Assign_Attribute (thn (hv pins s σ H _ I h) fun u s1 ⟨y,H1,I1,ry,q⟩=>thn (ha pins s1 σ H1 _ I1 q) fun ov s2 ⟨x,H2,I2,rx,a,C,dx,fs,ex,ea,c,n,l,q2⟩=>?_) hs
  subst ex
  obtain rfl:ov=Value.ref a:=rx
  exact y7 I2 ea c n l ry fun s3 I3=>⟨σ,_,I3,q2⟩
end
section
variable {X:Cx}{pins:List (Addr × Obj)}{σ:St}{H:Hp}{s:Shared}{A:Around}{E:Value→Shared→Prop}{Q:Value→Shared→Prop}{c:Value}{b:Bool}
inductive l9 (K:PySem.W.Frag) (H:Hp):V→Value→Prop where
  | non:l9 K H .non (.type "NoneType")
  | bl (x:Bool):l9 K H (.bl x) (.type "bool")
  | int (i:Int):l9 K H (.int i) (.type "int")
  | str (x:Str):l9 K H (.str x) (.type "str")
  | flt (x:UInt64):l9 K H (.flt x) (.type "float")
  | lst {a:Addr}{xs:List V} (e:H a=some (.lst xs)):l9 K H (.ref a) (.type "list")
  | frz {a:Addr}{o:Obj}{xs:List V} (e:H a=some (.frz o (.lst xs))):l9 K H (.ref a) (.type "list")
  | tup {a:Addr}{xs:List V} (e:H a=some (.tup xs)):l9 K H (.ref a) (.type "tuple")
  | dK {a:Addr}{kvs:List (Key × V)} (e:H a=some (.dK kvs)):l9 K H (.ref a) (.type "dict")
  | dT {a:Addr}{kvs:List (List Key × V)} (e:H a=some (.dT kvs)):l9 K H (.ref a) (.type "dict")
  | ins {a C dx:Addr}{fs:List (Str × V)} (e:H a=some (.ins C dx fs)) (cl:Cls K C) (ha:PySem.W.findIn K (.ref C) "__class__" = some (some (.builtin "object.__class__")))
      (hn:PySem.W.specialIn K (.builtin "object.__class__") "__get__" = some (some (.builtin "getset_descriptor.__get__"))) (htk:PySem.W.takesIn K (.builtin "object.__class__")=some true)
      (hm:PySem.W.mroIn K C (.type "object")=some true):l9 K H (.ref a) (.ref C)
theorem uH {x:V}{u t:Value} (I:Inv X pins σ H s) (rx:RelV x u) (ty:l9 X.K H x t) (e:PySem.W.kitOne X.K t c=some b) (h:∀tk,Q (.bool b) { s with toks:=tk }) :
    wpAny (model X.prog X.w) A (call (.builtin "isinstance") [u,c]) Q E s:=by
  cases ty with
  | non=>cases (show u=Value.none from rx);exact PySem.W.kia_one PySem.W.kitx_none I.kIn True.intro e (fun z=>nomatch z) h
  | bl y=>cases (show u=Value.bool y from rx);exact PySem.W.kia_one PySem.W.kitx_bool I.kIn True.intro e (fun z=>nomatch z) h
  | int i=>obtain ⟨t,q⟩:=(show ∃t,u=Value.int i t from rx);cases q;exact PySem.W.kia_one PySem.W.kitx_int I.kIn True.intro e (fun z=>nomatch z) h
  | str y=>obtain ⟨t,q⟩:=(show ∃t,u=Value.str y t from rx);cases q;exact PySem.W.kia_one PySem.W.kitx_str I.kIn True.intro e (fun z=>nomatch z) h
  | flt y=>obtain ⟨t,q⟩:=(show ∃t,u=Value.float y t from rx);cases q;exact PySem.W.kia_one PySem.W.kitx_float I.kIn True.intro e (fun z=>nomatch z) h
  | @lst a xs ea =>
    cases (show u=Value.ref a from rx)
    obtain ⟨_,_,n,_,h1⟩:=(show fO X.prog X.w H s.heap a (.lst xs) from I.hok a _ ea)
    exact PySem.W.kia_one PySem.W.kitx_list I.kIn ⟨_,h1,rfl⟩ e (fun z=>nomatch z) h
  | @frz a ob xs ea =>
    cases (show u=Value.ref a from rx)
    obtain ⟨_,_,_,n,_,h1⟩:=(show fO X.prog X.w H s.heap a (.frz ob (.lst xs)) from I.hok a _ ea)
    exact PySem.W.kia_one PySem.W.kitx_list I.kIn ⟨_,h1,rfl⟩ e (fun z=>nomatch z) h
  | @tup a xs ea =>
    cases (show u=Value.ref a from rx)
    obtain ⟨_,_,_,p⟩:=(show fO X.prog X.w H s.heap a (.tup xs) from I.hok a _ ea)
    obtain ⟨o,h1,h2,_⟩:=p
    exact PySem.W.kia_one PySem.W.kitx_tuple I.kIn ⟨o,h1,h2⟩ e (fun z=>nomatch z) h
  | @dK a kvs ea =>
    cases (show u=Value.ref a from rx)
    obtain ⟨_,_,vs,_,p⟩:=(show fO X.prog X.w H s.heap a (.dK kvs) from I.hok a _ ea)
    obtain ⟨o,es,ep,h1,h2,_⟩:=p
    exact PySem.W.kia_one PySem.W.kitx_dict I.kIn ⟨o,h1,h2.1⟩ e (fun z=>nomatch z) h
  | @dT a kvs ea =>
    cases (show u=Value.ref a from rx)
    obtain ⟨_,_,xs,_,o,es,ep,h1,h2,_⟩:=(show fO X.prog X.w H s.heap a (.dT kvs) from I.hok a _ ea)
    exact PySem.W.kia_one PySem.W.kitx_dict I.kIn ⟨o,h1,h2.1⟩ e (fun z=>nomatch z) h
  | @ins a C dx fs ea cl ha hn htk hm =>
    cases (show u=Value.ref a from rx)
    obtain ⟨mA,O,_⟩:=qX I.hok ea
    obtain ⟨od,J,_⟩:=O.look
    exact PySem.W.kia_one (PySem.W.kitx_own (cl.get _) cl.hd ha hn htk hm) I.kIn J e (fun z=>nomatch z) h
end
end L2
namespace L2
open PySem PySem.Spec PyProof.Rows
structure iQ (k:Nat) (A:Around):Prop where
  hd:A.handled=none
  dp:A.depth+3*k+5<recursionLimit
  un:A.units+16*k+200<cLine
theorem iQ.mono {j k:Nat}{A:Around} (r:iQ k A) (h:j≤k):iQ j A:=⟨r.hd,by have:=r.dp;omega,by have:=r.un;omega⟩
theorem iQ.deeper {k:Nat}{A:Around} (r:iQ (k+1) A) (env:Env):iQ k (A.deeper env) :=
  ⟨r.hd,by have:=r.dp;show A.depth+1+3*k+5<_;omega,by have:=r.un;show A.units+3+16*k+200<_;omega⟩
theorem yR {A:Around}{C:Addr}{us:List Value}{kw:List (Str × Value)}:(A.under (.builtin "type.__call__" ⟨.ref C::us,kw⟩)).depth=A.depth+1:=by
  first | rfl | simp [Around.under,Code.weight,Code.isCreation,Code.isGuard,Code.isCaller,Code.frames,Code.isFrame,guardIds]
theorem yZ {A:Around}{C:Addr}{us:List Value}{kw:List (Str × Value)}:(A.under (.builtin "type.__call__" ⟨.ref C::us,kw⟩)).units=A.units+1:=by
  first | rfl | simp [Around.under,Code.cUnits,Code.frames,Code.isFrame]
theorem iQ.make {k:Nat}{A:Around} (r:iQ (k+1) A) (C:Addr) (us:List Value) (kw:List (Str × Value)):iQ k (A.under (.builtin "type.__call__" ⟨.ref C::us,kw⟩)) :=
  ⟨r.hd,by have:=r.dp;rw[yR];omega,by have:=r.un;rw[yZ];omega⟩
theorem iQ.depth {k:Nat}{A:Around} (r:iQ k A):A.depth<recursionLimit:=by have:=r.dp;omega
theorem iQ.units {k:Nat}{A:Around} (r:iQ k A):A.units+64<cLine:=by have:=r.un;omega
def mT:TA:=fun _ H Q=>Q [] H
def fg (ta:TE) (tr:TA):TA:=fun σ H Q=>ta σ H fun x H1=>tr σ H1 fun xs H2=>Q (x::xs) H2
section
variable {X:Cx}{e:Expr}{es:List Expr}{te:TE}{t:TA}{pos:Pos}
theorem ai:PA X [] mT:=fun _ _ _ _ H Q I h=>Calls.spliced_nil ⟨[],H,I,.nil,h⟩
theorem aa (ha:PE X e te) (hr:PA X es t) (hs:starEach (e::es) X.env=(false,eval e X.env)::starEach es X.env:=by rfl):PA X (e::es) (fg te t):=by
  intro pos pins s σ H Q I h
  rw[hs]
  show wpAny _ _ (spliced ((false,eval e X.env)::backTo pos (starEach es X.env))) _ _ s
  refine Calls.spliced_cons (thn (ha pins s σ H _ I h) fun u s1 ⟨x,H1,I1,r1,q1⟩=>?_)
  exact thn (hr pos pins s1 σ H1 _ I1 q1) fun us s2 ⟨xs,H2,I2,r2,q2⟩=>⟨x::xs,H2,I2,.cons r1 r2,q2⟩
def GX (t:TA):TE:=fun σ H Q=>t σ H fun xs H1=>xs.length≤sizeLine∧∀p,H1 p=none→Q (.ref p) (upd H1 p (.tup xs))
def Fl (t:TA):TE:=fun σ H Q=>t σ H fun xs H1=>xs.length≤sizeLine∧∀p,H1 p=none→Q (.ref p) (upd H1 p (.lst xs))
theorem wu {x1} (h:PA X es t):PE X (.Tuple es x1 pos) (GX t):=by
  intro pins s σ H Q I hq
  refine wpAny_Tuple_spliced (thn (h pos pins s σ H _ I hq) fun us s1 ⟨xs,H1,I1,r,z,q⟩=>⟨by rw[← r.length];exact z,?_⟩)
  have hf:H1 s1.heap.objs.size=none:=I1.hok.fresh (Nat.le_refl _)
  refine⟨.ref s1.heap.objs.size,upd H1 s1.heap.objs.size (.tup xs),I1.laid (t':=s1.toks) (fun b u e=>Heap.get?_push_of_some _ e) (Nat.le_refl _) ?_,rfl,q _ hf⟩
  exact⟨z,us,r,⟨_,Heap.get?_push_size _ rfl,rfl,_,rfl⟩⟩
theorem aT (h:PA X es t):PE X (.List es pos) (Fl t):=by
  intro pins s σ H Q I hq
  refine wpAny_List_spliced (thn (h pos pins s σ H _ I hq) fun us s1 ⟨xs,H1,I1,r,z,q⟩=>⟨by rw[← r.length];exact z,?_⟩)
  have hf:H1 s1.heap.objs.size=none:=I1.hok.fresh (Nat.le_refl _)
  refine⟨.ref s1.heap.objs.size,upd H1 s1.heap.objs.size (.lst xs),I1.laid (t':=s1.toks) (fun b u e=>Heap.get?_push_of_some _ e) (Nat.le_refl _) ?_,rfl,q _ hf⟩
  exact⟨z,us,0,r,Heap.get?_push_size _ rfl⟩
end
abbrev Sp:=List V→Hp→VK→XK→Prop
abbrev CXT:=List Env→Hp→Shared→XK→Value→Shared→Prop
structure yM (P:Program) (w:World) (K:PySem.W.Frag) (mg:Str→Option Value) (base:Heap) (A:Around) (outer:List Env) (s:Shared) (H:Hp):Prop where
  frames:A.frames=some outer
  mod:Mod K mg base
  bs:∀b o,base.get? b=some o→s.heap.get? b=some o∧H b=none
  bsz:base.objs.size≤s.heap.objs.size
  pJ:s.heap.FunFrames base outer
  frf:∀b∈frs outer,H b=none
  hok:HOk P w H s.heap
  bare:AllBare s.gens
def CE (outer:List Env) (P:Program) (w:World) (H:Hp) (s:Shared) (Q:VK) (u:Value) (s':Shared):Prop :=
  ∃v H',s'.os=s.os∧AllBare s'.gens∧Un (frs outer) [] H H' s.heap s'.heap∧HOk P w H' s'.heap∧RelV v u∧Q v H'
def CR (CX:CXT) (outer:List Env) (P:Program) (w:World) (H:Hp) (s:Shared) (Q:VK) (E:XK) (r:Result) (s':Shared):Prop :=
  match r with
  | .ok (.ret u)=>CE outer P w H s Q u s'
  | .ok _=>False
  | .error e=>CX outer H s E e s'
structure aG (P:Program) (w:World) (K:PySem.W.Frag) (mg:Str→Option Value) (base:Heap) (CX:CXT) (k:Nat) (f:Addr) (fd:FuncData) (ps:List Str) (sp:Sp):Prop where
  len:∀vs H Q E,sp vs H Q E→vs.length=ps.length
  run:∀(A:Around) (outer:List Env) (s:Shared) (H:Hp) (args:Args) (us:List Value) (vs:List V) (Q:VK) (E:XK),iQ k A→yM P w K mg base A outer s H→BindsTo s fd args (ps.zip us)→Vals vs us→sp vs H Q E →
    codeAny (model P w) A (.call (.ref f) args) (CR CX outer P w H s Q E) s
theorem yM.make {P:Program}{w:World}{K:PySem.W.Frag}{mg:Str→Option Value}{base:Heap}{A:Around}{outer:List Env}{s:Shared}{H:Hp} (e:yM P w K mg base A outer s H) (C:Addr) (us:List Value) (kw:List (Str × Value)) :
    yM P w K mg base (A.under (.builtin "type.__call__" ⟨.ref C::us,kw⟩)) outer s H:=⟨by first | exact e.frames | (simpa [Around.under,Code.envs,Code.isFrame,pushEnvs] using e.frames),e.mod,e.bs,e.bsz,e.pJ,e.frf,e.hok,e.bare⟩
section
variable {X:Cx}{pins:List (Addr × Obj)}{σ:St}{H:Hp}{s s':Shared}
theorem Inv.wW (I:Inv X pins σ H s):yM X.prog X.w X.K X.mg X.base X.A X.stack s H :=
  ⟨I.ok.frames,I.ok.mod,I.bs,Nat.le_trans I.ok.bsz I.sz,I.stack,I.qZ,I.hok,I.bare⟩
theorem Inv.after {Q:VK}{u:Value} (I:Inv X pins σ H s) (h:CE X.stack X.prog X.w H s Q u s'):EP X pins σ Q u s':=by
  obtain ⟨v,H',os,bare,un,hok,r,q⟩:=h
  obtain ⟨hh,g,d,t,os'⟩:=s'
  obtain rfl:os'=s.os:=os
  exact⟨v,H',I.call (h':=hh) (g':=g) (d':=d) (t':=t) (ch:=[]) un hok bare (fun b z=>absurd z (by simp)),r,q⟩
end
def qv (sp:Sp) (dvs:List V) (E:XK) (t:TA):TE:=fun σ H Q=>t σ H fun vs H1=>sp (vs++dvs) H1 Q E
def EZ (C:Addr) (m:Str) (sp:Sp) (dvs:List V) (E:XK) (ta:TE) (t:TA):TE:=fun σ H Q=>ta σ H fun x H1=>∃a dx fs,x=.ref a∧H1 a=some (.ins C dx fs)∧fs.lookup m=none ∧
  t σ H1 fun vs H2=>sp (x::(vs++dvs)) H2 Q E
def BC (C:Addr) (sp:Sp) (dvs:List V) (E:XK) (t:TA):TE:=fun σ H Q=>t σ H fun vs H1=>∀x dx,H1 x=none→H1 dx=none→dx≠x →
  sp (.ref x::(vs++dvs)) (upd (upd H1 dx (.own x)) x (.ins C dx [])) (fun v H2=>v=.non∧Q (.ref x) H2) E
def Binds (K:PySem.W.Frag) (fd:FuncData) (ps:List Str) (ds:List Value):Prop :=
  ∀(s:Shared) (us:List Value),K.In s.heap→(us++ds).length=ps.length→BindsTo s fd ⟨us,[]⟩ (ps.zip (us++ds))
theorem Binds.all {K:PySem.W.Frag}{fd:FuncData}{ps:List Str} (h:∀us:List Value,us.length=ps.length→bindArgs fd ⟨us,[]⟩=pure (ps.zip us)):Binds K fd ps []:=fun s us _ hl=>by
  rw[List.append_nil] at hl ⊢
  exact .of_eq (h us hl)
def Passes (CX:CXT) (X:Cx) (E:XK):Prop:=∀(pins:List (Addr × Obj)) (σ:St) (H:Hp) (s:Shared) (e:Value) (s':Shared),Inv X pins σ H s→CX X.stack H s E e s'→X.xe e s'
section
variable {X:Cx}{CX:CXT}{k:Nat}{f C:Addr}{fd:FuncData}{ps:List Str}{sp:Sp}{dvs:List V}{ds:List Value}{E:XK}{x m:Str}{p pos apos:Pos}{e o:Expr}{es:List Expr}{ta:TE}{t:TA}
theorem C4 {pins:List (Addr × Obj)}{σ:St}{H:Hp}{s:Shared}{Q:VK}{us:List Value}{vs:List V} (F:aG X.prog X.w X.K X.mg X.base CX k f fd ps sp) (hr:iQ k X.A) (hb:Binds X.K fd ps ds) (hd:Vals dvs ds) (hx:Passes CX X E)
    (I:Inv X pins σ H s) (r:Vals vs us) (h:sp (vs++dvs) H Q E):wpAny (model X.prog X.w) X.A (call (.ref f) us) (EP X pins σ Q) X.xe s:=by
  have r2:Vals (vs++dvs) (us++ds):=r.append hd
  have hl:(us++ds).length=ps.length:=by rw[← r2.length];exact F.len _ _ _ _ h
  refine wpAny_call (codeAny_mono (F.run X.A X.stack s H ⟨us,[]⟩ (us++ds) (vs++dvs) Q E hr I.wW (hb s us I.kIn hl) r2 h) fun r s' hq=>?_)
  cases r with
  | error e=>exact hx pins σ H s e s' I hq
  | ok fl =>
    cases fl with
    | ret u=>exact I.after hq
    | next=>exact False.elim hq
    | brk=>exact False.elim hq
    | cont=>exact False.elim hq
theorem aF (F:aG X.prog X.w X.K X.mg X.base CX k f fd ps sp) (hr:iQ k X.A) (hg:Gl X x) (hm:X.mg x=some (.ref f)) (hk:PySem.W.keepIn X.K (.ref f)=true) (hb:Binds X.K fd ps ds) (hd:Vals dvs ds) (hx:Passes CX X E)
    (ha:PA X (e::es) t) (hdb:(x == ("__debug__" : Str))=false:=by decide) (he:starEach (e::es) X.env=(false,eval e X.env)::starEach es X.env:=by rfl) (hpl:(backTo pos (starEach es X.env)).any (·.1)=false:=by rfl) :
    PE X (.Call (.Name x p) (e::es) [] pos) (qv sp dvs E t):=by
  intro pins s σ H Q I h
  refine wpAny_Call_Name_kw (kU I hg hm ?_ hdb)
  refine PySem.W.callWith_K (h₀:=X.base) I.ok.mod.kin hk (thn (ha pos pins s σ H _ I h) fun us s1 ⟨vs,H1,I1,r,q⟩=>⟨I1.kIn,?_⟩) he hpl
  exact C4 F hr hb hd hx I1 r q
theorem aW {pl:Sem Bool} (he:PE X o ta) (c:Cls X.K C) (hm:Meth X.K C m f) (F:aG X.prog X.w X.K X.mg X.base CX k f fd ps sp) (hr:iQ k X.A) (hb:Binds X.K fd ps ds) (hd:Vals dvs ds) (hx:Passes CX X E)
    (ht:eval (.Call (.Attribute o m apos) [] [] pos) X.env=(do
      let ov ← eval o X.env
      standAt apos.atName
      let (f,first) ← holding [ov] (getMethod ov m pl)
      callWith pos f first (backTo pos (starEach [] X.env)) (backToKw pos (keywordEach [] X.env))):=by rfl) :
    PE X (.Call (.Attribute o m apos) [] [] pos) (EZ C m sp dvs E ta mT):=by
  intro pins s σ H Q I h
  refine PySem.W.methodCall_KW (pl:=pl) (thn (he pins s σ H _ I h) fun u s1 ⟨x,H1,I1,rx,a,dx,fs,ex,ea,l,q⟩=>?_) ht
  subst ex
  obtain rfl:u=Value.ref a:=rx
  refine yD I1 ea c hm l ?_
  exact PySem.W.callWith_K0 (first:=[.ref a]) I1.kIn hm.kp (C4 (us:=[.ref a]) (vs:=[.ref a]) F hr hb hd hx I1 (.cons rfl .nil) q)
structure Mk (K:PySem.W.Frag) (C f:Addr):Prop where
  makes:PySem.W.makesIn K C=true
  init:PySem.W.findIn K (.ref C) "__init__" = some (some (.ref f))
  fn:PySem.W.isFn K (.ref f)=true
  kp:PySem.W.keepIn K (.ref C)=true
theorem B7 {pins:List (Addr × Obj)}{σ:St}{H:Hp}{s:Shared}{Q:VK}{us:List Value}{vs:List V} (M:Mk X.K C f) (F:aG X.prog X.w X.K X.mg X.base CX k f fd ps sp) (hr:iQ (k+1) X.A) (hb:Binds X.K fd ps ds) (hd:Vals dvs ds)
    (hx:Passes CX X E) (I:Inv X pins σ H s) (r:Vals vs us)
    (h:∀x dx,H x=none→H dx=none→dx≠x→sp (.ref x::(vs++dvs)) (upd (upd H dx (.own x)) x (.ins C dx [])) (fun v H2=>v=.non∧Q (.ref x) H2) E) :
    wpAny (model X.prog X.w) X.A (call (.ref C) us) (EP X pins σ Q) X.xe s:=by
  have hq:=h (s.heap.objs.size+1) s.heap.objs.size (I.hok.fresh (Nat.le_succ _)) (I.hok.fresh (Nat.le_refl _)) (Nat.ne_of_lt (Nat.lt_succ_self _))
  have I2:=Inv.made (C:=C) I
  have r2:Vals (V.ref (s.heap.objs.size+1)::(vs++dvs)) (Value.ref (s.heap.objs.size+1)::(us++ds)):=.cons rfl (r.append hd)
  have hl:(Value.ref (s.heap.objs.size+1)::us++ds).length=ps.length:=by
    have e:=r2.length
    rw[F.len _ _ _ _ hq] at e
    exact e.symm
  refine wpAny_call (Bh (f:=f) I.kIn M.makes M.init (beq_iff_eq.mp M.fn) (codeAny_mono (F.run _ X.stack _ _ ⟨Value.ref (s.heap.objs.size+1)::us,[]⟩ (Value.ref (s.heap.objs.size+1)::(us++ds)) _ _ E (hr.make C us [])
    (I2.wW.make C us []) (hb _ (Value.ref (s.heap.objs.size+1)::us) I2.kIn hl) r2 hq) fun r s' hq'=>?_))
  cases r with
  | error e=>exact hx pins σ _ _ e s' I2 hq'
  | ok fl =>
    cases fl with
    | ret u =>
      obtain ⟨v,H',I3,rv,ev,q3⟩:=I2.after hq'
      subst ev
      exact⟨rv,⟨V.ref (s.heap.objs.size+1),H',I3,rfl,q3⟩⟩
    | next=>exact False.elim hq'
    | brk=>exact False.elim hq'
    | cont=>exact False.elim hq'
theorem iO (M:Mk X.K C f) (F:aG X.prog X.w X.K X.mg X.base CX k f fd ps sp) (hr:iQ (k+1) X.A) (hg:Gl X x) (hm:X.mg x=some (.ref C)) (hb:Binds X.K fd ps ds) (hd:Vals dvs ds) (hx:Passes CX X E)
    (ha:PA X (e::es) t) (hdb:(x == ("__debug__" : Str))=false:=by decide) (he:starEach (e::es) X.env=(false,eval e X.env)::starEach es X.env:=by rfl) (hpl:(backTo pos (starEach es X.env)).any (·.1)=false:=by rfl) :
    PE X (.Call (.Name x p) (e::es) [] pos) (BC C sp dvs E t):=by
  intro pins s σ H Q I h
  refine wpAny_Call_Name_kw (kU I hg hm ?_ hdb)
  refine PySem.W.callWith_K (h₀:=X.base) I.ok.mod.kin M.kp (thn (ha pos pins s σ H _ I h) fun us s1 ⟨vs,H1,I1,r,q⟩=>⟨I1.kIn,?_⟩) he hpl
  exact B7 M F hr hb hd hx I1 r q
end
def PK (X:Cx) (kws:List Keyword) (t:TA):Prop :=
  ∀(pos:Pos) (pins:List (Addr × Obj)) (s:Shared) (σ:St) (H:Hp) (Q:List V→Hp→Prop),Inv X pins σ H s→t σ H Q→wpAny (model X.prog X.w) X.A (evalAll ((backToKw pos (keywordEach kws X.env)).map (·.2))) (AP X pins σ Q) X.xe s
section
variable {X:Cx}{CX:CXT}{k:Nat}{f C:Addr}{fd:FuncData}{ps ks:List Str}{sp:Sp}{E:XK}{x m:Str}{p pos apos kpos:Pos}{e o:Expr}{es:List Expr}{kws:List Keyword}{te ta:TE}{t tk:TA}{nm:Option Str}
theorem Ge:PK X [] mT:=fun _ _ _ _ H Q I h=>wpAny_evalAll_nil ⟨[],H,I,.nil,h⟩
theorem Eh (ha:PE X e te) (hr:PK X kws t):PK X (⟨nm,e,kpos⟩::kws) (fg te t):=by
  intro pos pins s σ H Q I h
  show wpAny _ _ (evalAll ((do let v ← eval e X.env;standAt pos;pure v)::(backToKw pos (keywordEach kws X.env)).map (·.2))) _ _ s
  refine wpAny_evalAll_cons (wpAny_bind (thn (ha pins s σ H _ I h) fun u s1 ⟨x,H1,I1,r1,q1⟩=>wpAny_bind (wpAny_standAt (wpAny_pure ?_))))
  exact thn (hr pos pins s1 σ H1 _ I1 q1) fun us s2 ⟨xs,H2,I2,r2,q2⟩=>⟨x::xs,H2,I2,.cons r1 r2,q2⟩
variable {g:List Value→List Value→List Value}{gV:List V→List V→List V}
end
structure aJ (N P:List Str) (sc:Scope):Prop where
  kind:sc.kind=.function
  co:sc.isCoroutine=false
  gen:sc.isGenerator=false
  nd:N.Nodup
  pre:N.take P.length=P
  par:∀x∈P,sc.names.lookup x=some .local∨sc.names.lookup x=some .cell
  nofree:∀y∈sc.names,y.2≠.free
theorem uR {kindOf:Str→Option NameKind}{x:Str}:∀{binds:List (Str × Value)}{m:Str→Option Value},(∀v,(x,v)∉binds)→bindL kindOf binds m x=m x
  | [],_,_=>rfl
  | (n,v)::r,m,h=>by
    unfold bindL
    rw[uR fun w hw=>h w (List.mem_cons_of_mem _ hw)]
    split
    · have:x≠n:=by rintro rfl;exact h v List.mem_cons_self
      simp [this]
    · rfl
theorem uQ {kindOf:Str→Option NameKind}{x:Str}:∀{binds:List (Str × Value)}{m:Str→Option Value},(∀v,(x,v)∉binds)→bindC kindOf binds m x=m x
  | [],_,_=>rfl
  | (n,v)::r,m,h=>by
    unfold bindC
    rw[uQ fun w hw=>h w (List.mem_cons_of_mem _ hw)]
    split
    · rfl
    · have:x≠n:=by rintro rfl;exact h v List.mem_cons_self
      simp [this]
theorem uw {kindOf:Str→Option NameKind}{x:Str}{v:Value}:∀{P:List Str}{vs:List Value}{i:Nat}{m:Str→Option Value},P.Nodup→P[i]?=some x→vs[i]?=some v→kindOf x=some .local →
    bindL kindOf (P.zip vs) m x=some v
  | [],_,_,_,_,h,_,_=>by simp at h
  | _::_,[],_,_,_,_,h,_=>by simp at h
  | p::P,w::vs,0,m,nd,h1,h2,hk=>by
    simp at h1 h2;subst h1;subst h2
    show bindL kindOf ((p,w)::P.zip vs) m p=_
    unfold bindL
    rw[uR fun v hv=>(List.nodup_cons.mp nd).1 (List.of_mem_zip hv).1,if_pos hk]
    simp
  | p::P,w::vs,i+1,m,nd,h1,h2,hk=>by
    show bindL kindOf ((p,w)::P.zip vs) m x=_
    unfold bindL
    exact uw (i:=i) (List.nodup_cons.mp nd).2 (by simpa using h1) (by simpa using h2) hk
theorem uI {kindOf:Str→Option NameKind}{x:Str}{v:Value}:∀{P:List Str}{vs:List Value}{i:Nat}{m:Str→Option Value},P.Nodup→P[i]?=some x→vs[i]?=some v→kindOf x≠some .local →
    bindC kindOf (P.zip vs) m x=some v
  | [],_,_,_,_,h,_,_=>by simp at h
  | _::_,[],_,_,_,_,h,_=>by simp at h
  | p::P,w::vs,0,m,nd,h1,h2,hk=>by
    simp at h1 h2;subst h1;subst h2
    show bindC kindOf ((p,w)::P.zip vs) m p=_
    unfold bindC
    rw[uQ fun v hv=>(List.nodup_cons.mp nd).1 (List.of_mem_zip hv).1,if_neg hk]
    simp
  | p::P,w::vs,i+1,m,nd,h1,h2,hk=>by
    show bindC kindOf ((p,w)::P.zip vs) m x=_
    unfold bindC
    exact uI (i:=i) (List.nodup_cons.mp nd).2 (by simpa using h1) (by simpa using h2) hk
def start (N:List Str) (vs:List V):St:=vs.map some++List.replicate (N.length - vs.length) none
def p7 (CX:CXT) (P:Program) (w:World) (K:PySem.W.Frag) (mg:Str→Option Value) (base:Heap) (N:List Str) (qual:Str) (scope:Scope) (f:Addr) (cd:Value) (A:Around) (outer:List Env) (s:Shared) (H:Hp) (E:XK):Cx where
  prog:=P
  w:=w
  K:=K
  mg:=mg
  base:=base
  A:=A.deeper (envOfC qual scope s.heap.objs.size f cd)
  N:=N
  s₀:=s
  H₀:=H
  env:=envOfC qual scope s.heap.objs.size f cd
  outer:=outer
  stack:=envOfC qual scope s.heap.objs.size f cd::outer
  ex:=[]
  calm:=true
  fn:=fun _=>true
  pn:=[]
  xe:=fun e s'=>wpAny (model P w) (A.deeper (envOfC qual scope s.heap.objs.size f cd)) (leaving (envOfC qual scope s.heap.objs.size f cd) e) (fun _ s''=>CX outer H s E e s'') (fun e' s''=>CX outer H s E e' s'') s'
theorem xr {sc:Scope}{n:Nat}{x:Str} (h:sc.names.lookup x=some .cell):∃c,(cellsFrom n sc.names []).lookup x=some c:=by
  have q:=PySem.W.cellsFrom_some sc.names n [] (.inl h)
  exact Option.isSome_iff_exists.mp q
theorem A2 {CX:CXT}{P:Program}{w:World}{K:PySem.W.Frag}{mg:Str→Option Value}{base:Heap}{N ps:List Str}{qual:Str}{scope:Scope}{f:Addr}{cd:Value}{A:Around}{outer:List Env}{s s1:Shared}{H:Hp}{E:XK}{us:List Value}{vs:List V}
    (S:aJ N ps scope) (hd:A.handled=none) (e0:yM P w K mg base A outer s H) (hl:vs.length=ps.length) (r:Vals vs us)
    (x:InCallC s s.heap.objs.size (bindL (envOfC qual scope s.heap.objs.size f cd).kindOf (ps.zip us) fun _=>none) (cellsFrom (s.heap.objs.size+1) scope.names []) (bindC (envOfC qual scope s.heap.objs.size f cd).kindOf (ps.zip us) fun _=>none) s1) :
    Inv (p7 CX P w K mg base N qual scope f cd A outer s H E) [] (start N vs) H s1:=by
  have hpl:ps.length≤N.length:=by have:=congrArg List.length S.pre;rw[List.length_take] at this;omega
  obtain ⟨h1,tk,rfl,hk⟩:=x.done
  have noA:∀b:Addr,b∉(p7 CX P w K mg base N qual scope f cd A outer s H E).ex:=fun b z=>absurd (show b∈([]:List Addr) from z) (by simp)
  refine⟨⟨e0.mod,S.kind,rfl,rfl,Nat.le_refl _,fun y z c h1 h2=>?_,fun y hy=>?_,fun y c _ h=>?_,fun _=>hd,Around.frames_deeper e0.frames,.inr ⟨rfl,rfl⟩,fun b z=>absurd z (noA b),e0.bs,e0.bsz,fun b _ _=>noA b,fun b z=>absurd z (noA b),e0.pJ,e0.frf⟩,
    rfl,e0.bare,Un.kept hk,⟨_,x.toInCall.ns,fun i y v h1 h2 h3=>?_⟩,fun y c h=>⟨_,x.cell y c h⟩,e0.hok.fresh (Nat.le_refl _),fun y c h=>?_,fun p hp=>absurd (show p∈([]:List (Addr × Obj)) from hp) (by simp),e0.hok.kept hk,?_⟩
  · exact name_of_addr x.apart (PySem.mem_of_lookup h1) (PySem.mem_of_lookup h2)
  · have hy:scope.names.lookup y=some .cell∨scope.names.lookup y=some .free:=hy
    rcases hy with hy | hy
    · exact xr hy
    · exact absurd rfl (S.nofree _ (PySem.mem_of_lookup hy))
  · exact Nat.le_of_lt (x.above y c (PySem.mem_of_lookup h))
  · have hi:i<vs.length:=by
      unfold start at h2
      by_cases hi:i<vs.length
      · exact hi
      · rw[List.getElem?_append_right (by simpa using hi)] at h2
        rw[List.getElem?_replicate] at h2
        split at h2<;>cases h2
    have ha:vs[i]?=some v:=by
      unfold start at h2
      rw[List.getElem?_append_left (by simpa using hi),List.getElem?_map] at h2
      cases e:vs[i]? with
      | none=>rw[e] at h2;cases h2
      | some a=>rw[e] at h2;cases h2;rfl
    obtain ⟨u,hu,rv⟩:=r.get ha
    have hp:ps[i]?=some y:=by
      rw[← S.pre,List.getElem?_take_of_lt (by omega)];exact h1
    have ndP:ps.Nodup:=by rw[← S.pre];exact S.nd.sublist (List.take_sublist _ _)
    refine⟨u,rv,?_⟩
    rcases S.par y (List.mem_of_getElem? hp) with k | k
    · exact .inl ⟨k,uw ndP hp hu k⟩
    · obtain ⟨c,e⟩:=xr (n:=s.heap.objs.size+1) k
      refine .inr ⟨.inl k,c,e,?_⟩
      have q:=x.cell y c e
      rw[uI ndP hp hu (by show scope.names.lookup y≠_;rw[k];decide)] at q
      exact q
  · exact e0.hok.fresh (Nat.le_of_lt (x.above y c (PySem.mem_of_lookup h)))
  · unfold start
    show _=N.length
    rw[List.length_append,List.length_map,List.length_replicate]
    omega
theorem EL {CX:CXT}{P:Program}{w:World}{K:PySem.W.Frag}{mg:Str→Option Value}{base:Heap}{k:Nat}{f:Addr}{name qual:Str}{params:Arguments}{body:List Stmt}{scope:Scope}{dV kV doc pm cdv ct oc:Value}{an od:Option Addr}
    {osl:Array (Option Value)}{N ps:List Str}{sp:Sp} (lk:K.lookup f=some ⟨oc,od,.func (PySem.W.fnOf name qual params body scope dV kV doc pm an cdv ct),osl⟩) (hcd:PySem.W.codeIn K cdv qual=true) (S:aJ N ps scope)
    (len:∀vs H Q E,sp vs H Q E→vs.length=ps.length)
    (hbody:∀(A:Around) (outer:List Env) (s:Shared) (H:Hp) (vs:List V) (Q:VK) (E:XK),iQ k (A.deeper (envOfC qual scope s.heap.objs.size f cdv))→sp vs H Q E →
      ∃t,PSs (p7 CX P w K mg base N qual scope f cdv A outer s H E) body t∧t { nx:=fun _ H'=>Q .non H',rt:=Q } (start N vs) H) :
    aG P w K mg base CX (k+1) f (PySem.W.fnOf name qual params body scope dV kV doc pm an cdv ct) ps sp:=by
  refine⟨len,fun A outer s H args us vs Q E hr e0 hb r hsp=>?_⟩
  have hl:=len _ _ _ _ hsp
  have KX:K.In s.heap:=e0.mod.kin.keeps fun b o e=>(e0.bs b o e).1
  have lim:s.heap.NoLimit:=e0.mod.nolimit.keeps fun b o e=>(e0.bs b o e).1
  have hkind:∀y∈ps.zip us,scope.names.lookup y.1=some .local∨(scope.names.lookup y.1=some .cell∧((cellsFrom (s.heap.objs.size+1) scope.names []).lookup y.1).isSome=true):=fun ⟨n,v⟩ hy=>by
    rcases S.par n (List.of_mem_zip hy).1 with q | q
    · exact .inl q
    · exact .inr ⟨q,PySem.W.cellsFrom_some _ _ _ (.inl q)⟩
  refine codeAny_call_function hr.depth (KX _ _ lk) rfl S.co S.gen rfl (PySem.W.codeRec_of KX hcd) (hb _ _ _ _ ?_)
  refine wpAny_newFunctionEnv_cells S.kind hkind fun env he s1 x=>?_
  subst he
  refine⟨lim.keeps x.toInCall.keep,codeAny_func ?_⟩
  obtain ⟨t,ht,hq⟩:=hbody A outer s H vs Q E (hr.deeper _) hsp
  have I:Inv (p7 CX P w K mg base N qual scope f cdv A outer s H E) [] (start N vs) H s1:=A2 S hr.hd e0 hl r x
  refine wpAny_mono (ht [] s1 (start N vs) H _ I hq) (fun fl s' hs=>?_) fun e s' hs=>hs
  have fin:∀{σ':St}{H':Hp}{v:V}{u:Value},Inv (p7 CX P w K mg base N qual scope f cdv A outer s H E) [] σ' H' s'→RelV v u→Q v H'→CE outer P w H s Q u s' :=
    fun {σ' H' v u} J rv q=>⟨v,H',J.os,J.bare,J.base,J.hok,rv,q⟩
  cases fl with
  | ret u =>
    obtain ⟨v,σ',H',J,rv,q⟩:=hs
    exact fin J rv q
  | next =>
    obtain ⟨σ',H',J,q⟩:=hs
    exact fin (v:=V.non) (u:=Value.none) J rfl q
  | brk =>
    obtain ⟨_,_,_,q⟩:=hs
    exact False.elim q
  | cont =>
    obtain ⟨_,_,_,q⟩:=hs
    exact False.elim q
end L2
namespace L2
open PySem PySem.Spec PyProof.Rows
section
variable {X:Cx}{x:Str}{p pos:Pos}{e:Expr}{es:List Expr}{t:TA}{id T:String}{r:List V→Hp→VK→Prop}
def tCB (r:List V→Hp→VK→Prop) (t:TA):TE:=fun σ H Q=>t σ H fun vs H1=>r vs H1 Q
theorem ay (hc:iU X (.builtin id) r) (hg:Gl X x) (hm:X.mg x=none) (hv:bootBuiltins x=some (.builtin id)) (ha:PA X (e::es) t) (hn:x≠"__name__":=by decide) (hdb:(x == ("__debug__" : Str))=false:=by decide)
    (he:starEach (e::es) X.env=(false,eval e X.env)::starEach es X.env:=by rfl) (hpl:(backTo pos (starEach es X.env)).any (·.1)=false:=by rfl):PE X (.Call (.Name x p) (e::es) [] pos) (tCB r t):=by
  intro pins s σ H Q I h
  refine wpAny_Call_Name_kw (lz I hg hm hv ?_ hn hdb)
  exact PyProof.Rows.callWith_builtin1 (thn (ha pos pins s σ H _ I h) fun us s1 ⟨vs,H1,I1,r1,q1⟩=>hc pins s1 σ H1 vs us Q I1 r1 q1) he hpl
theorem cj (hc:iU X (.type T) r) (hg:Gl X x) (hm:X.mg x=none) (hv:bootBuiltins x=some (.type T)) (ha:PA X (e::es) t) (hn:x≠"__name__":=by decide) (hdb:(x == ("__debug__" : Str))=false:=by decide)
    (he:starEach (e::es) X.env=(false,eval e X.env)::starEach es X.env:=by rfl) (hpl:(backTo pos (starEach es X.env)).any (·.1)=false:=by rfl):PE X (.Call (.Name x p) (e::es) [] pos) (tCB r t):=by
  intro pins s σ H Q I h
  refine wpAny_Call_Name_kw (lz I hg hm hv ?_ hn hdb)
  exact PyProof.Rows.callWith_type1 (thn (ha pos pins s σ H _ I h) fun us s1 ⟨vs,H1,I1,r1,q1⟩=>hc pins s1 σ H1 vs us Q I1 r1 q1) he hpl
end
end L2
namespace HT
open PySem PyProof.Rows
section
open PySem.SeqAt
open PySem.AutoSeq1 (wpAny_loadPart')
open PySem.MeetsSeq PySem.MeetsSeq2 PySem.MeetsSeq3
end
section
variable {prog:Program}{w:World}{A:Around}{E:Value→Shared→Prop}{s:Shared}
def sIx (n d:Nat):Option Int→Nat
  | none=>d
  | some v=>if v<0 then (v+(n:Int)).toNat else min v.toNat n
theorem Dt (n d:Nat):sIx n d none=d:=rfl
theorem Em (n d k:Nat):sIx n d (some (k:Int))=min k n:=by
  show (if (k:Int)<0 then ((k:Int)+(n:Int)).toNat else min (k:Int).toNat n)=min k n
  rw[if_neg (by omega),Int.toNat_natCast]
end
end HT
namespace L2
open PySem PySem.Spec PyProof.Rows
abbrev TO:=St→Hp→(Option Int→Hp→Prop)→Prop
def PO (X:Cx) (e:Option Expr) (t:TO):Prop :=
  ∀(pins:List (Addr × Obj)) (s:Shared) (σ:St) (H:Hp) (Q:Option Int→Hp→Prop),Inv X pins σ H s→t σ H Q →
    wpAny (model X.prog X.w) X.A (evalPart e X.env) (fun u s'=>∃o H',Inv X pins σ H' s'∧IsPart u o∧Q o H') X.xe s
def zi:TO:=fun _ H Q=>Q none H
def E4 (t:TE):TO:=fun σ H Q=>t σ H fun x H1=>∃i,x=.int i∧Q (some i) H1
section
variable {X:Cx}{e:Expr}{te:TE}{lo hi:Option Expr}{tl th:TO}{pos p2:Pos}
theorem DU:PO X none zi:=by
  intro pins s σ H Q I h
  rw[evalPart_none]
  exact wpAny_pure ⟨none,H,I,.none,h⟩
theorem DV (h:PE X e te):PO X (some e) (E4 te):=by
  intro pins s σ H Q I hw
  rw[evalPart_some]
  refine thn (h pins s σ H _ I hw) fun u s1 ⟨x,H1,I1,r1,q1⟩=>?_
  obtain ⟨i,rfl,q⟩:=q1
  obtain ⟨t,rfl⟩:=r1
  exact⟨some i,H1,I1,.int i t,q⟩
def SlR (X:Cx) (r:V→Option Int→Option Int→Hp→VK→Prop):Prop :=
  ∀(pins:List (Addr × Obj)) (s:Shared) (σ:St) (H:Hp) (x:V) (v vl vu:Value) (lo hi:Option Int) (sl:Addr) (Q:VK),Inv X pins σ H s→RelV x v→s.heap.IsSliceOf sl vl vu .none→IsPart vl lo→IsPart vu hi→r x lo hi H Q →
    ∃T id,typeLookup (.type T) "__getitem__" = pure (some (.builtin id))∧s.TypeIs v T∧wpAny (model X.prog X.w) X.A (getItem v (.ref sl)) (EP X pins σ Q) X.xe s
def tSl (r:V→Option Int→Option Int→Hp→VK→Prop) (te:TE) (tl th:TO):TE:=fun σ H Q=>te σ H fun x H1=>tl σ H1 fun l H2=>th σ H2 fun u H3=>r x l u H3 Q
theorem Bt {r:V→Option Int→Option Int→Hp→VK→Prop} (hr:SlR X r) (he:PE X e te) (hl:PO X lo tl) (hu:PO X hi th):PE X (.Subscript e (.Slice lo hi none p2) pos) (tSl r te tl th):=by
  intro pins s σ H Q I h
  refine Subscript_ (thn (he pins s σ H _ I h) fun v s1 ⟨x,H1,I1,r1,q1⟩=>?_)
  refine wpAny_Slice (thn (hl pins s1 σ H1 _ I1 q1) fun vl s2 ⟨l,H2,I2,pl,q2⟩=>thn (hu pins s2 σ H2 _ I2 q2) fun vu s3 ⟨u,H3,I3,pu,q3⟩=>?_)
  rw[evalPart_none]
  refine wpAny_pure ?_
  have I4:Inv X pins σ H3 { s3 with heap:=s3.heap.push { cls:=.type "slice",data:=.fields #[vl,vu,.none] } }:=I3.kept (t':=s3.toks) fun b ob q=>Heap.get?_push_of_some _ q
  obtain ⟨T,id,hT,ht,hg⟩:=hr pins { s3 with heap:=s3.heap.push { cls:=.type "slice",data:=.fields #[vl,vu,.none] } } σ H3 x v vl vu l u s3.heap.objs.size Q I4 r1 (Heap.IsSliceOf.new ..) pl pu q3
  show wpAny (model X.prog X.w) X.A (subscriptTail e (.Slice lo hi none p2) v (.ref s3.heap.objs.size)) (EP X pins σ Q) X.xe { s3 with heap:=s3.heap.push { cls:=.type "slice",data:=.fields #[vl,vu,.none] } }
  exact tail_any (ops:=[.ref s3.heap.objs.size,v]) ht hT hg (by with_unfolding_all rfl)
def AB (xs:List V) (lo hi:Option Int):List V:=(xs.drop (HT.sIx xs.length 0 lo)).take (HT.sIx xs.length xs.length hi - HT.sIx xs.length 0 lo)
theorem xt (xs:List V) (lo hi:Option Int):(AB xs lo hi).length≤xs.length:=by
  unfold AB
  rw[List.length_take,List.length_drop]
  omega
end
end L2
namespace L2
open PySem PySem.Spec PyProof.Rows
def ixN (n:Nat) (i:Int):Option Nat:=if 0≤i then (if i<n then some i.toNat else none) else if -(n:Int)≤i then some (i+n).toNat else none
def atI {α:Type} (xs:List α) (i:Int):Option α:=(ixN xs.length i).bind fun j=>xs[j]?
theorem ze {n:Nat}{i:Int}{j:Nat} (h:ixN n i=some j):seqIndex? i n=some j∧j<n∧-(n:Int)≤i∧i<n:=by
  unfold ixN at h
  by_cases h0:0≤i
  · rw[if_pos h0] at h
    by_cases h1:i<n
    · rw[if_pos h1] at h
      have e:i.toNat=j:=Option.some.inj h
      exact⟨by rw[seqIndex_of h0 h1,e],by omega,by omega,h1⟩
    · rw[if_neg h1] at h;cases h
  · rw[if_neg h0] at h
    by_cases h1 : -(n:Int)≤i
    · rw[if_pos h1] at h
      have e:(i+n).toNat=j:=Option.some.inj h
      exact⟨by rw[seqIndex_neg (by omega) h1,e],by omega,h1,by omega⟩
    · rw[if_neg h1] at h;cases h
theorem zp {α:Type}{xs:List α}{i:Int}{v:α} (h:atI xs i=some v):∃j,seqIndex? i xs.length=some j∧xs[j]?=some v∧j<xs.length∧-(xs.length:Int)≤i∧i<xs.length:=by
  unfold atI at h
  cases e:ixN xs.length i with
  | none=>rw[e] at h;cases h
  | some j =>
    rw[e] at h
    obtain ⟨h1,h2,h3,h4⟩:=ze e
    exact⟨j,h1,h,h2,h3,h4⟩
def D3 (b:Expr):Prop:=∀o i,subscripted b false o i=operate [o,i] (getItem o i)
def IxR (X:Cx) (r:R2):Prop :=
  ∀(value slice:Expr) (pins:List (Addr × Obj)) (s:Shared) (σ:St) (H:Hp) (x y:V) (v u:Value) (Q:VK),Inv X pins σ H s→RelV x v→RelV y u→r x y H Q →
    subscripted slice false v u=operate [v,u] (getItem v u)→wpAny (model X.prog X.w) X.A (subscriptTail value slice v u) (EP X pins σ Q) X.xe s
def MtR (X:Cx) (id:String) (r:V→List V→Hp→VK→Prop):Prop :=
  ∀(pins:List (Addr × Obj)) (s:Shared) (σ:St) (H:Hp) (x:V) (xs:List V) (v:Value) (us:List Value) (Q:VK),Inv X pins σ H s→RelV x v→Vals xs us→r x xs H Q →
    wpAny (model X.prog X.w) X.A (call (.builtin id) (v::us)) (EP X pins σ Q) X.xe s
section
variable {X:Cx}{a b:Expr}{ta tb:TE}{pos:Pos}
theorem aB {r:R2} (hr:IxR X r) (ha:PE X a ta) (hb:PE X b tb) (hs:D3 b):PE X (.Subscript a b pos) (tOp r ta tb):=by
  intro pins s σ H Q I h
  exact Subscript_ (Gi ha hb I h fun v u s2 x y H2 I2 rx ry q=>hr a b pins s2 σ H2 x y v u Q I2 rx ry q (hs _ _))
def AH (K:PySem.W.Frag):R2:=fun x y H Q=>∃p xs i v,x=.ref p∧y=.int i∧SqL K H p xs∧atI xs i=some v∧Q v H
def CW (K:PySem.W.Frag):R2:=fun x y H Q=>∃p xs i v,x=.ref p∧y=.int i∧SqT K H p xs∧atI xs i=some v∧Q v H
theorem D5:IxR X (AH X.K):=by
  intro value slice pins s σ H x y v u Q I rx ry h hs
  obtain ⟨p,xs,i,z,rfl,rfl,hq,he,q⟩:=h
  cases rx
  obtain ⟨t,rfl⟩:=ry
  obtain ⟨its,r,pl,hz⟩:=I.list hq
  obtain ⟨j,h1,h2,h3,h4,h5⟩:=zp he
  obtain ⟨w,ew,rw'⟩:=r.get h2
  have hl:=r.length
  have hn:=vw
  have fin:EP X pins σ Q w s:=⟨z,H,I,rw',q⟩
  by_cases h0:0≤i
  · have hj:i.toNat=j:=by
      rw[seqIndex_of h0 h5] at h1
      exact Option.some.inj h1
    exact item_listR pl.isList h0 (by omega) (by rw[hj];simpa using ew) fin hs
  · have hj:(i+(its.toArray.size:Int)).toNat=j:=by
      rw[seqIndex_neg (by omega) h4] at h1
      rw[List.size_toArray,← hl]
      exact Option.some.inj h1
    exact subscriptTail_builtinR (x:=w) pl.isList.typeIs slot_list_getitem.lookup
      (wpAny_getItem_list_neg (Q:=fun r s'=>r=w∧EP X pins σ Q r s') pl.isList (by omega) (by rw[List.size_toArray]<;>omega) (by omega) (by rw[hj];simpa using ew) ⟨rfl,fin⟩) hs
theorem Gj:IxR X (CW X.K):=by
  intro value slice pins s σ H x y v u Q I rx ry h hs
  obtain ⟨p,xs,i,z,rfl,rfl,hq,he,q⟩:=h
  cases rx
  obtain ⟨t,rfl⟩:=ry
  obtain ⟨its,r,pl,hz⟩:=I.tuple hq
  obtain ⟨j,h1,h2,h3,h4,h5⟩:=zp he
  obtain ⟨w,ew,rw'⟩:=r.get h2
  have hl:=r.length
  have hn:=vw
  have fin:EP X pins σ Q w s:=⟨z,H,I,rw',q⟩
  exact subscriptTail_builtinR (x:=w) pl.typeIs slot_tuple_getitem.lookup
    (getItem_tuple (j:=j) (Q:=fun r s'=>r=w∧EP X pins σ Q r s') pl (by omega) (by omega) (by rw[List.size_toArray,← hl];exact h1) (by simpa using ew) ⟨rfl,fin⟩) hs
theorem yp (its:List Value) (n j:Nat) (u:Value):Obj.mapSeq (·.setIfInBounds j u) { cls:=.type "list",data:=.seq its.toArray n }={ cls:=.type "list",data:=.seq (its.set j u).toArray n }:=by
  simp [Obj.mapSeq]
theorem Inv.lst {pins:List (Addr × Obj)}{σ:St}{H:Hp}{s:Shared}{p:Addr}{xs:List V} (I:Inv X pins σ H s) (h:H p=some (.lst xs)) :
    ∃(its:List Value) (n:Nat),Vals xs its∧s.heap.get? p=some { cls:=.type "list",data:=.seq its.toArray n }∧xs.length≤sizeLine:=by
  obtain ⟨z,its,n,r,e⟩:=I.hok p _ h
  exact⟨its,n,r,e,z⟩
theorem Inv.F8 {pins:List (Addr × Obj)}{σ:St}{H:Hp}{s:Shared}{p:Addr}{xs ys:List V}{its its':List Value}{n n':Nat}{f:Obj→Obj} (I:Inv X pins σ H s) (h:H p=some (.lst xs))
    (ho:s.heap.get? p=some { cls:=.type "list",data:=.seq its.toArray n }) (hf:f { cls:=.type "list",data:=.seq its.toArray n }={ cls:=.type "list",data:=.seq its'.toArray n' }) (r:Vals ys its') (hz:ys.length≤sizeLine) (t:Nat) :
    Inv X pins σ (upd H p (.lst ys)) { s with heap:=s.heap.update p f,toks:=t }:=by
  have e:(s.heap.update p f).get? p=some { cls:=.type "list",data:=.seq its'.toArray n' }:=by
    rw[Heap.get?_update_self f ho (by rw[hf]<;>rfl),hf]
  refine I.write (x:=p) (e:=p) (by rw[h];trivial) (.inl rfl) (fun b u hb q=>(Heap.get?_update_other _ _ (Ne.symm hb)).trans q) ⟨_,e⟩ ?_
  exact⟨hz,its',n',r,e⟩
def Aj:V→V→V→Hp→(Hp→Prop)→Prop:=fun o i v H Q=>∃p xs k j,o=.ref p∧i=.int k∧H p=some (.lst xs)∧ixN xs.length k=some j∧Q (upd H p (.lst (xs.set j v)))
theorem set_list:G5 X Aj:=by
  intro pins s σ H o i v ov iv u Q I ro ri rv h
  obtain ⟨p,xs,k,j,rfl,rfl,hp,hj,q⟩:=h
  cases ro
  obtain ⟨t,rfl⟩:=ri
  obtain ⟨its,n,r,ho,hz⟩:=I.lst hp
  obtain ⟨h1,h2,h3,h4⟩:=ze hj
  have hl:=r.length
  have hn:=vw
  have I':Inv X pins σ (upd H p (.lst (xs.set j v))) { s with heap:=s.heap.update p (Obj.mapSeq (·.setIfInBounds j u)) } :=
    I.F8 hp ho (yp its n j u) (r.set rv j) (by rw[List.length_set];exact hz) s.toks
  by_cases h0:0≤k
  · have hk:k.toNat=j:=by
      rw[seqIndex_of h0 h4] at h1
      exact Option.some.inj h1
    exact PySem.W.ki_setAt ho h0 (by omega) (by rw[List.size_toArray,← hl];exact h4) (by rw[hk];exact⟨_,I',q⟩)
  · have hk:(k+(its.toArray.size:Int)).toNat=j:=by
      rw[seqIndex_neg (by omega) h3] at h1
      rw[List.size_toArray,← hl]
      exact Option.some.inj h1
    exact PySem.W.ki_setBack ho (by omega) (by rw[List.size_toArray,← hl];exact h3) (by omega) (by rw[hk];exact⟨_,I',q⟩)
theorem wa (lo hi:Option Int) (n:Nat):(sliceBounds lo hi none n).1=((HT.sIx n 0 lo:Nat):Int)∧(sliceBounds lo hi none n).2.1=((HT.sIx n n hi:Nat):Int)∧(sliceBounds lo hi none n).2.2=1:=by
  refine⟨?_,?_,rfl⟩
  · cases lo with
    | none=>simp [sliceBounds,HT.sIx]
    | some i =>
      simp only[sliceBounds,HT.sIx,Option.getD_none,show (1:Int)>0 by decide,if_true]
      by_cases h:i<0
      · simp only[h,if_true]<;>omega
      · simp only[h,if_false]<;>omega
  · cases hi with
    | none=>simp [sliceBounds,HT.sIx]
    | some i =>
      simp only[sliceBounds,HT.sIx,Option.getD_none,show (1:Int)>0 by decide,if_true]
      by_cases h:i<0
      · simp only[h,if_true]<;>omega
      · simp only[h,if_false]<;>omega
theorem tK (its:List Value) (lo hi:Option Int):slicePick its.toArray lo hi none=((its.drop (HT.sIx its.length 0 lo)).take (HT.sIx its.length its.length hi - HT.sIx its.length 0 lo)).toArray:=by
  obtain ⟨h1,h2,h3⟩:=wa lo hi its.toArray.size
  unfold slicePick
  rw[h1,h2,h3]
  simp only[sliceRange_one,pick_run,List.size_toArray]<;>rfl
def FR (K:PySem.W.Frag):V→Option Int→Option Int→Hp→VK→Prop:=fun x lo hi H Q=>∃a xs,x=.ref a∧SqL K H a xs∧∀p,H p=none→Q (.ref p) (upd H p (.lst (AB xs lo hi)))
theorem Ez:SlR X (FR X.K):=by
  intro pins s σ H x v vl vu lo hi sl Q I rx hs pl pu h
  obtain ⟨a,xs,rfl,hx,q⟩:=h
  cases rx
  obtain ⟨its,r,ht,hz⟩:=I.list hx
  have hlen:=r.length
  refine⟨"list",_,slot_list_getitem.lookup,ht.isList.typeIs,?_⟩
  refine wpAny_getItem_list_slice ht.isList hs pl pu .none (by simp) ?_ (by rw[List.size_toArray]<;>omega)
  rw[tK,← hlen]
  refine⟨.ref s.heap.objs.size,_,I.laid (t':=s.toks) (o:=.lst (AB xs lo hi)) (fun b ob q=>Heap.get?_push_of_some _ q) (Nat.le_refl _) ?_,rfl,q _ (I.hok.fresh (Nat.le_refl _))⟩
  exact⟨Nat.le_trans (xt xs lo hi) hz,_,0,(r.drop (HT.sIx xs.length 0 lo)).take (HT.sIx xs.length xs.length hi - HT.sIx xs.length 0 lo),Heap.get?_push_size _ rfl⟩
def l6:V→Bool
  | .non=>true
  | .bl _=>true
  | .int _=>true
  | .str _=>true
  | _=>false
def eqV:V→V→Bool
  | .non,.non=>true
  | .bl a,.bl b=>a == b
  | .bl a,.int b=>(if a then 1 else 0) == b
  | .int a,.bl b=>a == (if b then 1 else 0)
  | .int a,.int b=>a == b
  | .str a,.str b=>a == b
  | _,_=>false
theorem Fp {A:Around}{s:Shared}{y x:V}{u v:Value} (ry:RelV y u) (rx:RelV x v) (fy:l6 y=true) (fx:l6 x=true):SeqAt.EqAt A s u v (eqV y x):=by
  cases y with
  | non =>
    cases ry
    cases x with
    | non=>cases rx;exact SeqAt.EqAt.same _
    | bl b=>cases rx;exact SeqAt.EqAt.none_bool b
    | int b=>obtain ⟨t,rfl⟩:=rx;exact SeqAt.EqAt.none_int b t
    | str b=>obtain ⟨t,rfl⟩:=rx;exact SeqAt.EqAt.none_str b t
    | _=>exact absurd (show false=true from fx) Bool.false_ne_true
  | bl a =>
    cases ry
    cases x with
    | non=>cases rx;exact SeqAt.EqAt.bool_none a
    | bl b=>cases rx;exact SeqAt.EqAt.bool_bool a b
    | int b=>obtain ⟨t,rfl⟩:=rx;exact SeqAt.EqAt.bool_int a b t
    | str b=>obtain ⟨t,rfl⟩:=rx;exact SeqAt.EqAt.bool_str a b t
    | _=>exact absurd (show false=true from fx) Bool.false_ne_true
  | int a =>
    obtain ⟨t',rfl⟩:=ry
    cases x with
    | non=>cases rx;exact SeqAt.EqAt.int_none a t'
    | bl b=>cases rx;exact SeqAt.EqAt.int_bool a t' b
    | int b=>obtain ⟨t,rfl⟩:=rx;exact SeqAt.EqAt.int_int a t' b t
    | str b=>obtain ⟨t,rfl⟩:=rx;exact SeqAt.EqAt.int_str a t' b t
    | _=>exact absurd (show false=true from fx) Bool.false_ne_true
  | str a =>
    obtain ⟨t',rfl⟩:=ry
    cases x with
    | non=>cases rx;exact SeqAt.EqAt.str_none a t'
    | bl b=>cases rx;exact SeqAt.EqAt.str_bool a t' b
    | int b=>obtain ⟨t,rfl⟩:=rx;exact SeqAt.EqAt.str_int a t' b t
    | str b=>obtain ⟨t,rfl⟩:=rx;exact SeqAt.EqAt.str_str a t' b t
    | _=>exact absurd (show false=true from fx) Bool.false_ne_true
  | _=>exact absurd (show false=true from fy) Bool.false_ne_true
def eqU (x:V) (u:Value):Bool:=match u with
  | .none=>eqV .non x
  | .bool b=>eqV (.bl b) x
  | .int i _=>eqV (.int i) x
  | .str z _=>eqV (.str z) x
  | _=>false
theorem Bb {x y:V}{u:Value} (r:RelV y u) (f:l6 y=true):eqU x u=eqV y x:=by
  cases y with
  | non=>cases r;rfl
  | bl b=>cases r;rfl
  | int i=>obtain ⟨t,rfl⟩:=r;rfl
  | str z=>obtain ⟨t,rfl⟩:=r;rfl
  | _=>exact absurd (show false=true from f) Bool.false_ne_true
theorem oI {x:V}:∀{xs:List V}{us:List Value},Vals xs us→xs.all l6=true→us.any (eqU x)=xs.any fun y=>eqV y x
  | _,_,.nil,_=>rfl
  | y::xs,u::us,.cons r t,f=>by
    rw[List.all_cons,Bool.and_eq_true] at f
    rw[List.any_cons,List.any_cons,Bb r f.1,oI t f.2]
theorem mh {A:Around}{s:Shared}{x:V}{v:Value} (rx:RelV x v) (fx:l6 x=true):∀{xs:List V}{us:List Value},Vals xs us→xs.all l6=true→∀u∈us,SeqAt.EqAt A s u v (eqU x u)
  | _,_,.nil,_=>fun u hu=>by cases hu
  | y::xs,u::us,.cons r t,f=>fun u' hu=>by
    rw[List.all_cons,Bool.and_eq_true] at f
    rcases List.mem_cons.mp hu with rfl | hu
    · rw[Bb r f.1];exact Fp r rx f.1 fx
    · exact mh rx fx t f.2 u' hu
def inV (x:V) (xs:List V):Bool:=xs.any fun y=>eqV y x
def rIn (K:PySem.W.Frag) (neg:Bool):R2:=fun x y H Q=>∃p xs,y=.ref p∧(SqL K H p xs∨SqT K H p xs)∧l6 x=true∧xs.all l6=true∧Q (.bl (if neg then !inV x xs else inV x xs)) H
theorem AN:OpR X (compareOp .In) (rIn X.K false):=by
  intro pins s σ H x y v u Q I rx ry h
  obtain ⟨p,xs,rfl,hq,fx,fs,q⟩:=h
  cases ry
  rcases hq with hq | hq
  · obtain ⟨its,r,pl,hz⟩:=I.list hq
    refine SeqAt.in_listAt (eqU x) pl.isList (fun w hw=>mh rx fx r fs w (by simpa using hw)) ⟨.bl _,H,I,rfl,?_⟩
    rw[show its.toArray.any (eqU x)=its.any (eqU x) by simp,oI r fs]
    exact q
  · obtain ⟨its,r,pl,hz⟩:=I.tuple hq
    refine SeqAt.in_tupleAt (eqU x) pl (fun w hw=>mh rx fx r fs w (by simpa using hw)) ⟨.bl _,H,I,rfl,?_⟩
    rw[show its.toArray.any (eqU x)=its.any (eqU x) by simp,oI r fs]
    exact q
theorem vN:OpR X (compareOp .NotIn) (rIn X.K true):=by
  intro pins s σ H x y v u Q I rx ry h
  obtain ⟨p,xs,rfl,hq,fx,fs,q⟩:=h
  cases ry
  rcases hq with hq | hq
  · obtain ⟨its,r,pl,hz⟩:=I.list hq
    refine SeqAt.notIn_listAt (eqU x) pl.isList (fun w hw=>mh rx fx r fs w (by simpa using hw)) ⟨.bl _,H,I,rfl,?_⟩
    rw[show its.toArray.any (eqU x)=its.any (eqU x) by simp,oI r fs]
    exact q
  · obtain ⟨its,r,pl,hz⟩:=I.tuple hq
    refine SeqAt.notIn_tupleAt (eqU x) pl (fun w hw=>mh rx fx r fs w (by simpa using hw)) ⟨.bl _,H,I,rfl,?_⟩
    rw[show its.toArray.any (eqU x)=its.any (eqU x) by simp,oI r fs]
    exact q
theorem vo:iU X (.builtin "len") (fun xs H Q=>∃p ys,xs=[.ref p]∧(SqL X.K H p ys∨SqT X.K H p ys)∧Q (.int ys.length) H):=by
  intro pins s σ H xs us Q I r h
  obtain ⟨p,ys,rfl,hq,q⟩:=h
  obtain ⟨u,rfl,rx⟩:=vals1 r
  cases rx
  have hn:=vw
  rcases hq with hq | hq
  · obtain ⟨its,r',pl,hz⟩:=I.list hq
    have hlen:=r'.length
    exact Calls.call_len_list pl.isList (by simp only[List.size_toArray]<;>omega) ⟨.int ys.length,H,I.tok _,⟨s.toks+1,by rw[List.size_toArray,hlen]⟩,q⟩
  · obtain ⟨its,r',pl,hz⟩:=I.tuple hq
    have hlen:=r'.length
    exact len_tuple pl (by simp only[List.size_toArray]<;>omega) ⟨.int ys.length,H,I.tok _,⟨s.toks+1,by rw[List.size_toArray,hlen]⟩,q⟩
theorem vG:iU X (.type "list") (fun xs H Q=>∃p ys,xs=[.ref p]∧(SqL X.K H p ys∨SqT X.K H p ys)∧∀l,H l=none→Q (.ref l) (upd H l (.lst ys))):=by
  intro pins s σ H xs us Q I r h
  obtain ⟨p,ys,rfl,hq,q⟩:=h
  obtain ⟨u,rfl,rx⟩:=vals1 r
  cases rx
  have fin:∀(its:List Value),Vals ys its→ys.length≤sizeLine→∀(h':Heap) (c':Nat),(∀b o',s.heap.get? b=some o'→h'.get? b=some o') →
      h'.get? s.heap.objs.size=some { cls:=.type "list",dict:=none,data:=.seq its.toArray c',slots:=#[] }→EP X pins σ Q (.ref s.heap.objs.size) { s with heap:=h' }:=fun its r' hz h' c' kp e =>
    ⟨.ref s.heap.objs.size,_,I.laid (t':=s.toks) kp (Nat.le_refl _) (show fO X.prog X.w _ h' _ (.lst ys) from ⟨hz,its,c',r',e⟩),rfl,q _ (I.hok.fresh (Nat.le_refl _))⟩
  rcases hq with hq | hq
  · obtain ⟨its,r',pl,hz⟩:=I.list hq
    have hlen:=r'.length
    obtain ⟨o,ho,hc,n,hd⟩:=pl.isList
    exact call_list_seq p (.inl rfl) ho hc hd (fun h' c' kp e=>fin its r' hz h' c' kp e) (by simp only[List.size_toArray]<;>omega)
  · obtain ⟨its,r',pl,hz⟩:=I.tuple hq
    have hlen:=r'.length
    obtain ⟨o,ho,hc,n,hd⟩:=pl
    exact call_list_seq p (.inr rfl) ho hc hd (fun h' c' kp e=>fin its r' hz h' c' kp e) (by simp only[List.size_toArray]<;>omega)
def tyV (K:PySem.W.Frag) (T:String) (x:V) (H:Hp):Prop:=match x with
  | .str _=>T = "str"
  | .int _=>T = "int"
  | .ref p=>(T = "list"∧∃xs,SqL K H p xs)∨(T = "tuple"∧∃o,K.lookup p=some o∧o.cls=.type "tuple"∧o.dict=none) ∨
      (T = "dict"∧((∃kvs,H p=some (.dK kvs))∨∃kvs,H p=some (.dT kvs)))∨(T = "set"∧∃S n,H p=some (.set S n))
  | _=>False
theorem Gg {pins:List (Addr × Obj)}{σ:St}{H:Hp}{s:Shared}{T:String}{x:V}{v:Value} (I:Inv X pins σ H s) (r:RelV x v) (ty:tyV X.K T x H) :
    s.TypeIs v T∧∀a,v=.ref a→∃ob,s.heap.get? a=some ob∧ob.dict=none:=by
  cases x with
  | str z =>
    obtain ⟨t,rfl⟩:=r
    cases (show T = "str" from ty)
    exact⟨typeIs_str s z t,fun _ e=>nomatch e⟩
  | int i =>
    obtain ⟨t,rfl⟩:=r
    cases (show T = "int" from ty)
    exact⟨typeIs_int s i t,fun _ e=>nomatch e⟩
  | ref p =>
    cases r
    rcases ty with ⟨rfl,xs,hq⟩ | ⟨rfl,o,hk,hc,hd⟩ | ⟨rfl,hk⟩ | ⟨rfl,S,n,hk⟩
    · obtain ⟨its,_,pl,_⟩:=I.list hq
      refine⟨pl.isList.typeIs,fun a e=>?_⟩
      cases e
      obtain ⟨o,n,e,c,hd,_⟩:=pl
      exact⟨o,e,hd⟩
    · refine⟨⟨o,I.kIn p o hk,hc⟩,fun a e=>?_⟩
      cases e
      exact⟨o,I.kIn _ o hk,hd⟩
    · have z:∃o,s.heap.get? p=some o∧o.ExactDict:=by
        rcases hk with ⟨kvs,hk⟩ | ⟨kvs,hk⟩
        · obtain ⟨_,_,_,_,o,_,_,e,ex,_⟩:=I.hok p _ hk
          exact⟨o,e,ex⟩
        · obtain ⟨_,_,_,_,o,_,_,e,ex,_⟩:=I.hok p _ hk
          exact⟨o,e,ex⟩
      obtain ⟨o,e,ex⟩:=z
      refine⟨⟨o,e,ex.1⟩,fun a e2=>?_⟩
      cases e2
      exact⟨o,e,ex.2.1⟩
    · obtain ⟨o,_,_,_,e,ex,_⟩:=I.hok p _ hk
      refine⟨⟨o,e,ex.1⟩,fun a e2=>?_⟩
      cases e2
      exact⟨o,e,ex.2.1⟩
  | _=>exact False.elim ty
def tBM (K:PySem.W.Frag) (T:String) (r:V→List V→Hp→VK→Prop) (to:TE) (t:TA):TE:=fun σ H Q=>to σ H fun x H1=>tyV K T x H1∧t σ H1 fun xs H2=>r x xs H2 Q
variable {o e:Expr}{es:List Expr}{to:TE}{t:TA}{name:Str}{apos cpos:Pos}{T id:String}{r:V→List V→Hp→VK→Prop}
theorem uq (pa:PlainAttrs T) (slot:Slot T name id) (hty:typeOf (.builtin id)=pure (.type "method_descriptor")) (hm:MtR X id r) (ho:PE X o to) (ha:PA X (e::es) t)
    (hbase:attributeBase o name X.env (eval o X.env)=eval o X.env:=by rfl)
    (hfew:((backTo cpos (starEach (e::es) X.env)).all (fun x=>!x.1) && (backToKw cpos (keywordEach [] X.env)).all (fun x=>x.1.isSome)
      && decide ((e::es).length+([]:List Keyword).length+(if ([]:List Keyword).isEmpty then 0 else 1)<30))=true:=by rfl)
    (hline:(apos.endLine == cpos.line)=true:=by rfl) (hs:starEach (e::es) X.env=(false,eval e X.env)::starEach es X.env:=by rfl) (hplain:(backTo cpos (starEach es X.env)).any (·.1)=false:=by rfl) :
    PE X (.Call (.Attribute o name apos) (e::es) [] cpos) (tBM X.K T r to t):=by
  intro pins s σ H Q I h
  refine wpAny_Call_method_late hbase hfew hline rfl (thn (ho pins s σ H _ I h) fun v s1 ⟨x,H1,I1,r1,ty,q1⟩=>?_)
  obtain ⟨h1,h2⟩:=Gg I1 r1 ty
  refine⟨T,id,pa,slot,hty,h1,h2,?_⟩
  have hA:=ha cpos pins s1 σ H1 _ I1 q1
  rw[hs] at hA ⊢
  refine Calls.callWith_builtin (by show (false || (backTo cpos (starEach es X.env)).any (·.1))=false;rw[hplain]<;>rfl) (Calls.evalArgs_plain ?_)
  exact thn hA fun us s2 ⟨vs,H2,I2,r2,q2⟩=>hm pins s2 σ H2 x vs v us Q I2 r1 r2 q2
/- xs.append(e),list.index on a module's tuple .. are MtR facts of 06m -/
end
end L2
namespace L2
open PySem PySem.Spec PyProof.Rows
def MtM (X:Cx) (id:String) (r:V→List V→Hp→VK→Prop):Prop :=
  ∀(pins:List (Addr × Obj)) (s:Shared) (σ:St) (H:Hp) (x:V) (xs:List V) (v:Value) (us:List Value) (Q:VK),Inv X pins σ H s→RelV x v→Vals xs us→r x xs H Q →
    wpAny (model X.prog X.w) X.A (call (.builtin id) (v::us)) (EP X pins σ Q) X.xe s
theorem Vals.one:∀{x:V}{us:List Value},Vals [x] us→∃u,us=[u]∧RelV x u
  | _,_,.cons r .nil=>⟨_,rfl,r⟩
theorem Vals.rep {xs:List V}{us:List Value} (h:Vals xs us):∀k:Nat,Vals (List.replicate k xs).flatten (List.replicate k us).flatten
  | 0=>.nil
  | k+1=>by
    rw[List.replicate_succ,List.replicate_succ,List.flatten_cons,List.flatten_cons]
    exact Vals.append h (Vals.rep h k)
theorem foldl_rep (its:List Value):∀(k:Nat) (acc:List Value),
    List.foldl (fun x1 x2=>x1++x2) acc.toArray (List.replicate k its.toArray)=(acc++(List.replicate k its).flatten).toArray
  | 0,acc=>by simp
  | k+1,acc=>by
    have e:acc.toArray++its.toArray=(acc++its).toArray:=by simp
    have e2:(acc++its)++(List.replicate k its).flatten=acc++(List.replicate (k+1) its).flatten:=by
      rw[List.replicate_succ,List.flatten_cons,List.append_assoc]
    rw[← e2,← foldl_rep its k (acc++its),← e,List.replicate_succ,List.foldl_cons]
section
variable {X:Cx}{pins:List (Addr × Obj)}{σ:St}{H:Hp}{s:Shared}{l b:Addr}{xs ys zs:List V}
theorem Inv.G7 {its its':List Value}{n:Nat}{f:Array Value→Array Value}{t':Nat} (I:Inv X pins σ H s) (hH:H l=some (.lst xs))
    (e:s.heap.get? l=some { cls:=.type "list",data:=.seq its.toArray n }) (hf:f its.toArray=its'.toArray) (hv:Vals ys its') (hz:ys.length≤sizeLine) :
    Inv X pins σ (upd H l (.lst ys)) { s with heap:=s.heap.update l (Obj.mapSeq f),toks:=t' }:=by
  have q:=PySem.IsL.update e f
  rw[hf] at q
  refine I.write (x:=l) (e:=l) (by rw[hH];exact trivial) (.inl rfl) (fun b' u hb hu=>(Heap.get?_update_other s.heap (Obj.mapSeq f) (Ne.symm hb)).trans hu) ⟨_,q⟩ ?_
  exact⟨hz,its',_,hv,q⟩
theorem Inv.GO {its:List Value}{t':Nat} (I:Inv X pins σ H s) (hv:Vals ys its) (hz:ys.length≤sizeLine) :
    Inv X pins σ (upd H s.heap.objs.size (.lst ys)) { s with heap:=s.heap.push { cls:=.type "list",data:=.seq its.toArray },toks:=t' } :=
  I.laid (fun _ _ q=>Heap.get?_push_of_some _ q) (Nat.le_refl _) ⟨hz,its,0,hv,Heap.get?_push_size _ rfl⟩
theorem Inv.fresh (I:Inv X pins σ H s):H s.heap.objs.size=none:=I.hok.fresh (Nat.le_refl _)
theorem Inv.BG (I:Inv X pins σ H s) (hH:H l=some (.lst xs)):xs.length≤sizeLine∧∃(its:List Value) (n:Nat),Vals xs its∧xs.length=its.length∧s.heap.get? l=some { cls:=.type "list",data:=.seq its.toArray n }:=by
  obtain ⟨z,its,n,r,e⟩:=I.hok l _ hH
  exact⟨z,its,n,r,r.length,e⟩
theorem C6 {n:Nat} (h:n≤sizeLine):Builtin.List.listTooLong n=false:=by
  unfold Builtin.List.listTooLong
  exact decide_eq_false (by omega)
end
section
variable {X:Cx}
def qY:V→List V→Hp→VK→Prop:=fun x vs H Q=>∃l xs y,x=.ref l∧vs=[y]∧H l=some (.lst xs)∧xs.length<sizeLine∧Q .non (upd H l (.lst (xs++[y])))
theorem kP:MtM X "list.append" qY:=by
  intro pins s σ H x vs v us Q I rx rv h
  obtain ⟨l,xs,y,rfl,rfl,hH,hz,q⟩:=h
  cases rx
  obtain ⟨u,rfl,ru⟩:=rv.one
  obtain ⟨z,its,n,r,hl,e⟩:=I.BG hH
  refine call_meets F.slot_list_append ⟨_,e,rfl⟩ F.entry_list_append (F.args_list_append_2 _ _) (PySem.list_append l its.toArray n u (by rw[List.size_toArray];omega)) ⟨e,?_⟩
  refine⟨.non,_,I.G7 (its':=its++[u]) hH e (by simp) (r.append (.cons ru .nil)) ?_,rfl,q⟩
  rw[List.length_append,List.length_singleton]
  omega
def FZ:R2:=fun x y H Q=>∃l b xs zs,x=.ref l∧y=.ref b∧H l=some (.lst xs)∧H b=some (.lst zs)∧xs.length+zs.length≤sizeLine∧∀p,H p=none→Q (.ref p) (upd H p (.lst (xs++zs)))
theorem lT:OpR X (binaryOp .Add) FZ:=by
  intro pins s σ H x y v u Q I rx ry h
  obtain ⟨l,b,xs,zs,rfl,rfl,hH,hB,hz,q⟩:=h
  cases rx
  cases ry
  obtain ⟨z,its,n,r,hl,e⟩:=I.BG hH
  obtain ⟨z2,its2,n2,r2,hl2,e2⟩:=I.BG hB
  refine PySem.P.add_list e e2 ?_ (by rw[List.size_toArray,List.size_toArray];omega)
  have ea:its.toArray++its2.toArray=(its++its2).toArray:=by simp
  rw[ea]
  exact⟨.ref _,_,I.GO (t':=s.toks) (r.append r2) (by rw[List.length_append];omega),rfl,q _ I.fresh⟩
def Hi:R2:=fun x y H Q=>∃l k xs,x=.ref l∧y=.int k∧H l=some (.lst xs)∧-(2 ^ 63)≤k∧k<2 ^ 63∧xs.length*k.toNat≤sizeLine ∧
  ∀p,H p=none→Q (.ref p) (upd H p (.lst (List.replicate k.toNat xs).flatten))
theorem len_rep {α:Type} (xs:List α) (k:Nat):(List.replicate k xs).flatten.length=k*xs.length:=by
  induction k with
  | zero=>simp
  | succ k ih=>rw[List.replicate_succ,List.flatten_cons,List.length_append,ih,Nat.succ_mul,Nat.add_comm]
theorem BX:OpR X (binaryOp .Mult) Hi:=by
  intro pins s σ H x y v u Q I rx ry h
  obtain ⟨l,k,xs,rfl,rfl,hH,h1,h2,hz,q⟩:=h
  cases rx
  obtain ⟨t,rfl⟩:=ry
  obtain ⟨z,its,n,r,hl,e⟩:=I.BG hH
  have hlen:its.toArray.size*k.toNat≤sizeLine:=by rw[List.size_toArray,← hl];exact hz
  have hcap:¬ its.toArray.size*k.toNat>(2 ^ 63 - 1) / 8:=by
    have:(sizeLine:Nat)≤(2 ^ 63 - 1) / 8:=by decide
    omega
  have hfit:¬ (!Builtin.List.listFitsIndex k)=true:=by
    rw[fitsIndex_both h1 h2]
    exact Bool.false_ne_true
  have hlong:¬ Builtin.List.listTooLong (its.toArray.size*k.toNat)=true:=by
    rw[C6 hlen]
    exact Bool.false_ne_true
  have hnew:List.foldl (fun x1 x2=>x1++x2) #[] (List.replicate (if its.toArray.isEmpty=true then 0 else k.toNat) its.toArray)=(List.replicate k.toNat its).flatten.toArray:=by
    have f0:∀m:Nat,List.foldl (fun x1 x2=>x1++x2) #[] (List.replicate m its.toArray)=(List.replicate m its).flatten.toArray:=fun m=>by
      have:=foldl_rep its m []
      rw[List.nil_append] at this
      exact this
    rw[f0]
    cases its with
    | nil=>simp
    | cons a r'=>rw[if_neg (by simp)]
  refine wpAny_binaryOp_repeat_ref (T:="list") (U:="int") (by decide) ⟨_,e,rfl⟩ (fun s'=>typeIs_int s' k t) noFill_list_mul F.fills_int_mul F.slot_int_rmul repeat_list F.slot_int_index.lookup
    (call_meets F.slot_int_rmul (typeIs_int s k t) F.entry_int_rmul (F.args_int_rmul_2 _ _) (int___rmul___int_list k t l its.toArray n)
      ⟨e,rfl,⟨_,e,rfl⟩,call_meets F.slot_list_mul ⟨_,e,rfl⟩ F.entry_list_mul (F.args_list_mul_2 _ _) (AutoListH.list___mul___list_int_3 l its.toArray n k t hfit hcap hlong) ⟨e,?_⟩⟩)
  rw[hnew]
  exact⟨.ref _,_,I.GO (t':=s.toks) (r.rep k.toNat) (by rw[len_rep,Nat.mul_comm];exact hz),rfl,q _ I.fresh⟩
end
section
variable {prog:Program}{w:World}{A:Around}{E:Value→Shared→Prop}{s:Shared}
end
section
variable {X:Cx}
end
end L2
namespace Att
open PySem PySem.W PySem.Calls PyProof.Rows
theorem qM {P:Params}{h:Heap}:∀(ns:List Int) (vs:List Value),WellAll P h vs (ns.map WData.int)→IntsAre vs ns:=by
  intro ns
  induction ns with
  | nil =>
    intro vs w
    rw[List.map_nil] at w
    cases w
    exact .nil
  | cons n ns ih =>
    intro vs w
    rw[List.map_cons] at w
    cases w with
    | cons a b =>
      cases a
      exact .cons _ _ (ih _ b)
theorem Aq {l:OpenLaw}{n:Nat} (hn:l.most=some n) {P:Params}{h:Heap}{args:List WData}{vals:List Value}
    (hpre:l.row.toRowW.claim.pre args=true) (hwl:WellAll P h vals args) :
    ∃a vs ns,vals=[Value.ref a]∧args=[WData.list (ns.map WData.int)]∧h.get? a=some { cls:=.type "list",data:=.seq vs.toArray }∧IntsAre vs ns∧ns.length≤n:=by
  have hsh:WShape.hasAll [] args [.list .int]=true:=(pre_splitW hpre).1
  have hc:l.pre.holds [] { args:=args }=true:=(pre_splitW hpre).2
  obtain ⟨d,r,rfl,h1,h2⟩:=hasAllW_cons hsh
  obtain rfl:=hasAllW_nil h2
  obtain ⟨xs,rfl,h3⟩:=hasW_list h1
  obtain ⟨ns,rfl⟩:=items_int h3
  have hlen:ns.length≤n:=by
    unfold OpenLaw.pre at hc
    have h4:(WTm.not (.lt (.lit (.int (n:Int))) (.len (.arg 0)))).holds [] { args:=[.list (ns.map .int)] }=true:=by
      have h4:=(holds_andW hc).1
      rw[hn] at h4
      exact h4
    have h5:=condW_of h4 (w_not (w_lt w_lit (w_len_list (w_arg rfl))))
    rw[List.length_map] at h5
    refine Nat.le_of_not_lt fun q=>?_
    have q':(n:Int)<((ns.length:Nat):Int):=by omega
    first
      | (rw[decide_eq_true q'] at h5;exact absurd h5 (by decide))
      | (simp at h5;omega)
  cases hwl with
  | cons w1 w2 =>
    cases w2
    cases w1 with
    | list ho hall=>exact⟨_,_,ns,rfl,rfl,ho,qM ns _ hall,hlen⟩
theorem Au (l:OpenLaw) (args:List WData):l.row.toRowW.claim.post args (.bool true) args=true :=
  postW_of (r:=l.row.toRowW) (X:=(true == true))
    (show WShape.has [] (.bool true) .bool=true by first | rfl | decide | simp [WShape.has,WShape.arms,WShape.armsAll])
    (show (WTm.eq .res (.lit (.bool true))).value [] { args:=args,res:=some (.bool true),after:=args }=some (.bool (true == true)) from w_eq_bool (w_res rfl) w_lit) rfl
theorem xZ {l:OpenLaw}{n:Nat}{q:Program}{loose:List Str}{XP:(Str→Option Value)→Heap→Prop}{YP:World→Heap→Prop}{d:DefRec}
    (hn:l.most=some n) (hdf:d.params.defaults=[])
    (call:∀(w:World) (s₀ s₁:Shared) (mg mb:Str→Option Value) (fa:Addr) (o:Obj) (pm cd doc:Value) (a:Addr) (vs:List Value) (ns:List Int),
      Ground q loose [] XP w s₀ mg mb s₁.heap→YP w s₁.heap →
      s₁.heap.get? fa=some o→o.data=.func (docDef d.name d.params d.body d.scope pm cd doc)→s₁.heap.CodeRec cd d.name→mg d.name=some (.ref fa) →
      s₁.heap.get? a=some { cls:=.type "list",data:=.seq vs.toArray }→IntsAre vs ns→ns.length≤n→s₁.gens=#[] →
      codeAny (model l.prog w) callerA (.call (.ref fa) ⟨[.ref a],[]⟩) (fun r s'=>r=.ok (.ret (.bool true))∧OldK s₁.heap s'.heap∧s'.os=s₁.os∧AllBare s'.gens) s₁) :
    WalkO q loose XP YP l.row.toRowW d [] (fun f vs=>PySem.call f vs):=by
  intro w s₀ s₁ mg mb G Y fa o pm cd doc dV kV ho hd hcd hD hmg hg args vals as hpre hlay hrd hwl hlo
  obtain rfl:dV=.none:=Dflts.none hD hdf
  obtain rfl:kV=.none:=Dflts.noKw hD
  obtain ⟨a,vs,ns,rfl,rfl,hobj,hints,hlen⟩:=Aq hn hpre hwl
  refine enter_call (codeAny_mono (call w s₀ s₁ mg mb fa o pm cd doc a vs ns G Y ho (fd_plain hd) hcd hmg hobj hints hlen hg) fun r s' hq=>?_)
  obtain ⟨rfl,h2,h3,h4⟩:=hq
  exact⟨.inl ⟨.bool true,.bool true,[],rfl,fun _=>rfl,.bool true,Au l _,fun _=>⟨List.Pairwise.nil,fun _ hm=>(nomatch hm)⟩⟩,h2,h3,h4⟩
section
variable {prog:Program}{w:World}{A:Around}{E:Value→Shared→Prop}{s:Shared}{K:Frag}
end
end Att
namespace L2
open PySem PySem.Spec PyProof.Rows
theorem uY:∀{vs:List Value}{ns:List Int},IntsAre vs ns→Vals (ns.map V.int) vs
  | _,_,.nil=>.nil
  | _,_,.cons n t h=>.cons ⟨t,rfl⟩ (uY h)
def DQ (H:Hp):Prop:=∀b,H b=none∨∃o xs,H b=some (.frz o (.lst xs))
theorem BN {P:Program}{w:World}{K:PySem.W.Frag}{mg mb:Str→Option Value}{CX:CXT}{k:Nat}{fa a:Addr}{fd:FuncData}{x:Str}{sp:Sp}{s₁:Shared}{vs:List Value}{ns:List Int}
    (KX:K.In s₁.heap) (hns:s₁.heap.Ns mainGlobals mg) (hb:s₁.heap.Ns builtinsNs mb) (hbb:∀x:Str,x≠"__name__"→mb x=bootBuiltins x) (hlim:s₁.heap.NoLimit) (hg:s₁.gens=#[])
    (ha:s₁.heap.get? a=some { cls:=.type "list",data:=.seq vs.toArray }) (hi:IntsAre vs ns) (hl:ns.length≤sizeLine) (hr:iQ k callerA)
    (F:∀base:Heap,K.In base→base.Ns mainGlobals mg→aG P w K mg base CX k fa fd [x] sp) (hbind:∀(s:Shared) (u:Value),BindsTo s fd ⟨[u],[]⟩ [(x,u)])
    (hsp:∀H:Hp,DQ H→SqL K H a (ns.map V.int)→sp [.ref a] H (fun v _=>v=.bl true) fun _ _ _=>False)
    (hCX:∀H e s',CX [] H s₁ (fun _ _ _=>False) e s'→False) :
    codeAny (model P w) callerA (.call (.ref fa) ⟨[.ref a],[]⟩) (fun r s'=>r=.ok (.ret (.bool true))∧OldK s₁.heap s'.heap∧s'.os=s₁.os∧AllBare s'.gens) s₁:=by
  have rv:=uY hi
  have lenV:=hi.length
  have core:∀H:Hp,DQ H→SqL K H a (ns.map V.int)→HOk P w H s₁.heap→(∀b,H b≠none→b=a)→(H a≠none→K.lookup a=none) →
      codeAny (model P w) callerA (.call (.ref fa) ⟨[.ref a],[]⟩) (fun r s'=>r=.ok (.ret (.bool true))∧OldK s₁.heap s'.heap∧s'.os=s₁.os∧AllBare s'.gens) s₁:=by
    intro H hO hS hok hA hK
    have base_of:∀{b:Addr}{o:Obj},s₁.heap.get? b=some o→H b=none→(wC s₁.heap H).get? b=some o:=fun e n=>Bl e n
    have noA:∀{b:Addr}{o:Obj}{es:Array DictEntry}{ep:Nat},s₁.heap.get? b=some o→o.data=.dict es ep→H b=none:=fun {b o es ep} e d=>by
      cases q:H b with
      | none=>rfl
      | some u =>
        have e':b=a:=hA b (by rw[q];simp)
        subst e'
        rw[ha] at e;cases e
        have d':Data.seq vs.toArray _=Data.dict es ep:=d
        cases d'
    have nsK:∀{b:Addr}{m:Str→Option Value},s₁.heap.Ns b m→(wC s₁.heap H).Ns b m:=fun {b m} ⟨o,es,ep,e,d,r⟩=>⟨o,es,ep,base_of e (noA e d),d,r⟩
    have hKb:K.In (wC s₁.heap H):=fun b o e=>base_of (KX b o e) (by
      cases q:H b with
      | none=>rfl
      | some u =>
        have e':b=a:=hA b (by rw[q];simp)
        subst e'
        rw[hK (by rw[q];simp)] at e;cases e)
    have hM:Mod K mg (wC s₁.heap H):=⟨hKb,nsK hns,⟨mb,nsK hb,hbb⟩,let ⟨mc,h1,h2⟩:=hlim;⟨mc,nsK h1,h2⟩⟩
    have e0:yM P w K mg (wC s₁.heap H) callerA [] s₁ H:=⟨rfl,hM,fun b o e=>Ej e,Nat.le_of_eq (A7 _ _),trivial,fun b hb=>absurd (show b∈([]:List Addr) from hb) (by simp),hok,.of_eq hg⟩
    refine codeAny_mono ((F _ hKb (nsK hns)).run callerA [] s₁ H ⟨[.ref a],[]⟩ [.ref a] [.ref a] _ _ hr e0 (hbind s₁ (.ref a)) (.cons rfl .nil) (hsp H hO hS)) fun r s' h=>?_
    cases r with
    | error e=>exact (hCX H e s' h).elim
    | ok fl =>
      cases fl with
      | next=>exact False.elim h
      | brk=>exact False.elim h
      | cont=>exact False.elim h
      | ret u =>
        obtain ⟨v,H',os,bare,un,hok',r',q⟩:=h
        have q':v=.bl true:=q
        subst q'
        obtain rfl:u=Value.bool true:=r'
        refine⟨rfl,OldK.of_keep fun b o e=>?_,os,bare⟩
        cases q:H b with
        | none=>exact un.keep b o e q (by intro z;exact absurd (show b∈([]:List Addr) from z) (by simp)) (by simp)
        | some u =>
          rcases hO b with z | ⟨ob,xs,z⟩
          · rw[q] at z;cases z
          · have z2:=un.frzs b ob _ z
            obtain ⟨e1,_⟩:=hok b _ z
            obtain ⟨e2,_⟩:=hok' b _ z2
            rw[e] at e1;cases e1
            exact e2
  cases hk:K.lookup a with
  | some o =>
    have e:=KX a o hk
    rw[ha] at e
    cases e
    refine core (fun _=>none) (fun _=>.inl rfl) (.inr ⟨_,vs.toArray,_,hk,rfl,rfl,rfl,by rw[List.size_toArray,lenV];exact hl,by simpa using rv⟩) (fun b u z=>by have z':(none:Option HO)=some u:=z;cases z') (fun b z=>absurd rfl z) fun z=>absurd rfl z
  | none =>
    refine core (fun b=>if b=a then some (.frz { cls:=.type "list",data:=.seq vs.toArray } (.lst (ns.map V.int))) else none) (fun b=>?_) (.inl (.inr ⟨{ cls:=.type "list",data:=.seq vs.toArray },if_pos rfl⟩)) (fun b u z=>?_) (fun b z=>?_) fun _=>hk
    · by_cases hb:b=a
      · exact .inr ⟨_,_,if_pos hb⟩
      · exact .inl (if_neg hb)
    · by_cases hb:b=a
      · have z':=(if_pos hb).symm.trans z
        cases z'
        subst hb
        exact⟨ha,by rw[List.length_map];exact hl,vs,_,rv,ha⟩
      · have z':=(if_neg hb).symm.trans z
        cases z'
    · by_cases hb:b=a
      · exact hb
      · exact absurd (if_neg hb) z
end L2
namespace L2
open PySem PySem.Spec PyProof.Rows
theorem zS {l:PySem.W.OpenLaw}{n k:Nat}{q:Program}{loose:List Str}{XP:(Str→Option Value)→Heap→Prop}{YP:World→Heap→Prop}{d:DefRec}{K:Params→PySem.W.Frag}{CX:World→CXT}{sp:World→Sp}{x:Str}
    (hn:l.most=some n) (hn2:n≤sizeLine) (hdf:d.params.defaults=[]) (hr:iQ k callerA)
    (hY:∀(w:World) (h:Heap),YP w h→(K w.params).In h)
    (F:∀(w:World) (mg:Str→Option Value) (fa:Addr) (h:Heap),(K w.params).In h→h.Ns mainGlobals mg→mg d.name=some (.ref fa) →
      ∃fd:FuncData,(∀(s:Shared) (u:Value),BindsTo s fd ⟨[u],[]⟩ [(x,u)]) ∧
        ∀base:Heap,(K w.params).In base→base.Ns mainGlobals mg→aG l.prog w (K w.params) mg base (CX w) k fa fd [x] (sp w))
    (hsp:∀(w:World) (H:Hp) (a:Addr) (ns:List Int),ns.length≤n→DQ H→SqL (K w.params) H a (ns.map V.int)→sp w [.ref a] H (fun v _=>v=.bl true) fun _ _ _=>False)
    (hCX:∀(w:World) (H:Hp) (s:Shared) (e:Value) (s':Shared),CX w [] H s (fun _ _ _=>False) e s'→False) :
    PySem.W.WalkO q loose XP YP l.row.toRowW d [] (fun f vs=>PySem.call f vs):=by
  refine Att.xZ hn hdf fun w s₀ s₁ mg mb fa o pm cd doc a vs ns G Y ho hd hcd hmg hobj hints hlen hg=>?_
  have KX:=hY w _ Y
  obtain ⟨fd,hb,hF⟩:=F w mg fa _ KX G.T.g hmg
  exact BN KX G.T.g G.T.b G.T.builtins G.T.nolimit hg hobj hints (Nat.le_trans hlen hn2) hr hF hb (fun H hO hS=>hsp w H a ns hlen hO hS) fun H e s'=>hCX w H s₁ e s'
end L2
/- THE LAST THEOREM (shape; LID, My.* are yours):
   My.Adr: a structure of the addresses that your layer names (classes,functions);My.Txt K t: a structure (Prop) of the equations over K;
   My.txt_mk:{K}{implicit addresses ..} (e1:nsIn K mainGlobals "law" = some (some (.ref f))) (e2:K.lookup f=some ⟨oc,od,.func (fnOf "law" "law" params body scope dV kV doc pm an cdv ct),sl⟩) (e3:codeIn K cdv "law" = true) .. : ∃t,My.Txt K t
set_option maxRecDepth 100000 in
set_option maxHeartbeats 0 in
theorem PySem.Challenge.cw_LID_holds : PySem.Challenge.rw_LID.Holds := by
  w_on;o_law;k_head;(case hw=>w_witness2)
  k_fill
  refine L2.zS (l:=PySem.Challenge.rw_LID) (n:=63) (k:=40) (x:="script") (CX:=fun w=>..) (sp:=fun _=>My.sp_law) rfl (by decide) rfl ⟨rfl,by decide,by decide⟩ (fun w h Y=>PySem.W.kIn_of Y) ?F ?S ?C
  case F =>
    intro w mg fa h KX G hmg
    have T:∃t,My.Txt (L2.KOf KX) t:=by
      dsimp only[]                          -- K must stand as «<heap const> w.params» for k_is
      refine' My.txt_mk ?e1 ?e2 ?e3 ..
      (case e1=>PySem.W.k_is)                    -- in the order: a name -> its address -> its object -> its parts
      (case e2=>PySem.W.k_is)
      ..
    obtain ⟨t,T⟩:=T
    have e0:=hmg.symm.trans (PySem.W.mg_of KX G T.law)
    cases e0                                       -- fa is the law's own address
    exact⟨_,fun s u=>.of_eq rfl,fun base kb nb=>My.law_fn T kb nb⟩     -- if «.of_eq rfl» comes too early: refine' ⟨_,?b,fun base kb nb=>My.law_fn T kb nb⟩;exact fun s u=>.of_eq rfl
  case S=>exact fun w H a ns hl hO hS=>..
  case C=>exact ..
(the tactic k_is has no namespace: write k_is) -/
namespace L2
open PySem PySem.Spec PyProof.Rows
def iN (s:Stmt):Arguments:=match s with
  | .FunctionDef _ a _ _ _ _ _ _ _ _=>a
  | _=>{ posonlyargs:=[],args:=[],vararg:=none,kwonlyargs:=[],kw_defaults:=[],kwarg:=none,defaults:=[] }
def fY (s:Stmt):List Stmt:=match s with
  | .FunctionDef _ _ b _ _ _ _ _ _ _=>b
  | _=>[]
def au (s:Stmt):Scope:=match s with
  | .FunctionDef _ _ _ _ _ _ sc _ _ _=>sc
  | _=>{ kind:=.function,names:=[],isGenerator:=false,isCoroutine:=false }
abbrev CX0:CXT:=fun _ _ _ _ _ _=>False
abbrev E0:XK:=fun _ _ _=>False
theorem aD {X:Cx}:Passes CX0 X E0:=fun _ _ _ _ _ _ _ h=>h.elim
structure Fun (K:PySem.W.Frag) (x qual:Str) (st:Stmt) (f:Addr) (fd:FuncData):Prop where
  ex:∃(oc:Value) (od:Option Addr) (kV doc pm:Value) (an:Option Addr) (cdv ct:Value) (osl:Array (Option Value)),
    fd=PySem.W.fnOf x qual (iN st) (fY st) (au st) .none kV doc pm an cdv ct∧K.lookup f=some ⟨oc,od,.func fd,osl⟩∧PySem.W.codeIn K cdv qual=true
  kp:PySem.W.keepIn K (.ref f)=true
section
variable {P:Program}{w:World}{K:PySem.W.Frag}{mg:Str→Option Value}{base:Heap}
theorem Fun.ok {x qual:Str}{st:Stmt}{f:Addr}{fd:FuncData}{N ps:List Str}{k:Nat}{sp:Sp} (F:Fun K x qual st f fd) (S:aJ N ps (au st)) (len:∀vs H Q E,sp vs H Q E→vs.length=ps.length)
    (hbody:∀(cdv:Value) (A:Around) (outer:List Env) (s:Shared) (H:Hp) (vs:List V) (Q:VK) (E:XK),iQ k (A.deeper (envOfC qual (au st) s.heap.objs.size f cdv))→sp vs H Q E →
      ∃t,PSs (p7 CX0 P w K mg base N qual (au st) f cdv A outer s H E).nox (fY st) t∧t { nx:=fun _ H'=>Q .non H',rt:=Q } (start N vs) H):aG P w K mg base CX0 (k+1) f fd ps sp:=by
  obtain ⟨oc,od,kV,doc,pm,an,cdv,ct,osl,rfl,lk,hcd⟩:=F.ex
  refine EL lk hcd S len fun A outer s H vs Q E hr hsp=>?_
  obtain ⟨t,h,q⟩:=hbody cdv A outer s H vs Q E hr hsp
  exact⟨t,h.nox,q⟩
theorem Fun.binds {x qual:Str}{st:Stmt}{f:Addr}{fd:FuncData}{ps:List Str} (F:Fun K x qual st f fd)
    (h:∀(kV doc pm:Value) (an:Option Addr) (cdv ct:Value) (us:List Value),us.length=ps.length→bindArgs (PySem.W.fnOf x qual (iN st) (fY st) (au st) .none kV doc pm an cdv ct) ⟨us,[]⟩=pure (ps.zip us)):Binds K fd ps []:=by
  obtain ⟨oc,od,kV,doc,pm,an,cdv,ct,osl,rfl,lk,hcd⟩:=F.ex
  exact .all (h kV doc pm an cdv ct)
theorem nG {x qual:Str}{st:Stmt}{f:Addr}{oc:Value}{od an:Option Addr}{osl:Array (Option Value)}{kV doc pm cdv ct:Value} (l:K.lookup f=some ⟨oc,od,.func (PySem.W.fnOf x qual (iN st) (fY st) (au st) .none kV doc pm an cdv ct),osl⟩)
    (c:PySem.W.codeIn K cdv qual=true) (k:PySem.W.keepIn K (.ref f)=true):Fun K x qual st f (PySem.W.fnOf x qual (iN st) (fY st) (au st) .none kV doc pm an cdv ct):=⟨⟨oc,od,kV,doc,pm,an,cdv,ct,osl,rfl,l,c⟩,k⟩
end
theorem AY {n:Nat} (h:n≤1000):n<sizeLine:=Nat.lt_of_le_of_lt h (by decide)
section
variable {X:Cx}
theorem pv (i:Nat) {x:Str}{pos:Pos} (hN:X.N[i]?=some x:=by rfl) (hv:Vis X.env.scope x:=by first | exact Or.inl rfl | exact Or.inr (Or.inl rfl) | exact Or.inr (Or.inr rfl)) (hd:(x == ("__debug__" : Str))=false:=by decide)
    (hcd:(x == ("__classdict__" : Str))=false:=by decide):PE X (.Name x pos) (jd i):=FE hN hv hd hcd
end
def aN (H H':Hp):Prop:=∀b o,H b=some o→H' b=some o
theorem aN.refl (H:Hp):aN H H:=fun _ _ h=>h
theorem aN.trans {H H1 H2:Hp} (a:aN H H1) (b:aN H1 H2):aN H H2:=fun c o h=>b c o (a c o h)
theorem aN.free {H H':Hp} (e:aN H H') {l:Addr} (h:H' l=Option.none):H l=Option.none:=by
  cases q:H l with
  | none=>rfl
  | some o =>
    rw[e l o q] at h
    cases h
theorem aN.seq {K:PySem.W.Frag}{H H':Hp}{a:Addr}{xs:List V} (e:aN H H') (h:SqL K H a xs):SqL K H' a xs:=by
  rcases h with (h | ⟨o,h⟩) | h
  · exact .inl (.inl (e _ _ h))
  · exact .inl (.inr ⟨o,e _ _ h⟩)
  · exact .inr h
end L2
set_option maxHeartbeats 4000000
namespace L2
open PySem PySem.Spec PyProof.Rows
def eK (env:Env):List (Str × NameKind)→List (Str × Addr)→List (Str × Addr)
  | [],acc=>acc
  | (n,k)::r,acc=>eK env r (if k == .free then (n,(env.cells.lookup n).getD 0)::acc else acc)
theorem tT {scope:Scope}{env:Env} (h:∀n,(n,NameKind.free)∈scope.names→∃c,env.cells.lookup n=some c):closureFor scope env=pure (eK env scope.names []):=by
  have go:∀(names:List (Str × NameKind)) (acc:List (Str × Addr)),(∀n,(n,NameKind.free)∈names→∃c,env.cells.lookup n=some c) →
      (forIn names acc (fun (x:Str × NameKind) (cs:List (Str × Addr))=>match x with
        | (name,kind)=>if (kind == .free)=true then (do let c ← cellOf env name;pure (ForInStep.yield ((name,c)::cs))) else pure (ForInStep.yield cs)):Sem (List (Str × Addr)))=pure (eK env names acc):=by
    intro names
    induction names with
    | nil=>intro acc _;rfl
    | cons x r ih =>
      intro acc hn
      obtain ⟨n,k⟩:=x
      rw[List.forIn_cons]
      have hr:∀m,(m,NameKind.free)∈r→∃c,env.cells.lookup m=some c:=fun m hm=>hn m (List.mem_cons_of_mem _ hm)
      by_cases hk:k=.free
      · subst hk
        obtain ⟨c,hc⟩:=hn n List.mem_cons_self
        have e:cellOf env n=pure c:=by unfold cellOf;rw[hc]
        have e2:eK env ((n,NameKind.free)::r) acc=eK env r ((n,c)::acc):=by
          show eK env r (if (NameKind.free == NameKind.free)=true then (n,(env.cells.lookup n).getD 0)::acc else acc)=_
          rw[if_pos (by decide),hc];rfl
        rw[e2,← ih _ hr]
        show (do let __do_lift ← (if (NameKind.free == NameKind.free)=true then (do let c ← cellOf env n;pure (ForInStep.yield ((n,c)::acc))) else pure (ForInStep.yield acc):Sem (ForInStep (List (Str × Addr))));_)=_
        rw[if_pos (by decide),e]
        rfl
      · have hb:(k == NameKind.free)=false:=by simpa using hk
        have e2:eK env ((n,k)::r) acc=eK env r acc:=by
          show eK env r (if (k == NameKind.free)=true then (n,(env.cells.lookup n).getD 0)::acc else acc)=_
          rw[hb];rfl
        rw[e2,← ih _ hr]
        show (do let __do_lift ← (if (k == NameKind.free)=true then (do let c ← cellOf env n;pure (ForInStep.yield ((n,c)::acc))) else pure (ForInStep.yield acc):Sem (ForInStep (List (Str × Addr))));_)=_
        rw[hb]
        rfl
  have e:=go scope.names [] h
  unfold closureFor
  exact congrArg (fun (m:Sem (List (Str × Addr)))=>m >>= fun r=>pure r) e
theorem se {env:Env}:∀{names:List (Str × NameKind)}{acc:List (Str × Addr)}{n:Str}{c:Addr},(n,c)∈eK env names acc→(n,c)∈acc∨((n,NameKind.free)∈names∧c=(env.cells.lookup n).getD 0)
  | [],acc,n,c,h=>.inl h
  | (m,k)::r,acc,n,c,h=>by
    rcases se (names:=r) h with h | ⟨h,e⟩
    · by_cases hk:k=.free
      · subst hk
        rw[if_pos (by decide)] at h
        rcases List.mem_cons.mp h with e | h
        · cases e;exact .inr ⟨List.mem_cons_self,rfl⟩
        · exact .inl h
      · have hb:(k == NameKind.free)=false:=by simpa using hk
        rw[hb] at h
        exact .inl h
    · exact .inr ⟨List.mem_cons_of_mem _ h,e⟩
theorem iJ {α:Type}:∀{l:List (Str × α)}{n:Str}{c:α},(n,c)∈l→∃d,l.lookup n=some d
  | [],_,_,h=>nomatch h
  | (k,v)::r,n,c,h=>by
    rw[List.lookup_cons]
    cases hb:n == k with
    | true=>exact⟨v,rfl⟩
    | false =>
      rcases List.mem_cons.mp h with e | h
      · cases e;simp at hb
      · exact iJ h
theorem rZ {env:Env}:∀{names:List (Str × NameKind)}{acc:List (Str × Addr)}{n:Str}{c:Addr},(n,c)∈acc→(n,c)∈eK env names acc
  | [],acc,n,c,h=>h
  | (m,k)::r,acc,n,c,h=>by
    refine rZ (names:=r) ?_
    split
    · exact List.mem_cons_of_mem _ h
    · exact h
theorem nv {env:Env}:∀{names:List (Str × NameKind)}{acc:List (Str × Addr)}{n:Str},(n,NameKind.free)∈names→(n,(env.cells.lookup n).getD 0)∈eK env names acc
  | [],acc,n,h=>nomatch h
  | (m,k)::r,acc,n,h=>by
    rcases List.mem_cons.mp h with e | h
    · cases e
      refine rZ (names:=r) ?_
      rw[if_pos (by decide)]
      exact List.mem_cons_self
    · exact nv (names:=r) h
theorem kz:∀{names:List (Str × NameKind)}{n:Nat}{acc:List (Str × Addr)}{x:Str}{c:Addr},(x,c)∈cellsFrom n names acc→(x,c)∈acc∨((x,NameKind.cell)∈names∧n≤c)
  | [],n,acc,x,c,h=>.inl h
  | (m,k)::r,n,acc,x,c,h=>by
    unfold cellsFrom at h
    by_cases hk:k=.cell
    · subst hk
      rw[if_pos (by decide)] at h
      rcases kz (names:=r) h with h | ⟨h,e⟩
      · rcases List.mem_cons.mp h with e | h
        · cases e;exact .inr ⟨List.mem_cons_self,Nat.le_refl _⟩
        · exact .inl h
      · exact .inr ⟨List.mem_cons_of_mem _ h,by omega⟩
    · have hb:(k == NameKind.cell)=false:=by simpa using hk
      rw[hb] at h
      rcases kz (names:=r) h with h | ⟨h,e⟩
      · exact .inl h
      · exact .inr ⟨List.mem_cons_of_mem _ h,e⟩
theorem fS:∀{names:List (Str × NameKind)}{n:Nat}{acc:List (Str × Addr)}{x:Str}{c:Addr},(x,c)∈acc→(x,c)∈cellsFrom n names acc
  | [],n,acc,x,c,h=>h
  | (m,k)::r,n,acc,x,c,h=>by
    unfold cellsFrom
    split
    · exact fS (names:=r) (List.mem_cons_of_mem _ h)
    · exact fS (names:=r) h
theorem km:∀{names:List (Str × NameKind)}{n:Nat}{acc:List (Str × Addr)}{x:Str},(x,NameKind.cell)∈names→∃c,(x,c)∈cellsFrom n names acc
  | [],n,acc,x,h=>nomatch h
  | (m,k)::r,n,acc,x,h=>by
    unfold cellsFrom
    rcases List.mem_cons.mp h with e | h
    · cases e
      rw[if_pos (by decide)]
      exact⟨n,fS (names:=r) List.mem_cons_self⟩
    · split
      · exact km (names:=r) h
      · exact km (names:=r) h
theorem jF:∀{names:List (Str × NameKind)}{h:Heap}{acc:List (Str × Addr)}{x:Str}{c:Addr},(x,c)∈cellsFrom h.objs.size names acc→(x,c)∈acc∨(pushCells h names).IsCell c none
  | [],h,acc,x,c,m=>.inl m
  | (n,k)::r,h,acc,x,c,m=>by
    unfold cellsFrom at m
    unfold pushCells
    split at m
    · rename_i hk
      rw[if_pos hk]
      have m':(x,c)∈cellsFrom (h.push { cls:=.type "cell",data:=.cell none }).objs.size r ((n,h.objs.size)::acc):=by rw[Heap.size_push];exact m
      rcases jF (names:=r) m' with z | z
      · rcases List.mem_cons.mp z with e | z
        · cases e
          exact .inr ⟨_,pushCells_keeps _ _ _ _ (Heap.get?_push_size _ rfl),rfl⟩
        · exact .inl z
      · exact .inr z
    · rename_i hk
      rw[if_neg hk]
      exact jF (names:=r) m
theorem kv:∀{names:List (Str × NameKind)}{n:Nat}{acc:List (Str × Addr)},(∀x c,(x,c)∈acc→c<n)→(∀x y c,(x,c)∈acc→(y,c)∈acc→x=y) →
    ∀x y c,(x,c)∈cellsFrom n names acc→(y,c)∈cellsFrom n names acc→x=y
  | [],n,acc,lt,inj,x,y,c,h,h'=>inj x y c h h'
  | (m,k)::r,n,acc,lt,inj,x,y,c,h,h'=>by
    unfold cellsFrom at h h'
    split at h
    · rename_i hk
      rw[if_pos hk] at h'
      refine kv (names:=r) (n:=n+1) (acc:=(m,n)::acc) (fun x c hm=>?_) (fun x y c hm hm'=>?_) x y c h h'
      · rcases List.mem_cons.mp hm with e | hm
        · cases e;exact Nat.lt_succ_self _
        · exact Nat.lt_succ_of_lt (lt _ _ hm)
      · rcases List.mem_cons.mp hm with e | hm<;>rcases List.mem_cons.mp hm' with e' | hm'
        · cases e;cases e';rfl
        · cases e;exact absurd (lt _ _ hm') (Nat.lt_irrefl _)
        · cases e';exact absurd (lt _ _ hm) (Nat.lt_irrefl _)
        · exact inj _ _ _ hm hm'
    · rename_i hk
      rw[if_neg hk] at h'
      exact kv (names:=r) lt inj x y c h h'
theorem jz {env:Env}:∀{names:List (Str × NameKind)}{x:Str},
    (names.map fun (n,k)=>if (k == NameKind.free && env.scope.kind == .function && env.kindOf n == some .cell) then (n,NameKind.cell) else (n,k)).lookup x =
      (names.lookup x).map fun k=>if (k == NameKind.free && env.scope.kind == .function && env.kindOf x == some .cell)=true then NameKind.cell else k
  | [],x=>rfl
  | (n,k)::r,x=>by
    have ih:=@jz env r x
    show List.lookup x ((if (k == NameKind.free && env.scope.kind == .function && env.kindOf n == some .cell)=true then (n,NameKind.cell) else (n,k))::_)=_
    have e:(if (k == NameKind.free && env.scope.kind == .function && env.kindOf n == some .cell)=true then (n,NameKind.cell) else (n,k))=(n,if (k == NameKind.free && env.scope.kind == .function && env.kindOf n == some .cell)=true then NameKind.cell else k):=by split<;>rfl
    rw[e,List.lookup_cons,List.lookup_cons]
    cases hx:x == n with
    | true =>
      have hx':=beq_iff_eq.mp hx
      subst hx'
      rfl
    | false=>exact ih
structure aS (X:Cx) (scope:Scope) (tn cap:List Str) (idx:List Nat):Prop where
  kind:scope.kind=.function
  nd:(scope.names.map (·.1)).Nodup
  tnd:(tn++cap).Nodup
  ct:∀y∈cap,scope.names.lookup y=some .free
  ci:idx.map (fun i=>X.N[i]?)=cap.map some
  fr:∀y∈scope.names,y.2=.free→X.env.scope.names.lookup y.1=some .cell∨X.env.scope.names.lookup y.1=some .free
theorem mx {α:Type}:∀{l:List (Str × α)}{n:Str}{c:α},(l.map (·.1)).Nodup→(n,c)∈l→l.lookup n=some c
  | [],_,_,_,h=>nomatch h
  | (k,v)::r,n,c,nd,h=>by
    obtain ⟨h1,h2⟩:=List.nodup_cons.mp nd
    rw[List.lookup_cons]
    rcases List.mem_cons.mp h with e | hm
    · cases e;simp
    · have hne:n≠k:=fun e=>h1 (List.mem_map.mpr ⟨_,hm,e⟩)
      have hb:(n == k)=false:=beq_eq_false_iff_ne.mpr hne
      rw[hb]
      exact mx h2 hm
def AK (σ:St) (idx:List Nat):St:=idx.map fun i=>(σ[i]?).getD none
def h9 (k:Nat) (idx:List Nat) (σ:St):St:=List.replicate k none++AK σ idx
def cxC (X:Cx) (N':List Str) (scope:Scope) (cs:List (Str × Addr)) (C:Addr) (fp:List Addr) (s₀:Shared) (H₀:Hp):Cx where
  prog:=X.prog
  w:=X.w
  K:=X.K
  mg:=X.mg
  base:=X.base
  A:=X.A
  N:=N'
  s₀:=s₀
  H₀:=H₀
  env:=compEnvC scope cs C X.env
  outer:=X.stack
  stack:=X.stack
  ex:=fp
  fn:=fun x=>scope.names.lookup x == some .local || scope.names.lookup x == some .cell
  calm:=X.calm
  pn:=[]
  xe:=fun _ _=>False
theorem oz {M:Model}{A:Around}{E:Value→Shared→Prop}{s:Shared}{scope:Scope}{globals:Addr}{cl:List (Str × Addr)}{qual:Str}{wW:Env}{Q:Env→Shared→Prop}
    (hQ:Q { scope:=scope,locals:=s.heap.objs.size,globals:=globals,cells:=cellsFrom (s.heap.objs.size+1) scope.names cl,qual:=qual,func:=none,code:=wW.code,frame:=wW.frame,builtins:=wW.builtins }
      { s with heap:=pushCells (s.heap.push { cls:=.type "dict",data:=.dict #[] }) scope.names }) :
    wpAny M A (newFunctionEnv scope globals cl [] qual none .none (some wW)) Q E s:=by
  simp only[newFunctionEnv,Option.isSome_some,if_true]
  refine wpAny_bind (wpAny_alloc ?_)
  refine wpAny_bind (wpAny_layCells _ (fun name kind cells=>by cases hkc:kind == NameKind.cell<;>simp [hkc]) _ _ _ _ ?_)
  rw[show ({ s with heap:=s.heap.push { cls:=.type "dict",data:=.dict #[] } }:Shared).heap.objs.size=s.heap.objs.size+1 from Heap.size_push ..]
  exact wpAny_bind (wpAny_pure (wpAny_pure hQ))
section
variable {prog:Program}{w:World}{A:Around}{R:Result→Shared→Prop}{s:Shared}
theorem vH {elt target iter:Expr}{ifs:List Expr}{scope:Scope}{pos:Pos}{it acc:Value}{env:Env} (I:Nat→Shared→Prop)
    (turn:∀n s,I n s→wpAny (model prog w) A (pyNext it) (fun r s₁=>match r with
      | none=>R (.ok .next) s₁
      | some v=>wpAny (model prog w) A (letOwnedTupleGo target it v) (fun _ s₁'=>wpAny (model prog w) A (assign target env v) (fun _ s₂ =>
          wpAny (model prog w) A (forIn ifs true fun c r=>if r=true then do let ok ← isTrue c env (eval c env);pure (ForInStep.yield ok) else pure (ForInStep.yield r)) (fun ok s₃ =>
            if ok=true then wpAny (model prog w) A (eval elt env) (fun x s₄ =>
              wpAny (model prog w) A (call (.builtin "list.append") [acc,x]) (fun _ s₅=>∃m,m<n∧I m s₅) (fun _ _=>False) s₄) (fun _ _=>False) s₃
            else ∃m,m<n∧I m s₃) (fun _ _=>False) s₂) (fun _ _=>False) s₁') (fun _ _=>False) s₁) (fun _ _=>False) s)
    (n:Nat) (h:I n s) :
    codeAny (model prog w) A (.compLoop (.ListComp elt [⟨target,iter,ifs,0⟩] scope pos) 0 it acc env) R s:=by
  refine codeAny_loop rfl I (fun n s hI=>?_) n h
  show wpAny _ A ((compTurn (.ListComp elt [⟨target,iter,ifs,0⟩] scope pos) 0 it acc env).onRaise (fun x=>do noteFrame x env;theTreesLotGoes x)) _ _ s
  refine wpAny_noted ?_
  rw[compTurn_list]
  refine wpAny_bind (wpAny_standAt (wpAny_bind (wpAny_mono (turn n s hI) (fun r s₁ h₁=>?_) fun _ _ h'=>h'.elim)))
  cases r with
  | none=>exact wpAny_pure h₁
  | some v =>
    refine wpAny_bind (wpAny_mono h₁ (fun _ s₁' h₁'=>?_) fun _ _ h'=>h'.elim)
    refine wpAny_bind (wpAny_mono h₁' (fun _ s₂ h₂=>wpAny_bind (wpAny_mono h₂ (fun ok s₃ h₃=>?_) fun _ _ h'=>h'.elim)) fun _ _ h'=>h'.elim)
    cases ok with
    | false=>exact wpAny_pure ⟨rfl,h₃⟩
    | true =>
      exact wpAny_bind (wpAny_bind (wpAny_mono h₃ (fun x s₄ h₄=>wpAny_bind (wpAny_mono h₄ (fun _ s₅ h₅=>wpAny_pure (wpAny_pure ⟨rfl,h₅⟩)) fun _ _ h'=>h'.elim)) fun _ _ h'=>h'.elim))
end
section
variable {X:Cx}{pins:List (Addr × Obj)}{σ:St}{H:Hp}{s2:Shared}{scope:Scope}{tn cap:List Str}{idx:List Nat}{fp:List Addr}
abbrev qu:Obj:={ cls:=.type "list",data:=.seq ([]:List Value).toArray }
abbrev Di:Obj:={ cls:=.type "dict",data:=.dict #[] }
abbrev xK (h:Heap) (scope:Scope):Heap:=pushCells ((h.push qu).push Di) scope.names
abbrev vO (X:Cx) (h:Heap) (scope:Scope):List (Str × Addr):=cellsFrom (h.objs.size+1+1) scope.names (eK X.env scope.names [])
theorem Ce {σ:St}{idx:List Nat}{j:Nat}{v:V} (h:(AK σ idx)[j]?=some (some v)):∃i,idx[j]?=some i∧σ[i]?=some (some v):=by
  unfold AK at h
  rw[List.getElem?_map] at h
  cases e:idx[j]? with
  | none=>rw[e] at h;cases h
  | some i =>
    rw[e] at h
    have h':(σ[i]?).getD none=some v:=Option.some.inj h
    refine⟨i,rfl,?_⟩
    cases q:σ[i]? with
    | none=>rw[q] at h';cases h'
    | some o=>rw[q] at h';have h'':o=some v:=h';rw[h'']
theorem yi (I:Inv X pins σ H s2) (S:aS X scope tn cap idx) (hf:∀b∈fp,sg X pins H b) (hfl:∀b∈fp,b<s2.heap.objs.size) :
    Inv (cxC X (tn++cap) scope (vO X s2.heap scope) (s2.heap.objs.size+1) fp s2 H) [(s2.heap.objs.size,qu)] (h9 tn.length idx σ) H { s2 with heap:=xK s2.heap scope }:=by
  have old:∀b o,s2.heap.get? b=some o→(xK s2.heap scope).get? b=some o:=fun b o e=>pushCells_keeps _ _ _ _ (Heap.get?_push_of_some _ (Heap.get?_push_of_some _ e))
  have hsz:((s2.heap.push qu).push Di).objs.size=s2.heap.objs.size+1+1:=by rw[Heap.size_push,Heap.size_push]
  have hacc:(xK s2.heap scope).get? s2.heap.objs.size=some qu:=pushCells_keeps _ _ _ _ (Heap.get?_push_of_some _ (Heap.get?_push_size _ rfl))
  have hns:(xK s2.heap scope).Ns (s2.heap.objs.size+1) (fun _=>none):=by
    have e:=(Heap.Ns.new (s2.heap.push qu) (.type "dict")).keeps (pushCells_keeps scope.names _)
    rw[Heap.size_push] at e
    exact e
  have clm:∀x c,(x,c)∈eK X.env scope.names []→X.env.cells.lookup x=some c∧(x,NameKind.free)∈scope.names:=fun x c h=>by
    rcases se h with z | ⟨z,e⟩
    · nomatch z
    · obtain ⟨d,hd⟩:=I.ok.has x (S.fr _ z rfl)
      rw[hd] at e
      have e':c=d:=e
      subst e'
      exact⟨hd,z⟩
  have csm:∀x c,(x,c)∈vO X s2.heap scope→(X.env.cells.lookup x=some c∧(x,NameKind.free)∈scope.names)∨((x,NameKind.cell)∈scope.names∧s2.heap.objs.size+1+1≤c):=fun x c h=>by
    rcases kz h with z | z
    · exact .inl (clm x c z)
    · exact .inr z
  have clt:∀x c,X.env.cells.lookup x=some c→c<s2.heap.objs.size:=fun x c h=>by
    obtain ⟨v,q⟩:=I.cell x c h
    exact q.lt
  have freeK:∀x,(x,NameKind.free)∈scope.names→scope.names.lookup x=some .free:=fun x h=>mx S.nd h
  have cellK:∀x,(x,NameKind.cell)∈scope.names→scope.names.lookup x=some .cell:=fun x h=>mx S.nd h
  refine⟨⟨I.ok.mod,S.kind,I.ok.glob,I.ok.blt,Nat.le_succ _,fun x y c h1 h2=>?_,fun x hx=>?_,fun x c hfn h=>?_,I.ok.hd,I.ok.frames,.inl rfl,fun b hb=>⟨?_,fun x c h=>?_⟩,I.bs,Nat.le_trans I.ok.bsz I.sz,fun b o e hb=>?_,fun b hb z=>?_,I.stack,I.qZ⟩,
    rfl,I.bare,Un.kept old,⟨_,hns,fun i x v e1 e2 e3=>?_⟩,fun x c h=>?_,I.hok.fresh (Nat.le_succ _),fun x c h=>?_,fun p hp=>?_,I.hok.kept old,?_⟩
  · exact kv (fun x c h=>Nat.lt_succ_of_lt (Nat.lt_succ_of_lt (clt x c (clm x c h).1))) (fun x y c h h'=>I.ok.inj x y c (clm x c h).1 (clm y c h').1) x y c (PySem.mem_of_lookup h1) (PySem.mem_of_lookup h2)
  · have hx:(relabel scope X.env).names.lookup x=some .cell∨(relabel scope X.env).names.lookup x=some .free:=hx
    have e:=@jz X.env scope.names x
    have hk:∃k,scope.names.lookup x=some k∧(k=.cell∨k=.free):=by
      cases q:scope.names.lookup x with
      | none =>
        rw[q] at e
        rcases hx with z | z
        · have z':=e.symm.trans z;cases z'
        · have z':=e.symm.trans z;cases z'
      | some k =>
        rw[q] at e
        refine⟨k,rfl,?_⟩
        cases k with
        | cell=>exact .inl rfl
        | free=>exact .inr rfl
        | _ =>
          exfalso
          rcases hx with z | z
          · have z':=e.symm.trans z;cases z'
          · have z':=e.symm.trans z;cases z'
    obtain ⟨k,hk,hk2⟩:=hk
    have hm:=PySem.mem_of_lookup hk
    rcases hk2 with rfl | rfl
    · obtain ⟨c,hc⟩:=km (n:=s2.heap.objs.size+1+1) (acc:=eK X.env scope.names []) hm
      exact iJ hc
    · exact iJ (fS (nv (env:=X.env) (acc:=[]) hm))
  · rcases csm x c (PySem.mem_of_lookup h) with ⟨_,z⟩ | ⟨_,z⟩
    · have hfn:(scope.names.lookup x == some .local || scope.names.lookup x == some .cell)=true:=hfn
      rw[freeK x z] at hfn
      exact absurd hfn (by decide)
    · show s2.heap.objs.size≤c
      omega
  · -- b is not the block's frame
    intro z
    have z':b=s2.heap.objs.size+1:=z
    exact absurd (hfl b hb) (by rw[z'];exact Nat.not_lt.mpr (Nat.le_succ _))
  · rcases csm x c (PySem.mem_of_lookup h) with ⟨z,_⟩ | ⟨_,z⟩
    · exact (hf b hb).2.2.2.2.1 x c z
    · intro e
      exact absurd (hfl b hb) (by rw[← e];exact Nat.not_lt.mpr (Nat.le_trans (Nat.le_trans (Nat.le_succ _) (Nat.le_succ _)) z))
  · rcases (hf b hb).2.2.2.1 with z | z
    · exact I.ok.noex b o e z
    · exact absurd (Nat.lt_of_lt_of_le (Heap.lt_size e) (Nat.le_trans I.ok.bsz z)) (Nat.lt_irrefl _)
  · obtain ⟨_,f1,f2,_⟩:=hf b hb
    rcases List.mem_cons.mp (I.ra b z) with e | e
    · exact f1 e
    · exact f2 e
  · -- the names
    have e1:(tn++cap)[i]?=some x:=e1
    have e2:(h9 tn.length idx σ)[i]?=some (some v):=e2
    unfold h9 at e2
    by_cases hi:i<tn.length
    · rw[List.getElem?_append_left (by rw[List.length_replicate];exact hi),List.getElem?_replicate,if_pos hi] at e2
      cases e2
    · rw[List.getElem?_append_right (by rw[List.length_replicate];omega),List.length_replicate] at e2
      rw[List.getElem?_append_right (by omega)] at e1
      obtain ⟨i0,h1,h2⟩:=Ce e2
      have hN:X.N[i0]?=some x:=by
        have q:=congrArg (fun l=>l[i - tn.length]?) S.ci
        simp only[List.getElem?_map,h1,e1,Option.map_some] at q
        exact Option.some.inj q
      have hfr:=S.ct x (List.mem_of_getElem? e1)
      have hmem:=PySem.mem_of_lookup hfr
      have hk:=S.fr _ hmem rfl
      obtain ⟨m,hn,hl⟩:=I.loc
      obtain ⟨u,r,l⟩:=hl i0 x v hN h2 (hk.elim (fun z=>.inr (.inl z)) fun z=>.inr (.inr z))
      refine⟨u,r,.inr ⟨?_,?_⟩⟩
      · show (relabel scope X.env).names.lookup x=some .cell∨(relabel scope X.env).names.lookup x=some .free
        have e:=@jz X.env scope.names x
        rw[hfr] at e
        have e':(relabel scope X.env).names.lookup x=some (if (NameKind.free == NameKind.free && X.env.scope.kind == .function && X.env.kindOf x == some .cell)=true then NameKind.cell else NameKind.free):=e
        rw[e']
        split
        · exact .inl rfl
        · exact .inr rfl
      · rcases l with ⟨hk',_⟩ | ⟨_,c,hc,z⟩
        · exfalso
          have hk':X.env.scope.names.lookup x=some .local:=hk'
          rcases hk with q | q
          · have q:X.env.scope.names.lookup x=some .cell:=q
            rw[q] at hk';cases hk'
          · have q:X.env.scope.names.lookup x=some .free:=q
            rw[q] at hk';cases hk'
        · obtain ⟨d,hd⟩:=iJ (fS (names:=scope.names) (n:=s2.heap.objs.size+1+1) (nv (env:=X.env) (acc:=[]) hmem))
          refine⟨c,?_,z.keeps old⟩
          rcases csm x d (PySem.mem_of_lookup hd) with ⟨q,_⟩ | ⟨q,_⟩
          · rw[hc] at q;cases q;exact hd
          · have:=cellK x q;rw[hfr] at this;cases this
  · have hm:(x,c)∈cellsFrom ((s2.heap.push qu).push Di).objs.size scope.names (eK X.env scope.names []):=by rw[hsz];exact PySem.mem_of_lookup h
    rcases jF hm with z | z
    · obtain ⟨v,q⟩:=I.cell x c (clm x c z).1
      exact⟨v,q.keeps old⟩
    · exact⟨_,z⟩
  · rcases csm x c (PySem.mem_of_lookup h) with ⟨z,_⟩ | ⟨_,z⟩
    · exact I.freeC x c z
    · exact I.hok.fresh (by omega)
  · have hp':p∈[(s2.heap.objs.size,qu)]:=hp
    obtain rfl:=List.mem_singleton.mp hp'
    refine⟨hacc,I.hok.fresh (Nat.le_refl _),Nat.ne_of_lt (Nat.lt_succ_self _),fun z=>?_,fun v z=>?_⟩
    · rcases List.mem_cons.mp (I.ra _ z) with e | e
      · exact absurd I.lt (by rw[← e];exact Nat.lt_irrefl _)
      · exact I.Hh (Nat.le_refl _) e
    · have z':Data.seq _ _=Data.cell v:=z
      cases z'
  · show (h9 tn.length idx σ).length=(tn++cap).length
    have:=congrArg List.length S.ci
    unfold h9 AK
    simp only[List.length_append,List.length_replicate,List.length_map] at this ⊢
    omega
theorem comp_back {N':List Str}{cs:List (Str × Addr)}{C D:Addr}{pins':List (Addr × Obj)}{σ':St}{H8:Hp}{s8:Shared}{vs:List V}{its:List Value}{n:Nat} (I:Inv X pins σ H s2) (hf:∀b∈fp,sg X pins H b)
    (J:Inv (cxC X N' scope cs C fp s2 H) pins' σ' H8 s8) (hD:s2.heap.objs.size≤D) (hD8:H8 D=none) (hget:s8.heap.get? D=some { cls:=.type "list",data:=.seq its.toArray n }) (r:Vals vs its) (hz:vs.length≤sizeLine) :
    Inv X pins σ (upd H8 D (.lst vs)) s8:=by
  have u:=J.base
  have hb:∀b o,s2.heap.get? b=some o→b≠D:=fun b o e=>Nat.ne_of_lt (Nat.lt_of_lt_of_le (Heap.lt_size e) hD)
  refine I.xq (ch:=fp) J.os ⟨u.keep,u.slot,fun b o e n hx=>?_,u.there,fun b xs e=>?_,fun b o xs e=>?_,fun b ps e=>?_⟩ (fun b o e=>?_) J.bare fun b hbf=>?_
  · rw[bf (hb b o e)];exact u.free b o e n hx
  · have q:=u.tups b xs e
    rw[bf (cI q hD8)];exact q
  · have q:=u.frzs b o xs e
    rw[bf (cI q hD8)];exact q
  · obtain ⟨m,q⟩:=u.tbls b ps e
    exact⟨m,by rw[bf (cI q hD8)];exact q⟩
  · by_cases e1:b=D
    · subst e1
      rw[aP] at e
      cases e
      exact⟨hz,its,n,r,hget⟩
    · rw[bf e1] at e
      exact (J.hok b o e).tL (fun _ _ _ q=>q) (fun c q=>by rw[bf (cI q hD8)];exact q) fun c xs q=>by rw[bf (cI q hD8)];exact q
  · obtain ⟨_,f1,_,f3,f4,f5⟩:=hf b hbf
    exact⟨f3,f1,f4,f5⟩
def PTs (X:Cx) (ifs:List Expr) (tt:TT):Prop :=
  ∀(pins:List (Addr × Obj)) (s:Shared) (σ:St) (H:Hp) (Q:Bool→Hp→Prop),Inv X pins σ H s→tt σ H Q →
    wpAny (model X.prog X.w) X.A (forIn ifs true fun c r=>if r=true then do let ok ← isTrue c X.env (eval c X.env);pure (ForInStep.yield ok) else pure (ForInStep.yield r)) (TP X pins σ Q) X.xe s
def DJ:TT:=fun _ H Q=>Q true H
theorem zG:PTs X [] DJ:=fun _ _ _ H _ I h=>wpAny_tests_nil ⟨H,I,h⟩
theorem zX {c:Expr}{tc:TT} (h:PT X c tc):PTs X [c] tc:=fun pins s σ H Q I q=>wpAny_tests_one (h pins s σ H Q I q)
def xb (wi:TI) (g:TG) (tt:TT) (te:TE) (k:Nat) (idx:List Nat):TE:=fun σ H Q=>wi σ H fun J H1 =>
  ∃W:Nat→Nat→List V→Hp→Prop,(∃m,W 0 m [] H1)∧∀i m vs H,W i m vs H →
    (J.stop i H∧vs.length≤sizeLine∧∀p,H p=none→Q (.ref p) (upd H p (.lst vs))) ∨
    (J.go i H∧vs.length≤sizeLine∧∃N:List V→Hp→Prop,(∀vs' H',N vs' H'→∃m',m' < m∧W (i+1) m' vs' H')∧∀x H',J.yld i H x H'→g x (h9 k idx σ) H' fun σ2 H2=>tt σ2 H2 fun b H3 =>
      if b=true then te σ2 H3 fun v H4=>N (vs++[v]) H4 else N vs H3)
def fN (k:Nat) (g:TG):Prop:=∀x σ H Q,g x σ H Q→g x σ H fun σ2 H2=>Q σ2 H2∧σ2.length=σ.length∧∀j,k≤j→σ2[j]?=σ[j]?
theorem fN.name {i k:Nat} (h:i<k):fN k (lY i):=fun x σ H Q q=>⟨q,by simp,fun j hj=>by rw[List.getElem?_set_ne (by omega)]⟩
theorem A8 {k j:Nat}{idx:List Nat}{σ:St}{v:V} (h:(h9 k idx σ)[j]?=some (some v)):k≤j:=by
  by_cases hj:j<k
  · unfold h9 at h
    rw[List.getElem?_append_left (by rw[List.length_replicate];exact hj),List.getElem?_replicate,if_pos hj] at h
    cases h
  · omega
theorem rN {elt target iter:Expr}{ifs:List Expr}{pos:Pos}{g:TG}{tt:TT}{te:TE}{E:Value→Shared→Prop}{it:Addr}{tnn:Nat→Heap→Prop}{J:It}{Q:VK}{RR:Value→Addr→Result→Shared→Prop}
    (hcalm:X.calm=true) (S:aS X scope tn cap idx) (hgs:fN tn.length g)
    (hg:∀cs C fp s₀ H₀,PG (cxC X (tn++cap) scope cs C fp s₀ H₀) target g) (ht:∀cs C fp s₀ H₀,PTs (cxC X (tn++cap) scope cs C fp s₀ H₀) ifs tt)
    (he:∀cs C fp s₀ H₀,PE (cxC X (tn++cap) scope cs C fp s₀ H₀) elt te)
    (I:Inv X pins σ H s2) (T:Turn X.prog X.w X.K target J fp it tnn) (st2:tnn 0 s2.heap) (f2:∀b∈fp,sg X pins H b)
    (hW:∃W:Nat→Nat→List V→Hp→Prop,(∃m,W 0 m [] H)∧∀i m vs H,W i m vs H →
      (J.stop i H∧vs.length≤sizeLine∧∀p,H p=none→Q (.ref p) (upd H p (.lst vs))) ∨
      (J.go i H∧vs.length≤sizeLine∧∃N:List V→Hp→Prop,(∀vs' H',N vs' H'→∃m',m' < m∧W (i+1) m' vs' H')∧∀x H',J.yld i H x H'→g x (h9 tn.length idx σ) H' fun σ2 H2=>tt σ2 H2 fun b H3 =>
        if b=true then te σ2 H3 fun v H4=>N (vs++[v]) H4 else N vs H3))
    (hRR:∀(s8:Shared) (H8:Hp) (C D:Addr) (m:Str→Option Value),Inv X pins σ H8 s8→s8.heap.Ns C m→H8 C=none→s2.heap.objs.size≤C→Q (.ref D) H8→RR (.ref D) C (.ok .next) s8) :
    wpAny (model X.prog X.w) X.A (newList []) (fun acc s₃=>wpAny (model X.prog X.w) X.A (newFunctionEnv scope X.env.globals (eK X.env scope.names []) [] X.env.qual none .none (some X.env)) (fun cenv s₄ =>
      codeAny (model X.prog X.w) X.A (.compStart (.ListComp elt [⟨target,iter,ifs,0⟩] scope pos) 0 (.ref it) acc { cenv with scope:=relabel scope X.env }) (RR acc cenv.locals) s₄) E s₃) E s2:=by
  obtain ⟨W,⟨m0,w0⟩,turn⟩:=hW
  have hfl:∀b∈fp,b<s2.heap.objs.size:=fun b hb=>by
    obtain ⟨o,e,_⟩:=T.obj _ _ st2 b hb
    exact Heap.lt_size e
  have I4:=yi I S f2 hfl
  refine wpAny_newObj_type (oz ?_)
  have e1:({ s2 with heap:=s2.heap.push qu }:Shared).heap.objs.size=s2.heap.objs.size+1:=Heap.size_push ..
  rw[e1]
  generalize hX':cxC X (tn++cap) scope (vO X s2.heap scope) (s2.heap.objs.size+1) fp s2 H=X' at I4
  have hA:X'.A=X.A:=by subst hX';rfl
  have hprog:X'.prog=X.prog:=by subst hX';rfl
  have hw:X'.w=X.w:=by subst hX';rfl
  have hK:X'.K=X.K:=by subst hX';rfl
  have hcal:X'.calm=true:=by subst hX';exact hcalm
  have hxe:X'.xe=fun _ _=>False:=by subst hX';rfl
  have hloc:X'.env.locals=s2.heap.objs.size+1:=by subst hX';rfl
  have hpn:X'.pn=[]:=by subst hX';rfl
  have hex:X'.ex=fp:=by subst hX';rfl
  have hs0:X'.s₀=s2:=by subst hX';rfl
  have hg':PG X' target g:=by subst hX';exact hg _ _ _ _ _
  have ht':PTs X' ifs tt:=by subst hX';exact ht _ _ _ _ _
  have he':PE X' elt te:=by subst hX';exact he _ _ _ _ _
  have henv:X'.env={ scope:=relabel scope X.env,locals:=s2.heap.objs.size+1,globals:=X.env.globals,cells:=vO X s2.heap scope,qual:=X.env.qual,func:=none,code:=X.env.code,frame:=X.env.frame,builtins:=X.env.builtins }:=by subst hX';rfl
  let lo:List Value→Nat→Obj:=fun its n=>{ cls:=.type "list",data:=.seq its.toArray n }
  have stat:∀{H':Hp}{pl:List (Addr × Obj)},(∀b∈fp,H' b=none)→(∀p∈pl,p.1∉fp)→∀b∈fp,sg X' pl H' b:=fun {H' pl} hn hp b hb=>by
    have q:=I4.ok.exf b (by rw[hex];exact hb)
    have q2:=I4.ok.exfs b (by rw[hex];exact hb)
    refine⟨hn b hb,q.1,q2,.inl (by rw[hex];exact hb),q.2,fun p hp' z=>?_⟩
    rw[hpn] at hp'
    exact hp p hp' (by rw[z];exact hb)
  have Dfp:s2.heap.objs.size∉fp:=fun z=>Nat.lt_irrefl _ (hfl _ z)
  have D1:∀(o:Obj),∀p∈[((s2.heap.objs.size:Addr),o)],p.1∉fp:=fun o p hp=>by
    obtain rfl:=List.mem_singleton.mp hp
    exact Dfp
  have loop:∀s3:Shared,s3={ s2 with heap:=xK s2.heap scope } →
      codeAny (model X.prog X.w) X.A (.compLoop (.ListComp elt [⟨target,iter,ifs,0⟩] scope pos) 0 (.ref it) (.ref s2.heap.objs.size) X'.env) (RR (.ref s2.heap.objs.size) (s2.heap.objs.size+1)) s3:=by
    intro s3 hs3
    subst hs3
    refine vH (fun n s'=>∃i vs its nn σ' H',Inv X' [(s2.heap.objs.size,lo its nn)] σ' H' s'∧(∀(j:Nat) v,(h9 tn.length idx σ)[j]?=some (some v)→σ'[j]?=some (some v))∧σ'.length=(h9 tn.length idx σ).length∧tnn i s'.heap∧(∀b∈fp,H' b=none)∧Vals vs its∧W i n vs H') ?_ m0
      ⟨0,[],[],0,_,H,I4,fun _ _ z=>z,rfl,T.keep _ _ _ st2 (fun b hb o e=>pushCells_keeps _ _ _ _ (Heap.get?_push_of_some _ (Heap.get?_push_of_some _ e))),fun b hb=>(f2 b hb).1,.nil,w0⟩
    rintro n s' ⟨i,vs,its,nn,σ',H',I',hσ,hσl,st',fr',rv,w'⟩
    have I5:Inv X' [(s2.heap.objs.size,lo its nn)] (h9 tn.length idx σ) H' s':=I'.weak hσl.symm hσ
    rcases turn i n vs H' w' with ⟨stop,hz,q⟩ | ⟨go,hz,N,hN,step⟩
    · -- it ends
      have td:=T.done X' hprog hw hK hcal i _ s' _ H' (fun _ _=>False) I5 (stat fr' (D1 _)) st' stop
      rw[hA] at td
      refine thn td fun r s8 ⟨hr,I8⟩=>?_
      subst hr
      obtain ⟨hp1,hp2,_⟩:=I8.pin (s2.heap.objs.size,lo its nn) (by rw[hpn];exact List.mem_singleton.mpr rfl)
      have J8:Inv X pins σ (upd H' s2.heap.objs.size (.lst vs)) s8:=by
        subst hX'
        exact comp_back I f2 I8 (Nat.le_refl _) hp2 hp1 rv hz
      obtain ⟨m,hm,_⟩:=I8.loc
      rw[hloc] at hm
      have hCf:H' (s2.heap.objs.size+1)=none:=by have:=I8.free;rw[hloc] at this;exact this
      refine hRR s8 _ _ _ m J8 hm ?_ (Nat.le_succ _) (q _ hp2)
      rw[bf (Nat.ne_of_gt (Nat.lt_succ_self _))]
      exact hCf
    · -- a turn
      have ti:=T.item X' hprog hw hK hcal i _ s' _ H' (fun _ _=>False) I5 (stat fr' (D1 _)) st' go
      rw[hA] at ti
      refine thn ti fun r s5 ⟨u,hr,h5⟩=>?_
      subst hr
      refine thn h5 fun _ s6 ⟨x,H6,I6,r6,y6,st6,fr6⟩=>?_
      have I6':=I6.pinned (stat fr6 (D1 _)) (T.obj _ _ st6)
      have ag:=hg' _ s6 _ H6 x u _ I6' r6 (hgs _ _ _ _ (step x H6 y6))
      rw[hprog,hw,hA,hxe] at ag
      refine thn ag fun _ s7 ⟨σ7,H7,I7,q7,hl7,hj7⟩=>?_
      have at7:=ht' _ s7 σ7 H7 _ I7 q7
      rw[hprog,hw,hA,hxe] at at7
      refine thn at7 fun b s8 ⟨H8,I8,q8⟩=>?_
      have again:∀{s9:Shared}{H9:Hp}{vs9:List V}{its9:List Value}{n9:Nat},Inv X' ([(s2.heap.objs.size,lo its9 n9)]++mn fp s6.heap) σ7 H9 s9→Vals vs9 its9→N vs9 H9 →
          ∃m,m<n∧∃i vs its nn σ' H',Inv X' [(s2.heap.objs.size,lo its nn)] σ' H' s9∧(∀(j:Nat) v,(h9 tn.length idx σ)[j]?=some (some v)→σ'[j]?=some (some v))∧σ'.length=(h9 tn.length idx σ).length∧tnn i s9.heap∧(∀b∈fp,H' b=none)∧Vals vs its∧W i m vs H':=by
        intro s9 H9 vs9 its9 n9 I9 r9 n9'
        obtain ⟨m',hm',w9⟩:=hN _ _ n9'
        refine⟨m',hm',i+1,vs9,its9,n9,σ7,H9,I9.oN,fun j v e=>by rw[hj7 j (A8 e)];exact e,hl7,T.keep _ _ _ st6 fun b hb o e=>(I9.pin (b,o) (List.mem_append_right _ (List.mem_append_right _ (lg hb e)))).1,fun b hb=>?_,r9,w9⟩
        obtain ⟨o,e,d⟩:=T.obj _ _ st6 b hb
        exact (I9.pin (b,o) (List.mem_append_right _ (List.mem_append_right _ (lg hb e)))).2.1
      cases b with
      | false =>
        exact again I8 rv q8
      | true =>
        have ae:=he' _ s8 σ7 H8 _ I8 q8
        rw[hprog,hw,hA,hxe] at ae
        refine thn ae fun xv s9 ⟨v9,H9,I9,r9,q9⟩=>?_
        obtain ⟨hp1,hp2,hp3,hp4,_⟩:=I9.pin (s2.heap.objs.size,lo its nn) (List.mem_append_right _ (List.mem_append_left _ (List.mem_singleton.mpr rfl)))
        have rvl:=rv.length
        refine append_at (hsz:=by rw[List.size_toArray];omega) hp1 fun h' hs' ho'=>?_
        have nfp:∀p∈mn fp s6.heap,p.1≠s2.heap.objs.size:=fun p hp z=>Dfp (by rw[← z];exact (uk hp).1)
        have I10:Inv X' (mn fp s6.heap) σ7 H9 s9:=I9.oB fun p hp=>I9.pin p (List.mem_append_right _ (List.mem_append_right _ hp))
        have I11:Inv X' (mn fp s6.heap) σ7 H9 { s9 with heap:=h' }:=I10.turned (t':=s9.toks) (it:=s2.heap.objs.size) (fun b o hb e=>hs'.extBut b o hb e) hp2 hp3 (.inr (by rw[hs0];exact Nat.le_refl _))
          (fun x c e z=>by
            obtain ⟨v,o,q1,q2⟩:=I9.cell x c e
            rw[z,hp1] at q1
            cases q1
            cases q2) (fun p hp=>by rw[hpn] at hp;exact nfp p hp)
        have eo:({ cls:=.type "list",data:=.seq (its.toArray.push xv) (nn+1) }:Obj)=lo (its++[xv]) (nn+1):=by
          show ({ cls:=.type "list",data:=.seq (its.toArray.push xv) (nn+1) }:Obj)={ cls:=.type "list",data:=.seq (its++[xv]).toArray (nn+1) }
          rw[List.push_toArray]
        refine again (vs9:=vs++[v9]) (its9:=its++[xv]) (n9:=nn+1) (I11.oB fun p hp=>?_) (rv.append (.cons r9 .nil)) q9
        rcases List.mem_append.mp hp with hp | hp
        · obtain rfl:=List.mem_singleton.mp hp
          refine⟨ho'.trans (congrArg some eo),hp2,hp3,hp4,fun v z=>?_⟩
          have z':Data.seq _ _=Data.cell v:=z
          cases z'
        · exact I11.pin p (List.mem_append_right _ hp)
  refine codeAny_compStart_list ?_ ?_
  · have:=loop _ rfl
    rw[henv] at this
    exact this
  · refine T.self _ 0 _ _ _ (T.keep _ _ _ st2 (fun b hb o e=>pushCells_keeps _ _ _ _ (Heap.get?_push_of_some _ (Heap.get?_push_of_some _ e)))) ?_
    have:=loop _ rfl
    rw[henv] at this
    exact this
theorem zf (I:Inv X pins σ H s2) (S:aS X scope tn cap idx):closureFor scope X.env=pure (eK X.env scope.names []) :=
  tT fun n hm=>I.ok.has n (S.fr _ hm rfl)
theorem xy (S:aS X scope tn cap idx):∀x∈scope.names,x.2=.local→scope.names.lookup x.1=some .local:=fun x hx e=>by
  obtain ⟨n,k⟩:=x
  have e':k=NameKind.local:=e
  subst e'
  exact mx S.nd hx
theorem vB {elt target iter:Expr}{ifs:List Expr}{pos:Pos}{wi:TI}{g:TG}{tt:TT}{te:TE} (hcalm:X.calm=true) (S:aS X scope tn cap idx) (hi:PI X target iter wi) (hgs:fN tn.length g)
    (hg:∀cs C fp s₀ H₀,PG (cxC X (tn++cap) scope cs C fp s₀ H₀) target g) (ht:∀cs C fp s₀ H₀,PTs (cxC X (tn++cap) scope cs C fp s₀ H₀) ifs tt)
    (he:∀cs C fp s₀ H₀,PE (cxC X (tn++cap) scope cs C fp s₀ H₀) elt te) (hs:∀x,foldedSetIterable iter X.env x=pure x:=by intro _;rfl) :
    PE X (.ListComp elt [⟨target,iter,ifs,0⟩] scope pos) (xb wi g tt te tn.length idx):=by
  intro pins s σ H Q I h
  rw[eval_ListComp]
  refine wpAny_comprehension_free (use:=none) rfl hs (zf I S) S.kind (xy S) (thn (hi pins s σ H _ I h) fun v s1 h1=>thn h1 fun itv s2 h2=>?_)
  obtain ⟨it,fp,tnn,J,H2,e,I2,T,st2,f2,hW⟩:=h2
  subst e
  refine rN hcalm S hgs hg ht he I2 T st2 f2 hW fun s8 H8 C D m I8 hm hC hsz q=>?_
  refine⟨m,hm,fun h' hs'=>⟨.ref D,H8,?_,rfl,q⟩⟩
  exact I8.turned (t':=s8.toks) (it:=C) (fun b o hb e=>hs'.extBut b o hb e) hC (fun z=>absurd I2.lt (by rw[← z];exact Nat.not_lt.mpr hsz)) (.inr (Nat.le_trans I2.sz hsz))
    (fun x c e z=>by
      obtain ⟨v,q⟩:=I2.cell x c e
      exact absurd q.lt (by rw[z];exact Nat.not_lt.mpr hsz)) (fun p hp z=>absurd (Heap.lt_size (I2.pin p hp).1) (by rw[z];exact Nat.not_lt.mpr hsz))
theorem Dv {elt target iter:Expr}{ifs:List Expr}{pos spos py:Pos}{wi:TI}{g:TG}{tt:TT}{te:TE}{i:Nat}{y:Str} (hcalm:X.calm=true) (S:aS X scope tn cap idx) (hN:X.N.Nodup) (hy:X.N[i]?=some y) (hx:Loc X.env.scope y)
    (hi:PI X target iter wi) (hgs:fN tn.length g)
    (hg:∀cs C fp s₀ H₀,PG (cxC X (tn++cap) scope cs C fp s₀ H₀) target g) (ht:∀cs C fp s₀ H₀,PTs (cxC X (tn++cap) scope cs C fp s₀ H₀) ifs tt)
    (he:∀cs C fp s₀ H₀,PE (cxC X (tn++cap) scope cs C fp s₀ H₀) elt te)
    (hsw:swapsWith (.ListComp elt [⟨target,iter,ifs,0⟩] scope pos) (some (.Name y py)) spos.line X.env=pure true:=by rfl) (hs:∀x,foldedSetIterable iter X.env x=pure x:=by intro _;rfl)
    (hf:X.fn y=true∨X.env.scope.names.lookup y=some .local:=by first | exact .inl rfl | exact .inr rfl | assumption) :
    PS X (.Assign [.Name y py] (.ListComp elt [⟨target,iter,ifs,0⟩] scope pos) spos) (t4 (xb wi g tt te tn.length idx) (lY i)):=by
  intro pins s σ H D I h
  rw[exec_Assign_Name_used _ _ _ _ hsw]
  refine wpAny_bind (wpAny_standAt (wpAny_bind ?_))
  show wpAny _ X.A (do let _ ← comprehension (.ListComp elt [⟨target,iter,ifs,0⟩] scope pos) scope X.env _ (newList []) false (eval iter X.env) (some (assign (.Name y py) X.env))) _ _ s
  refine wpAny_bind (wpAny_mono (wpAny_comprehension_free (use:=some (assign (.Name y py) X.env)) (Q:=fun _ s'=>SP X pins D .next s') rfl hs (zf I S) S.kind (xy S)
    (thn (hi pins s σ H _ I h) fun v s1 h1=>thn h1 fun itv s2 h2=>?_)) (fun _ s' hq=>wpAny_pure (wpAny_pure hq)) fun _ _ e=>e)
  obtain ⟨it,fp,tnn,J,H2,e,I2,T,st2,f2,hW⟩:=h2
  subst e
  refine rN (Q:=fun x H1=>lY i x σ H1 D.nx) hcalm S hgs hg ht he I2 T st2 f2 hW fun s8 H8 C DD m I8 hm hC hsz q=>?_
  show wpAny _ X.A (assign (.Name y py) X.env (.ref DD)) _ _ _
  have CL:C≠X.env.locals:=fun z=>absurd I2.lt (by rw[← z];exact Nat.not_lt.mpr hsz)
  have CC:∀x c,X.env.cells.lookup x=some c→c≠C:=fun x c e z=>by
    obtain ⟨v,q⟩:=I2.cell x c e
    exact absurd q.lt (by rw[z];exact Nat.not_lt.mpr hsz)
  refine wpAny_assign_Name (vd (v:=.ref DD) I8 hN hy hx rfl (fun s9 I9 ⟨a,hsb,ha⟩=>?_) hf)
  have aC:C≠a:=fun z=>by
    rcases ha with e | e
    · exact CL (z.trans e)
    · exact CC _ _ e z.symm
  refine⟨m,hm.sameBut hsb aC,fun h' hs'=>⟨_,H8,?_,q⟩⟩
  exact I9.turned (t':=s9.toks) (it:=C) (fun b o hb e=>hs'.extBut b o hb e) hC CL (.inr (Nat.le_trans I2.sz hsz)) CC (fun p hp z=>absurd (Heap.lt_size (I2.pin p hp).1) (by rw[z];exact Nat.not_lt.mpr hsz))
end
def CD (J:It) (g:TG) (te:TE) (k:Nat) (idx:List Nat) (σ:St) (H1:Hp) (Q:VK):Prop :=
  ∃W:Nat→Nat→List V→Hp→Prop,(∃m,W 0 m [] H1)∧∀i m vs H,W i m vs H →
    (J.stop i H∧vs.length≤sizeLine∧∀p,H p=none→Q (.ref p) (upd H p (.lst vs))) ∨
    (J.go i H∧vs.length≤sizeLine∧∃N:List V→Hp→Prop,(∀vs' H',N vs' H'→∃m',m' < m∧W (i+1) m' vs' H')∧∀x H',J.yld i H x H'→g x (h9 k idx σ) H' fun σ2 H2=>te σ2 H2 fun v H4=>N (vs++[v]) H4)
def sQ (wi:TI) (g:TG) (te:TE) (k:Nat) (idx:List Nat):TE:=fun σ H Q=>wi σ H fun J H1=>CD J g te k idx σ H1 Q
theorem p8 {wi:TI}{g:TG}{te:TE}{k:Nat}{idx:List Nat}:sQ wi g te k idx=xb wi g DJ te k idx:=by
  have e:∀(A B:Prop),(if true=true then A else B)=A:=fun A B=>if_pos rfl
  unfold sQ CD xb DJ
  simp only[if_true]
section
variable {X:Cx}{scope:Scope}{tn cap:List Str}{idx:List Nat}
theorem cg {elt target iter:Expr}{pos:Pos}{wi:TI}{g:TG}{te:TE} (S:aS X scope tn cap idx) (hi:PI X target iter wi) (hgs:fN tn.length g)
    (hg:∀cs C fp s₀ H₀,PG (cxC X (tn++cap) scope cs C fp s₀ H₀) target g)
    (he:∀cs C fp s₀ H₀,PE (cxC X (tn++cap) scope cs C fp s₀ H₀) elt te) (hcalm:X.calm=true:=by rfl) (hs:∀x,foldedSetIterable iter X.env x=pure x:=by intro _;rfl) :
    PE X (.ListComp elt [⟨target,iter,[],0⟩] scope pos) (sQ wi g te tn.length idx):=by
  rw[p8]
  exact vB hcalm S hi hgs hg (fun _ _ _ _ _=>zG) he hs
theorem rH {elt target iter:Expr}{pos spos py:Pos}{wi:TI}{g:TG}{te:TE}{i:Nat}{y:Str} (S:aS X scope tn cap idx) (hN:X.N.Nodup) (hy:X.N[i]?=some y) (hx:Loc X.env.scope y)
    (hi:PI X target iter wi) (hgs:fN tn.length g)
    (hg:∀cs C fp s₀ H₀,PG (cxC X (tn++cap) scope cs C fp s₀ H₀) target g)
    (he:∀cs C fp s₀ H₀,PE (cxC X (tn++cap) scope cs C fp s₀ H₀) elt te) (hcalm:X.calm=true:=by rfl)
    (hsw:swapsWith (.ListComp elt [⟨target,iter,[],0⟩] scope pos) (some (.Name y py)) spos.line X.env=pure true:=by rfl) (hs:∀x,foldedSetIterable iter X.env x=pure x:=by intro _;rfl)
    (hf:X.fn y=true∨X.env.scope.names.lookup y=some .local:=by first | exact .inl rfl | exact .inr rfl | assumption) :
    PS X (.Assign [.Name y py] (.ListComp elt [⟨target,iter,[],0⟩] scope pos) spos) (t4 (sQ wi g te tn.length idx) (lY i)):=by
  rw[p8]
  exact Dv hcalm S hN hy hx hi hgs hg (fun _ _ _ _ _=>zG) he hsw hs hf
end
end L2
namespace L2
open PySem PySem.Spec PyProof.Rows
inductive D where
  | non | bl (b:Bool) | int (i:Int) | str (x:Str) | lst (ds:List D) | tup (ds:List D)
mutual
def Rf (H:Hp):D→V→List Addr→Prop
  | .non,v,fp=>v=.non∧fp=[]
  | .bl b,v,fp=>v=.bl b∧fp=[]
  | .int i,v,fp=>v=.int i∧fp=[]
  | .str x,v,fp=>v=.str x∧fp=[]
  | .lst ds,v,fp=>∃a xs fq,v=.ref a∧H a=some (.lst xs)∧fp=a::fq∧Rfs H ds xs fq
  | .tup ds,v,fp=>∃a xs,v=.ref a∧H a=some (.tup xs)∧Rfs H ds xs fp
def Rfs (H:Hp):List D→List V→List Addr→Prop
  | [],xs,fp=>xs=[]∧fp=[]
  | d::ds,xs,fp=>∃x r f1 f2,xs=x::r∧fp=f1++f2∧Rf H d x f1∧Rfs H ds r f2
end
def Rp (H:Hp) (d:D) (v:V):Prop:=∃fp,Rf H d v fp
theorem Rfs.length {H:Hp}:∀{ds:List D}{vs:List V}{fp:List Addr},Rfs H ds vs fp→vs.length=ds.length
  | [],_,_,h=>by obtain ⟨rfl,_⟩:=h;rfl
  | d::ds,vs,fp,h=>by
    obtain ⟨x,r,f1,f2,e1,e2,h1,h2⟩:=h
    subst e1
    rw[List.length_cons,List.length_cons,Rfs.length h2]
theorem Rfs.get {H:Hp}:∀{ds:List D}{vs:List V}{fp:List Addr}{i:Nat}{d:D},Rfs H ds vs fp→ds[i]?=some d→∃v f,vs[i]?=some v∧Rf H d v f∧(∀a∈f,a∈fp)
  | [],_,_,_,_,_,e=>by simp at e
  | d::ds,vs,fp,0,d',h,e=>by
    obtain ⟨x,r,f1,f2,rfl,rfl,h1,h2⟩:=h
    simp at e;subst e
    exact⟨x,f1,rfl,h1,fun a ha=>List.mem_append_left _ ha⟩
  | d::ds,vs,fp,i+1,d',h,e=>by
    obtain ⟨x,r,f1,f2,rfl,rfl,h1,h2⟩:=h
    obtain ⟨v,f,e1,h3,k⟩:=Rfs.get (i:=i) h2 (by simpa using e)
    exact⟨v,f,by simpa using e1,h3,fun a ha=>List.mem_append_right _ (k a ha)⟩
abbrev dI (xs:List Int):D:=.lst (xs.map D.int)
abbrev dT (t:List (List Int)):D:=.lst (t.map dI)
end L2
namespace L2
open PySem PySem.Spec PyProof.Rows
section
variable {X:Cx}
theorem xB:iU X (.builtin "isinstance") (fun xs H Q=>∃x n t b,xs=[x,.ty n]∧l9 X.K H x t∧PySem.W.kitOne X.K t (.type n)=some b∧Q (.bl b) H):=by
  intro pins s σ H xs us Q I r h
  obtain ⟨x,n,t,b,rfl,ty,e,q⟩:=h
  obtain ⟨u,w',rfl,rx,rn⟩:=vals2 r
  obtain rfl:w'=Value.type n:=rn
  exact uH I rx ty e fun tk=>⟨.bl b,H,I.tok _,rfl,q⟩
theorem kM:∀{xs:List Int}{us:List Value},Vals (xs.map V.int) us→IntsAre us xs
  | [],us,r=>by cases r;exact .nil
  | x::xs,us,r=>by
    cases r with
    | cons r rr =>
      obtain ⟨t,rfl⟩:=r
      exact .cons _ _ (kM rr)
theorem BK (hc:X.calm=true):iU X (.builtin "sum") (fun xs H Q=>∃(a:Addr) (ns:List Int),xs=[.ref a]∧SqL X.K H a (ns.map V.int)∧Q (.int ns.sum) H):=by
  intro pins s σ H xs us Q I r h
  obtain ⟨a,ns,rfl,hS,q⟩:=h
  obtain ⟨u,rfl,ru⟩:=vals1 r
  obtain rfl:u=Value.ref a:=ru
  obtain ⟨its,rv,pl,hz⟩:=I.list hS
  have hi:=kM rv
  obtain ⟨xs',e⟩:=hi.allInts.items
  have hl:s.heap.IsList a (intItems xs'):=by rw[← e];exact pl.isList
  refine sum_intListG (I.ok.hd hc) hl fun h' tk t' hk=>⟨.int ns.sum,H,I.kept hk,⟨t',?_⟩,q⟩
  have e2:numsOf its.toArray.toList=ns:=hi.numsOf
  rw[e,nums_intItems] at e2
  rw[preSum_eq,List.take_of_length_le (by simp),e2]
end
def Itz (K:PySem.W.Frag) (a b:Addr):It :=
  ⟨fun i H=>∃xs ys x y,SqL K H a xs∧SqL K H b ys∧xs[i]?=some x∧ys[i]?=some y,
   fun i H v H'=>∃p x y,v=.ref p∧H p=none∧H'=upd H p (.tup [x,y])∧(∀xs,SqL K H a xs→xs[i]?=some x)∧∀ys,SqL K H b ys→ys[i]?=some y,
   fun i H=>∃xs ys,SqL K H a xs∧SqL K H b ys∧(xs.length≤i∨ys.length≤i)⟩
def Be (a b z TI TO i1 i2:Addr) (i:Nat) (h:Heap):Prop :=
  IsZip h z TI TO .none∧IsPair h TI (.ref i1) (.ref i2)∧(∃u v,IsPair h TO u v)∧h.IsListIter i1 a i∧h.IsListIter i2 b i
theorem fL {h:Heap}{a b:Addr}{o u:Obj}{c d:String} (e1:h.get? a=some o) (e2:h.get? b=some u) (c1:o.cls=.type c) (c2:u.cls=.type d) (n:c≠d):a≠b:=fun z=>by
  subst z;rw[e1] at e2;cases e2;rw[c1] at c2;cases c2;exact n rfl
theorem uV {h:Heap}{a b z TI TO i1 i2:Addr}{i:Nat}{xs ys:Array Value} (st:Be a b z TI TO i1 i2 i h) (h1:h.IsList a xs) (h2:h.IsList b ys) (d1:TI≠TO) (d2:i1≠i2):ZipApart z TI TO i1 i2 a b:=by
  obtain ⟨sz,sI,⟨u,v,sO⟩,⟨o1,e1,c1,_⟩,⟨o2,e2,c2,_⟩⟩:=st
  obtain ⟨oa,ea,ca,_⟩:=h1
  obtain ⟨ob,eb,cb,_⟩:=h2
  exact⟨fL sI sz rfl rfl (by decide),fL sO sz rfl rfl (by decide),fL e1 sz c1 rfl (by decide),fL e2 sz c2 rfl (by decide),d1,fL sI e1 rfl c1 (by decide),fL sI e2 rfl c2 (by decide),fL sO e1 rfl c1 (by decide),fL sO e2 rfl c2 (by decide),d2,
    fL ea sz ca rfl (by decide),fL ea sO ca rfl (by decide),fL ea e1 ca c1 (by decide),fL ea e2 ca c2 (by decide),fL eb sz cb rfl (by decide),fL eb sO cb rfl (by decide),fL eb e1 cb c1 (by decide),fL eb e2 cb c2 (by decide)⟩
theorem Inv.zv {X:Cx}{pins:List (Addr × Obj)}{σ:St}{H H':Hp}{s:Shared}{h':Heap}{fp:List Addr}{t':Nat} (I:Inv X pins σ H s) (hf:∀b∈fp,sg X pins H b) (k:∀b o,b∉fp→s.heap.get? b=some o→h'.get? b=some o)
    (free:∀b o,s.heap.get? b=some o→H b=none→H' b=none) (sm:aN H H') (hok:HOk X.prog X.w H' h'):Inv X pins σ H' { s with heap:=h',toks:=t' }:=by
  have nL:X.env.locals∉fp:=fun z=>(hf _ z).2.1 rfl
  refine I.step (g':=s.gens) (d':=s.drawn) (ch:=fp) (fun b hb=>?_) (fun b o _ _ hc e _=>k b o hc e) (fun b o _ _ hc e _=>⟨o.slots,k b o hc e⟩) (fun b o _ e n=>free b o e n) (fun b o hc e=>⟨o,k b o hc e⟩)
    (fun b xs e=>sm b _ e) (fun b o u e=>sm b _ e) (fun b ps e=>⟨#[],by rw[sm b _ e];simp⟩) (fun m hm=>?_) hok I.bare
  · obtain ⟨_,f1,_,f3,f4,f5⟩:=hf b hb
    exact⟨f3,f1,f4,f5⟩
  · obtain ⟨o,es,ep,ho,r⟩:=hm
    exact⟨o,es,ep,k _ o nL ho,r⟩
theorem Ba {P:Program}{w:World}{K:PySem.W.Frag}{elts:List Expr}{x1:Nat}{pos:Pos} (a b z TI TO i1 i2:Addr) (d1:TI≠TO) (d2:i1≠i2):Turn P w K (.Tuple elts x1 pos) (Itz K a b) [z,TI,TO,i1,i2] z (Be a b z TI TO i1 i2) where
  mem:=by simp
  obj:=fun i h st c hc=>by
    obtain ⟨sz,sI,⟨u,v,sO⟩,⟨o1,e1,c1,q1⟩,⟨o2,e2,c2,q2⟩⟩:=st
    simp only[List.mem_cons,List.not_mem_nil,or_false] at hc
    rcases hc with rfl | rfl | rfl | rfl | rfl
    · exact⟨_,sz,fun v z=>by cases z⟩
    · exact⟨_,sI,fun v z=>by cases z⟩
    · exact⟨_,sO,fun v z=>by cases z⟩
    · exact⟨_,e1,fun v z=>by rw[q1] at z;cases z⟩
    · exact⟨_,e2,fun v z=>by rw[q2] at z;cases z⟩
  keep:=fun i h h' st k=>by
    obtain ⟨sz,sI,⟨u,v,sO⟩,s1,s2⟩:=st
    exact⟨k _ (by simp) _ sz,k _ (by simp) _ sI,⟨u,v,k _ (by simp) _ sO⟩,s1.at fun o e=>k _ (by simp) o e,s2.at fun o e=>k _ (by simp) o e⟩
  item:=by
    intro X hP hw hK hc i pins s σ H E I hf st hg
    subst hP hw hK
    obtain ⟨xs,ys,x,y,hq1,hq2,hx,hy⟩:=hg
    obtain ⟨its1,rv1,p1,hz1⟩:=I.list hq1
    obtain ⟨its2,rv2,p2,hz2⟩:=I.list hq2
    obtain ⟨u,hu,ru⟩:=rv1.get hx
    obtain ⟨v,hv,rv⟩:=rv2.get hy
    have Dp:=uV st p1.isList p2.isList d1 d2
    obtain ⟨sz,sI,⟨ua,ub,sO⟩,s1,s2⟩:=st
    refine wpAny_pyNext_zip_item Dp sz sI sO s1 s2 p1.isList p2.isList (x:=u) (y:=v) (by simpa using hu) (by simpa using hv) fun h1 z1 O1 t1 t2 pr hsz kk=>?_
    refine⟨.ref s.heap.objs.size,rfl,wpAny_letOwnedTupleGo_zip z1 fun h2 z2 sb=>?_⟩
    have zlt:z<s.heap.objs.size:=Heap.lt_size sz
    have pz:s.heap.objs.size≠z:=Nat.ne_of_gt zlt
    have hn:H s.heap.objs.size=none:=I.hok.fresh (Nat.le_refl _)
    have k2:∀c o,c∉[z,TI,TO,i1,i2]→s.heap.get? c=some o→h2.get? c=some o:=fun c o hc e=>by
      simp only[List.mem_cons,List.not_mem_nil,or_false,not_or] at hc
      exact sb.extBut c o hc.1 (kk c o hc.1 hc.2.2.1 hc.2.2.2.1 hc.2.2.2.2 e)
    have sm:aN H (upd H s.heap.objs.size (.tup [x,y])):=fun c o e=>by rw[bf (cI e hn)];exact e
    refine⟨.ref s.heap.objs.size,upd H s.heap.objs.size (.tup [x,y]),?_,rfl,⟨s.heap.objs.size,x,y,rfl,hn,rfl,fun zs hz=>by rw[I.rO hz hq1];exact hx,fun zs hz=>by rw[I.rO hz hq2];exact hy⟩,
      ⟨z2,sb.extBut _ _ Dp.TIz (kk _ _ Dp.TIz Dp.TITO Dp.TIi1 Dp.TIi2 sI),⟨u,v,sb.extBut _ _ Dp.TOz O1⟩,t1.at fun o e=>sb.extBut _ _ Dp.i1z e,t2.at fun o e=>sb.extBut _ _ Dp.i2z e⟩,fun c hc=>?_⟩
    · refine I.zv (t':=s.toks) hf k2 (fun c o e n=>by rw[bf (Nat.ne_of_lt (Heap.lt_size e))];exact n) sm fun c o e=>?_
      by_cases ec:c=s.heap.objs.size
      · subst ec
        rw[aP] at e
        cases e
        exact⟨by simp only[List.length_cons,List.length_nil];rw[sizeLine_eq];decide,[u,v],.cons ru (.cons rv .nil),⟨_,sb.extBut _ _ pz pr,rfl,0,rfl⟩⟩
      · rw[bf ec] at e
        refine (I.hok c o e).tL (fun d w' hd q=>k2 d w' (fun hm=>?_) q) (fun d q=>sm d _ q) fun d ds q=>sm d _ q
        have hdn:=(hf d hm).1
        rcases hd with rfl | hd
        · rw[hdn] at e;cases e
        · rw[hdn] at hd;cases hd
    · have:=(hf c hc).1
      by_cases ec:c=s.heap.objs.size
      · exfalso
        subst ec
        obtain ⟨_,e1,_⟩:=s1
        obtain ⟨_,e2,_⟩:=s2
        simp only[List.mem_cons,List.not_mem_nil,or_false] at hc
        rcases hc with q | q | q | q | q
        · exact pz q
        · exact absurd (Heap.lt_size sI) (by rw[← q];exact Nat.lt_irrefl _)
        · exact absurd (Heap.lt_size sO) (by rw[← q];exact Nat.lt_irrefl _)
        · exact absurd (Heap.lt_size e1) (by rw[← q];exact Nat.lt_irrefl _)
        · exact absurd (Heap.lt_size e2) (by rw[← q];exact Nat.lt_irrefl _)
      · rw[bf ec];exact this
  done:=by
    intro X hP hw hK hc i pins s σ H E I hf st hg
    subst hP hw hK
    obtain ⟨xs,ys,hq1,hq2,hle⟩:=hg
    obtain ⟨its1,rv1,p1,hz1⟩:=I.list hq1
    obtain ⟨its2,rv2,p2,hz2⟩:=I.list hq2
    have l1:=rv1.length
    have l2:=rv2.length
    have Dp:=uV st p1.isList p2.isList d1 d2
    obtain ⟨sz,sI,⟨ua,ub,sO⟩,s1,s2⟩:=st
    refine wpAny_pyNext_zip_end (I.ok.hd hc) Dp sz sI sO s1 s2 p1.isList p2.isList (hle.elim (fun q=>.inl (by simp;omega)) fun q=>.inr (by simp;omega)) fun h1 kk=>⟨rfl,?_⟩
    have k2:∀c o,c∉[z,TI,TO,i1,i2]→s.heap.get? c=some o→h1.get? c=some o:=fun c o hc e=>by
      simp only[List.mem_cons,List.not_mem_nil,or_false,not_or] at hc
      exact kk c o hc.1 hc.2.2.1 hc.2.2.2.1 hc.2.2.2.2 e
    refine I.zv (t':=s.toks) hf k2 (fun _ _ _ n=>n) (aN.refl H) fun c o e=>?_
    refine (I.hok c o e).tL (fun d w' hd q=>k2 d w' (fun hm=>?_) q) (fun d q=>q) fun d ds q=>q
    have hdn:=(hf d hm).1
    rcases hd with rfl | hd
    · rw[hdn] at e;cases e
    · rw[hdn] at hd;cases hd
  self:=fun _ _ _ _ _ st h=>wpAny_pyIter_zip st.1 h
section
variable {X:Cx}
def Fi (K:PySem.W.Frag) (ta:TA):TI:=fun σ H R=>ta σ H fun vs H1=>∃a b,vs=[.ref a,.ref b]∧(∃xs,SqL K H1 a xs)∧(∃ys,SqL K H1 b ys)∧R (Itz K a b) H1
theorem Fz {elts:List Expr}{x1:Nat}{tp:Pos}{a b:Expr}{ta:TA}{p pos:Pos} (hg:Gl X "zip") (hm:X.mg "zip" = none) (ha:PA X [a,b] ta) (hs:starEach [a,b] X.env=[(false,eval a X.env),(false,eval b X.env)]:=by rfl) (hs2:starEach [b] X.env=[(false,eval b X.env)]:=by rfl) :
    PI X (.Tuple elts x1 tp) (.Call (.Name "zip" p) [a,b] [] pos) (Fi X.K ta):=by
  intro pins s σ H R I h
  refine Call_ (lz I hg hm boot_zip (PyProof.Rows.callWith_type1 (thn (ha pos pins s σ H _ I h) fun us s1 ⟨vs,H1,I1,r1,q1⟩=>?_) (by rw[hs,hs2]) (by rw[hs2];rfl)))
  obtain ⟨l1,l2,rfl,⟨xs,hx⟩,⟨ys,hy⟩,q⟩:=q1
  obtain ⟨u1,u2,rfl,r2,r3⟩:=vals2 r1
  obtain rfl:u1=Value.ref l1:=r2
  obtain rfl:u2=Value.ref l2:=r3
  obtain ⟨its1,rv1,p1,hz1⟩:=I1.list hx
  obtain ⟨its2,rv2,p2,hz2⟩:=I1.list hy
  refine call_zip_2 p1.isList p2.isList fun h' sz sI sO t1 t2 hsz kk=>?_
  have I2:Inv X pins σ H1 { s1 with heap:=h' }:=I1.kept (t':=s1.toks) kk
  refine wpAny_pyIter_zip sz ⟨_,_,Be l1 l2 (s1.heap.objs.size+4) (s1.heap.objs.size+2) (s1.heap.objs.size+3) s1.heap.objs.size (s1.heap.objs.size+1),Itz X.K l1 l2,H1,rfl,I2,Ba _ _ _ _ _ _ _ (Nat.ne_of_lt (Nat.lt_succ_self _)) (Nat.ne_of_lt (Nat.lt_succ_self _)),⟨sz,sI,⟨_,_,sO⟩,t1,t2⟩,fun c hc=>?_,q⟩
  simp only[List.mem_cons,List.not_mem_nil,or_false] at hc
  have hge:s1.heap.objs.size≤c:=by rcases hc with rfl | rfl | rfl | rfl | rfl<;>first | exact Nat.le_add_right _ _ | exact Nat.le_refl _
  obtain ⟨g0,g1,g2,g3,g4,g5⟩:=I1.Fo (H':=H1) hge (I1.hok.fresh hge)
  exact⟨g0,g1,g2,g3,g4,g5⟩
end
mutual
def D.plain:D→Bool
  | .non=>true | .bl _=>false | .int _=>true | .str _=>true
  | .lst ds=>D.cZ ds | .tup ds=>D.cZ ds
def D.cZ:List D→Bool
  | []=>true
  | d::ds=>D.plain d && D.cZ ds
end
mutual
def D.depth:D→Nat
  | .lst ds=>D.dF ds+1 | .tup ds=>D.dF ds+1
  | _=>0
def D.dF:List D→Nat
  | []=>0
  | d::ds=>max (D.depth d) (D.dF ds)
end
mutual
def D.eqb:D→D→Bool
  | .non,.non=>true
  | .int i,.int j=>i == j
  | .str i,.str j=>i == j
  | .lst a,.lst b=>D.jf a b
  | .tup a,.tup b=>D.jf a b
  | _,_=>false
def D.jf:List D→List D→Bool
  | [],[]=>true
  | a::as,b::bs=>D.eqb a b && D.jf as bs
  | _,_=>false
end
theorem D.kR:∀{a b:List D},D.jf a b=(decide (a.length=b.length) && (List.range a.length).all fun i=>match a[i]?,b[i]? with | some x,some y=>D.eqb x y | _,_=>false)
  | [],[]=>rfl
  | [],b::bs=>by simp [D.jf]
  | a::as,[]=>by simp [D.jf]
  | a::as,b::bs=>by
    rw[D.jf,D.kR (a:=as) (b:=bs),List.length_cons,List.range_succ_eq_map,List.all_cons,List.all_map]
    by_cases h:as.length=bs.length
    · simp [h,Function.comp_def]
    · simp [h]
end L2
namespace L2
open PySem PySem.Spec PyProof.Rows
open PySem.SeqAt
theorem D.eX:∀{ds:List D}{i:Nat}{d:D},D.cZ ds=true→ds[i]?=some d→d.plain=true
  | [],i,d,_,e=>by simp at e
  | c::ds,0,d,h,e=>by
    simp at e;subst e
    rw[D.cZ,Bool.and_eq_true] at h
    exact h.1
  | c::ds,i+1,d,h,e=>by
    rw[D.cZ,Bool.and_eq_true] at h
    exact D.eX (i:=i) h.2 (by simpa using e)
theorem D.jJ:∀{ds:List D}{i:Nat}{d:D},ds[i]?=some d→d.depth≤D.dF ds
  | [],i,d,e=>by simp at e
  | c::ds,0,d,e=>by
    simp at e;subst e
    rw[D.dF]
    exact Nat.le_max_left _ _
  | c::ds,i+1,d,e=>by
    rw[D.dF]
    exact Nat.le_trans (D.jJ (i:=i) (by simpa using e)) (Nat.le_max_right _ _)
theorem D.CT {a b:List D} (hl:a.length=b.length) (f:Nat→Bool) (h:∀i x y,a[i]?=some x→b[i]?=some y→f i=D.eqb x y):D.jf a b=(List.range a.length).all f:=by
  rw[D.kR,decide_eq_true hl,Bool.true_and,Bool.eq_iff_iff]
  simp only[List.all_eq_true,List.mem_range]
  constructor
  · intro q i hi
    have:=q i hi
    rw[List.getElem?_eq_getElem hi,List.getElem?_eq_getElem (show i<b.length by omega)] at this
    rw[h i _ _ (List.getElem?_eq_getElem hi) (List.getElem?_eq_getElem (show i<b.length by omega))]
    exact this
  · intro q i hi
    have:=q i hi
    rw[h i _ _ (List.getElem?_eq_getElem hi) (List.getElem?_eq_getElem (show i<b.length by omega))] at this
    rw[List.getElem?_eq_getElem hi,List.getElem?_eq_getElem (show i<b.length by omega)]
    exact this
theorem D.rd {a b:List D} (hl:a.length≠b.length):D.jf a b=false:=by
  rw[D.kR,decide_eq_false hl,Bool.false_and]
theorem zO {H:Hp}:∀(n:Nat) (d e:D) (v:V),d.depth≤n→Rp H d v→Rp H e v→d.plain=true→D.eqb d e=true:=by
  intro n
  induction n with
  | zero =>
    intro d e v hn hd he hp
    obtain ⟨f,hd⟩:=hd
    obtain ⟨g,he⟩:=he
    cases d with
    | non=>obtain ⟨rfl,_⟩:=hd;cases e with
      | non=>rfl
      | lst ds=>obtain ⟨_,_,_,z,_⟩:=he;cases z
      | tup ds=>obtain ⟨_,_,z,_⟩:=he;cases z
      | _=>obtain ⟨z,_⟩:=he;cases z
    | bl b=>cases hp
    | int i=>obtain ⟨rfl,_⟩:=hd;cases e with
      | int j=>obtain ⟨z,_⟩:=he;cases z;simp [D.eqb]
      | lst ds=>obtain ⟨_,_,_,z,_⟩:=he;cases z
      | tup ds=>obtain ⟨_,_,z,_⟩:=he;cases z
      | _=>obtain ⟨z,_⟩:=he;cases z
    | str i=>obtain ⟨rfl,_⟩:=hd;cases e with
      | str j=>obtain ⟨z,_⟩:=he;cases z;simp [D.eqb]
      | lst ds=>obtain ⟨_,_,_,z,_⟩:=he;cases z
      | tup ds=>obtain ⟨_,_,z,_⟩:=he;cases z
      | _=>obtain ⟨z,_⟩:=he;cases z
    | lst ds=>rw[D.depth] at hn;omega
    | tup ds=>rw[D.depth] at hn;omega
  | succ n ih =>
    intro d e v hn hd he hp
    have go:∀(ds es:List D) (xs:List V) (f g:List Addr),D.dF ds≤n→Rfs H ds xs f→Rfs H es xs g→D.cZ ds=true→D.jf ds es=true:=by
      intro ds es xs f g hn h1 h2 hp
      have l1:=h1.length
      have l2:=h2.length
      rw[D.CT (by omega) (fun _=>true) (fun i x y e1 e2=>?_)]
      · simp
      · obtain ⟨v1,f1,q1,r1,_⟩:=h1.get e1
        obtain ⟨v2,f2,q2,r2,_⟩:=h2.get e2
        rw[q1] at q2;cases q2
        exact (ih x y v1 (Nat.le_trans (D.jJ e1) hn) ⟨_,r1⟩ ⟨_,r2⟩ (D.eX hp e1)).symm
    obtain ⟨f,hd⟩:=hd
    obtain ⟨g,he⟩:=he
    cases d with
    | non=>obtain ⟨rfl,_⟩:=hd;cases e with
      | non=>rfl
      | lst ds=>obtain ⟨_,_,_,z,_⟩:=he;cases z
      | tup ds=>obtain ⟨_,_,z,_⟩:=he;cases z
      | _=>obtain ⟨z,_⟩:=he;cases z
    | bl b=>cases hp
    | int i=>obtain ⟨rfl,_⟩:=hd;cases e with
      | int j=>obtain ⟨z,_⟩:=he;cases z;simp [D.eqb]
      | lst ds=>obtain ⟨_,_,_,z,_⟩:=he;cases z
      | tup ds=>obtain ⟨_,_,z,_⟩:=he;cases z
      | _=>obtain ⟨z,_⟩:=he;cases z
    | str i=>obtain ⟨rfl,_⟩:=hd;cases e with
      | str j=>obtain ⟨z,_⟩:=he;cases z;simp [D.eqb]
      | lst ds=>obtain ⟨_,_,_,z,_⟩:=he;cases z
      | tup ds=>obtain ⟨_,_,z,_⟩:=he;cases z
      | _=>obtain ⟨z,_⟩:=he;cases z
    | lst ds =>
      obtain ⟨a,xs,fq,rfl,e1,rfl,hd⟩:=hd
      cases e with
      | lst es =>
        obtain ⟨b,ys,gq,z,e2,rfl,he⟩:=he
        cases z
        rw[e1] at e2;cases e2
        rw[D.eqb]
        exact go ds es xs fq gq (by rw[D.depth] at hn;omega) hd he hp
      | tup es =>
        obtain ⟨b,ys,z,e2,he⟩:=he
        cases z
        rw[e1] at e2;cases e2
      | _=>obtain ⟨z,_⟩:=he;cases z
    | tup ds =>
      obtain ⟨a,xs,rfl,e1,hd⟩:=hd
      cases e with
      | tup es =>
        obtain ⟨b,ys,z,e2,he⟩:=he
        cases z
        rw[e1] at e2;cases e2
        rw[D.eqb]
        exact go ds es xs f g (by rw[D.depth] at hn;omega) hd he hp
      | lst es =>
        obtain ⟨b,ys,gq,z,e2,rfl,he⟩:=he
        cases z
        rw[e1] at e2;cases e2
      | _=>obtain ⟨z,_⟩:=he;cases z
theorem FO {X:Cx}{pins:List (Addr × Obj)}{σ:St}{H:Hp}{s:Shared} (I:Inv X pins σ H s):∀(n:Nat) (d e:D) (x y:V) (u w:Value) (A:Around),d.depth≤n→Rp H d x→Rp H e y→RelV x u→RelV y w→d.plain=true→e.plain=true→A.units+n<cLine →
    EqAt A s u w (D.eqb d e):=by
  intro n
  induction n with
  | zero =>
    intro d e x y u w A hn hd he rx ry pd pe hu
    obtain ⟨f,hd⟩:=hd
    obtain ⟨g,he⟩:=he
    have hu':A.units<cLine:=by omega
    cases d with
    | non =>
      obtain ⟨rfl,_⟩:=hd;obtain rfl:u=.none:=rx
      cases e with
      | non=>obtain ⟨rfl,_⟩:=he;obtain rfl:w=.none:=ry;exact EqAt.same _
      | bl b=>cases pe
      | int j=>obtain ⟨rfl,_⟩:=he;obtain ⟨t,rfl⟩:=ry;exact EqAt.none_int _ _
      | str j=>obtain ⟨rfl,_⟩:=he;obtain ⟨t,rfl⟩:=ry;exact EqAt.none_str _ _
      | lst es=>obtain ⟨b,ys,gq,rfl,e2,_,he⟩:=he;obtain rfl:w=.ref b:=ry;obtain ⟨_,_,pl,_⟩:=I.list (SqL.of e2);exact EqAt.none_list pl.isList hu'
      | tup es=>obtain ⟨b,ys,rfl,e2,he⟩:=he;obtain rfl:w=.ref b:=ry;obtain ⟨_,_,pl,_⟩:=I.tuple (SqT.of e2);exact EqAt.none_tuple pl hu'
    | bl b=>cases pd
    | int i =>
      obtain ⟨rfl,_⟩:=hd;obtain ⟨t0,rfl⟩:=rx
      cases e with
      | non=>obtain ⟨rfl,_⟩:=he;obtain rfl:w=.none:=ry;exact EqAt.int_none _ _
      | bl b=>cases pe
      | int j=>obtain ⟨rfl,_⟩:=he;obtain ⟨t,rfl⟩:=ry;exact EqAt.int_int _ _ _ _
      | str j=>obtain ⟨rfl,_⟩:=he;obtain ⟨t,rfl⟩:=ry;exact EqAt.int_str _ _ _ _
      | lst es=>obtain ⟨b,ys,gq,rfl,e2,_,he⟩:=he;obtain rfl:w=.ref b:=ry;obtain ⟨_,_,pl,_⟩:=I.list (SqL.of e2);exact EqAt.int_list _ _ pl.isList hu'
      | tup es=>obtain ⟨b,ys,rfl,e2,he⟩:=he;obtain rfl:w=.ref b:=ry;obtain ⟨_,_,pl,_⟩:=I.tuple (SqT.of e2);exact EqAt.int_tuple _ _ pl hu'
    | str i =>
      obtain ⟨rfl,_⟩:=hd;obtain ⟨t0,rfl⟩:=rx
      cases e with
      | non=>obtain ⟨rfl,_⟩:=he;obtain rfl:w=.none:=ry;exact EqAt.str_none _ _
      | bl b=>cases pe
      | int j=>obtain ⟨rfl,_⟩:=he;obtain ⟨t,rfl⟩:=ry;exact EqAt.str_int _ _ _ _
      | str j=>obtain ⟨rfl,_⟩:=he;obtain ⟨t,rfl⟩:=ry;exact EqAt.str_str _ _ _ _
      | lst es=>obtain ⟨b,ys,gq,rfl,e2,_,he⟩:=he;obtain rfl:w=.ref b:=ry;obtain ⟨_,_,pl,_⟩:=I.list (SqL.of e2);exact EqAt.str_list _ _ pl.isList hu'
      | tup es=>obtain ⟨b,ys,rfl,e2,he⟩:=he;obtain rfl:w=.ref b:=ry;obtain ⟨_,_,pl,_⟩:=I.tuple (SqT.of e2);exact EqAt.str_tuple _ _ pl hu'
    | lst ds=>rw[D.depth] at hn;omega
    | tup ds=>rw[D.depth] at hn;omega
  | succ n ih =>
    intro d e x y u w A hn hd he rx ry pd pe hu
    have hu':A.units<cLine:=by omega
    have ud:A.in1.units+n<cLine:=by show A.units+1+n<cLine;omega
    cases d with
    | non=>exact ih _ _ x y u w A (by simp [D.depth]) hd he rx ry pd pe (by omega)
    | bl b=>cases pd
    | int i=>exact ih _ _ x y u w A (by simp [D.depth]) hd he rx ry pd pe (by omega)
    | str i=>exact ih _ _ x y u w A (by simp [D.depth]) hd he rx ry pd pe (by omega)
    | lst ds =>
      have hd0:=hd
      have he0:=he
      obtain ⟨f,a,xs,fq,rfl,e1,rfl,hd⟩:=hd
      obtain rfl:u=.ref a:=rx
      obtain ⟨its,rv,pl,hz⟩:=I.list (SqL.of e1)
      obtain ⟨g,he⟩:=he
      cases e with
      | non=>obtain ⟨rfl,_⟩:=he;obtain rfl:w=.none:=ry;exact EqAt.list_none pl.isList hu'
      | bl b=>cases pe
      | int j=>obtain ⟨rfl,_⟩:=he;obtain ⟨t,rfl⟩:=ry;exact EqAt.list_int _ _ pl.isList hu'
      | str j=>obtain ⟨rfl,_⟩:=he;obtain ⟨t,rfl⟩:=ry;exact EqAt.list_str _ _ pl.isList hu'
      | tup es=>obtain ⟨b,ys,rfl,e2,he⟩:=he;obtain rfl:w=.ref b:=ry;obtain ⟨_,_,pl2,_⟩:=I.tuple (SqT.of e2);exact EqAt.list_tuple pl.isList pl2 hu'
      | lst es =>
        obtain ⟨b,ys,gq,rfl,e2,rfl,he⟩:=he
        obtain rfl:w=.ref b:=ry
        by_cases hab:a=b
        · subst hab
          rw[zO _ _ _ _ (Nat.le_refl _) hd0 he0 pd]
          exact EqAt.same _
        · obtain ⟨its2,rv2,pl2,hz2⟩:=I.list (SqL.of e2)
          refine EqAt.of_refs hab ?_
          have l1:=rv.length
          have l2:=rv2.length
          have m1:=hd.length
          have m2:=he.length
          by_cases hl:ds.length=es.length
          · have key:=RcAt.lists (A:=A) (e:=fun i=>match ds[i]?,es[i]? with | some x,some y=>D.eqb x y | _,_=>false) pl.isList pl2.isList (by simp;omega) hu' (fun j h1 h2=>by
              have j1:j<ds.length:=by simp at h1;omega
              have j2:j<es.length:=by omega
              simp only[List.getElem?_eq_getElem j1,List.getElem?_eq_getElem j2]
              obtain ⟨v1,f1,q1,r1,_⟩:=hd.get (List.getElem?_eq_getElem j1)
              obtain ⟨v2,f2,q2,r2,_⟩:=he.get (List.getElem?_eq_getElem j2)
              obtain ⟨u1,p1,t1⟩:=rv.get q1
              obtain ⟨u2,p2,t2⟩:=rv2.get q2
              have i1:its.toArray[j]=u1:=by
                have:=List.getElem?_eq_some_iff.mp p1
                obtain ⟨_,z⟩:=this
                simpa using z
              have i2:its2.toArray[j]=u2:=by
                have:=List.getElem?_eq_some_iff.mp p2
                obtain ⟨_,z⟩:=this
                simpa using z
              rw[i1,i2]
              exact ih _ _ v1 v2 u1 u2 A.in1 (by have:=D.jJ (List.getElem?_eq_getElem j1);rw[D.depth] at hn;omega) ⟨_,r1⟩ ⟨_,r2⟩ t1 t2 (D.eX pd (List.getElem?_eq_getElem j1)) (D.eX pe (List.getElem?_eq_getElem j2)) ud)
            have e3:D.eqb (.lst ds) (.lst es)=(List.range its.toArray.size).all fun i=>match ds[i]?,es[i]? with | some x,some y=>D.eqb x y | _,_=>false:=by
              rw[D.eqb,D.kR,decide_eq_true hl,Bool.true_and]
              rw[show its.toArray.size=ds.length by simp;omega]
              all_goals rfl
            rw[e3]
            exact key
          · rw[D.eqb,D.rd hl]
            exact RcAt.lists_lengths pl.isList pl2.isList (by simp;omega) hu'
    | tup ds =>
      have hd0:=hd
      have he0:=he
      obtain ⟨f,a,xs,rfl,e1,hd⟩:=hd
      obtain rfl:u=.ref a:=rx
      obtain ⟨its,rv,pl,hz⟩:=I.tuple (SqT.of e1)
      obtain ⟨g,he⟩:=he
      cases e with
      | non=>obtain ⟨rfl,_⟩:=he;obtain rfl:w=.none:=ry;exact EqAt.tuple_none pl hu'
      | bl b=>cases pe
      | int j=>obtain ⟨rfl,_⟩:=he;obtain ⟨t,rfl⟩:=ry;exact EqAt.tuple_int _ _ pl hu'
      | str j=>obtain ⟨rfl,_⟩:=he;obtain ⟨t,rfl⟩:=ry;exact EqAt.tuple_str _ _ pl hu'
      | lst es=>obtain ⟨b,ys,gq,rfl,e2,_,he⟩:=he;obtain rfl:w=.ref b:=ry;obtain ⟨_,_,pl2,_⟩:=I.list (SqL.of e2);exact EqAt.tuple_list pl pl2.isList hu'
      | tup es =>
        obtain ⟨b,ys,rfl,e2,he⟩:=he
        obtain rfl:w=.ref b:=ry
        by_cases hab:a=b
        · subst hab
          rw[zO _ _ _ _ (Nat.le_refl _) hd0 he0 pd]
          exact EqAt.same _
        · obtain ⟨its2,rv2,pl2,hz2⟩:=I.tuple (SqT.of e2)
          refine EqAt.of_refs hab ?_
          have l1:=rv.length
          have l2:=rv2.length
          have m1:=hd.length
          have m2:=he.length
          have key:=RcAt.tuples (A:=A) (e:=fun i=>match ds[i]?,es[i]? with | some x,some y=>D.eqb x y | _,_=>false) pl pl2 hu' (fun j h1 h2=>by
              have j1:j<ds.length:=by simp at h1;omega
              have j2:j<es.length:=by simp at h2;omega
              simp only[List.getElem?_eq_getElem j1,List.getElem?_eq_getElem j2]
              obtain ⟨v1,f1,q1,r1,_⟩:=hd.get (List.getElem?_eq_getElem j1)
              obtain ⟨v2,f2,q2,r2,_⟩:=he.get (List.getElem?_eq_getElem j2)
              obtain ⟨u1,p1,t1⟩:=rv.get q1
              obtain ⟨u2,p2,t2⟩:=rv2.get q2
              have i1:its.toArray[j]=u1:=by
                have:=List.getElem?_eq_some_iff.mp p1
                obtain ⟨_,z⟩:=this
                simpa using z
              have i2:its2.toArray[j]=u2:=by
                have:=List.getElem?_eq_some_iff.mp p2
                obtain ⟨_,z⟩:=this
                simpa using z
              rw[i1,i2]
              exact ih _ _ v1 v2 u1 u2 A.in1 (by have:=D.jJ (List.getElem?_eq_getElem j1);rw[D.depth] at hn;omega) ⟨_,r1⟩ ⟨_,r2⟩ t1 t2 (D.eX pd (List.getElem?_eq_getElem j1)) (D.eX pe (List.getElem?_eq_getElem j2)) ud)
          have e3:D.eqb (.tup ds) (.tup es)=((List.range (min its.toArray.size its2.toArray.size)).all (fun i=>match ds[i]?,es[i]? with | some x,some y=>D.eqb x y | _,_=>false) && its.toArray.size == its2.toArray.size):=by
            rw[D.eqb]
            have z1:its.toArray.size=ds.length:=by simp;omega
            have z2:its2.toArray.size=es.length:=by simp;omega
            rw[z1,z2]
            by_cases hl:ds.length=es.length
            · rw[D.kR,decide_eq_true hl,Bool.true_and,hl,Nat.min_self,beq_self_eq_true,Bool.and_true]
              all_goals rfl
            · rw[D.rd hl]
              have:(ds.length == es.length)=false:=beq_eq_false_iff_ne.mpr hl
              rw[this,Bool.and_false]
          rw[e3]
          exact key
def Dc (ds es:List D) (i:Nat):Bool:=match ds[i]?,es[i]? with | some x,some y=>D.eqb x y | _,_=>false
theorem Bx {X:Cx}{pins:List (Addr × Obj)}{σ:St}{H:Hp}{s:Shared} (I:Inv X pins σ H s) {A:Around}{ds es:List D}{xs ys:List V}{f g:List Addr}{its its2:List Value} (hd:Rfs H ds xs f) (he:Rfs H es ys g) (rv:Vals xs its) (rv2:Vals ys its2)
    (pd:D.cZ ds=true) (pe:D.cZ es=true) (hu:A.units+1+D.dF ds<cLine):∀j (h1:j<its.toArray.size) (h2:j<its2.toArray.size),EqAt A.in1 s its.toArray[j] its2.toArray[j] (Dc ds es j):=by
  intro j h1 h2
  have l1:=rv.length
  have l2:=rv2.length
  have m1:=hd.length
  have m2:=he.length
  have j1:j<ds.length:=by simp at h1;omega
  have j2:j<es.length:=by simp at h2;omega
  unfold Dc
  simp only[List.getElem?_eq_getElem j1,List.getElem?_eq_getElem j2]
  obtain ⟨v1,f1,q1,r1,_⟩:=hd.get (List.getElem?_eq_getElem j1)
  obtain ⟨v2,f2,q2,r2,_⟩:=he.get (List.getElem?_eq_getElem j2)
  obtain ⟨u1,p1,t1⟩:=rv.get q1
  obtain ⟨u2,p2,t2⟩:=rv2.get q2
  have i1:its.toArray[j]=u1:=by
    obtain ⟨_,z⟩:=List.getElem?_eq_some_iff.mp p1
    simpa using z
  have i2:its2.toArray[j]=u2:=by
    obtain ⟨_,z⟩:=List.getElem?_eq_some_iff.mp p2
    simpa using z
  rw[i1,i2]
  exact FO I _ _ _ v1 v2 u1 u2 A.in1 (D.jJ (List.getElem?_eq_getElem j1)) ⟨_,r1⟩ ⟨_,r2⟩ t1 t2 (D.eX pd (List.getElem?_eq_getElem j1)) (D.eX pe (List.getElem?_eq_getElem j2)) hu
theorem yX {ds es:List D} (hl:ds.length=es.length):D.jf ds es=(List.range ds.length).all (Dc ds es):=by
  rw[D.kR,decide_eq_true hl,Bool.true_and]
  rfl
section
variable {X:Cx}
def F5 (neg:Bool):R2:=fun x y H Q=>∃ds es,Rp H (.lst ds) x∧Rp H (.lst es) y∧D.cZ ds=true∧D.cZ es=true∧D.dF ds≤60∧Q (.bl (if neg then !D.jf ds es else D.jf ds es)) H
theorem lB (hu:X.A.units+64<cLine):OpR X (compareOp .Eq) (F5 false):=by
  intro pins s σ H x y v u Q I rx ry h
  obtain ⟨ds,es,⟨f,a,xs,fq,rfl,e1,rfl,hd⟩,⟨g,b,ys,gq,rfl,e2,rfl,he⟩,pd,pe,hdp,q⟩:=h
  obtain rfl:v=.ref a:=rx
  obtain rfl:u=.ref b:=ry
  obtain ⟨its,rv,pl,hz⟩:=I.list (SqL.of e1)
  obtain ⟨its2,rv2,pl2,hz2⟩:=I.list (SqL.of e2)
  have l1:=rv.length
  have l2:=rv2.length
  have m1:=hd.length
  have m2:=he.length
  by_cases hl:ds.length=es.length
  · refine eq_listAt pl.isList pl2.isList (by simp;omega) (by omega) (Bx I hd he rv rv2 pd pe (by omega)) (bW I q ?_)
    rw[yX hl,show its.toArray.size=ds.length by simp;omega]
    all_goals rfl
  · refine eq_list_lengthsAt pl.isList pl2.isList (by simp;omega) (by omega) (bW I q ?_)
    rw[D.rd hl]
    all_goals rfl
end
theorem D.iP:∀(xs:List Int),D.cZ (xs.map D.int)=true
  | []=>rfl
  | x::xs=>by rw[List.map_cons,D.cZ,D.iP xs];rfl
theorem D.l8:∀(t:List (List Int)),D.cZ (t.map dI)=true
  | []=>rfl
  | x::xs=>by rw[List.map_cons,D.cZ,D.l8 xs,D.plain,D.iP];rfl
theorem D.jT:∀(xs:List Int),D.dF (xs.map D.int)=0
  | []=>rfl
  | x::xs=>by rw[List.map_cons,D.dF,D.jT xs];rfl
theorem D.qH:∀(t:List (List Int)),D.dF (t.map dI)≤1
  | []=>by rw[List.map_nil,D.dF];omega
  | x::xs=>by
    have:=D.qH xs
    rw[List.map_cons,D.dF,D.depth,D.jT]
    exact Nat.max_le.mpr ⟨Nat.le_refl _,this⟩
theorem D.mB:∀(xs ys:List Int),D.jf (xs.map D.int) (ys.map D.int)=decide (xs=ys)
  | [],[]=>rfl
  | [],y::ys=>rfl
  | x::xs,[]=>rfl
  | x::xs,y::ys=>by
    rw[List.map_cons,List.map_cons,D.jf,D.mB xs ys,D.eqb]
    by_cases h:x=y
    · subst h;simp
    · have:(x == y)=false:=beq_eq_false_iff_ne.mpr h
      simp [this,h]
theorem D.uz:∀(xs ys:List (List Int)),D.jf (xs.map dI) (ys.map dI)=decide (xs=ys)
  | [],[]=>rfl
  | [],y::ys=>rfl
  | x::xs,[]=>rfl
  | x::xs,y::ys=>by
    rw[List.map_cons,List.map_cons,D.jf,D.uz xs ys,D.eqb,D.mB]
    by_cases h:x=y
    · subst h;simp
    · simp [h]
def E5 (i j:Int):Prop:=∃m n:Nat,i.natAbs<2 ^ m∧j.natAbs<2 ^ n∧m+n≤100000000
def GS (i j:Int):Prop:=0<j∧∃m:Nat,j.natAbs<2 ^ m∧m≤9000
section
variable {X:Cx}
theorem kX:OpR X (binaryOp .Mult) (rI E5 fun i j=>.int (i*j)):=opI fun i j _ _ _ _ _ hc q=>by
  obtain ⟨m,n,h1,h2,h3⟩:=hc
  exact mul_int q (mulOk_of_bits (intBits_le h1) (intBits_le h2) (by omega))
theorem pD:OpR X (binaryOp .FloorDiv) (rI GS fun i j=>.int (i / j)):=opI fun i j _ _ _ _ _ hc q=>by
  obtain ⟨h0,m,h1,h2⟩:=hc
  have hj:j.natAbs≠0:=by omega
  refine floordiv_int (by omega) ?_ (.inl (PyProof.noPylong_of_log2 (Nat.lt_of_lt_of_le ((Nat.log2_lt hj).mpr h1) h2)))
  rw[Int.fdiv_eq_ediv_of_nonneg i (by omega)]
  exact q
end
def sY:List Str→Bool
  | []=>true
  | x::xs=>!xs.contains x && sY xs
theorem aX:∀{l:List Str},sY l=true→l.Nodup
  | [],_=>List.nodup_nil
  | x::xs,h=>by
    rw[sY,Bool.and_eq_true,Bool.not_eq_true'] at h
    refine List.nodup_cons.mpr ⟨fun z=>?_,aX h.2⟩
    have:=List.contains_iff_mem.mpr z
    rw[this] at h
    exact absurd h.1 (by decide)
def Cw (sc0 scope:Scope) (tn cap:List Str):Bool :=
  decide (scope.kind=.function) && sY (scope.names.map (·.1)) && sY (tn++cap) && cap.all (fun y=>decide (scope.names.lookup y=some .free)) &&
    scope.names.all fun y=>!decide (y.2=.free) || (decide (sc0.names.lookup y.1=some .cell) || decide (sc0.names.lookup y.1=some .free))
theorem aS.of {X:Cx}{sc0 scope:Scope}{tn cap:List Str}{idx:List Nat} (h:Cw sc0 scope tn cap=true) (e:X.env.scope=sc0) (ci:idx.map (fun i=>X.N[i]?)=cap.map some):aS X scope tn cap idx:=by
  unfold Cw at h
  simp only[Bool.and_eq_true,decide_eq_true_eq,List.all_eq_true,Bool.or_eq_true,Bool.not_eq_true',decide_eq_false_iff_not] at h
  obtain ⟨⟨⟨⟨h1,h2⟩,h3⟩,h4⟩,h5⟩:=h
  refine⟨h1,aX h2,aX h3,h4,ci,fun y hy hf=>?_⟩
  rw[e]
  rcases h5 y hy with z | z
  · exact absurd hf z
  · exact z
structure FnAt (K:PySem.W.Frag) (mg:Str→Option Value) (x:Str) (st:Stmt) (ps:List Str) (f:Addr) (fd:FuncData):Prop where
  fn:Fun K x x st f fd
  mg:mg x=some (.ref f)
  bd:Binds K fd ps []
end L2
namespace L2
open PySem PySem.Spec PyProof.Rows
theorem small {n:Nat} (h:n≤100000):n≤sizeLine:=Nat.le_trans h (by rw[sizeLine_eq];decide)
section
variable {X:Cx}{K:PySem.W.Frag}
theorem ax (h:X.K=K):IxR X (AH K):=by subst h;exact D5
theorem bb (h:X.K=K):IxR X (CW K):=by subst h;exact Gj
theorem bL {tg l:Expr}{tl:TE} (h:X.K=K) (hl:PE X l tl):PI X tg l (zc K tl):=by subst h;exact DH hl
theorem zw {elts:List Expr}{x1:Nat}{tp:Pos}{a b:Expr}{ta:TA}{p pos:Pos} (h:X.K=K) (hg:Gl X "zip") (hm:X.mg "zip" = none) (ha:PA X [a,b] ta) (hs:starEach [a,b] X.env=[(false,eval a X.env),(false,eval b X.env)]:=by rfl) (hs2:starEach [b] X.env=[(false,eval b X.env)]:=by rfl) :
    PI X (.Tuple elts x1 tp) (.Call (.Name "zip" p) [a,b] [] pos) (Fi K ta):=by subst h;exact Fz hg hm ha hs hs2
theorem aU (h:X.K=K):iU X (.builtin "len") (fun xs H Q=>∃p ys,xs=[.ref p]∧(SqL K H p ys∨SqT K H p ys)∧Q (.int ys.length) H):=by subst h;exact vo
theorem fE (h:X.K=K):iU X (.builtin "isinstance") (fun xs H Q=>∃x n t b,xs=[x,.ty n]∧l9 K H x t∧PySem.W.kitOne K t (.type n)=some b∧Q (.bl b) H):=by subst h;exact xB
theorem eI (h:X.K=K) (hc:X.calm=true):iU X (.builtin "sum") (fun xs H Q=>∃(a:Addr) (ns:List Int),xs=[.ref a]∧SqL K H a (ns.map V.int)∧Q (.int ns.sum) H):=by subst h;exact BK hc
theorem bT (h:X.K=K):iU X (.type "list") (fun xs H Q=>∃p ys,xs=[.ref p]∧(SqL K H p ys∨SqT K H p ys)∧∀l,H l=none→Q (.ref l) (upd H l (.lst ys))):=by subst h;exact vG
theorem Dm (h:X.K=K):SlR X (FR K):=by subst h;exact Ez
theorem Bk (h:X.K=K):OpR X (compareOp .In) (rIn K false):=by subst h;exact AN
theorem Ay (h:X.K=K):OpR X (compareOp .NotIn) (rIn K true):=by subst h;exact vN
theorem zz {es:List Expr}{k:Nat}{t:TGs}{n:Nat}{pos:Pos} (h:X.K=K) (hc:X.calm=true) (ht:PGs X es t)
    (hn:(assignEach es X.env).length=n:=by rfl) (hst:(assignEach es X.env).findIdx? (·.1)=none:=by rfl):PG X (.Tuple es k pos) (F6 K n t):=by subst h;exact Ft hc ht hn hst
end
theorem rK {K:PySem.W.Frag}{n:String}:PySem.W.kitOne K (.type n) (.type n)=some true:=by unfold PySem.W.kitOne;rw[if_pos (beq_self_eq_true _)]
end L2
namespace L2
open PySem PySem.Spec PyProof.Rows
def Bw (X:Cx) (f:Value) (ks:List Str) (r:List V→List V→Hp→VK→Prop):Prop :=
  ∀(pins:List (Addr × Obj)) (s:Shared) (σ:St) (H:Hp) (xs zs:List V) (us ws:List Value) (Q:VK),Inv X pins σ H s→Vals xs us→Vals zs ws→r xs zs H Q →
    wpAny (model X.prog X.w) X.A (call f us (ks.zip ws)) (EP X pins σ Q) X.xe s
section
variable {X:Cx}{x:Str}{p pos:Pos}{e:Expr}{es:List Expr}{kws:List Keyword}{t tk:TA}{id:String}{ks:List Str}{r:List V→List V→Hp→VK→Prop}
def Hq (r:List V→List V→Hp→VK→Prop) (t tk:TA):TE:=fun σ H Q=>t σ H fun vs H1=>tk σ H1 fun zs H2=>r vs zs H2 Q
theorem Av (hc:Bw X (.builtin id) ks r) (hg:Gl X x) (hm:X.mg x=none) (hv:bootBuiltins x=some (.builtin id)) (ha:PA X (e::es) t) (hkw:PK X kws tk) (hks:(backToKw pos (keywordEach kws X.env)).filterMap (·.1)=ks:=by rfl) (hn:x≠"__name__":=by decide) (hdb:(x == ("__debug__" : Str))=false:=by decide)
    (he:backTo pos (starEach (e::es) X.env)=(false,eval e X.env)::backTo pos (starEach es X.env):=by rfl) (hplain:(backTo pos (starEach (e::es) X.env)).any (·.1)=false:=by rfl) (hall:(backToKw pos (keywordEach kws X.env)).all (·.1.isSome)=true:=by rfl)
    (hkn:(backToKw pos (keywordEach kws X.env)).any (·.1.isNone)=false:=by rfl):PE X (.Call (.Name x p) (e::es) kws pos) (Hq r t tk):=by
  intro pins s σ H Q I h
  refine wpAny_Call_Name_kw (lz I hg hm hv ?_ hn hdb)
  refine callWith_kw (thn (ha pos pins s σ H _ I h) fun us s1 ⟨vs,H1,I1,r1,q1⟩=>?_) he hplain hall hkn
  refine thn (hkw pos pins s1 σ H1 _ I1 q1) fun ws s2 ⟨zs,H2,I2,rz,q2⟩=>?_
  rw[hks]
  exact hc pins s2 σ H2 vs zs us ws Q I2 r1 rz q2
end
section
variable {X:Cx}{K:PySem.W.Frag}
theorem kT:∀{us:List Value}{ns:List Int},IntsAre us ns→Vals (ns.map V.int) us
  | _,_,.nil=>.nil
  | _,_,.cons n t h=>.cons ⟨t,rfl⟩ (kT h)
theorem qJ (hK:X.K=K):Bw X (.builtin "sorted") ["reverse"] (fun xs zs H Q=>∃(a:Addr) (ns:List Int) (b:Bool),xs=[.ref a]∧zs=[.bl b]∧SqL K H a (ns.map V.int)∧ns.length<64 ∧
    ∀(l:Addr) (ms:List Int),H l=none→ms.Perm ns→Ordered b ms→Q (.ref l) (upd H l (.lst (ms.map V.int)))):=by
  subst hK
  intro pins s σ H xs zs us ws Q I r rz h
  obtain ⟨a,ns,b,rfl,rfl,hS,hz,q⟩:=h
  obtain ⟨u,rfl,ru⟩:=vals1 r
  obtain ⟨u2,rfl,ru2⟩:=vals1 rz
  obtain rfl:u=Value.ref a:=ru
  obtain rfl:u2=Value.bool b:=ru2
  obtain ⟨its,rv,pl,_⟩:=I.list hS
  have hl:=rv.length
  rw[List.length_map] at hl
  refine sorted_ints_rev pl.isList (kM rv) (by omega) fun out ms a1 a2 a3=>?_
  obtain ⟨n,he⟩:=sortedAll_at s.heap its out
  have hn:H (s.heap.objs.size+1)=none:=I.hok.fresh (Nat.le_succ _)
  have hlm:=a2.length_eq
  refine⟨.ref (s.heap.objs.size+1),_,I.laid (t':=s.toks) (o:=.lst (ms.map V.int)) (fun b o e=>sortedAll_old e) (Nat.le_succ _) ⟨?_,out.toList,n,kT a1,?_⟩,rfl,q _ ms hn a2 a3⟩
  · rw[List.length_map];exact small (by omega)
  · exact he
end
section
variable {prog:Program}{w:World}{A:Around}{E:Value→Shared→Prop}{s:Shared}
end
section
variable {X:Cx}{K:PySem.W.Frag}{e:Expr}{te:TE}{p p2 pos pos2:Pos}
end
end L2
namespace L2
open PySem PySem.Spec PyProof.Rows
def tW (ns:List Int):List Int:=ns.mergeSort fun a b=>decide (b≤a)
theorem pP (ns:List Int):(tW ns).Perm ns:=List.mergeSort_perm ns _
theorem u4 (ns:List Int):(tW ns).Pairwise (·≥·):=by
  have h:=List.pairwise_mergeSort (le:=fun a b:Int=>decide (b≤a)) (fun a b c h1 h2=>by simp only[decide_eq_true_eq] at *;omega) (fun a b=>by simp only[Bool.or_eq_true,decide_eq_true_eq];omega) ns
  exact h.imp fun h=>by simpa using h
theorem vV {ms ns:List Int} (hp:ms.Perm ns) (h:ms.Pairwise (·≥·)):ms=tW ns :=
  (hp.trans (pP ns).symm).eq_of_pairwise (fun x y _ _ h1 h2=>Int.le_antisymm h2 h1) h (u4 ns)
theorem qA (ns:List Int):(tW ns).length=ns.length:=(pP ns).length_eq
end L2
namespace L3
open PySem L2
inductive D where
  | non | bl (b:Bool) | int (i:Int) | str (x:Str) | lst (ds:List D) | tup (ds:List D) | dic (kvs:List (Key × V)) | dit (kvs:List (List Key × V)) | scr (ns:List Int) | pin (a:Addr) (d:D) | mem (φ:Int→List Int→Int→Prop) | raw (w:V) | ins (C:Addr) (ns:List Str) (ds:List D)
def Kc (K:PySem.W.Frag) (a:Addr) (xs:List V):Prop :=
  ∃(o:Obj) (its:Array Value) (n:Nat),K.lookup a=some o∧o.cls=.type "list"∧o.dict=none∧o.data=.seq its n∧its.size≤sizeLine∧Vals xs its.toList
def Sc (K:PySem.W.Frag) (H:Hp) (a:Addr) (xs:List V):Prop:=(∃o,H a=some (.frz o (.lst xs)))∨Kc K a xs
theorem Sc.seq {K:PySem.W.Frag}{H:Hp}{a:Addr}{xs:List V} (h:Sc K H a xs):SqL K H a xs:=h.elim (fun ⟨o,h⟩=>.inl (.inr ⟨o,h⟩)) .inr
def Im (o:HO):Prop:=(∃xs,o=.tup xs)∨(∃o' u,o=.frz o' u)∨∃φ ks,o=.memo φ ks
section
variable {K:PySem.W.Frag}
mutual
def Rf (K:PySem.W.Frag) (H:Hp):D→V→List Addr→Prop
  | .non,v,fp=>v=.non∧fp=[]
  | .bl b,v,fp=>v=.bl b∧fp=[]
  | .int i,v,fp=>v=.int i∧fp=[]
  | .str x,v,fp=>v=.str x∧fp=[]
  | .lst ds,v,fp=>∃a xs fq,v=.ref a∧H a=some (.lst xs)∧fp=a::fq∧Rfs K H ds xs fq
  | .tup ds,v,fp=>∃a xs,v=.ref a∧H a=some (.tup xs)∧Rfs K H ds xs fp
  | .dic kvs,v,fp=>∃a,v=.ref a∧H a=some (.dK kvs)∧(∀p∈kvs,l6 p.2=true)∧fp=[a]
  | .dit kvs,v,fp=>∃a,v=.ref a∧H a=some (.dT kvs)∧(∀p∈kvs,l6 p.2=true)∧fp=[a]
  | .scr ns,v,fp=>∃a,v=.ref a∧Sc K H a (ns.map V.int)∧fp=[]
  | .pin a d,v,fp=>v=.ref a∧Rf K H d v fp
  | .mem φ,v,fp=>∃a,v=.ref a∧H a=some (.memo φ [])∧fp=[]
  | .raw w,v,fp=>v=w∧fp=[]
  | .ins C ns ds,v,fp=>∃a dx xs fq,v=.ref a∧H a=some (.ins C dx (ns.zip xs))∧fp=a::fq∧Rfs K H ds xs fq
def Rfs (K:PySem.W.Frag) (H:Hp):List D→List V→List Addr→Prop
  | [],xs,fp=>xs=[]∧fp=[]
  | d::ds,xs,fp=>∃x r f1 f2,xs=x::r∧fp=f1++f2∧Rf K H d x f1∧Rfs K H ds r f2
end
def Rp (K:PySem.W.Frag) (H:Hp) (d:D) (v:V):Prop:=∃fp,Rf K H d v fp
def Rps (K:PySem.W.Frag) (H:Hp) (ds:List D) (vs:List V):Prop:=∃fp,Rfs K H ds vs fp
mutual
theorem Rf.mono {H H':Hp}:∀{d:D}{v:V}{fp:List Addr},Rf K H d v fp→(∀a∈fp,∀o,H a=some o→H' a=some o)→(∀a o,H a=some o→Im o→H' a=some o)→Rf K H' d v fp
  | .non,_,_,h,_,_=>h
  | .bl _,_,_,h,_,_=>h
  | .int _,_,_,h,_,_=>h
  | .str _,_,_,h,_,_=>h
  | .lst ds,v,fp,h,k,t=>by
    obtain ⟨a,xs,fq,e1,e2,e3,h⟩:=h
    subst e3
    exact⟨a,xs,fq,e1,k a List.mem_cons_self _ e2,rfl,Rfs.mono h (fun b hb=>k b (List.mem_cons_of_mem _ hb)) t⟩
  | .tup ds,v,fp,h,k,t=>by
    obtain ⟨a,xs,e1,e2,h⟩:=h
    exact⟨a,xs,e1,t a _ e2 (.inl ⟨_,rfl⟩),Rfs.mono h k t⟩
  | .dic kvs,v,fp,h,k,t=>by
    obtain ⟨a,e1,e2,e3,e4⟩:=h
    subst e4
    exact⟨a,e1,k a List.mem_cons_self _ e2,e3,rfl⟩
  | .dit kvs,v,fp,h,k,t=>by
    obtain ⟨a,e1,e2,e3,e4⟩:=h
    subst e4
    exact⟨a,e1,k a List.mem_cons_self _ e2,e3,rfl⟩
  | .scr ns,v,fp,h,k,t=>by
    obtain ⟨a,e1,e2,e3⟩:=h
    refine⟨a,e1,?_,e3⟩
    rcases e2 with ⟨o,e2⟩ | e2
    · exact .inl ⟨o,t a _ e2 (.inr (.inl ⟨_,_,rfl⟩))⟩
    · exact .inr e2
  | .pin a d,v,fp,h,k,t=>⟨h.1,Rf.mono h.2 k t⟩
  | .mem φ,v,fp,h,k,t=>by
    obtain ⟨a,e1,e2,e3⟩:=h
    exact⟨a,e1,t a _ e2 (.inr (.inr ⟨_,_,rfl⟩)),e3⟩
  | .raw _,_,_,h,_,_=>h
  | .ins C ns ds,v,fp,h,k,t=>by
    obtain ⟨a,dx,xs,fq,e1,e2,e3,h⟩:=h
    subst e3
    exact⟨a,dx,xs,fq,e1,k a List.mem_cons_self _ e2,rfl,Rfs.mono h (fun b hb=>k b (List.mem_cons_of_mem _ hb)) t⟩
theorem Rfs.mono {H H':Hp}:∀{ds:List D}{vs:List V}{fp:List Addr},Rfs K H ds vs fp→(∀a∈fp,∀o,H a=some o→H' a=some o)→(∀a o,H a=some o→Im o→H' a=some o)→Rfs K H' ds vs fp
  | [],_,_,h,_,_=>h
  | d::ds,vs,fp,h,k,t=>by
    obtain ⟨x,r,f1,f2,e1,e2,h1,h2⟩:=h
    subst e2
    exact⟨x,r,f1,f2,e1,rfl,Rf.mono h1 (fun b hb=>k b (List.mem_append_left _ hb)) t,Rfs.mono h2 (fun b hb=>k b (List.mem_append_right _ hb)) t⟩
end
theorem Rf.same {H H':Hp}{d:D}{v:V}{fp:List Addr} (h:Rf K H d v fp) (s:aN H H'):Rf K H' d v fp:=h.mono (fun a _ o e=>s a o e) fun a o e _=>s a o e
theorem Rfs.same {H H':Hp}{d:List D}{v:List V}{fp:List Addr} (h:Rfs K H d v fp) (s:aN H H'):Rfs K H' d v fp:=h.mono (fun a _ o e=>s a o e) fun a o e _=>s a o e
theorem Rp.same {H H':Hp}{d:D}{v:V} (h:Rp K H d v) (s:aN H H'):Rp K H' d v:=let ⟨fp,h⟩:=h;⟨fp,h.same s⟩
theorem Rps.same {H H':Hp}{d:List D}{v:List V} (h:Rps K H d v) (s:aN H H'):Rps K H' d v:=let ⟨fp,h⟩:=h;⟨fp,h.same s⟩
mutual
theorem Rf.dom {H:Hp}:∀{d:D}{v:V}{fp:List Addr},Rf K H d v fp→∀a∈fp,∃o,H a=some o∧¬ Im o
  | .non,_,_,h,a,ha=>by obtain ⟨_,rfl⟩:=h;nomatch ha
  | .bl _,_,_,h,a,ha=>by obtain ⟨_,rfl⟩:=h;nomatch ha
  | .int _,_,_,h,a,ha=>by obtain ⟨_,rfl⟩:=h;nomatch ha
  | .str _,_,_,h,a,ha=>by obtain ⟨_,rfl⟩:=h;nomatch ha
  | .lst ds,v,fp,h,b,hb=>by
    obtain ⟨a,xs,fq,e1,e2,e3,h⟩:=h
    subst e3
    rcases List.mem_cons.mp hb with e | hb
    · subst e;exact⟨_,e2,fun z=>by rcases z with ⟨_,z⟩ | ⟨_,_,z⟩ | ⟨_,_,z⟩<;>cases z⟩
    · exact Rfs.dom h b hb
  | .tup ds,v,fp,h,b,hb=>by
    obtain ⟨a,xs,e1,e2,h⟩:=h
    exact Rfs.dom h b hb
  | .dic kvs,v,fp,h,b,hb=>by
    obtain ⟨a,e1,e2,e3,e4⟩:=h
    subst e4
    cases List.mem_singleton.mp hb
    exact⟨_,e2,fun z=>by rcases z with ⟨_,z⟩ | ⟨_,_,z⟩ | ⟨_,_,z⟩<;>cases z⟩
  | .dit kvs,v,fp,h,b,hb=>by
    obtain ⟨a,e1,e2,e3,e4⟩:=h
    subst e4
    cases List.mem_singleton.mp hb
    exact⟨_,e2,fun z=>by rcases z with ⟨_,z⟩ | ⟨_,_,z⟩ | ⟨_,_,z⟩<;>cases z⟩
  | .scr ns,v,fp,h,b,hb=>by
    obtain ⟨a,e1,e2,e3⟩:=h
    subst e3;nomatch hb
  | .pin a d,v,fp,h,b,hb=>Rf.dom h.2 b hb
  | .mem φ,v,fp,h,b,hb=>by
    obtain ⟨a,e1,e2,e3⟩:=h
    subst e3;nomatch hb
  | .raw _,_,_,h,a,ha=>by obtain ⟨_,rfl⟩:=h;nomatch ha
  | .ins C ns ds,v,fp,h,b,hb=>by
    obtain ⟨a,dx,xs,fq,e1,e2,e3,h⟩:=h
    subst e3
    rcases List.mem_cons.mp hb with e | hb
    · subst e;exact⟨_,e2,fun z=>by rcases z with ⟨_,z⟩ | ⟨_,_,z⟩ | ⟨_,_,z⟩<;>cases z⟩
    · exact Rfs.dom h b hb
theorem Rfs.dom {H:Hp}:∀{ds:List D}{vs:List V}{fp:List Addr},Rfs K H ds vs fp→∀a∈fp,∃o,H a=some o∧¬ Im o
  | [],_,_,h,a,ha=>by obtain ⟨_,rfl⟩:=h;nomatch ha
  | d::ds,vs,fp,h,b,hb=>by
    obtain ⟨x,r,f1,f2,e1,e2,h1,h2⟩:=h
    subst e2
    rcases List.mem_append.mp hb with hb | hb
    · exact Rf.dom h1 b hb
    · exact Rfs.dom h2 b hb
end
theorem Rf.upd {H:Hp}{d:D}{v:V}{fp:List Addr}{l:Addr}{o:HO} (h:Rf K H d v fp) (hl:l∉fp) (hm:∀o,H l=some o→¬ Im o):Rf K (upd H l o) d v fp :=
  h.mono (fun a ha u e=>by rw[bf (fun z=>hl (by rw[← z];exact ha))];exact e) fun a o e i=>by rw[bf (fun z=>hm o (by rw[← z];exact e) i)];exact e
theorem Rfs.upd {H:Hp}{d:List D}{v:List V}{fp:List Addr}{l:Addr}{o:HO} (h:Rfs K H d v fp) (hl:l∉fp) (hm:∀o,H l=some o→¬ Im o):Rfs K (upd H l o) d v fp :=
  h.mono (fun a ha u e=>by rw[bf (fun z=>hl (by rw[← z];exact ha))];exact e) fun a o e i=>by rw[bf (fun z=>hm o (by rw[← z];exact e) i)];exact e
theorem Rfs.length {H:Hp}:∀{ds:List D}{vs:List V}{fp:List Addr},Rfs K H ds vs fp→vs.length=ds.length
  | [],_,_,h=>by obtain ⟨rfl,_⟩:=h;rfl
  | d::ds,vs,fp,h=>by
    obtain ⟨x,r,f1,f2,e1,e2,h1,h2⟩:=h
    subst e1
    rw[List.length_cons,List.length_cons,Rfs.length h2]
theorem Rfs.append {H:Hp}:∀{ds es:List D}{vs ws:List V}{fp fq:List Addr},Rfs K H ds vs fp→Rfs K H es ws fq→Rfs K H (ds++es) (vs++ws) (fp++fq)
  | [],es,vs,ws,fp,fq,h,h'=>by obtain ⟨rfl,rfl⟩:=h;exact h'
  | d::ds,es,vs,ws,fp,fq,h,h'=>by
    obtain ⟨x,r,f1,f2,rfl,rfl,h1,h2⟩:=h
    exact⟨x,r++ws,f1,f2++fq,rfl,List.append_assoc ..,h1,Rfs.append h2 h'⟩
theorem Rfs.one {H:Hp}{d:D}{v:V}{fp:List Addr} (h:Rf K H d v fp):Rfs K H [d] [v] fp:=⟨v,[],fp,[],rfl,(List.append_nil _).symm,h,rfl,rfl⟩
theorem Rfs.get {H:Hp}:∀{ds:List D}{vs:List V}{fp:List Addr}{i:Nat}{d:D},Rfs K H ds vs fp→ds[i]?=some d→∃v f,vs[i]?=some v∧Rf K H d v f∧(∀a∈f,a∈fp)
  | [],_,_,_,_,_,e=>by simp at e
  | d::ds,vs,fp,0,d',h,e=>by
    obtain ⟨x,r,f1,f2,rfl,rfl,h1,h2⟩:=h
    simp at e;subst e
    exact⟨x,f1,rfl,h1,fun a ha=>List.mem_append_left _ ha⟩
  | d::ds,vs,fp,i+1,d',h,e=>by
    obtain ⟨x,r,f1,f2,rfl,rfl,h1,h2⟩:=h
    obtain ⟨v,f,e1,h3,k⟩:=Rfs.get (i:=i) h2 (by simpa using e)
    exact⟨v,f,by simpa using e1,h3,fun a ha=>List.mem_append_right _ (k a ha)⟩
theorem Rfs.get' {H:Hp}{ds:List D}{vs:List V}{fp:List Addr}{i:Nat}{v:V} (h:Rfs K H ds vs fp) (e:vs[i]?=some v):∃d f,ds[i]?=some d∧Rf K H d v f∧(∀a∈f,a∈fp):=by
  have hl:=h.length
  obtain ⟨hi,_⟩:=List.getElem?_eq_some_iff.mp e
  have hi':i<ds.length:=by omega
  obtain ⟨v',f,e1,h1,k⟩:=h.get (d:=ds[i]) (List.getElem?_eq_getElem hi')
  rw[e] at e1;cases e1
  exact⟨ds[i],f,List.getElem?_eq_getElem hi',h1,k⟩
def D.bC:D→Bool
  | .non=>true | .bl _=>true | .int _=>true | .str _=>true | _=>false
def D.toV:D→V
  | .non=>.non | .bl b=>.bl b | .int i=>.int i | .str x=>.str x | _=>.non
theorem Rf.bC {H:Hp}{d:D}{v:V}{fp:List Addr} (h:Rf K H d v fp) (s:d.bC=true):v=d.toV∧fp=[]:=by
  cases d<;>first | exact h | cases s
theorem Rf.sF {H:Hp}{d:D} (s:d.bC=true):Rf K H d d.toV []:=by
  cases d<;>first | exact⟨rfl,rfl⟩ | cases s
theorem Rp.int {H:Hp}{i:Int}{v:V} (h:Rp K H (.int i) v):v=.int i:=h.choose_spec.1
theorem Rp.bl {H:Hp}{i:Bool}{v:V} (h:Rp K H (.bl i) v):v=.bl i:=h.choose_spec.1
theorem Rfs.lE {H:Hp}:∀{ds:List D}{vs:List V}{fp:List Addr},Rfs K H ds vs fp→ds.all D.bC=true→vs=ds.map D.toV∧fp=[]
  | [],vs,fp,h,_=>h
  | d::ds,vs,fp,h,s=>by
    obtain ⟨x,r,f1,f2,rfl,rfl,h1,h2⟩:=h
    simp only[List.all_cons,Bool.and_eq_true] at s
    obtain ⟨rfl,rfl⟩:=h1.bC s.1
    obtain ⟨rfl,rfl⟩:=Rfs.lE h2 s.2
    exact⟨rfl,rfl⟩
theorem Rfs.vt {H:Hp}:∀{ds:List D},ds.all D.bC=true→Rfs K H ds (ds.map D.toV) []
  | [],_=>⟨rfl,rfl⟩
  | d::ds,s=>by
    simp only[List.all_cons,Bool.and_eq_true] at s
    exact⟨_,_,[],[],rfl,rfl,Rf.sF s.1,Rfs.vt s.2⟩
def D.items:D→Option (List D)
  | .lst ds=>some ds | .scr ns=>some (ns.map D.int) | _=>none
theorem Rfs.ofInts {H:Hp}:∀{ns:List Int},Rfs K H (ns.map D.int) (ns.map V.int) []
  | []=>⟨rfl,rfl⟩
  | n::ns=>⟨_,_,[],[],rfl,rfl,⟨rfl,rfl⟩,Rfs.ofInts⟩
theorem Rf.seq {H:Hp}{d:D}{ds:List D}{v:V}{fp:List Addr} (h:Rf K H d v fp) (e:d.items=some ds):∃a xs fq,v=.ref a∧SqL K H a xs∧Rfs K H ds xs fq∧∀b∈fq,b∈fp:=by
  cases d with
  | lst es =>
    cases e
    obtain ⟨a,xs,fq,e1,e2,rfl,h⟩:=h
    exact⟨a,xs,fq,e1,.inl (.inl e2),h,fun b hb=>List.mem_cons_of_mem _ hb⟩
  | scr ns =>
    cases e
    obtain ⟨a,e1,e2,e3⟩:=h
    exact⟨a,_,[],e1,e2.seq,Rfs.ofInts,fun b hb=>nomatch hb⟩
  | _=>cases e
theorem Rp.seq {H:Hp}{d:D}{ds:List D}{v:V} (h:Rp K H d v) (e:d.items=some ds):∃a xs fq,v=.ref a∧SqL K H a xs∧Rfs K H ds xs fq :=
  let ⟨_,h⟩:=h;let ⟨a,xs,fq,h1,h2,h3,_⟩:=h.seq e;⟨a,xs,fq,h1,h2,h3⟩
theorem Rp.tup {H:Hp}{ds:List D}{v:V} (h:Rp K H (.tup ds) v):∃a xs fq,v=.ref a∧SqT K H a xs∧Rfs K H ds xs fq:=by
  obtain ⟨fp,a,xs,e1,e2,h⟩:=h
  exact⟨a,xs,fp,e1,.inl (.inl e2),h⟩
def Mu (H:Hp) (a:Addr):Prop:=(∃xs,H a=some (.lst xs))∨(∃kvs,H a=some (.dK kvs))∨(∃kvs,H a=some (.dT kvs))∨∃C dx fs,H a=some (.ins C dx fs)
theorem Mu.same {H H':Hp}{a:Addr} (h:Mu H a) (s:aN H H'):Mu H' a:=by
  rcases h with ⟨x,h⟩ | ⟨x,h⟩ | ⟨x,h⟩ | ⟨C,dx,fs,h⟩
  · exact .inl ⟨x,s _ _ h⟩
  · exact .inr (.inl ⟨x,s _ _ h⟩)
  · exact .inr (.inr (.inl ⟨x,s _ _ h⟩))
  · exact .inr (.inr (.inr ⟨C,dx,fs,s _ _ h⟩))
theorem Mu.some {H:Hp}{a:Addr} (h:Mu H a):H a≠none:=by
  rcases h with ⟨x,h⟩ | ⟨x,h⟩ | ⟨x,h⟩ | ⟨C,dx,fs,h⟩<;>rw[h]<;>intro z<;>cases z
theorem Mu.m4 {H:Hp}{a:Addr} (h:Mu H a):∀o,H a=Option.some o→¬ Im o:=by
  rcases h with ⟨x,h⟩ | ⟨x,h⟩ | ⟨x,h⟩ | ⟨C,dx,fs,h⟩<;>rw[h]<;>intro o e z<;>cases e<;>rcases z with ⟨_,z⟩ | ⟨_,_,z⟩ | ⟨_,_,z⟩<;>cases z
theorem Mu.upd {H:Hp}{a l:Addr}{o:HO} (h:Mu H a) (ho:(∃xs,o=.lst xs)∨(∃xs,o=.dK xs)∨(∃xs,o=.dT xs)∨∃C dx fs,o=.ins C dx fs):Mu (upd H l o) a:=by
  by_cases e:a=l
  · subst e
    rcases ho with ⟨xs,rfl⟩ | ⟨xs,rfl⟩ | ⟨xs,rfl⟩ | ⟨C,dx,fs,rfl⟩
    · exact .inl ⟨xs,aP⟩
    · exact .inr (.inl ⟨xs,aP⟩)
    · exact .inr (.inr (.inl ⟨xs,aP⟩))
    · exact .inr (.inr (.inr ⟨C,dx,fs,aP⟩))
  · unfold Mu
    rw[bf e]
    exact h
abbrev Dl:=List (Option D)
structure Ok (K:PySem.W.Frag) (B0:Hp) (Γ:List Nat) (fps:Nat→List Addr) (δ:Dl) (σ:St) (H:Hp):Prop where
  len:σ.length=δ.length
  b0:aN B0 H
  val:∀i d,δ[i]?=some (some d)→∃v,σ[i]?=some (some v)∧Rf K H d v (fps i)
  non:∀i,(∀d,δ[i]?≠some (some d))→fps i=[]
  own:∀i∈Γ,(fps i).Nodup∧∀a∈fps i,B0 a=none∧Mu H a
  dj:∀i∈Γ,∀j,j≠i→∀a∈fps i,a∉fps j
variable {B0:Hp}{Γ:List Nat}{fps:Nat→List Addr}{δ:Dl}{σ:St}{H H':Hp}
theorem Ok.same (o:Ok K B0 Γ fps δ σ H) (s:aN H H'):Ok K B0 Γ fps δ σ H' :=
  ⟨o.len,o.b0.trans s,fun i d e=>let ⟨v,h1,h2⟩:=o.val i d e;⟨v,h1,h2.same s⟩,o.non,fun i hi=>⟨(o.own i hi).1,fun a ha=>⟨((o.own i hi).2 a ha).1,((o.own i hi).2 a ha).2.same s⟩⟩,o.dj⟩
theorem Ok.sub {Γ':List Nat} (o:Ok K B0 Γ fps δ σ H) (h:∀i∈Γ',i∈Γ):Ok K B0 Γ' fps δ σ H :=
  ⟨o.len,o.b0,o.val,o.non,fun i hi=>o.own i (h i hi),fun i hi=>o.dj i (h i hi)⟩
theorem Ok.dom (o:Ok K B0 Γ fps δ σ H) {i:Nat}{a:Addr} (h:a∈fps i):H a≠none:=by
  by_cases e:∃d,δ[i]?=some (some d)
  · obtain ⟨d,e⟩:=e
    obtain ⟨v,_,r⟩:=o.val i d e
    obtain ⟨u,hu,_⟩:=r.dom a h
    rw[hu];intro z;cases z
  · rw[o.non i (fun d z=>e ⟨d,z⟩)] at h
    nomatch h
structure Nw (H H':Hp) (fps:Nat→List Addr) (M:List Nat) (fp:List Addr):Prop where
  nd:fp.Nodup
  mu:∀a∈fp,Mu H' a
  src:∀a∈fp,H a=none∨∃j∈M,a∈fps j
theorem Nw.nil {M:List Nat}:Nw H H' fps M []:=⟨List.nodup_nil,fun _ h=>(nomatch h),fun _ h=>(nomatch h)⟩
theorem Nw.later {H1:Hp}{M:List Nat}{fp:List Addr} (n:Nw H1 H' fps M fp) (s:aN H H1):Nw H H' fps M fp :=
  ⟨n.nd,n.mu,fun a ha=>(n.src a ha).elim (fun z=>.inl (s.free z)) .inr⟩
theorem Nw.same {H1:Hp}{M:List Nat}{fp:List Addr} (n:Nw H H' fps M fp) (s:aN H' H1):Nw H H1 fps M fp:=⟨n.nd,fun a ha=>(n.mu a ha).same s,n.src⟩
theorem Nw.any {fps':Nat→List Addr}{fp:List Addr} (n:Nw H H' fps [] fp):Nw H H' fps' [] fp:=⟨n.nd,n.mu,fun a ha=>(n.src a ha).elim .inl fun ⟨_,h,_⟩=>nomatch h⟩
theorem Nw.fresh {fp:List Addr} (n:Nw H H' fps [] fp):∀a∈fp,H a=none:=fun a ha=>(n.src a ha).elim id fun ⟨_,h,_⟩=>nomatch h
def kill (M:List Nat) (δ:Dl):Dl:=M.foldl (fun δ j=>δ.set j none) δ
theorem gr:∀{M:List Nat}{δ:Dl},(kill M δ).length=δ.length
  | [],_=>rfl
  | j::M,δ=>by rw[kill,List.foldl_cons];exact (gr (M:=M)).trans (by simp)
theorem jO:∀{M:List Nat}{δ:Dl}{i:Nat}{d:D},(kill M δ)[i]?=some (some d)↔i∉M∧δ[i]?=some (some d)
  | [],_,_,_=>by simp [kill]
  | j::M,δ,i,d=>by
    rw[kill,List.foldl_cons]
    have:=jO (M:=M) (δ:=δ.set j none) (i:=i) (d:=d)
    rw[kill] at this
    rw[this,List.mem_cons]
    by_cases e:i=j
    · subst e
      simp [List.getElem?_set]
    · rw[List.getElem?_set_ne (Ne.symm e)]
      simp [e]
def minus (Γ M:List Nat):List Nat:=Γ.filter fun i=>!M.contains i
theorem c8 {Γ M:List Nat}{i:Nat}:i∈minus Γ M↔i∈Γ∧i∉M:=by
  unfold minus
  rw[List.mem_filter]
  simp
theorem Ok.kill (o:Ok K B0 Γ fps δ σ H) (M:List Nat):Ok K B0 (minus Γ M) (fun i=>if i∈M then [] else fps i) (kill M δ) σ H:=by
  refine⟨by rw[gr];exact o.len,o.b0,fun i d e=>?_,fun i e=>?_,fun i hi=>?_,fun i hi j hj a ha=>?_⟩
  · obtain ⟨h1,h2⟩:=jO.mp e
    rw[if_neg h1]
    exact o.val i d h2
  · by_cases h:i∈M
    · rw[if_pos h]
    · rw[if_neg h]
      exact o.non i fun d z=>e d (jO.mpr ⟨h,z⟩)
  · obtain ⟨h1,h2⟩:=c8.mp hi
    rw[if_neg h2]
    exact o.own i h1
  · obtain ⟨h1,h2⟩:=c8.mp hi
    rw[if_neg h2] at ha
    by_cases h:j∈M
    · rw[if_pos h];exact List.not_mem_nil
    · rw[if_neg h];exact o.dj i h1 j hj a ha
theorem Ok.EV {M:List Nat}{x:D}{v:V}{fp:List Addr} (o:Ok K B0 Γ fps δ σ H) (i:Nat) (hM:∀j∈M,j∈Γ) (s:aN H H') (r:Rf K H' x v fp) (n:Nw H H' fps M fp) :
    Ok K B0 (i::minus (minus Γ M) [i]) (fun j=>if j=i then (if i<δ.length then fp else []) else if j∈M then [] else fps j) ((L3.kill M δ).set i (some x)) (σ.set i (some v)) H':=by
  have ok:=(o.kill M).same s
  have sep:∀a∈fp,∀j,j∉M→a∉fps j:=fun a ha j hj z=>by
    rcases n.src a ha with e | ⟨k,hk,e⟩
    · exact o.dom z e
    · exact o.dj k (hM k hk) j (fun q=>hj (by rw[q];exact hk)) a e z
  refine⟨by simp [gr,o.len],ok.b0,fun j d e=>?_,fun j e=>?_,fun j hj=>?_,fun j hj k hk a ha=>?_⟩
  · by_cases h:j=i
    · subst h
      rw[List.getElem?_set] at e
      simp only[gr] at e
      by_cases hl:j<δ.length
      · simp [hl] at e
        subst e
        refine⟨v,?_,?_⟩
        · rw[List.getElem?_set];simp [o.len,hl]
        · rw[if_pos rfl,if_pos hl];exact r
      · simp [hl] at e
    · rw[List.getElem?_set_ne (Ne.symm h)] at e
      rw[List.getElem?_set_ne (Ne.symm h),if_neg h]
      exact ok.val j d e
  · by_cases h:j=i
    · subst h
      rw[if_pos rfl]
      by_cases hl:j<δ.length
      · exact absurd (by rw[List.getElem?_set];simp [gr,hl]) (e x)
      · rw[if_neg hl]
    · rw[if_neg h]
      exact ok.non j fun d z=>e d (by rw[List.getElem?_set_ne (Ne.symm h)];exact z)
  · by_cases h:j=i
    · subst h
      rw[if_pos rfl]
      split
      · refine⟨n.nd,fun a ha=>⟨?_,n.mu a ha⟩⟩
        rcases n.src a ha with e | ⟨k,hk,e⟩
        · exact o.b0.free e
        · exact ((o.own k (hM k hk)).2 a e).1
      · exact⟨List.nodup_nil,fun _ z=>nomatch z⟩
    · rw[if_neg h]
      rcases List.mem_cons.mp hj with z | hj
      · exact absurd z h
      · exact ok.own j (c8.mp hj).1
  · by_cases h:j=i
    · subst h
      rw[if_pos rfl] at ha
      rw[if_neg hk]
      split at ha
      · by_cases hm:k∈M
        · rw[if_pos hm];exact List.not_mem_nil
        · rw[if_neg hm];exact sep a ha k hm
      · nomatch ha
    · rcases List.mem_cons.mp hj with z | hj
      · exact absurd z h
      rw[if_neg h] at ha
      have hj':=c8.mp (c8.mp hj).1
      rw[if_neg hj'.2] at ha
      by_cases hki:k=i
      · rw[if_pos hki]
        split
        · exact fun z=>sep a z j hj'.2 ha
        · exact List.not_mem_nil
      · rw[if_neg hki]
        split
        · exact List.not_mem_nil
        · exact o.dj j hj'.1 k hk a ha
theorem Ok.z7 {x:D}{v:V}{fp:List Addr} (o:Ok K B0 Γ fps δ σ H) (i:Nat) (s:aN H H') (r:Rf K H' x v fp) (n:∀j∈Γ,∀a∈fp,a∉fps j) :
    Ok K B0 (minus Γ [i]) (fun j=>if j=i then (if i<δ.length then fp else []) else fps j) (δ.set i (some x)) (σ.set i (some v)) H':=by
  have ok:=o.same s
  refine⟨by simp [o.len],ok.b0,fun j d e=>?_,fun j e=>?_,fun j hj=>?_,fun j hj k hk a ha=>?_⟩
  · by_cases h:j=i
    · subst h
      rw[List.getElem?_set] at e
      by_cases hl:j<δ.length
      · simp [hl] at e
        subst e
        refine⟨v,?_,?_⟩
        · rw[List.getElem?_set];simp [o.len,hl]
        · rw[if_pos rfl,if_pos hl];exact r
      · simp [hl] at e
    · rw[List.getElem?_set_ne (Ne.symm h)] at e
      rw[List.getElem?_set_ne (Ne.symm h),if_neg h]
      exact ok.val j d e
  · by_cases h:j=i
    · subst h
      rw[if_pos rfl]
      by_cases hl:j<δ.length
      · exact absurd (by rw[List.getElem?_set];simp [hl]) (e x)
      · rw[if_neg hl]
    · rw[if_neg h]
      exact ok.non j fun d z=>e d (by rw[List.getElem?_set_ne (Ne.symm h)];exact z)
  · obtain ⟨h1,h2⟩:=c8.mp hj
    rw[if_neg (fun z=>h2 (by rw[z];exact List.mem_singleton.mpr rfl))]
    exact ok.own j h1
  · obtain ⟨h1,h2⟩:=c8.mp hj
    rw[if_neg (fun z=>h2 (by rw[z];exact List.mem_singleton.mpr rfl))] at ha
    by_cases hki:k=i
    · rw[if_pos hki]
      split
      · exact fun z=>n j h1 a z ha
      · exact List.not_mem_nil
    · rw[if_neg hki]
      exact o.dj j h1 k hk a ha
theorem Ok.rebase (o:Ok K B0 Γ fps δ σ H):∃B1,aN B0 B1∧Ok K B1 Γ fps δ σ H∧(∀a,(∀j∈Γ,a∉fps j)→B1 a=H a):=by
  refine⟨fun a=>if (∃j∈Γ,a∈fps j) then none else H a,fun b u e=>?_,⟨o.len,fun b u e=>?_,o.val,o.non,fun i hi=>⟨(o.own i hi).1,fun a ha=>⟨?_,((o.own i hi).2 a ha).2⟩⟩,o.dj⟩,fun a h=>?_⟩
  · have:¬ ∃j∈Γ,b∈fps j:=fun ⟨j,hj,hb⟩=>by
      have:=((o.own j hj).2 b hb).1
      rw[e] at this;cases this
    show (if _ then _ else _)=_
    rw[if_neg this]
    exact o.b0 b u e
  · by_cases z:∃j∈Γ,b∈fps j
    · simp only[if_pos z] at e;cases e
    · simp only[if_neg z] at e;exact e
  · show (if _ then _ else _)=_
    rw[if_pos ⟨i,hi,ha⟩]
  · show (if _ then _ else _)=_
    rw[if_neg (fun ⟨j,hj,z⟩=>h j hj z)]
theorem Ok.base {B1:Hp} (o:Ok K B1 Γ fps δ σ H) (s:aN B0 B1):Ok K B0 Γ fps δ σ H :=
  ⟨o.len,s.trans o.b0,o.val,o.non,fun i hi=>⟨(o.own i hi).1,fun a ha=>⟨s.free ((o.own i hi).2 a ha).1,((o.own i hi).2 a ha).2⟩⟩,o.dj⟩
end
end L3
namespace L3
open PySem L2
abbrev DK:=D→Prop
abbrev DE:=Dl→DK→Prop
abbrev DT:=Dl→(Bool→Prop)→Prop
abbrev DA:=Dl→(List D→Prop)→Prop
structure ER (K:PySem.W.Frag) (Γ:List Nat) (t:TE) (d:DE):Prop where
  mono:∀δ (P P':DK),(∀x,P x→P' x)→d δ P→d δ P'
  run:∀{B0 fps δ σ H Q},Ok K B0 Γ fps δ σ H→d δ (fun x=>∀v H',aN H H'→Rp K H' x v→Q v H')→t σ H Q
structure ES (K:PySem.W.Frag) (Γ:List Nat) (t:TE) (d:DE):Prop where
  mono:∀δ (P P':DK),(∀x,P x→P' x)→d δ P→d δ P'
  run:∀{B0 fps δ σ H Q},Ok K B0 Γ fps δ σ H→d δ (fun x=>∀v H' fp,aN H H'→Rf K H' x v fp→(∀j∈Γ,∀a∈fp,a∉fps j)→Q v H')→t σ H Q
structure EM (K:PySem.W.Frag) (Γ M:List Nat) (t:TE) (d:DE):Prop where
  mono:∀δ (P P':DK),(∀x,P x→P' x)→d δ P→d δ P'
  run:∀{B0 fps δ σ H Q},Ok K B0 Γ fps δ σ H→d δ (fun x=>∀v H' fp,aN H H'→Rf K H' x v fp→Nw H H' fps M fp→Q v H')→t σ H Q
structure TR (K:PySem.W.Frag) (Γ:List Nat) (t:TT) (d:DT):Prop where
  mono:∀δ (P P':Bool→Prop),(∀x,P x→P' x)→d δ P→d δ P'
  run:∀{B0 fps δ σ H Q},Ok K B0 Γ fps δ σ H→d δ (fun b=>∀H',aN H H'→Q b H')→t σ H Q
structure AR (K:PySem.W.Frag) (Γ:List Nat) (t:TA) (d:DA):Prop where
  mono:∀δ (P P':List D→Prop),(∀x,P x→P' x)→d δ P→d δ P'
  run:∀{B0 fps δ σ H Q},Ok K B0 Γ fps δ σ H→d δ (fun xs=>∀vs H',aN H H'→Rps K H' xs vs→Q vs H')→t σ H Q
structure AM (K:PySem.W.Frag) (Γ M:List Nat) (t:TA) (d:DA):Prop where
  mono:∀δ (P P':List D→Prop),(∀x,P x→P' x)→d δ P→d δ P'
  run:∀{B0 fps δ σ H Q},Ok K B0 Γ fps δ σ H→d δ (fun xs=>∀vs H' fp,aN H H'→Rfs K H' xs vs fp→Nw H H' fps M fp→Q vs H')→t σ H Q
section
variable {K:PySem.W.Frag}{Γ M:List Nat}{t ta tb tc:TE}{d da db dc:DE}
theorem EM.es (h:EM K Γ [] t d):ES K Γ t d:=⟨h.mono,fun o q=>h.run o (h.mono _ _ _ (fun x z v H' fp s r n=>z v H' fp s r fun j _ a ha y=>o.dom y (n.fresh a ha)) q)⟩
theorem ES.er (h:ES K Γ t d):ER K Γ t d:=⟨h.mono,fun o q=>h.run o (h.mono _ _ _ (fun x z v H' fp s r n=>z v H' s ⟨fp,r⟩) q)⟩
theorem EM.er (h:EM K Γ M t d):ER K Γ t d:=⟨h.mono,fun o q=>h.run o (h.mono _ _ _ (fun x z v H' fp s r n=>z v H' s ⟨fp,r⟩) q)⟩
def C9 (d:DE) (δ:Dl) (P:DK):Prop:=d δ fun x=>x.bC=true∧P x
theorem ER.bC (h:ER K Γ t d):EM K Γ [] t (C9 d):=⟨fun δ P P' k q=>h.mono _ _ _ (fun x z=>⟨z.1,k x z.2⟩) q,fun o q=>h.run o (h.mono _ _ _ (fun x z v H' s r=>by
  obtain ⟨fp,r⟩:=r
  obtain ⟨_,rfl⟩:=r.bC z.1
  exact z.2 v H' [] s r Nw.nil) q)⟩
def p9 (i:Nat) (δ:Dl) (P:DK):Prop:=match δ[i]? with | some (some d)=>P d | _=>False
theorem lZ {i:Nat}{δ:Dl}{P:DK} (h:p9 i δ P):∃d,δ[i]?=some (some d)∧P d:=by
  unfold p9 at h
  split at h
  · exact⟨_,by assumption,h⟩
  · exact h.elim
theorem mE {i:Nat}:∀δ (P P':DK),(∀x,P x→P' x)→p9 i δ P→p9 i δ P':=fun δ P P' k h=>by
  unfold p9 at h ⊢
  split
  · rename_i e;rw[e] at h;exact k _ h
  · rename_i e;revert h;split
    · rename_i e';exact absurd e' (e _)
    · exact id
theorem fM (i:Nat):ER K Γ (jd i) (p9 i):=⟨mE,fun {B0 fps δ σ H Q} o q=>by
  obtain ⟨d,e,q⟩:=lZ q
  obtain ⟨v,e1,r⟩:=o.val i d e
  exact⟨v,e1,q v H (aN.refl H) ⟨_,r⟩⟩⟩
theorem af (i:Nat) (h:i∉Γ:=by decide):ES K Γ (jd i) (p9 i):=⟨mE,fun {B0 fps δ σ H Q} o q=>by
  obtain ⟨d,e,q⟩:=lZ q
  obtain ⟨v,e1,r⟩:=o.val i d e
  exact⟨v,e1,q v H _ (aN.refl H) r fun j hj a ha z=>o.dj j hj i (fun y=>h (by rw[y];exact hj)) a z ha⟩⟩
theorem oj (i:Nat) (h:i∈Γ:=by decide):EM K Γ [i] (jd i) (p9 i):=⟨mE,fun {B0 fps δ σ H Q} o q=>by
  obtain ⟨d,e,q⟩:=lZ q
  obtain ⟨v,e1,r⟩:=o.val i d e
  exact⟨v,e1,q v H _ (aN.refl H) r ⟨(o.own i h).1,fun a ha=>((o.own i h).2 a ha).2,fun a ha=>.inr ⟨i,List.mem_singleton.mpr rfl,ha⟩⟩⟩⟩
def vC (d:D) (_u0:Dl) (P:DK):Prop:=P d
theorem ao {i:Int}:EM K Γ [] (tC (.int i)) (vC (.int i)):=⟨fun _ _ _ k h=>k _ h,fun {_ _ _ _ H _} _ q=>q _ H [] (aN.refl H) ⟨rfl,rfl⟩ Nw.nil⟩
theorem dU {i:Bool}:EM K Γ [] (tC (.bl i)) (vC (.bl i)):=⟨fun _ _ _ k h=>k _ h,fun {_ _ _ _ H _} _ q=>q _ H [] (aN.refl H) ⟨rfl,rfl⟩ Nw.nil⟩
theorem yQ {i:Str}:EM K Γ [] (tC (.str i)) (vC (.str i)):=⟨fun _ _ _ k h=>k _ h,fun {_ _ _ _ H _} _ q=>q _ H [] (aN.refl H) ⟨rfl,rfl⟩ Nw.nil⟩
abbrev D2:=D→D→DK→Prop
abbrev nf:Nat→List Addr:=fun _=>[]
structure OpV (K:PySem.W.Frag) (r:R2) (rv:D2):Prop where
  mono:∀x y (P P':DK),(∀z,P z→P' z)→rv x y P→rv x y P'
  run:∀{H x y v w Q},Rp K H x v→Rp K H y w→rv x y (fun z=>∀u H' fp,aN H H'→Rf K H' z u fp→Nw H H' nf [] fp→Q u H')→r v w H Q
def vOp (rv:D2) (da db:DE) (δ:Dl) (P:DK):Prop:=da δ fun x=>db δ fun y=>rv x y P
theorem aE {r:R2}{rv:D2} (ho:OpV K r rv) (ha:ER K Γ ta da) (hb:ER K Γ tb db):EM K Γ [] (tOp r ta tb) (vOp rv da db) :=
  ⟨fun δ P P' k h=>ha.mono _ _ _ (fun x z=>hb.mono _ _ _ (fun y z=>ho.mono x y _ _ k z) z) h,
   fun o q=>ha.run o (ha.mono _ _ _ (fun x z v H1 s1 r1=>hb.run (o.same s1) (hb.mono _ _ _ (fun y z w H2 s2 r2=>ho.run (r1.same s2) r2 (ho.mono _ _ _ _ (fun u z u' H' fp s r n=>z u' H' fp ((s1.trans s2).trans s) r (n.any.later (s1.trans s2))) z)) z)) q)⟩
abbrev D1:=D→DK→Prop
structure UnV (K:PySem.W.Frag) (r:V→Hp→VK→Prop) (rv:D1):Prop where
  mono:∀x (P P':DK),(∀z,P z→P' z)→rv x P→rv x P'
  run:∀{H x v Q},Rp K H x v→rv x (fun z=>∀u H' fp,aN H H'→Rf K H' z u fp→Nw H H' nf [] fp→Q u H')→r v H Q
def vUn (rv:D1) (da:DE) (δ:Dl) (P:DK):Prop:=da δ fun x=>rv x P
theorem EN {r:V→Hp→VK→Prop}{rv:D1} (ho:UnV K r rv) (ha:ER K Γ ta da):EM K Γ [] (tUn r ta) (vUn rv da) :=
  ⟨fun δ P P' k h=>ha.mono _ _ _ (fun x z=>ho.mono x _ _ k z) h,
   fun o q=>ha.run o (ha.mono _ _ _ (fun x z v H1 s1 r1=>ho.run r1 (ho.mono _ _ _ (fun u z u' H' fp s r n=>z u' H' fp (s1.trans s) r (n.any.later s1)) z)) q)⟩
def vI0 (g:Int→Int→D) (x:D) (y:D) (P:DK):Prop:=match x,y with | .int i,.int j=>P (g i j) | _,_=>False
def vI (C:Int→Int→Prop) (g:Int→Int→D) (x:D) (y:D) (P:DK):Prop:=match x,y with | .int i,.int j=>C i j∧P (g i j) | _,_=>False
def vU (g:Int→D) (x:D) (P:DK):Prop:=match x with | .int i=>P (g i) | _=>False
theorem Dh {g:Int→Int→D}:∀x y (P P':DK),(∀z,P z→P' z)→vI0 g x y P→vI0 g x y P':=fun x y P P' k h=>by
  unfold vI0 at h ⊢;revert h;split<;>first | exact k _ | exact id
theorem Eg {C:Int→Int→Prop}{g:Int→Int→D}:∀x y (P P':DK),(∀z,P z→P' z)→vI C g x y P→vI C g x y P':=fun x y P P' k h=>by
  unfold vI at h ⊢;revert h;split<;>first | exact fun h=>⟨h.1,k _ h.2⟩ | exact id
theorem Al {f:Int→Int→V}{g:Int→Int→D} (hs:∀i j,(g i j).bC=true∧(g i j).toV=f i j):OpV K (rI0 f) (vI0 g):=⟨Dh,fun {H x y v w Q} r1 r2 h=>by
  unfold vI0 at h
  split at h
  · rename_i i j
    refine⟨i,j,r1.int,r2.int,?_⟩
    rw[← (hs i j).2]
    exact h _ H [] (aN.refl H) (Rf.sF (hs i j).1) Nw.nil
  · exact h.elim⟩
theorem Gz {C:Int→Int→Prop}{f:Int→Int→V}{g:Int→Int→D} (hs:∀i j,(g i j).bC=true∧(g i j).toV=f i j):OpV K (rI C f) (vI C g):=⟨Eg,fun {H x y v w Q} r1 r2 h=>by
  unfold vI at h
  split at h
  · rename_i i j
    refine⟨i,j,r1.int,r2.int,h.1,?_⟩
    rw[← (hs i j).2]
    exact h.2 _ H [] (aN.refl H) (Rf.sF (hs i j).1) Nw.nil
  · exact h.elim⟩
theorem eO {f:Int→Int→Int}:OpV K (rI0 fun i j=>.int (f i j)) (vI0 fun i j=>.int (f i j)):=Al fun _ _=>⟨rfl,rfl⟩
theorem lR {f:Int→Int→Bool}:OpV K (rI0 fun i j=>.bl (f i j)) (vI0 fun i j=>.bl (f i j)):=Al fun _ _=>⟨rfl,rfl⟩
theorem cN {C:Int→Int→Prop}{f:Int→Int→Int}:OpV K (rI C fun i j=>.int (f i j)) (vI C fun i j=>.int (f i j)):=Gz fun _ _=>⟨rfl,rfl⟩
theorem EW {f:Int→Int}:UnV K (rU fun i=>.int (f i)) (vU fun i=>.int (f i)):=⟨fun x P P' k h=>by unfold vU at h ⊢;revert h;split<;>first | exact k _ | exact id,fun {H x v Q} r1 h=>by
  unfold vU at h
  split at h
  · rename_i i
    exact⟨i,r1.int,h _ H [] (aN.refl H) ⟨rfl,rfl⟩ Nw.nil⟩
  · exact h.elim⟩
def tO (neg:Bool) (x:D) (y:D) (P:DK):Prop:=x.bC=true∧y.bC=true∧bC x.toV y.toV=true∧P (.bl (if neg then !decide (x.toV=y.toV) else decide (x.toV=y.toV)))
theorem uB {neg:Bool}:∀x y (P P':DK),(∀z,P z→P' z)→tO neg x y P→tO neg x y P':=fun x y P P' k h=>⟨h.1,h.2.1,h.2.2.1,k _ h.2.2.2⟩
theorem gF:OpV K rEq (tO false):=⟨uB,fun {H x y v w Q} ⟨f1,r1⟩ ⟨f2,r2⟩ h=>by
  rw[(r1.bC h.1).1,(r2.bC h.2.1).1]
  exact⟨h.2.2.1,h.2.2.2 _ H [] (aN.refl H) ⟨rfl,rfl⟩ Nw.nil⟩⟩
theorem yw:OpV K rNe (tO true):=⟨uB,fun {H x y v w Q} ⟨f1,r1⟩ ⟨f2,r2⟩ h=>by
  rw[(r1.bC h.1).1,(r2.bC h.2.1).1]
  exact⟨h.2.2.1,h.2.2.2 _ H [] (aN.refl H) ⟨rfl,rfl⟩ Nw.nil⟩⟩
theorem xA {neg:Bool}{i j:Int}{P:DK}:tO neg (.int i) (.int j) P↔P (.bl (if neg then !decide (i=j) else decide (i=j))):=by
  unfold tO
  simp only[D.bC,D.toV,bC,true_and,V.int.injEq]
def tw (x:D) (y:D) (P:DK):Prop:=match x.items,y with | some ds,.int i=>(match atI ds i with | some d=>P d | none=>False) | _,_=>False
def xG (x:D) (y:D) (P:DK):Prop:=match x,y with | .tup ds,.int i=>(match atI ds i with | some d=>P d | none=>False) | _,_=>False
theorem sU {x y:D}{P:DK} (h:tw x y P):∃ds i d,x.items=some ds∧y=.int i∧atI ds i=some d∧P d:=by
  unfold tw at h
  split at h
  · split at h
    · exact⟨_,_,_,by assumption,rfl,by assumption,h⟩
    · exact h.elim
  · exact h.elim
theorem x6 {x y:D}{P:DK} (h:xG x y P):∃ds i d,x=.tup ds∧y=.int i∧atI ds i=some d∧P d:=by
  unfold xG at h
  split at h
  · split at h
    · exact⟨_,_,_,rfl,rfl,by assumption,h⟩
    · exact h.elim
  · exact h.elim
theorem DL {x:D}{ds:List D}{i:Int}{d:D}{P:DK} (ex:x.items=some ds) (e:atI ds i=some d) (h:P d):tw x (.int i) P:=by unfold tw;simp only[ex,e];exact h
theorem Dw {ds:List D}{i:Int}{d:D}{P:DK} (e:atI ds i=some d) (h:P d):xG (.tup ds) (.int i) P:=by unfold xG;simp only[e];exact h
theorem uW:∀x y (P P':DK),(∀z,P z→P' z)→tw x y P→tw x y P':=fun x y P P' k h=>by
  obtain ⟨ds,i,d,ex,rfl,e,h⟩:=sU h;exact DL ex e (k _ h)
theorem AO:∀x y (P P':DK),(∀z,P z→P' z)→xG x y P→xG x y P':=fun x y P P' k h=>by
  obtain ⟨ds,i,d,rfl,rfl,e,h⟩:=x6 h;exact Dw e (k _ h)
theorem Rfs.at {H:Hp}{ds:List D}{xs:List V}{fq:List Addr}{i:Int}{d:D} (h:Rfs K H ds xs fq) (e:atI ds i=some d):∃v f,atI xs i=some v∧Rf K H d v f∧∀a∈f,a∈fq:=by
  unfold atI at e ⊢
  rw[h.length]
  cases hj:ixN ds.length i with
  | none=>rw[hj] at e;cases e
  | some j=>rw[hj] at e;exact h.get e
theorem wx (ha:ER K Γ ta da) (hb:ER K Γ tb db):ER K Γ (tOp (AH K) ta tb) (vOp tw da db) :=
  ⟨fun δ P P' k h=>ha.mono _ _ _ (fun x z=>hb.mono _ _ _ (fun y z=>uW x y _ _ k z) z) h,
   fun o q=>ha.run o (ha.mono _ _ _ (fun x z v H1 s1 r1=>hb.run (o.same s1) (hb.mono _ _ _ (fun y z w H2 s2 r2=>by
    obtain ⟨ds,i,d,ex,rfl,e,z⟩:=sU z
    obtain ⟨a,xs,fq,rfl,hs,hr⟩:=(r1.same s2).seq ex
    obtain ⟨v,f,e1,r3,_⟩:=hr.at e
    exact⟨a,xs,i,v,rfl,r2.int,hs,e1,z v H2 (s1.trans s2) ⟨f,r3⟩⟩) z)) q)⟩
theorem aM (ha:ES K Γ ta da) (hb:ER K Γ tb db):ES K Γ (tOp (AH K) ta tb) (vOp tw da db) :=
  ⟨fun δ P P' k h=>ha.mono _ _ _ (fun x z=>hb.mono _ _ _ (fun y z=>uW x y _ _ k z) z) h,
   fun o q=>ha.run o (ha.mono _ _ _ (fun x z v H1 fp s1 r1 n=>hb.run (o.same s1) (hb.mono _ _ _ (fun y z w H2 s2 r2=>by
    obtain ⟨ds,i,d,ex,rfl,e,z⟩:=sU z
    obtain ⟨a,xs,fq,rfl,hs,hr,hin⟩:=(r1.same s2).seq ex
    obtain ⟨v,f,e1,r3,k⟩:=hr.at e
    exact⟨a,xs,i,v,rfl,r2.int,hs,e1,z v H2 f (s1.trans s2) r3 fun j hj b hb=>n j hj b (hin b (k b hb))⟩) z)) q)⟩
theorem bK (ha:ES K Γ ta da) (hb:ER K Γ tb db):ES K Γ (tOp (CW K) ta tb) (vOp xG da db) :=
  ⟨fun δ P P' k h=>ha.mono _ _ _ (fun x z=>hb.mono _ _ _ (fun y z=>AO x y _ _ k z) z) h,
   fun o q=>ha.run o (ha.mono _ _ _ (fun x z v H1 fp s1 r1 n=>hb.run (o.same s1) (hb.mono _ _ _ (fun y z w H2 s2 r2=>by
    obtain ⟨ds,i,d,rfl,rfl,e,z⟩:=x6 z
    obtain ⟨a,xs,rfl,hs,hr⟩:=r1.same s2
    obtain ⟨v,f,e1,r3,k⟩:=hr.at e
    exact⟨a,xs,i,v,rfl,r2.int,.inl (.inl hs),e1,z v H2 f (s1.trans s2) r3 fun j hj b hb=>n j hj b (k b hb)⟩) z)) q)⟩
def asB (x:D) (P:Bool→Prop):Prop:=match x with | .bl k=>P k | _=>False
def u9 (d:DE) (δ:Dl) (P:Bool→Prop):Prop:=d δ fun x=>asB x P
theorem p4 {x:D}{P:Bool→Prop} (h:asB x P):∃k,x=.bl k∧P k:=by
  unfold asB at h
  split at h
  · exact⟨_,rfl,h⟩
  · exact h.elim
theorem CN {x:D}{P P':Bool→Prop} (k:∀b,P b→P' b) (h:asB x P):asB x P':=by
  obtain ⟨b,rfl,h⟩:=p4 h;exact k b h
theorem bh (h:ER K Γ t d):TR K Γ (By t) (u9 d):=⟨fun δ P P' k q=>h.mono _ _ _ (fun x z=>CN k z) q,fun o q=>h.run o (h.mono _ _ _ (fun x z v H' s r=>by
  obtain ⟨b,rfl,z⟩:=p4 z;exact⟨b,r.bl,z H' s⟩) q)⟩
theorem fJ (h:ER K Γ t d):TR K Γ (tB t) (u9 d):=⟨fun δ P P' k q=>h.mono _ _ _ (fun x z=>CN k z) q,fun o q=>h.run o (h.mono _ _ _ (fun x z v H' s r=>by
  obtain ⟨b,rfl,z⟩:=p4 z;exact⟨b,r.bl,z H' s⟩) q)⟩
def FC (c e:DT) (δ:Dl) (P:Bool→Prop):Prop:=c δ fun k=>if k=true then e δ P else P false
def vOr (c e:DT) (δ:Dl) (P:Bool→Prop):Prop:=c δ fun k=>if k=true then P true else e δ P
def FU (c:DT) (δ:Dl) (P:Bool→Prop):Prop:=c δ fun k=>P (!k)
theorem eN {b:Bool}{A B A' B':Prop} (h1:A→A') (h2:B→B') (h:if b=true then A else B):if b=true then A' else B':=by
  cases b
  · exact h2 h
  · exact h1 h
theorem wc {u1 u2:TT}{c e:DT} (h1:TR K Γ u1 c) (h2:TR K Γ u2 e):TR K Γ (Hf u1 u2) (FC c e) :=
  ⟨fun δ P P' k q=>h1.mono _ _ _ (fun b z=>eN (h2.mono _ _ _ k) (k _) z) q,
   fun o q=>h1.run o (h1.mono _ _ _ (fun b z H' s=>eN (fun z=>h2.run (o.same s) (h2.mono _ _ _ (fun b z H2 s2=>z H2 (s.trans s2)) z)) (fun z=>z H' s) z) q)⟩
theorem kQ {u1 u2:TT}{c e:DT} (h1:TR K Γ u1 c) (h2:TR K Γ u2 e):TR K Γ (tOr u1 u2) (vOr c e) :=
  ⟨fun δ P P' k q=>h1.mono _ _ _ (fun b z=>eN (k _) (h2.mono _ _ _ k) z) q,
   fun o q=>h1.run o (h1.mono _ _ _ (fun b z H' s=>eN (fun z=>z H' s) (fun z=>h2.run (o.same s) (h2.mono _ _ _ (fun b z H2 s2=>z H2 (s.trans s2)) z)) z) q)⟩
theorem cO {u1:TT}{c:DT} (h1:TR K Γ u1 c):TR K Γ (GK u1) (FU c) :=
  ⟨fun δ P P' k q=>h1.mono _ _ _ (fun b z=>k _ z) q,fun o q=>h1.run o (h1.mono _ _ _ (fun b z H' s=>z H' s) q)⟩
def Bj (da db:DE) (δ:Dl) (P:DK):Prop:=u9 da δ fun k=>if k=true then db δ P else P (.bl false)
def Ga (da db:DE) (δ:Dl) (P:DK):Prop:=u9 da δ fun k=>if k=true then P (.bl true) else db δ P
theorem fm (ha:ER K Γ ta da) (hb:EM K Γ [] tb db):EM K Γ [] (E6 ta tb) (Bj da db) :=
  ⟨fun δ P P' k q=>(bh ha).mono _ _ _ (fun b z=>eN (hb.mono _ _ _ k) (k _) z) q,
   fun o q=>ha.run o (ha.mono _ _ _ (fun x z v H' s r=>by
    obtain ⟨b,rfl,z⟩:=p4 z
    exact⟨b,r.bl,eN (fun z=>hb.run (o.same s) (hb.mono _ _ _ (fun y z u H2 fp s2 r2 n2=>z u H2 fp (s.trans s2) r2 (n2.later s)) z)) (fun z=>z _ H' [] s ⟨rfl,rfl⟩ Nw.nil) z⟩) q)⟩
theorem FT (ha:ER K Γ ta da) (hb:EM K Γ [] tb db):EM K Γ [] (GC ta tb) (Ga da db) :=
  ⟨fun δ P P' k q=>(bh ha).mono _ _ _ (fun b z=>eN (k _) (hb.mono _ _ _ k) z) q,
   fun o q=>ha.run o (ha.mono _ _ _ (fun x z v H' s r=>by
    obtain ⟨b,rfl,z⟩:=p4 z
    exact⟨b,r.bl,eN (fun z=>z _ H' [] s ⟨rfl,rfl⟩ Nw.nil) (fun z=>hb.run (o.same s) (hb.mono _ _ _ (fun y z u H2 fp s2 r2 n2=>z u H2 fp (s.trans s2) r2 (n2.later s)) z)) z⟩) q)⟩
def yG (r r':D2) (da db dc:DE) (δ:Dl) (P:DK):Prop:=da δ fun x=>db δ fun y=>r x y fun z=>asB z fun k=>if k=true then dc δ fun w=>r' y w P else P (.bl false)
theorem jQ {r r':R2}{rv rv':D2} (ho:OpV K r rv) (ho':OpV K r' rv') (ha:ER K Γ ta da) (hb:ER K Γ tb db) (hc:ER K Γ tc dc):EM K Γ [] (yn r r' ta tb tc) (yG rv rv' da db dc) :=
  ⟨fun δ P P' k h=>ha.mono _ _ _ (fun x z=>hb.mono _ _ _ (fun y z=>ho.mono x y _ _ (fun u z=>CN (fun b z=>eN (hc.mono _ _ _ fun w z=>ho'.mono _ _ _ _ k z) (k _) z) z) z) z) h,
   fun o q=>ha.run o (ha.mono _ _ _ (fun x z v H1 s1 r1=>hb.run (o.same s1) (hb.mono _ _ _ (fun y z w H2 s2 r2=>ho.run (r1.same s2) r2 (ho.mono _ _ _ _ (fun u z u' H3 fp s3 r3 n3=>by
    obtain ⟨b,rfl,z⟩:=p4 z
    have s13:=(s1.trans s2).trans s3
    refine⟨b,r3.1,eN (fun z=>?_) (fun z=>z _ H3 [] s13 ⟨rfl,rfl⟩ Nw.nil) z⟩
    exact hc.run (o.same s13) (hc.mono _ _ _ (fun w z w' H4 s4 r4=>ho'.run (r2.same (s3.trans s4)) r4 (ho'.mono _ _ _ _ (fun u z u' H' fp s r n=>z u' H' fp ((s13.trans s4).trans s) r (n.any.later (s13.trans s4))) z)) z)) z)) z)) q)⟩
def A0 (_u0:Dl) (P:List D→Prop):Prop:=P []
def pK (da:DE) (dr:DA) (δ:Dl) (P:List D→Prop):Prop:=da δ fun x=>dr δ fun xs=>P (x::xs)
theorem aj:AR K Γ mT A0:=⟨fun _ _ _ k h=>k _ h,fun {_ _ _ _ H _} o q=>q [] H (aN.refl H) ⟨[],rfl,rfl⟩⟩
theorem aQ:AM K Γ [] mT A0:=⟨fun _ _ _ k h=>k _ h,fun {_ _ _ _ H _} o q=>q [] H [] (aN.refl H) ⟨rfl,rfl⟩ Nw.nil⟩
theorem ah {tr:TA}{dr:DA} (ha:ER K Γ ta da) (hr:AR K Γ tr dr):AR K Γ (fg ta tr) (pK da dr) :=
  ⟨fun δ P P' k h=>ha.mono _ _ _ (fun x z=>hr.mono _ _ _ (fun y z=>k _ z) z) h,
   fun o q=>ha.run o (ha.mono _ _ _ (fun x z v H1 s1 r1=>hr.run (o.same s1) (hr.mono _ _ _ (fun xs z vs H2 s2 r2=>by
    obtain ⟨f1,r1⟩:=r1.same s2
    obtain ⟨f2,r2⟩:=r2
    exact z _ H2 (s1.trans s2) ⟨f1++f2,_,_,f1,f2,rfl,rfl,r1,r2⟩) z)) q)⟩
theorem Eu {M':List Nat}{tr:TA}{dr:DA} (ha:EM K Γ M ta da) (hr:AM K Γ M' tr dr) (hM:∀i∈M,i∈Γ∧i∉M':=by decide) (hM':∀i∈M',i∈Γ:=by decide):AM K Γ (M++M') (fg ta tr) (pK da dr) :=
  ⟨fun δ P P' k h=>ha.mono _ _ _ (fun x z=>hr.mono _ _ _ (fun y z=>k _ z) z) h,
   fun {B0 fps δ σ H Q} o q=>ha.run o (ha.mono _ _ _ (fun x z v H1 f1 s1 r1 n1=>hr.run (o.same s1) (hr.mono _ _ _ (fun xs z vs H2 f2 s2 r2 n2=>by
    refine z _ H2 (f1++f2) (s1.trans s2) ⟨_,_,f1,f2,rfl,rfl,r1.same s2,r2⟩ ⟨?_,fun a ha=>(List.mem_append.mp ha).elim (fun h=>(n1.mu a h).same s2) (n2.mu a),fun a ha=>?_⟩
    · refine List.nodup_append.mpr ⟨n1.nd,n2.nd,fun a h1 b h2 e=>?_⟩
      subst e
      rcases n2.src a h2 with e | ⟨j,hj,e⟩
      · exact (n1.mu a h1).some e
      · rcases n1.src a h1 with e' | ⟨i,hi,e'⟩
        · exact o.dom e e'
        · exact o.dj i (hM i hi).1 j (fun y=>(hM i hi).2 (by rw[← y];exact hj)) a e' e
    · rcases List.mem_append.mp ha with h | h
      · exact (n1.src a h).imp id fun ⟨j,h1,h2⟩=>⟨j,List.mem_append_left _ h1,h2⟩
      · exact (n2.src a h).elim (fun e=>.inl (s1.free e)) fun ⟨j,h1,h2⟩=>.inr ⟨j,List.mem_append_right _ h1,h2⟩) z)) q)⟩
theorem jI {n:Nat} (h:n≤1000):n≤sizeLine:=Nat.le_trans h (by rw[sizeLine_eq];decide)
def DF (da:DA) (δ:Dl) (P:DK):Prop:=da δ fun xs=>xs.length≤1000∧P (.lst xs)
def Gy (da:DA) (δ:Dl) (P:DK):Prop:=da δ fun xs=>xs.length≤1000∧P (.tup xs)
theorem aN.lO {H:Hp}{p:Addr}{o:HO} (h:H p=none):aN H (upd H p o):=fun b u e=>by rw[bf (cI e h)];exact e
theorem aV {u:TA}{dr:DA} (hr:AM K Γ M u dr) (hM:∀i∈M,i∈Γ:=by decide):EM K Γ M (Fl u) (DF dr) :=
  ⟨fun δ P P' k h=>hr.mono _ _ _ (fun y z=>⟨z.1,k _ z.2⟩) h,
   fun {B0 fps δ σ H Q} o q=>hr.run o (hr.mono _ _ _ (fun xs z vs H1 fp s1 r1 n1=>by
    refine⟨by rw[r1.length];exact jI z.1,fun p hp=>?_⟩
    have hs:aN H1 (upd H1 p (.lst vs)):=aN.lO hp
    refine z.2 _ _ (p::fp) (s1.trans hs) ⟨p,vs,fp,rfl,aP,rfl,r1.same hs⟩ ⟨List.nodup_cons.mpr ⟨fun h=>(n1.mu p h).some hp,n1.nd⟩,fun a ha=>?_,fun a ha=>?_⟩
    · rcases List.mem_cons.mp ha with e | h
      · subst e;exact .inl ⟨vs,aP⟩
      · exact (n1.mu a h).same hs
    · rcases List.mem_cons.mp ha with e | h
      · subst e;exact .inl (s1.free hp)
      · exact n1.src a h) q)⟩
theorem vJ {u:TA}{dr:DA} (hr:AM K Γ M u dr):EM K Γ M (GX u) (Gy dr) :=
  ⟨fun δ P P' k h=>hr.mono _ _ _ (fun y z=>⟨z.1,k _ z.2⟩) h,
   fun {B0 fps δ σ H Q} o q=>hr.run o (hr.mono _ _ _ (fun xs z vs H1 fp s1 r1 n1=>by
    refine⟨by rw[r1.length];exact jI z.1,fun p hp=>?_⟩
    have hs:aN H1 (upd H1 p (.tup vs)):=aN.lO hp
    exact z.2 _ _ fp (s1.trans hs) ⟨p,vs,rfl,aP,r1.same hs⟩ (n1.same hs)) q)⟩
theorem F0 {u:TA}{dr:DA} (hr:AR K Γ u dr):ER K Γ (Fl u) (DF dr) :=
  ⟨fun δ P P' k h=>hr.mono _ _ _ (fun y z=>⟨z.1,k _ z.2⟩) h,
   fun {B0 fps δ σ H Q} o q=>hr.run o (hr.mono _ _ _ (fun xs z vs H1 s1 r1=>by
    obtain ⟨fp,r1⟩:=r1
    refine⟨by rw[r1.length];exact jI z.1,fun p hp=>?_⟩
    have hs:aN H1 (upd H1 p (.lst vs)):=aN.lO hp
    exact z.2 _ _ (s1.trans hs) ⟨p::fp,p,vs,fp,rfl,aP,rfl,r1.same hs⟩) q)⟩
abbrev DSp:=List D→DK→Prop
def br (S:DSp):Prop:=∀xs (P P':DK),(∀z,P z→P' z)→S xs P→S xs P'
def spP (K:PySem.W.Frag) (S:DSp):Sp:=fun vs H Q _=>∃ds,Rps K H ds vs∧S ds fun x=>∀v H' fp,aN H H'→Rf K H' x v fp→Nw H H' nf [] fp→Q v H'
def spR (K:PySem.W.Frag) (S:DSp):Sp:=fun vs H Q _=>∃ds,Rps K H ds vs∧S ds fun x=>∀v H',aN H H'→Rp K H' x v→Q v H'
structure mi (K:PySem.W.Frag) (r:List V→Hp→VK→Prop) (S:DSp):Prop where
  mono:br S
  run:∀{H xs vs Q},Rps K H xs vs→S xs (fun z=>∀u H' fp,aN H H'→Rf K H' z u fp→Nw H H' nf [] fp→Q u H')→r vs H Q
def qr (S:DSp) (dr:DA) (δ:Dl) (P:DK):Prop:=dr δ fun xs=>S xs P
theorem aZ {r:List V→Hp→VK→Prop}{S:DSp}{u:TA}{dr:DA} (hc:mi K r S) (hr:AR K Γ u dr):EM K Γ [] (tCB r u) (qr S dr) :=
  ⟨fun δ P P' k h=>hr.mono _ _ _ (fun y z=>hc.mono _ _ _ k z) h,
   fun {B0 fps δ σ H Q} o q=>hr.run o (hr.mono _ _ _ (fun xs z vs H1 s1 r1=>hc.run r1 (hc.mono _ _ _ (fun u z u' H' fp s r n=>z u' H' fp (s1.trans s) r (n.any.later s1)) z)) q)⟩
theorem aL {S:DSp}{E:XK}{u:TA}{dr:DA} (hS:br S) (hr:AR K Γ u dr):EM K Γ [] (qv (spP K S) [] E u) (qr S dr) :=
  ⟨fun δ P P' k h=>hr.mono _ _ _ (fun y z=>hS _ _ _ k z) h,
   fun {B0 fps δ σ H Q} o q=>hr.run o (hr.mono _ _ _ (fun xs z vs H1 s1 r1=>⟨xs,by rw[List.append_nil];exact r1,hS _ _ _ (fun u z u' H' fp s r n=>z u' H' fp (s1.trans s) r (n.any.later s1)) z⟩) q)⟩
theorem Ah {S:DSp}{E:XK}{u:TA}{dr:DA} (hS:br S) (hr:AR K Γ u dr):ER K Γ (qv (spR K S) [] E u) (qr S dr) :=
  ⟨fun δ P P' k h=>hr.mono _ _ _ (fun y z=>hS _ _ _ k z) h,
   fun {B0 fps δ σ H Q} o q=>hr.run o (hr.mono _ _ _ (fun xs z vs H1 s1 r1=>⟨xs,by rw[List.append_nil];exact r1,hS _ _ _ (fun u z u' H' s r=>z u' H' (s1.trans s) r) z⟩) q)⟩
end
end L3
namespace L3
open PySem L2
structure b8 where
  nx:Dl→Prop
  rt:D→Dl→Prop
  bk:Dl→Prop
  ct:Dl→Prop
abbrev DS:=b8→Dl→Prop
structure RtI (B0:Hp) (Γr:List Nat) (fps:Nat→List Addr) (H:Hp) (fp:List Addr):Prop where
  nd:fp.Nodup
  mu:∀a∈fp,Mu H a
  nw:∀a∈fp,B0 a=none
  dj:∀j∈Γr,∀a∈fp,a∉fps j
structure EOk (K:PySem.W.Frag) (ρ:Bool) (Γr Γl Γn:List Nat) (B0:Hp) (Dn:Ends) (E:b8):Prop where
  nx:∀{fps δ σ H},Ok K B0 Γn fps δ σ H→E.nx δ→Dn.nx σ H
  bk:∀{fps δ σ H},Ok K B0 Γl fps δ σ H→E.bk δ→Dn.bk σ H
  ct:∀{fps δ σ H},Ok K B0 Γl fps δ σ H→E.ct δ→Dn.ct σ H
  rt:∀{fps δ σ H x v fp},Ok K B0 Γr fps δ σ H→Rf K H x v fp→(ρ=true→RtI B0 Γr fps H fp)→E.rt x δ→Dn.rt v H
def ST (K:PySem.W.Frag) (ρ:Bool) (Γr Γl:List Nat) (t:TS) (Γ Γn:List Nat) (d:DS):Prop :=
  ∀⦃B0:Hp⦄ ⦃Dn:Ends⦄ ⦃E:b8⦄ ⦃fps:Nat→List Addr⦄ ⦃δ:Dl⦄ ⦃σ:St⦄ ⦃H:Hp⦄,EOk K ρ Γr Γl Γn B0 Dn E→Ok K B0 Γ fps δ σ H→d E δ→t Dn σ H
section
variable {K:PySem.W.Frag}{ρ:Bool}{Γr Γl Γ Γ1 Γ2 Γn M:List Nat}{t u:TS}{te ta tb:TE}{de da db:DE}{d e:DS}
def Bp (E:b8) (δ:Dl):Prop:=E.nx δ
def Ep (d e:DS) (E:b8) (δ:Dl):Prop:=d { E with nx:=e E } δ
theorem aY:ST K ρ Γr Γl ET Γ Γ Bp:=fun _ _ _ _ _ _ _ k o h=>k.nx o h
theorem aA (h1:ST K ρ Γr Γl t Γ Γ1 d) (h2:ST K ρ Γr Γl u Γ1 Γ2 e):ST K ρ Γr Γl (DW t u) Γ Γ2 (Ep d e) :=
  fun {B0 Dn E fps δ σ H} k o h=>h1 (Dn:={ Dn with nx:=u Dn }) (E:={ E with nx:=e E }) ⟨fun o h=>h2 k o h,k.bk,k.ct,k.rt⟩ o h
theorem ST.post (h:ST K ρ Γr Γl t Γ Γ1 d) (s:∀i∈Γn,i∈Γ1:=by decide):ST K ρ Γr Γl t Γ Γn d:=fun _ _ _ _ _ _ _ k o q=>h ⟨fun o h=>k.nx (o.sub s) h,k.bk,k.ct,k.rt⟩ o q
def Cz (M:List Nat) (i:Nat) (de:DE) (E:b8) (δ:Dl):Prop:=de δ fun x=>E.nx ((kill M δ).set i (some x))
theorem eQ (i:Nat) (he:EM K Γ M te de) (hM:∀j∈M,j∈Γ:=by decide):ST K ρ Γr Γl (t4 te (lY i)) Γ (i::minus (minus Γ M) [i]) (Cz M i de) :=
  fun _ _ _ _ _ _ _ k o h=>he.run o (he.mono _ _ _ (fun x z v H' fp s r n=>k.nx (o.EV i hM s r n) z) h)
def Fs (i:Nat) (de:DE) (E:b8) (δ:Dl):Prop:=de δ fun x=>E.nx (δ.set i (some x))
theorem bO (i:Nat) (he:ES K Γ te de):ST K ρ Γr Γl (t4 te (lY i)) Γ (minus Γ [i]) (Fs i de) :=
  fun _ _ _ _ _ _ _ k o h=>he.run o (he.mono _ _ _ (fun x z v H' fp s r n=>k.nx (o.z7 i s r n) z) h)
def D0 (M:List Nat) (de:DE) (E:b8) (δ:Dl):Prop:=de δ fun x=>E.rt x (kill M δ)
theorem aI (he:EM K Γ M te de) (hM:∀j∈M,j∈Γ:=by decide) (hr:∀j∈Γr,j∈Γ∧j∉M:=by decide):ST K ρ Γr Γl (FJ te) Γ Γn (D0 M de) :=
  fun {B0 Dn E fps δ σ H} k o h=>he.run o (he.mono _ _ _ (fun x z v H' fp s r n=>by
    have ok:=((o.kill M).same s).sub (Γ':=Γr) fun i hi=>c8.mpr (hr i hi)
    refine k.rt ok r (fun _=>⟨n.nd,n.mu,fun a ha=>?_,fun j hj a ha=>?_⟩) z
    · rcases n.src a ha with e | ⟨i,hi,e⟩
      · exact o.b0.free e
      · exact ((o.own i (hM i hi)).2 a e).1
    · show a∉if j∈M then [] else fps j
      rw[if_neg (hr j hj).2]
      intro z
      rcases n.src a ha with e | ⟨i,hi,e⟩
      · exact o.dom z e
      · exact o.dj i (hM i hi) j (fun y=>(hr j hj).2 (by rw[y];exact hi)) a e z) h)
theorem wO (he:ER K Γ te de) (hr:∀j∈Γr,j∈Γ:=by decide):ST K false Γr Γl (FJ te) Γ Γn (D0 [] de) :=
  fun {B0 Dn E fps δ σ H} k o h=>he.run o (he.mono _ _ _ (fun x z v H' s r=>by
    obtain ⟨fp,r⟩:=r
    exact k.rt ((o.same s).sub hr) r (fun z=>by cases z) z) h)
def EG (c:DT) (d e:DS) (E:b8) (δ:Dl):Prop:=c δ fun b=>if b=true then d E δ else e E δ
theorem bV {c:TT}{dc:DT} (hc:TR K Γ c dc) (h1:ST K ρ Γr Γl t Γ Γn d) (h2:ST K ρ Γr Γl u Γ Γn e):ST K ρ Γr Γl (Gp c t u) Γ Γn (EG dc d e) :=
  fun _ _ _ _ _ _ _ k o h=>hc.run o (hc.mono _ _ _ (fun b z H' s=>eN (fun z=>h1 k (o.same s) z) (fun z=>h2 k (o.same s) z) z) h)
structure GT (K:PySem.W.Frag) (Γ:List Nat) (g:TG) (dg:D→Dl→(Dl→Prop)→Prop):Prop where
  mono:∀x δ (P P':Dl→Prop),(∀z,P z→P' z)→dg x δ P→dg x δ P'
  run:∀{B0 fps δ σ H x v fp Q},Ok K B0 Γ fps δ σ H→Rf K H x v fp→(∀j∈Γ,∀a∈fp,a∉fps j)→dg x δ (fun δ'=>∀fps' σ',Ok K B0 Γ fps' δ' σ' H→(∀j∈Γ,fps' j=fps j)→Q σ' H)→g v σ H Q
structure GTs (K:PySem.W.Frag) (Γ:List Nat) (g:TGs) (dg:List D→Dl→(Dl→Prop)→Prop):Prop where
  mono:∀x δ (P P':Dl→Prop),(∀z,P z→P' z)→dg x δ P→dg x δ P'
  run:∀{B0 fps δ σ H x v fp Q},Ok K B0 Γ fps δ σ H→Rfs K H x v fp→(∀j∈Γ,∀a∈fp,a∉fps j)→dg x δ (fun δ'=>∀fps' σ',Ok K B0 Γ fps' δ' σ' H→(∀j∈Γ,fps' j=fps j)→Q σ' H)→g v σ H Q
def yW (i:Nat) (x:D) (δ:Dl) (P:Dl→Prop):Prop:=P (δ.set i (some x))
theorem bc (i:Nat) (h:i∉Γ:=by decide):GT K Γ (lY i) (yW i):=⟨fun _ _ _ _ k h=>k _ h,fun {B0 fps δ σ H x v fp Q} o r n q=>by
  have ok:=(o.z7 i (aN.refl H) r n).sub (Γ':=Γ) fun j hj=>c8.mpr ⟨hj,fun z=>h (by rw[← List.mem_singleton.mp z];exact hj)⟩
  exact q _ _ ok fun j hj=>by rw[if_neg (fun z=>h (by rw[← z];exact hj))]⟩
def Fb (xs:List D) (δ:Dl) (P:Dl→Prop):Prop:=match xs with | []=>P δ | _=>False
def CP (dg:D→Dl→(Dl→Prop)→Prop) (dr:List D→Dl→(Dl→Prop)→Prop) (xs:List D) (δ:Dl) (P:Dl→Prop):Prop:=match xs with | x::r=>dg x δ fun δ'=>dr r δ' P | []=>False
theorem Am:GTs K Γ Hm Fb:=⟨fun x _ _ _ k h=>by cases x with | nil=>exact k _ h | cons _ _=>exact h,fun {B0 fps δ σ H x v fp Q} o r n q=>by
  cases x with
  | nil=>obtain ⟨rfl,_⟩:=r;exact⟨rfl,q _ _ o fun _ _=>rfl⟩
  | cons _ _=>exact q.elim⟩
theorem pw {g:TG}{gs:TGs}{dg:D→Dl→(Dl→Prop)→Prop}{dr:List D→Dl→(Dl→Prop)→Prop} (h1:GT K Γ g dg) (h2:GTs K Γ gs dr):GTs K Γ (Fd g gs) (CP dg dr) :=
  ⟨fun x _ _ _ k h=>by
    cases x with
    | nil=>exact h
    | cons x r=>exact h1.mono _ _ _ _ (fun z h=>h2.mono _ _ _ _ k h) h,
   fun {B0 fps δ σ H x v fp Q} o r n q=>by
    cases x with
    | nil=>exact q.elim
    | cons x xs =>
      obtain ⟨y,ys,f1,f2,rfl,rfl,r1,r2⟩:=r
      refine⟨y,ys,rfl,h1.run o r1 (fun j hj a ha=>n j hj a (List.mem_append_left _ ha)) (h1.mono _ _ _ _ (fun δ' z fps' σ' o' e=>?_) q)⟩
      exact h2.run o' r2 (fun j hj a ha=>by rw[e j hj];exact n j hj a (List.mem_append_right _ ha)) (h2.mono _ _ _ _ (fun δ2 z fps2 σ2 o2 e2=>z fps2 σ2 o2 fun j hj=>(e2 j hj).trans (e j hj)) z)⟩
def y9 (n:Nat) (dg:List D→Dl→(Dl→Prop)→Prop) (x:D) (δ:Dl) (P:Dl→Prop):Prop:=match x with | .tup ds=>ds.length=n∧dg ds δ P | _=>False
theorem CU {n:Nat}{g:TGs}{dg:List D→Dl→(Dl→Prop)→Prop} (h:GTs K Γ g dg):GT K Γ (F6 K n g) (y9 n dg) :=
  ⟨fun x δ P P' k h'=>by unfold y9 at h' ⊢;revert h';split<;>first | exact fun h'=>⟨h'.1,h.mono _ _ _ _ k h'.2⟩ | exact id,
   fun {B0 fps δ σ H x v fp Q} o r nn q=>by
    unfold y9 at q
    split at q
    · obtain ⟨a,xs,e1,e2,r⟩:=r
      exact⟨a,xs,e1,.inl (.inl e2),r.length.trans q.1,h.run o r nn q.2⟩
    · exact q.elim⟩
structure BL (K:PySem.W.Frag) (J:It) (B:Hp) (ds:List D):Prop where
  go:∀{i H},aN B H→i<ds.length→J.go i H
  yld:∀{i H x H' d},aN B H→J.yld i H x H'→ds[i]?=some d→aN H H'∧∃fp,Rf K H' d x fp∧∀a∈fp,B a≠none
  stop:∀{i H},aN B H→ds.length≤i→J.stop i H
abbrev DI:=Dl→(List D→Prop)→Prop
structure IT (K:PySem.W.Frag) (Γ:List Nat) (wi:TI) (di:DI):Prop where
  mono:∀δ (P P':List D→Prop),(∀x,P x→P' x)→di δ P→di δ P'
  run:∀{B0 fps δ σ H R},Ok K B0 Γ fps δ σ H→di δ (fun ds=>∀(J:It) (H':Hp) (fq:List Addr),aN H H'→(∀j∈Γ,∀a∈fq,a∉fps j) →
    (∀B,aN B H'→(∀a∈fq,B a=H' a)→(∀a o,H' a=some o→Im o→B a=some o)→BL K J B ds)→R J H')→wi σ H R
def asL (x:D) (P:List D→Prop):Prop:=match x.items with | some ds=>P ds | none=>False
theorem dM {x:D}{P:List D→Prop} (h:asL x P):∃ds,x.items=some ds∧P ds:=by
  unfold asL at h;split at h
  · exact⟨_,by assumption,h⟩
  · exact h.elim
theorem kW {x:D}{ds:List D}{P:List D→Prop} (e:x.items=some ds) (h:P ds):asL x P:=by unfold asL;rw[e];exact h
def FN (de:DE) (δ:Dl) (P:List D→Prop):Prop:=de δ fun x=>asL x P
theorem cD (he:ES K Γ te de):IT K Γ (zc K te) (FN de) :=
  ⟨fun δ P P' k h=>he.mono _ _ _ (fun x z=>by obtain ⟨ds,e,z⟩:=dM z;exact kW e (k _ z)) h,
   fun {B0 fps δ σ H R} o h=>he.run o (he.mono _ _ _ (fun x z v H' fp s r n=>by
    obtain ⟨ds,ex,z⟩:=dM z
    obtain ⟨a,xs,fq,rfl,hs,hr,hin⟩:=r.seq ex
    refine⟨a,rfl,⟨xs,hs⟩,z (Itl K a) H' fp s n fun B sB ag im=>?_⟩
    have rB:Rf K B x (.ref a) fp:=r.mono (fun b hb u e=>by rw[ag b hb];exact e) im
    obtain ⟨a',xs',fq',e1,hs',hr',hin'⟩:=rB.seq ex
    cases e1
    have sq:∀{H2:Hp},aN B H2→SqL K H2 a xs':=fun s2=>by
      rcases hs' with (h | ⟨o',h⟩) | h
      · exact .inl (.inl (s2 _ _ h))
      · exact .inl (.inr ⟨o',s2 _ _ h⟩)
      · exact .inr h
    have hl:=hr'.length
    refine⟨fun {i H2} s2 hi=>⟨xs',xs'[i]'(by omega),sq s2,by simp [hl,hi]⟩,fun {i H2 y H3 d} s2 hy hd=>?_,fun {i H2} s2 hi=>⟨xs',sq s2,by omega⟩⟩
    obtain ⟨rfl,hy⟩:=hy
    have e2:=hy xs' (sq s2)
    obtain ⟨d',f,e3,r3,k3⟩:=hr'.get' e2
    rw[hd] at e3;cases e3
    exact⟨aN.refl _,f,r3.same s2,fun b hb=>by
      obtain ⟨u,hu,_⟩:=r3.dom b hb
      rw[hu];intro z;cases z⟩) h)⟩
def asI (xs:List D) (P:Int→Prop):Prop:=match xs with | [.int j]=>P j | _=>False
def ED (xs:List D) (P:Int→Int→Prop):Prop:=match xs with | [.int i,.int j]=>P i j | _=>False
theorem oH {xs:List D}{P:Int→Prop} (h:asI xs P):∃j,xs=[.int j]∧P j:=by
  unfold asI at h;split at h
  · exact⟨_,rfl,h⟩
  · exact h.elim
theorem xR {xs:List D}{P:Int→Int→Prop} (h:ED xs P):∃i j,xs=[.int i,.int j]∧P i j:=by
  unfold ED at h;split at h
  · exact⟨_,_,rfl,h⟩
  · exact h.elim
def oP (lo:Int) (n:Nat):List D:=(List.range n).map fun (k:Nat)=>.int (lo+(k:Int))
theorem Co {lo:Int}{n:Nat}{B:Hp}:BL K (Itr lo n) B (oP lo n):=⟨fun {i H2} s2 hi=>by unfold Itr;simpa [oP] using hi,fun {i H2 y H3 d} s2 hy hd=>by
  obtain ⟨rfl,rfl⟩:=hy
  unfold oP at hd
  rw[List.getElem?_map] at hd
  cases e:(List.range n)[i]? with
  | none=>rw[e] at hd;cases hd
  | some k =>
    rw[e] at hd
    obtain ⟨h1,h2⟩:=List.getElem?_eq_some_iff.mp e
    rw[List.getElem_range] at h2
    subst h2
    cases hd
    exact⟨aN.refl _,[],⟨rfl,rfl⟩,fun _ h=>nomatch h⟩,fun {i H2} s2 hi=>by unfold Itr;simpa [oP] using hi⟩
def Cc (da:DA) (δ:Dl) (P:List D→Prop):Prop:=da δ fun xs=>asI xs fun j=>(-(2 ^ 62)≤j∧j<2 ^ 62)∧P (oP 0 j.toNat)
def Cn (da:DA) (δ:Dl) (P:List D→Prop):Prop:=da δ fun xs=>ED xs fun i j=>(-(2 ^ 62)≤i∧i<2 ^ 62∧-(2 ^ 62)≤j∧j<2 ^ 62)∧P (oP i (j - i).toNat)
theorem Rps.ints1 {H:Hp}{j:Int}{vs:List V} (h:Rps K H [.int j] vs):vs=[.int j]:=by
  obtain ⟨fp,x,r,f1,f2,rfl,_,⟨rfl,_⟩,⟨rfl,_⟩⟩:=h;rfl
theorem Rps.ints2 {H:Hp}{i j:Int}{vs:List V} (h:Rps K H [.int i,.int j] vs):vs=[.int i,.int j]:=by
  obtain ⟨fp,x,r,f1,f2,rfl,_,⟨rfl,_⟩,y,r',f1,f2,rfl,_,⟨rfl,_⟩,⟨rfl,_⟩⟩:=h;rfl
theorem iG {u:TA}{da:DA} (ha:AR K Γ u da):IT K Γ (EU u) (Cc da) :=
  ⟨fun δ P P' k h=>ha.mono _ _ _ (fun x z=>by obtain ⟨j,rfl,z⟩:=oH z;exact⟨z.1,k _ z.2⟩) h,
   fun {B0 fps δ σ H R} o h=>ha.run o (ha.mono _ _ _ (fun xs z vs H' s r=>by
    obtain ⟨j,rfl,z⟩:=oH z
    exact⟨j,r.ints1,z.1.1,z.1.2,z.2 _ H' [] s (fun _ _ _ h=>(nomatch h)) fun B _ _ _=>Co⟩) h)⟩
theorem Du {u:TA}{da:DA} (ha:AR K Γ u da):IT K Γ (E2 u) (Cn da) :=
  ⟨fun δ P P' k h=>ha.mono _ _ _ (fun x z=>by obtain ⟨i,j,rfl,z⟩:=xR z;exact⟨z.1,k _ z.2⟩) h,
   fun {B0 fps δ σ H R} o h=>ha.run o (ha.mono _ _ _ (fun xs z vs H' s r=>by
    obtain ⟨i,j,rfl,z⟩:=xR z
    exact⟨i,j,r.ints2,z.1,z.2 _ H' [] s (fun _ _ _ h=>(nomatch h)) fun B _ _ _=>Co⟩) h)⟩
def kL (dg:D→Dl→(Dl→Prop)→Prop) (db:DS) (E:b8):List D→Dl→Prop
  | [],δ=>E.nx δ
  | x::xs,δ=>dg x δ fun δ'=>db { nx:=kL dg db E xs,ct:=kL dg db E xs,bk:=E.nx,rt:=E.rt } δ'
def Eo (di:DI) (dg:D→Dl→(Dl→Prop)→Prop) (db:DS) (E:b8) (δ:Dl):Prop:=di δ fun ds=>kL dg db E ds δ
theorem RtI.base {B1 B0:Hp}{fps:Nat→List Addr}{H:Hp}{fp:List Addr} (r:RtI B1 Γr fps H fp) (s:aN B0 B1):RtI B0 Γr fps H fp:=⟨r.nd,r.mu,fun a ha=>s.free (r.nw a ha),r.dj⟩
theorem nO {wi:TI}{di:DI}{g:TG}{dg:D→Dl→(Dl→Prop)→Prop}{tb:TS}{db:DS} (hi:IT K Γ wi di) (hg:GT K Γ g dg) (hb:ST K ρ Γr Γ tb Γ Γ db):ST K ρ Γr Γl (Ew wi g tb) Γ Γ (Eo di dg db):=by
  intro B0 Dn E fps δ σ H k o h
  refine hi.run o (hi.mono _ _ _ (fun ds z J H1 fq s1 n1 hit=>?_) h)
  obtain ⟨B1,sB,o1,ag⟩:=(o.same s1).rebase
  have hJ:BL K J B1 ds:=hit B1 o1.b0 (fun a ha=>ag a fun j hj=>n1 j hj a ha) fun a u e im=>by
    rw[ag a fun j hj ha=>((o1.own j hj).2 a ha).2.m4 u e im];exact e
  refine⟨fun i m σ H=>m=ds.length - i∧i≤ds.length∧∃fps δ,Ok K B1 Γ fps δ σ H∧kL dg db E (ds.drop i) δ,⟨ds.length,by omega,Nat.zero_le _,fps,δ,o1,by rw[List.drop_zero];exact z⟩,?_⟩
  rintro i m σ2 H2 ⟨rfl,hi2,fps2,δ2,o2,z2⟩
  by_cases hlt:i<ds.length
  · refine .inr ⟨hJ.go o2.b0 hlt,_,fun σ' H' q=>q,fun x H3 hy=>?_⟩
    obtain ⟨s3,fp,r3,n3⟩:=hJ.yld o2.b0 hy (List.getElem?_eq_getElem hlt)
    rw[List.drop_eq_getElem_cons hlt] at z2
    refine hg.run (o2.same s3) r3 (fun j hj a ha hz=>n3 a ha ((o2.own j hj).2 a hz).1) (hg.mono _ _ _ _ (fun δ' z' fps' σ' o' e'=>?_) z2)
    refine hb (E:={ nx:=kL dg db E (ds.drop (i+1)),ct:=kL dg db E (ds.drop (i+1)),bk:=E.nx,rt:=E.rt }) ⟨fun o4 z4=>⟨ds.length - (i+1),by omega,rfl,hlt,_,_,o4,z4⟩,fun o4 z4=>k.nx (o4.base sB) z4,fun o4 z4=>⟨ds.length - (i+1),by omega,rfl,hlt,_,_,o4,z4⟩,fun o4 r4 i4 z4=>k.rt (o4.base sB) r4 (fun y=>(i4 y).base sB) z4⟩ o' z'
  · have e:i=ds.length:=by omega
    subst e
    rw[List.drop_length] at z2
    exact .inl ⟨hJ.stop o2.b0 (Nat.le_refl _),k.nx (o2.base sB) z2⟩
def uC (f:D→(List D→Prop)→Prop):List D→List D→(List D→Prop)→Prop
  | [],acc,P=>P acc
  | x::xs,acc,P=>f x fun ys=>uC f xs (acc++ys) P
theorem sS {f:D→(List D→Prop)→Prop} (hf:∀x P P',(∀z,P z→P' z)→f x P→f x P'):∀xs acc (P P':List D→Prop),(∀z,P z→P' z)→uC f xs acc P→uC f xs acc P'
  | [],acc,P,P',k,h=>k _ h
  | x::xs,acc,P,P',k,h=>hf x _ _ (fun z h=>sS hf xs _ P P' k h) h
def eU (k:Nat) (idx:List Nat) (δ:Dl):Dl:=List.replicate k none++idx.map fun i=>(δ[i]?).getD none
theorem GJ {k:Nat}{idx:List Nat}{B0:Hp}{fps:Nat→List Addr}{δ:Dl}{σ:St}{H:Hp} (o:Ok K B0 Γ fps δ σ H):Ok K H [] (fun j=>match (eU k idx δ)[j]? with | some (some _)=>fps (idx.getD (j - k) 0) | _=>[]) (eU k idx δ) (h9 k idx σ) H:=by
  refine⟨by simp [eU,h9,AK],aN.refl H,fun i d e=>?_,fun i h=>?_,fun _ h=>(nomatch h),fun _ h=>(nomatch h)⟩
  · rw[e]
    unfold eU at e
    unfold h9 AK
    by_cases hi:i<k
    · rw[List.getElem?_append_left (by simpa using hi)] at e
      simp [hi] at e
    · rw[List.getElem?_append_right (by simpa using hi),List.length_replicate,List.getElem?_map] at e
      cases ej:idx[i - k]? with
      | none=>rw[ej] at e;simp at e
      | some j =>
        rw[ej] at e
        simp only[Option.map_some,Option.some.injEq] at e
        have e':δ[j]?=some (some d):=by
          cases q:δ[j]? with
          | none=>rw[q] at e;cases e
          | some x=>rw[q] at e;simp at e;rw[e]
        obtain ⟨v,h1,h2⟩:=o.val j d e'
        refine⟨v,?_,?_⟩
        · rw[List.getElem?_append_right (by simpa using hi),List.length_replicate,List.getElem?_map,ej]
          simp [h1]
        · show Rf K H d v (fps (idx.getD (i - k) 0))
          rw[List.getD_eq_getElem?_getD,ej]
          exact h2
  · show (match (eU k idx δ)[i]? with | some (some _)=>_ | _=>_)=_
    split
    · exact absurd (by assumption) (h _)
    · rfl
def jW (dg:D→Dl→(Dl→Prop)→Prop) (dt:DT) (de:DE) (δ:Dl) (x:D) (R:List D→Prop):Prop:=dg x δ fun δ2=>dt δ2 fun b=>if b=true then de δ2 fun y=>R [y] else R []
def oQ (di:DI) (dg:D→Dl→(Dl→Prop)→Prop) (dt:DT) (de:DE) (k:Nat) (idx:List Nat) (δ:Dl) (P:DK):Prop:=di δ fun ds=>ds.length≤1000∧uC (jW dg dt de (eU k idx δ)) ds [] fun ys=>P (.lst ys)
theorem yE {Γ':List Nat}{g:TG}{dg:D→Dl→(Dl→Prop)→Prop}{tt:TT}{dt:DT} (hg:GT K Γ' g dg) (ht:TR K Γ' tt dt) (hm:∀δ (P P':DK),(∀x,P x→P' x)→de δ P→de δ P') (δ:Dl):∀x P P',(∀z,P z→P' z)→jW dg dt de δ x P→jW dg dt de δ x P' :=
  fun x P P' k h=>hg.mono _ _ _ _ (fun δ2 h=>ht.mono _ _ _ (fun b h=>eN (hm _ _ _ fun y h=>k _ h) (k _) h) h) h
theorem vn {wi:TI}{di:DI}{g:TG}{dg:D→Dl→(Dl→Prop)→Prop}{tt:TT}{dt:DT}{k:Nat}{idx:List Nat} (hi:IT K [] wi di) (hg:GT K [] g dg) (ht:TR K [] tt dt) (he:EM K [] [] te de) :
    EM K Γ [] (xb wi g tt te k idx) (oQ di dg dt de k idx):=by
  have hm:=yE hg ht he.mono
  refine⟨fun δ P P' k h=>hi.mono _ _ _ (fun ds z=>⟨z.1,sS (hm _) _ _ _ _ (fun ys h=>k _ h) z.2⟩) h,fun {B0 fps δ σ H Q} o h=>hi.run (o.sub (Γ':=[]) fun _ h=>(nomatch h)) (hi.mono _ _ _ (fun ds z J H1 fq s1 n1 hit=>?_) h)⟩
  have hJ:BL K J H1 ds:=hit H1 (aN.refl _) (fun _ _=>rfl) fun a u e im=>e
  obtain ⟨hz,z⟩:=z
  refine⟨fun i m vs H2=>m=ds.length - i∧i≤ds.length∧aN H1 H2∧vs.length≤i∧∃ys fp,Rfs K H2 ys vs fp∧Nw H1 H2 nf [] fp∧uC (jW dg dt de (eU k idx δ)) (ds.drop i) ys fun ys=>∀v H' fp,aN H H'→Rf K H' (.lst ys) v fp→Nw H H' fps [] fp→Q v H',
    ⟨ds.length,by omega,Nat.zero_le _,aN.refl _,Nat.zero_le _,[],[],⟨rfl,rfl⟩,Nw.nil,by rw[List.drop_zero];exact z⟩,?_⟩
  rintro i m vs H2 ⟨rfl,hi2,s2,hvs,ys,fp,r2,n2,z2⟩
  by_cases hlt:i<ds.length
  · refine .inr ⟨hJ.go s2 hlt,jI (by omega),_,fun vs' H' q=>q,fun x H3 hy=>?_⟩
    obtain ⟨s3,fx,r3,n3⟩:=hJ.yld s2 hy (List.getElem?_eq_getElem hlt)
    rw[List.drop_eq_getElem_cons hlt] at z2
    have oi:=(GJ (k:=k) (idx:=idx) ((o.same s1).same (s2.trans s3)))
    refine hg.run oi r3 (fun _ h=>(nomatch h)) (hg.mono _ _ _ _ (fun δ' z' fps' σ' o' e'=>?_) z2)
    refine ht.run o' (ht.mono _ _ _ (fun b z' H4 s4=>eN (fun z'=>he.run (o'.same s4) (he.mono _ _ _ (fun y z' v H5 f5 s5 r5 n5=>?_) z')) (fun z'=>?_) z') z')
    · have s25:=s3.trans (s4.trans s5)
      refine⟨ds.length - (i+1),by omega,rfl,hlt,s2.trans s25,by simp;omega,ys++[y],fp++f5,(r2.same s25).append (Rfs.one r5),⟨?_,fun a ha=>?_,fun a ha=>?_⟩,z'⟩
      · refine List.nodup_append.mpr ⟨n2.nd,n5.nd,fun a h1 b h2 e=>?_⟩
        subst e
        exact ((n2.mu a h1).same (s3.trans s4)).some (n5.fresh a h2)
      · rcases List.mem_append.mp ha with h | h
        · exact (n2.mu a h).same s25
        · exact n5.mu a h
      · rcases List.mem_append.mp ha with h | h
        · exact n2.src a h
        · exact .inl ((s2.trans (s3.trans s4)).free (n5.fresh a h))
    · have s24:=s3.trans s4
      dsimp only at z'
      rw[List.append_nil] at z'
      exact⟨ds.length - (i+1),by omega,rfl,hlt,s2.trans s24,by omega,ys,fp,r2.same s24,n2.same s24,z'⟩
  · have e:i=ds.length:=by omega
    subst e
    rw[List.drop_length] at z2
    refine .inl ⟨hJ.stop s2 (Nat.le_refl _),jI (by omega),fun p hp=>?_⟩
    have hs:aN H2 (upd H2 p (.lst vs)):=aN.lO hp
    refine z2 _ _ (p::fp) ((s1.trans s2).trans hs) ⟨p,vs,fp,rfl,aP,rfl,r2.same hs⟩ ⟨List.nodup_cons.mpr ⟨fun h=>(n2.mu p h).some hp,n2.nd⟩,fun a ha=>?_,fun a ha=>?_⟩
    · rcases List.mem_cons.mp ha with e | h
      · subst e;exact .inl ⟨vs,aP⟩
      · exact (n2.mu a h).same hs
    · rcases List.mem_cons.mp ha with e | h
      · subst e;exact .inl ((s1.trans s2).free hp)
      · exact .inl (s1.free (n2.fresh a h))
def EA (_u0:Dl) (P:Bool→Prop):Prop:=P true
theorem Fq:TR K Γ DJ EA:=⟨fun _ _ _ k h=>k _ h,fun {_ _ _ _ H _} o q=>q H (aN.refl H)⟩
def aO (N:List Str) (ds:List D):Dl:=ds.map some++List.replicate (N.length - ds.length) none
theorem Rfs.split {H:Hp}:∀{ds:List D}{vs:List V}{fp:List Addr},Rfs K H ds vs fp→∃fps:Nat→List Addr,(∀i d,ds[i]?=some d→∃v,vs[i]?=some v∧Rf K H d v (fps i))∧∀i,ds.length≤i→fps i=[]
  | [],vs,fp,h=>⟨fun _=>[],fun i d e=>by simp at e,fun _ _=>rfl⟩
  | d::ds,vs,fp,h=>by
    obtain ⟨x,r,f1,f2,rfl,rfl,h1,h2⟩:=h
    obtain ⟨fps,k1,k2⟩:=Rfs.split h2
    refine⟨fun i=>match i with | 0=>f1 | j+1=>fps j,fun i d' e=>?_,fun i hi=>?_⟩
    · cases i with
      | zero=>simp at e;subst e;exact⟨x,rfl,h1⟩
      | succ j=>simpa using k1 j d' (by simpa using e)
    · cases i with
      | zero=>simp at hi
      | succ j=>exact k2 j (by simpa using hi)
theorem lU {N:List Str}{ds:List D}{vs:List V}{H:Hp} (h:Rps K H ds vs):∃fps,Ok K H [] fps (aO N ds) (L2.start N vs) H:=by
  obtain ⟨fp,h⟩:=h
  have hl:=h.length
  obtain ⟨fps,k1,k2⟩:=h.split
  refine⟨fps,by simp [aO,L2.start,hl],aN.refl H,fun i d e=>?_,fun i e=>?_,fun _ h=>(nomatch h),fun _ h=>(nomatch h)⟩
  · unfold aO at e
    unfold L2.start
    by_cases hi:i<ds.length
    · rw[List.getElem?_append_left (by simpa using hi),List.getElem?_map,List.getElem?_eq_getElem hi] at e
      simp at e
      obtain ⟨v,h1,h2⟩:=k1 i d (by rw[List.getElem?_eq_getElem hi,e])
      exact⟨v,by rw[List.getElem?_append_left (by simpa [hl] using hi),List.getElem?_map,h1];rfl,h2⟩
    · rw[List.getElem?_append_right (by simpa using hi),List.getElem?_replicate] at e
      split at e<;>cases e
  · by_cases hi:i<ds.length
    · refine absurd ?_ (e ds[i])
      unfold aO
      rw[List.getElem?_append_left (by simpa using hi),List.getElem?_map,List.getElem?_eq_getElem hi]
      rfl
    · exact k2 i (by omega)
abbrev m5 (P:DK):b8:=⟨fun _=>P .non,fun x _=>P x,fun _=>False,fun _=>False⟩
theorem bF {N:List Str}{S:DSp} (hs:ST K true [] [] t [] Γn d) (hd:∀ds P,S ds P→d (m5 P) (aO N ds)) :
    ∀{vs H Q E},spP K S vs H Q E→t { nx:=fun _ H'=>Q .non H',rt:=Q } (L2.start N vs) H:=by
  rintro vs H Q E ⟨ds,r,h⟩
  obtain ⟨fps,o⟩:=lU (N:=N) r
  refine hs (E:=m5 _) ⟨fun {fps δ σ H'} o z=>?_,fun o (z:False)=>z.elim,fun o (z:False)=>z.elim,fun o r i z=>?_⟩ o (hd ds _ h)
  · exact z _ H' [] o.b0 ⟨rfl,rfl⟩ Nw.nil
  · exact z _ _ _ o.b0 r ⟨(i rfl).nd,(i rfl).mu,fun a ha=>.inl ((i rfl).nw a ha)⟩
theorem Ek {N:List Str}{S:DSp} (hs:ST K false [] [] t [] Γn d) (hd:∀ds P,S ds P→d (m5 P) (aO N ds)) :
    ∀{vs H Q E},spR K S vs H Q E→t { nx:=fun _ H'=>Q .non H',rt:=Q } (L2.start N vs) H:=by
  rintro vs H Q E ⟨ds,r,h⟩
  obtain ⟨fps,o⟩:=lU (N:=N) r
  refine hs (E:=m5 _) ⟨fun {fps δ σ H'} o z=>?_,fun o (z:False)=>z.elim,fun o (z:False)=>z.elim,fun o r i z=>?_⟩ o (hd ds _ h)
  · exact z _ H' o.b0 ⟨[],rfl,rfl⟩
  · exact z _ _ o.b0 ⟨_,r⟩
end
end L3
namespace L3
open PySem L2
section
variable {K:PySem.W.Frag}{ρ:Bool}{Γr Γl Γ Γ1 Γ2 Γn M:List Nat}{t u:TS}{te ta tb tx t1 t2:TE}{de da db dx d1 d2:DE}{d e:DS}
variable {B0:Hp}{fps:Nat→List Addr}{δ:Dl}{σ:St}{H H':Hp}
theorem Ok.write (o:Ok K B0 Γ fps δ σ H) {i:Nat} (hi:i∈Γ) {d':D}{v:V}{fp':List Addr} (hv:σ[i]?=some (some v)) (r:Rf K H' d' v fp') (nd:fp'.Nodup) (mu:∀a∈fp',Mu H' a)
    (src:∀a∈fp',a∈fps i∨(B0 a=none∧∀j,a∉fps j)) (keep:∀b u,b∉fps i→H b=some u→H' b=some u) :
    Ok K B0 Γ (fun j=>if j=i then fp' else fps j) (δ.set i (some d')) σ H':=by
  have hlt:i<δ.length:=by rw[← o.len];exact (List.getElem?_eq_some_iff.mp hv).1
  refine⟨by simp [o.len],fun b u e=>?_,fun j d e=>?_,fun j h=>?_,fun j hj=>?_,fun j hj k hk a ha=>?_⟩
  · refine keep b u (fun z=>?_) (o.b0 b u e)
    have:=((o.own i hi).2 b z).1
    rw[e] at this;cases this
  · by_cases h:j=i
    · subst h
      rw[List.getElem?_set] at e
      simp [hlt] at e
      subst e
      exact⟨v,hv,by rw[if_pos rfl];exact r⟩
    · rw[List.getElem?_set_ne (Ne.symm h)] at e
      obtain ⟨w,h1,h2⟩:=o.val j d e
      refine⟨w,h1,?_⟩
      rw[if_neg h]
      exact h2.mono (fun a ha u e=>keep a u (fun z=>o.dj i hi j h a z ha) e) fun a u e im=>keep a u (fun z=>((o.own i hi).2 a z).2.m4 u e im) e
  · by_cases h':j=i
    · subst h'
      exact absurd (by rw[List.getElem?_set];simp [hlt]) (h d')
    · rw[if_neg h']
      exact o.non j fun d z=>h d (by rw[List.getElem?_set_ne (Ne.symm h')];exact z)
  · by_cases h:j=i
    · subst h
      rw[if_pos rfl]
      refine⟨nd,fun a ha=>⟨?_,mu a ha⟩⟩
      rcases src a ha with z | z
      · exact ((o.own j hi).2 a z).1
      · exact z.1
    · rw[if_neg h]
      refine⟨(o.own j hj).1,fun a ha=>⟨((o.own j hj).2 a ha).1,?_⟩⟩
      have hn:a∉fps i:=fun z=>o.dj i hi j h a z ha
      rcases ((o.own j hj).2 a ha).2 with ⟨x,z⟩ | ⟨x,z⟩ | ⟨x,z⟩ | ⟨C,dx,fs,z⟩
      · exact .inl ⟨x,keep a _ hn z⟩
      · exact .inr (.inl ⟨x,keep a _ hn z⟩)
      · exact .inr (.inr (.inl ⟨x,keep a _ hn z⟩))
      · exact .inr (.inr (.inr ⟨C,dx,fs,keep a _ hn z⟩))
  · by_cases h:j=i
    · subst h
      rw[if_pos rfl] at ha
      rw[if_neg hk]
      rcases src a ha with z | z
      · exact o.dj j hi k hk a z
      · exact z.2 k
    · rw[if_neg h] at ha
      by_cases hki:k=i
      · rw[if_pos hki]
        intro z
        rcases src a z with y | y
        · exact o.dj j hj i (Ne.symm h) a ha y
        · exact y.2 j ha
      · rw[if_neg hki]
        exact o.dj j hj k hk a ha
def lQ (δ:Dl) (i:Nat) (P:List D→Prop):Prop:=match δ[i]? with | some (some (.lst ds))=>P ds | _=>False
theorem jr {δ:Dl}{i:Nat}{P:List D→Prop} (h:lQ δ i P):∃ds,δ[i]?=some (some (.lst ds))∧P ds:=by
  unfold lQ at h;split at h
  · exact⟨_,by assumption,h⟩
  · exact h.elim
theorem Ok.vQ (o:Ok K B0 Γ fps δ σ H) {i:Nat}{ds:List D} (e:δ[i]?=some (some (.lst ds))):∃a xs fq,σ[i]?=some (some (.ref a))∧H a=some (.lst xs)∧fps i=a::fq∧Rfs K H ds xs fq:=by
  obtain ⟨v,h1,a,xs,fq,rfl,h2,h3,h4⟩:=o.val i _ e
  exact⟨a,xs,fq,h1,h2,h3,h4⟩
theorem mw {a:Addr}{w:HO}{fp:List Addr} (ha:a∈fp):∀b u,b∉fp→H b=some u→upd H a w b=some u:=fun b u hb e=>by
  rw[bf (fun z=>hb (by rw[z];exact ha))];exact e
def wQ (M:List Nat) (i:Nat) (de:DE) (E:b8) (δ:Dl):Prop:=lQ δ i fun ds=>de δ fun x=>ds.length<1000∧E.nx ((kill M δ).set i (some (.lst (ds++[x]))))
theorem qd (i:Nat) (he:EM K Γ M te de) (hi:i∈Γ∧i∉M:=by decide) (hM:∀j∈M,j∈Γ:=by decide):ST K ρ Γr Γl (qz (tBM K "list" qY (jd i) (fg te mT))) Γ (minus Γ M) (wQ M i de):=by
  intro B0 Dn E fps δ σ H k o h
  obtain ⟨ds,e,h⟩:=jr h
  obtain ⟨a,xs,fq,h1,h2,h3,h4⟩:=o.vQ e
  refine⟨.ref a,h1,.inl ⟨rfl,xs,.inl (.inl h2)⟩,he.run o (he.mono _ _ _ (fun x z v H1 fp s r n=>?_) h)⟩
  refine⟨a,xs,v,rfl,rfl,s _ _ h2,by rw[h4.length];exact Nat.lt_of_lt_of_le z.1 (jI (Nat.le_refl _)),?_⟩
  have ok:=(o.kill M).same s
  have hil:i∈minus Γ M:=c8.mpr hi
  have hown:=o.own i hi.1
  rw[h3] at hown
  obtain ⟨nd,hmu⟩:=hown
  obtain ⟨na,ndq⟩:=List.nodup_cons.mp nd
  have hfa:∀b∈fp,b≠a∧b∉fq:=fun b hb=>by
    have:b∉fps i:=fun z=>by
      rcases n.src b hb with y | ⟨j,hj,y⟩
      · exact o.dom z y
      · exact o.dj j (hM j hj) i (fun w=>hi.2 (by rw[w];exact hj)) b y z
    rw[h3] at this
    exact⟨fun z=>this (by rw[z];exact List.mem_cons_self),fun z=>this (List.mem_cons_of_mem _ z)⟩
  have nt:=((hmu a List.mem_cons_self).2.same s).m4
  refine k.nx (ok.write hil (d':=.lst (ds++[x])) (fp':=a::(fq++fp)) h1 ⟨a,xs++[v],fq++fp,rfl,aP,rfl,?_⟩ ?_ (fun b hb=>?_) (fun b hb=>?_) ?_) z.2
  · exact ((h4.same s).upd na nt).append ((Rfs.one r).upd (fun w=>(hfa a w).1 rfl) nt)
  · refine List.nodup_cons.mpr ⟨fun w=>?_,List.nodup_append.mpr ⟨ndq,n.nd,fun b h1 c h2 z=>?_⟩⟩
    · rcases List.mem_append.mp w with w | w
      · exact na w
      · exact (hfa a w).1 rfl
    · subst z;exact (hfa b h2).2 h1
  · refine Mu.upd ?_ (.inl ⟨_,rfl⟩)
    rcases List.mem_cons.mp hb with w | w
    · subst w;exact .inl ⟨xs,s _ _ h2⟩
    · rcases List.mem_append.mp w with w | w
      · exact (hmu b (List.mem_cons_of_mem _ w)).2.same s
      · exact n.mu b w
  · show b∈(if i∈M then [] else fps i)∨_
    rw[if_neg hi.2,h3]
    rcases List.mem_cons.mp hb with w | w
    · subst w;exact .inl List.mem_cons_self
    · rcases List.mem_append.mp w with w | w
      · exact .inl (List.mem_cons_of_mem _ w)
      · refine .inr ⟨?_,fun j=>?_⟩
        · rcases n.src b w with y | ⟨j,hj,y⟩
          · exact o.b0.free y
          · exact ((o.own j (hM j hj)).2 b y).1
        · show b∉(if j∈M then [] else fps j)
          split
          · exact List.not_mem_nil
          · rename_i hj
            intro z
            rcases n.src b w with y | ⟨j',hj',y⟩
            · exact o.dom z y
            · exact o.dj j' (hM j' hj') j (fun q=>hj (by rw[q];exact hj')) b y z
  · show ∀b u,b∉(if i∈M then [] else fps i)→_
    rw[if_neg hi.2,h3]
    exact mw List.mem_cons_self
theorem Rfs.set {H:Hp}{x:D}{v:V}{fp:List Addr} (r:Rf K H x v fp) (nd:fp.Nodup):∀{ds:List D}{xs:List V}{fq:List Addr}{j:Nat},Rfs K H ds xs fq→fq.Nodup→(∀a∈fp,a∉fq)→j<ds.length →
    ∃fq',Rfs K H (ds.set j x) (xs.set j v) fq'∧fq'.Nodup∧∀a∈fq',a∈fq∨a∈fp
  | [],xs,fq,j,h,_,_,hj=>by simp at hj
  | d::ds,xs,fq,j,h,hn,hd,hj=>by
    obtain ⟨y,ys,f1,f2,rfl,rfl,h1,h2⟩:=h
    obtain ⟨n1,n2,n3⟩:=List.nodup_append.mp hn
    cases j with
    | zero =>
      refine⟨fp++f2,⟨v,ys,fp,f2,rfl,rfl,r,h2⟩,List.nodup_append.mpr ⟨nd,n2,fun a ha b hb z=>?_⟩,fun a ha=>?_⟩
      · subst z;exact hd a ha (List.mem_append_right _ hb)
      · exact (List.mem_append.mp ha).elim .inr fun z=>.inl (List.mem_append_right _ z)
    | succ j =>
      obtain ⟨fq',r',nd',k'⟩:=Rfs.set r nd (j:=j) h2 n2 (fun a ha z=>hd a ha (List.mem_append_right _ z)) (by simpa using hj)
      refine⟨f1++fq',⟨y,ys.set j v,f1,fq',rfl,rfl,h1,r'⟩,List.nodup_append.mpr ⟨n1,nd',fun a ha b hb z=>?_⟩,fun a ha=>?_⟩
      · subst z
        rcases k' a hb with w | w
        · exact n3 a ha a w rfl
        · exact hd a w (List.mem_append_left _ ha)
      · rcases List.mem_append.mp ha with w | w
        · exact .inl (List.mem_append_left _ w)
        · exact (k' a w).imp (List.mem_append_right _) id
def rg (i:Nat) (de dx:DE) (E:b8) (δ:Dl):Prop:=de δ fun x=>lQ δ i fun ds=>dx δ fun k=>asI [k] fun n=>match ixN ds.length n with | some j=>E.nx (δ.set i (some (.lst (ds.set j x)))) | none=>False
theorem ym {n:Nat}{i:Int}{j:Nat} (h:ixN n i=some j):j<n:=by
  unfold ixN at h
  split at h
  · split at h
    · cases h;omega
    · cases h
  · split at h
    · cases h;omega
    · cases h
theorem yU (o:Ok K B0 Γ fps δ σ H) {i j:Nat} (hi:i∈Γ) {ds:List D}{x:D}{v:V}{fp:List Addr} (e:δ[i]?=some (some (.lst ds))) (r:Rf K H x v fp) (nd:fp.Nodup) (mu:∀a∈fp,Mu H a) (src:∀a∈fp,B0 a=none∧∀j,a∉fps j) (hj:j<ds.length) :
    ∃a xs,σ[i]?=some (some (.ref a))∧H a=some (.lst xs)∧xs.length=ds.length∧∃fps',Ok K B0 Γ fps' (δ.set i (some (.lst (ds.set j x)))) σ (upd H a (.lst (xs.set j v))):=by
  obtain ⟨a,xs,fq,h1,h2,h3,h4⟩:=o.vQ e
  have hown:=o.own i hi
  rw[h3] at hown
  obtain ⟨nd0,hmu⟩:=hown
  obtain ⟨na,ndq⟩:=List.nodup_cons.mp nd0
  have nt:=(hmu a List.mem_cons_self).2.m4
  have hfq:∀b∈fp,b∉fps i:=fun b hb=>(src b hb).2 i
  rw[h3] at hfq
  obtain ⟨fq',r',nd',k'⟩:=Rfs.set r nd h4 ndq (fun b hb z=>hfq b hb (List.mem_cons_of_mem _ z)) hj
  have naq:a∉fq':=fun z=>(k' a z).elim na fun w=>hfq a w List.mem_cons_self
  refine⟨a,xs,h1,h2,h4.length,_,o.write hi (fp':=a::fq') h1 ⟨a,xs.set j v,fq',rfl,aP,rfl,r'.upd naq nt⟩ (List.nodup_cons.mpr ⟨naq,nd'⟩) (fun b hb=>Mu.upd ?_ (.inl ⟨_,rfl⟩)) (fun b hb=>?_) ?_⟩
  · rcases List.mem_cons.mp hb with w | w
    · subst w;exact .inl ⟨xs,h2⟩
    · rcases k' b w with w | w
      · exact (hmu b (List.mem_cons_of_mem _ w)).2
      · exact mu b w
  · rw[h3]
    rcases List.mem_cons.mp hb with w | w
    · subst w;exact .inl List.mem_cons_self
    · rcases k' b w with w | w
      · exact .inl (List.mem_cons_of_mem _ w)
      · exact .inr (src b w)
  · rw[h3];exact mw List.mem_cons_self
theorem gJ {x:D}{P:Int→Prop} (h:asI [x] P):∃j,x=.int j∧P j:=by
  obtain ⟨j,e,h⟩:=oH h;cases e;exact⟨j,rfl,h⟩
theorem sM (i:Nat) (he:EM K Γ [] te de) (hx:ER K Γ tx dx) (hi:i∈Γ:=by decide):ST K ρ Γr Γl (t4 te (El (jd i) tx Aj)) Γ Γ (rg i de dx):=by
  intro B0 Dn E fps δ σ H k o h
  refine he.run o (he.mono _ _ _ (fun x z v H1 fp s r n=>?_) h)
  obtain ⟨ds,e,z⟩:=jr z
  obtain ⟨a0,_,_,h1,_⟩:=(o.same s).vQ e
  refine⟨.ref a0,h1,hx.run (o.same s) (hx.mono _ _ _ (fun y z w H2 s2 r2=>?_) z)⟩
  obtain ⟨m,em,z9⟩:=gJ z
  subst em
  cases ej:ixN ds.length m with
  | none=>rw[ej] at z9;exact z9.elim
  | some j =>
    rw[ej] at z9
    obtain ⟨a,xs,e1,e2,e3,fps',o'⟩:=yU ((o.same s).same s2) hi e (r.same s2) n.nd (fun a ha=>(n.mu a ha).same s2) (fun a ha=>⟨o.b0.free (n.fresh a ha),fun j z=>o.dom z (n.fresh a ha)⟩) (ym ej)
    rw[h1] at e1;cases e1
    exact⟨a0,xs,m,j,rfl,r2.int,e2,by rw[e3];exact ej,k.nx o' z9⟩
theorem Rfs.inner {H:Hp}:∀{ds:List D}{xs:List V}{fq:List Addr}{j:Nat}{es:List D},Rfs K H ds xs fq→fq.Nodup→ds[j]?=some (.lst es) →
    ∃b ys fe,xs[j]?=some (.ref b)∧H b=some (.lst ys)∧Rfs K H es ys fe∧b∈fq∧(∀a∈fe,a∈fq)∧b∉fe∧fe.Nodup ∧
      ∀{H':Hp}{es':List D}{ys':List V}{fe':List Addr},(∀c u,c≠b→H c=some u→H' c=some u)→H' b=some (.lst ys')→(∀u,H b=some u→¬ Im u)→Rfs K H' es' ys' fe'→fe'.Nodup→b∉fe'→(∀a∈fe',a∈fe∨a∉fq) →
        ∃fq',Rfs K H' (ds.set j (.lst es')) xs fq'∧fq'.Nodup∧∀a∈fq',a∈fq∨a∈fe'
  | [],xs,fq,j,es,h,_,e=>by simp at e
  | d::ds,xs,fq,j,es,h,hn,e=>by
    obtain ⟨y,ys,f1,f2,rfl,rfl,h1,h2⟩:=h
    obtain ⟨n1,n2,n3⟩:=List.nodup_append.mp hn
    cases j with
    | zero =>
      simp at e;subst e
      obtain ⟨b,zs,fe,rfl,hb,rfl,h3⟩:=h1
      obtain ⟨m1,m2⟩:=List.nodup_cons.mp n1
      refine⟨b,zs,fe,rfl,hb,h3,List.mem_append_left _ List.mem_cons_self,fun a ha=>List.mem_append_left _ (List.mem_cons_of_mem _ ha),m1,m2,fun {H' es' ys' fe'} k1 k2 k3 k4 k5 k6 k7=>?_⟩
      refine⟨(b::fe')++f2,⟨_,ys,b::fe',f2,rfl,rfl,⟨b,ys',fe',rfl,k2,rfl,k4⟩,?_⟩,List.nodup_append.mpr ⟨List.nodup_cons.mpr ⟨k6,k5⟩,n2,fun a ha c hc z=>?_⟩,fun a ha=>?_⟩
      · exact h2.mono (fun c hc u e=>k1 c u (fun z=>n3 b List.mem_cons_self c hc z.symm) e) fun c u e im=>k1 c u (fun z=>k3 u (by rw[← z];exact e) im) e
      · subst z
        rcases List.mem_cons.mp ha with w | w
        · exact n3 a (by rw[w];exact List.mem_cons_self) a hc rfl
        · rcases k7 a w with w | w
          · exact n3 a (List.mem_cons_of_mem _ w) a hc rfl
          · exact w (List.mem_append_right _ hc)
      · rcases List.mem_append.mp ha with w | w
        · rcases List.mem_cons.mp w with w | w
          · exact .inl (List.mem_append_left _ (by rw[w];exact List.mem_cons_self))
          · exact .inr w
        · exact .inl (List.mem_append_right _ w)
    | succ j =>
      obtain ⟨b,zs,fe,e1,hb,h3,hbq,hfe,hbe,hnd,K'⟩:=Rfs.inner (j:=j) h2 n2 (by simpa using e)
      refine⟨b,zs,fe,by simpa using e1,hb,h3,List.mem_append_right _ hbq,fun a ha=>List.mem_append_right _ (hfe a ha),hbe,hnd,fun {H' es' ys' fe'} k1 k2 k3 k4 k5 k6 k7=>?_⟩
      obtain ⟨fq',r',nd',s'⟩:=K' k1 k2 k3 k4 k5 k6 fun a ha=>(k7 a ha).imp id fun w z=>w (List.mem_append_right _ z)
      have hy:Rf K H' d y f1:=h1.mono (fun c hc u e=>k1 c u (fun z=>n3 c hc b hbq z) e) fun c u e im=>k1 c u (fun z=>k3 u (by rw[← z];exact e) im) e
      refine⟨f1++fq',⟨y,ys,f1,fq',rfl,rfl,hy,r'⟩,List.nodup_append.mpr ⟨n1,nd',fun a ha c hc z=>?_⟩,fun a ha=>?_⟩
      · subst z
        rcases s' a hc with w | w
        · exact n3 a ha a w rfl
        · rcases k7 a w with w | w
          · exact n3 a ha a (hfe a w) rfl
          · exact w (List.mem_append_left _ ha)
      · rcases List.mem_append.mp ha with w | w
        · exact .inl (List.mem_append_left _ w)
        · exact (s' a w).imp (List.mem_append_right _) id
theorem pC (o:Ok K B0 Γ fps δ σ H) {i j:Nat} (hi:i∈Γ) {ds es es':List D} (e:δ[i]?=some (some (.lst ds))) (ej:ds[j]?=some (.lst es)) :
    ∃a xs b ys fe,σ[i]?=some (some (.ref a))∧H a=some (.lst xs)∧xs.length=ds.length∧xs[j]?=some (.ref b)∧H b=some (.lst ys)∧Rfs K H es ys fe∧fe.Nodup∧b∉fe∧(∀a∈fe,a∈fps i)∧b∈fps i ∧
      ∀{ys':List V}{fe':List Addr},Rfs K H es' ys' fe'→fe'.Nodup→b∉fe'→(∀c∈fe',Mu H c)→(∀c∈fe',c∈fe∨(B0 c=none∧∀j,c∉fps j))→∃fps',Ok K B0 Γ fps' (δ.set i (some (.lst (ds.set j (.lst es'))))) σ (upd H b (.lst ys')):=by
  obtain ⟨a,xs,fq,h1,h2,h3,h4⟩:=o.vQ e
  have hown:=o.own i hi
  rw[h3] at hown
  obtain ⟨nd0,hmu⟩:=hown
  obtain ⟨na,ndq⟩:=List.nodup_cons.mp nd0
  obtain ⟨b,ys,fe,e1,hb,h5,hbq,hfe,hbe,hnd,K'⟩:=h4.inner ndq ej
  refine⟨a,xs,b,ys,fe,h1,h2,h4.length,e1,hb,h5,hnd,hbe,fun c hc=>by rw[h3];exact List.mem_cons_of_mem _ (hfe c hc),by rw[h3];exact List.mem_cons_of_mem _ hbq,fun {ys' fe'} r nd nb mu src=>?_⟩
  have nt:=(hmu b (List.mem_cons_of_mem _ hbq)).2.m4
  have hab:a≠b:=fun z=>na (by rw[z];exact hbq)
  obtain ⟨fq',r',nd',k'⟩:=K' (H':=upd H b (.lst ys')) (fun c u hc e=>by rw[bf hc];exact e) aP nt (r.upd nb nt) nd nb fun c hc=>(src c hc).imp id fun w z=>w.2 i (by rw[h3];exact List.mem_cons_of_mem _ z)
  have naq:a∉fq':=fun z=>by
    rcases k' a z with w | w
    · exact na w
    · rcases src a w with w | w
      · exact na (hfe a w)
      · exact w.2 i (by rw[h3];exact List.mem_cons_self)
  refine⟨_,o.write hi (fp':=a::fq') h1 ⟨a,xs,fq',rfl,by rw[bf hab];exact h2,rfl,r'⟩ (List.nodup_cons.mpr ⟨naq,nd'⟩) (fun c hc=>Mu.upd ?_ (.inl ⟨_,rfl⟩)) (fun c hc=>?_) ?_⟩
  · rcases List.mem_cons.mp hc with w | w
    · subst w;exact .inl ⟨xs,h2⟩
    · rcases k' c w with w | w
      · exact (hmu c (List.mem_cons_of_mem _ w)).2
      · exact mu c w
  · rw[h3]
    rcases List.mem_cons.mp hc with w | w
    · subst w;exact .inl List.mem_cons_self
    · rcases k' c w with w | w
      · exact .inl (List.mem_cons_of_mem _ w)
      · rcases src c w with w | w
        · exact .inl (List.mem_cons_of_mem _ (hfe c w))
        · exact .inr w
  · rw[h3];exact mw (List.mem_cons_of_mem _ hbq)
def uG (o:Option D) (P:List D→Prop):Prop:=match o with | some (.lst es)=>P es | _=>False
theorem mG {o:Option D}{P:List D→Prop} (h:uG o P):∃es,o=some (.lst es)∧P es:=by
  unfold uG at h;split at h
  · exact⟨_,rfl,h⟩
  · exact h.elim
def mJ (i:Nat) (de d1 d2:DE) (E:b8) (δ:Dl):Prop:=de δ fun x=>lQ δ i fun ds=>d1 δ fun k=>asI [k] fun m=>uG (atI ds m) fun es=>d2 δ fun k2=>asI [k2] fun m2=>match ixN ds.length m,ixN es.length m2 with | some j,some j2=>E.nx (δ.set i (some (.lst (ds.set j (.lst (es.set j2 x)))))) | _,_=>False
theorem jU (i:Nat) (he:EM K Γ [] te de) (h1:ER K Γ t1 d1) (h2:ER K Γ t2 d2) (hi:i∈Γ:=by decide):ST K ρ Γr Γl (t4 te (El (tOp (AH K) (jd i) t1) t2 Aj)) Γ Γ (mJ i de d1 d2):=by
  intro B0 Dn E fps δ σ H k o h
  refine he.run o (he.mono _ _ _ (fun x z v H1 fp s r n=>?_) h)
  obtain ⟨ds,e,z⟩:=jr z
  obtain ⟨a0,xs0,fq0,g1,_⟩:=(o.same s).vQ e
  refine⟨.ref a0,g1,h1.run (o.same s) (h1.mono _ _ _ (fun y z w H2 s2 r2=>?_) z)⟩
  obtain ⟨m,em,z8⟩:=gJ z
  subst em
  obtain ⟨es,ej,z8⟩:=mG z8
  cases ejj:ixN ds.length m with
  | none=>unfold atI at ej;rw[ejj] at ej;cases ej
  | some j =>
    have o2:=(o.same s).same s2
    have ej':ds[j]?=some (.lst es):=by unfold atI at ej;rw[ejj] at ej;exact ej
    obtain ⟨a,xs,b,ys,fe,e1,e2,e3,e4,e5,e6,e7,e8,e9,_,KK⟩:=pC (es':=[]) o2 hi e ej'
    rw[g1] at e1;cases e1
    refine⟨a0,xs,m,.ref b,rfl,r2.int,.inl (.inl e2),by unfold atI;rw[e3,ejj];exact e4,h2.run o2 (h2.mono _ _ _ (fun y2 z w2 H3 s3 r3=>?_) z8)⟩
    obtain ⟨m2,em2,z9⟩:=gJ z
    subst em2
    rw[ejj] at z9
    cases ej2:ixN es.length m2 with
    | none=>rw[ej2] at z9;exact z9.elim
    | some j2 =>
      rw[ej2] at z9
      have o3:=o2.same s3
      obtain ⟨a',xs',b',ys',fe',f1,f2,f3,f4,f5,f6,f7,f8,f9,f10,KK⟩:=pC (es':=es.set j2 x) o3 hi e ej'
      rw[g1] at f1;cases f1
      rw[s3 _ _ e2] at f2;cases f2
      rw[e4] at f4;cases f4
      have r4:=r.same (s2.trans s3)
      have src:∀c∈fp,B0 c=none∧∀j,c∉fps j:=fun a ha=>⟨o.b0.free (n.fresh a ha),fun j z=>o.dom z (n.fresh a ha)⟩
      obtain ⟨fq',r',nd',k'⟩:=Rfs.set r4 n.nd f6 f7 (fun c hc z=>(src c hc).2 i (f9 c z)) (ym ej2)
      have mu':∀c∈fq',Mu H3 c:=fun c hc=>by
        rcases k' c hc with w | w
        · exact ((o3.own i hi).2 c (f9 c w)).2
        · exact (n.mu c w).same (s2.trans s3)
      obtain ⟨fps',o'⟩:=KK r' nd' (fun z=>(k' b z).elim f8 fun w=>(src b w).2 i f10) mu' (fun c hc=>(k' c hc).imp id fun w=>src c w)
      exact⟨b,ys',m2,j2,rfl,r3.int,f5,by rw[f6.length];exact ej2,k.nx o' z9⟩
def cutD (ds:List D) (lo hi:Option Int):List D:=(ds.drop (HT.sIx ds.length 0 lo)).take (HT.sIx ds.length ds.length hi - HT.sIx ds.length 0 lo)
abbrev DO:=Dl→(Option Int→Prop)→Prop
structure OR (K:PySem.W.Frag) (Γ:List Nat) (t:TO) (d:DO):Prop where
  mono:∀δ (P P':Option Int→Prop),(∀x,P x→P' x)→d δ P→d δ P'
  run:∀{B0 fps δ σ H Q},Ok K B0 Γ fps δ σ H→d δ (fun x=>∀H',aN H H'→Q x H')→t σ H Q
def vv (_u0:Dl) (P:Option Int→Prop):Prop:=P none
def Cy (d:DE) (δ:Dl) (P:Option Int→Prop):Prop:=d δ fun x=>asI [x] fun i=>P (some i)
theorem or_none:OR K Γ zi vv:=⟨fun _ _ _ k h=>k _ h,fun {_ _ _ _ H _} o q=>q H (aN.refl H)⟩
theorem or_some (h:ER K Γ te de):OR K Γ (E4 te) (Cy de):=⟨fun δ P P' k q=>h.mono _ _ _ (fun x z=>by obtain ⟨j,rfl,z⟩:=gJ z;exact k _ z) q,
  fun o q=>h.run o (h.mono _ _ _ (fun x z v H' s r=>by obtain ⟨j,rfl,z⟩:=gJ z;exact⟨j,r.int,z H' s⟩) q)⟩
def vSl (de:DE) (dl dh:DO) (δ:Dl) (P:DK):Prop:=de δ fun x=>dl δ fun l=>dh δ fun u=>asL x fun ds=>ds.all D.bC=true∧P (.lst (cutD ds l u))
theorem D6 {ds:List D}{lo hi:Option Int}:AB (ds.map D.toV) lo hi=(cutD ds lo hi).map D.toV:=by
  unfold AB cutD
  rw[List.length_map,List.map_take,List.map_drop]
theorem BJ {ds:List D}{lo hi:Option Int} (h:ds.all D.bC=true):(cutD ds lo hi).all D.bC=true:=by
  unfold cutD
  rw[List.all_eq_true] at h ⊢
  exact fun x hx=>h x (List.mem_of_mem_drop (List.mem_of_mem_take hx))
theorem Hn {tl th:TO}{dl dh:DO} (he:ER K Γ te de) (hl:OR K Γ tl dl) (hh:OR K Γ th dh):EM K Γ [] (tSl (FR K) te tl th) (vSl de dl dh) :=
  ⟨fun δ P P' k h=>he.mono _ _ _ (fun x z=>hl.mono _ _ _ (fun l z=>hh.mono _ _ _ (fun u z=>by obtain ⟨ds,e,z⟩:=dM z;exact kW e ⟨z.1,k _ z.2⟩) z) z) h,
   fun {B0 fps δ σ H Q} o h=>he.run o (he.mono _ _ _ (fun x z v H1 s1 r1=>hl.run (o.same s1) (hl.mono _ _ _ (fun l z H2 s2=>hh.run ((o.same s1).same s2) (hh.mono _ _ _ (fun u z H3 s3=>by
    obtain ⟨ds,e,z⟩:=dM z
    obtain ⟨a,xs,fq,rfl,hs,hr⟩:=(r1.same (s2.trans s3)).seq e
    obtain ⟨rfl,rfl⟩:=hr.lE z.1
    refine⟨a,_,rfl,hs,fun p hp=>?_⟩
    rw[D6]
    have s4:aN H3 (upd H3 p (.lst ((cutD ds l u).map D.toV))):=aN.lO hp
    refine z.2 _ _ [p] (((s1.trans s2).trans s3).trans s4) ⟨p,_,[],rfl,aP,rfl,Rfs.vt (BJ z.1)⟩ ⟨by simp,fun b hb=>?_,fun b hb=>?_⟩
    · cases List.mem_singleton.mp hb;exact .inl ⟨_,aP⟩
    · cases List.mem_singleton.mp hb;exact .inl (((s1.trans s2).trans s3).free hp)) z)) z)) h)⟩
def Er (x:D) (y:D) (P:DK):Prop:=match x,y with | .lst a,.lst b=>(a.all D.bC=true∧b.all D.bC=true∧a.length+b.length≤1000)∧P (.lst (a++b)) | _,_=>False
theorem Fx {H:Hp}{p:Addr}{ds:List D} (h:ds.all D.bC=true) (hp:H p=none):aN H (upd H p (.lst (ds.map D.toV)))∧Rf K (upd H p (.lst (ds.map D.toV))) (.lst ds) (.ref p) [p]∧Nw H (upd H p (.lst (ds.map D.toV))) nf [] [p] :=
  ⟨aN.lO hp,⟨p,_,[],rfl,aP,rfl,Rfs.vt h⟩,⟨by simp,fun b hb=>by cases List.mem_singleton.mp hb;exact .inl ⟨_,aP⟩,fun b hb=>by cases List.mem_singleton.mp hb;exact .inl hp⟩⟩
theorem rh:OpV K FZ Er:=⟨fun x y P P' k h=>by unfold Er at h ⊢;revert h;split<;>first | exact fun h=>⟨h.1,k _ h.2⟩ | exact id,fun {H x y v w Q} r1 r2 h=>by
  unfold Er at h
  split at h
  · rename_i a b
    obtain ⟨⟨s1,s2,hl⟩,h⟩:=h
    obtain ⟨f1,l1,xs,q1,rfl,e1,_,hr1⟩:=r1
    obtain ⟨f2,l2,ys,q2,rfl,e2,_,hr2⟩:=r2
    obtain ⟨rfl,_⟩:=hr1.lE s1
    obtain ⟨rfl,_⟩:=hr2.lE s2
    refine⟨l1,l2,_,_,rfl,rfl,e1,e2,by rw[List.length_map,List.length_map];exact jI hl,fun p hp=>?_⟩
    rw[← List.map_append]
    obtain ⟨n1,n2,n3⟩:=Fx (K:=K) (ds:=a++b) (by rw[List.all_append,s1,s2];rfl) hp
    exact h _ _ _ n1 n2 n3
  · exact h.elim⟩
def tG (xs:List D) (k:Nat):List D:=(List.replicate k xs).flatten
def DY (x:D) (y:D) (P:DK):Prop:=match x,y with | .lst a,.int k=>(a.all D.bC=true∧(-(2 ^ 63)≤k∧k<2 ^ 63)∧a.length*k.toNat≤1000)∧P (.lst (tG a k.toNat)) | _,_=>False
theorem E9:OpV K Hi DY:=⟨fun x y P P' k h=>by unfold DY at h ⊢;revert h;split<;>first | exact fun h=>⟨h.1,k _ h.2⟩ | exact id,fun {H x y v w Q} r1 r2 h=>by
  unfold DY at h
  split at h
  · rename_i a n
    obtain ⟨⟨s1,⟨b1,b2⟩,hl⟩,h⟩:=h
    obtain ⟨f1,l1,xs,q1,rfl,e1,_,hr1⟩:=r1
    obtain ⟨rfl,_⟩:=hr1.lE s1
    refine⟨l1,n,_,rfl,r2.int,e1,b1,b2,by rw[List.length_map];exact jI hl,fun p hp=>?_⟩
    have:(List.replicate n.toNat (a.map D.toV)).flatten=(tG a n.toNat).map D.toV:=by unfold tG;rw[List.map_flatten,List.map_replicate]
    rw[this]
    obtain ⟨n1,n2,n3⟩:=Fx (K:=K) (ds:=tG a n.toNat) (by
      rw[List.all_eq_true] at s1 ⊢
      intro x hx
      unfold tG at hx
      obtain ⟨l,h1,h2⟩:=List.mem_flatten.mp hx
      rw[(List.mem_replicate.mp h1).2] at h2
      exact s1 x h2) hp
    exact h _ _ _ n1 n2 n3
  · exact h.elim⟩
def inD (x:D) (ds:List D):Bool:=inV x.toV (ds.map D.toV)
def vIn (neg:Bool) (x:D) (y:D) (P:DK):Prop:=x.bC=true∧asL y fun ds=>ds.all D.bC=true∧P (.bl (if neg then !inD x ds else inD x ds))
theorem uE {d:D} (h:d.bC=true):l6 d.toV=true:=by cases d<;>first | rfl | cases h
theorem FQ {neg:Bool}:OpV K (rIn K neg) (vIn neg):=⟨fun x y P P' k h=>⟨h.1,by obtain ⟨ds,e,z⟩:=dM h.2;exact kW e ⟨z.1,k _ z.2⟩⟩,fun {H x y v w Q} r1 r2 h=>by
  obtain ⟨hx,h⟩:=h
  obtain ⟨ds,e,hs,h⟩:=dM h
  obtain ⟨f1,r1⟩:=r1
  obtain ⟨rfl,_⟩:=r1.bC hx
  obtain ⟨a,xs,fq,rfl,hsq,hr⟩:=r2.seq e
  obtain ⟨rfl,_⟩:=hr.lE hs
  refine⟨a,_,rfl,.inl hsq,uE hx,?_,h _ H [] (aN.refl H) ⟨rfl,rfl⟩ Nw.nil⟩
  rw[List.all_map,List.all_eq_true]
  rw[List.all_eq_true] at hs
  exact fun y hy=>uE (hs y hy)⟩
def A5 (xs:List D) (P:DK):Prop:=match xs with | [x]=>(match x with | .tup ds=>P (.int ds.length) | x=>asL x fun ds=>P (.int ds.length)) | _=>False
theorem Rps.one {H:Hp}{x:D}{vs:List V} (h:Rps K H [x] vs):∃v,vs=[v]∧Rp K H x v:=by
  obtain ⟨fp,y,r,f1,f2,rfl,_,h1,⟨rfl,_⟩⟩:=h
  exact⟨y,rfl,f1,h1⟩
theorem cF:mi K (fun xs H Q=>∃p ys,xs=[.ref p]∧(SqL K H p ys∨SqT K H p ys)∧Q (.int ys.length) H) A5:=⟨fun xs P P' k h=>by
    unfold A5 at h ⊢
    revert h
    split
    · split
      · exact fun h=>k _ h
      · exact fun h=>by obtain ⟨ds,e,z⟩:=dM h;exact kW e (k _ z)
    · exact id,
  fun {H xs vs Q} r h=>by
    unfold A5 at h
    split at h
    · obtain ⟨v,rfl,r0⟩:=r.one
      split at h
      · obtain ⟨a,ys,fq,rfl,hs,hr⟩:=r0.tup
        refine⟨a,ys,rfl,.inr hs,?_⟩
        rw[hr.length]
        exact h _ H [] (aN.refl H) ⟨rfl,rfl⟩ Nw.nil
      · obtain ⟨ds,e,h⟩:=dM h
        obtain ⟨a,ys,fq,rfl,hs,hr⟩:=r0.seq e
        refine⟨a,ys,rfl,.inl hs,?_⟩
        rw[hr.length]
        exact h _ H [] (aN.refl H) ⟨rfl,rfl⟩ Nw.nil
    · exact h.elim⟩
theorem ya {ds:List D}{P:DK}:A5 [.lst ds] P↔P (.int ds.length):=Iff.rfl
theorem xF {ds:List Int}{P:DK}:A5 [.scr ds] P↔P (.int ds.length):=by
  show P (.int ((ds.map D.int).length:Nat))↔_
  rw[List.length_map]
def i7:List D→Option (List Int)
  | []=>some []
  | .int i::ds=>(i7 ds).map (i::·)
  | _=>none
theorem jP:∀{ns:List Int},i7 (ns.map D.int)=some ns
  | []=>rfl
  | n::ns=>by rw[List.map_cons,i7,jP];rfl
theorem uU:∀{ds:List D}{ns:List Int},i7 ds=some ns→ds=ns.map D.int
  | [],ns,h=>by cases h;rfl
  | .int i::ds,ns,h=>by
    rw[i7] at h
    cases e:i7 ds with
    | none=>rw[e] at h;cases h
    | some ms=>rw[e] at h;cases h;rw[uU e];rfl
  | .non::_,_,h=>by cases h
  | .bl _::_,_,h=>by cases h
  | .str _::_,_,h=>by cases h
  | .lst _::_,_,h=>by cases h
  | .tup _::_,_,h=>by cases h
  | .dic _::_,_,h=>by cases h
  | .dit _::_,_,h=>by cases h
  | .scr _::_,_,h=>by cases h
theorem Rfs.vg {H:Hp}{ns:List Int}{vs:List V}{fp:List Addr} (h:Rfs K H (ns.map D.int) vs fp):vs=ns.map V.int:=by
  have hs:(ns.map D.int).all D.bC=true:=by rw[List.all_map,List.all_eq_true];exact fun _ _=>rfl
  rw[(h.lE hs).1,List.map_map]
  rfl
def xJ (x:D) (P:List Int→Prop):Prop:=asL x fun ds=>match i7 ds with | some ns=>P ns | none=>False
theorem fQ {x:D}{P:List Int→Prop} (h:xJ x P):∃ns,x.items=some (ns.map D.int)∧P ns:=by
  obtain ⟨ds,e,h⟩:=dM h
  cases q:i7 ds with
  | none=>rw[q] at h;exact h.elim
  | some ns=>rw[q] at h;rw[uU q] at e;exact⟨ns,e,h⟩
theorem o8 {x:D}{ns:List Int}{P:List Int→Prop} (e:x.items=some (ns.map D.int)) (h:P ns):xJ x P:=by
  refine kW e ?_
  rw[jP];exact h
def DZ (xs:List D) (P:DK):Prop:=match xs with | [x]=>xJ x fun ns=>P (.int ns.sum) | _=>False
theorem ni:mi K (fun xs H Q=>∃(a:Addr) (ns:List Int),xs=[.ref a]∧SqL K H a (ns.map V.int)∧Q (.int ns.sum) H) DZ:=⟨fun xs P P' k h=>by
    unfold DZ at h ⊢
    revert h
    split
    · exact fun h=>by obtain ⟨ns,e,z⟩:=fQ h;exact o8 e (k _ z)
    · exact id,
  fun {H xs vs Q} r h=>by
    unfold DZ at h
    split at h
    · obtain ⟨v,rfl,r0⟩:=r.one
      obtain ⟨ns,e,h⟩:=fQ h
      obtain ⟨a,ys,fq,rfl,hs,hr⟩:=r0.seq e
      rw[hr.vg] at hs
      exact⟨a,ns,rfl,hs,h _ H [] (aN.refl H) ⟨rfl,rfl⟩ Nw.nil⟩
    · exact h.elim⟩
def xc (xs:List D) (P:DK):Prop:=match xs with | [x]=>asL x fun ds=>ds.all D.bC=true∧P (.lst ds) | _=>False
theorem gj:mi K (fun xs H Q=>∃p ys,xs=[.ref p]∧(SqL K H p ys∨SqT K H p ys)∧∀l,H l=none→Q (.ref l) (upd H l (.lst ys))) xc:=⟨fun xs P P' k h=>by
    unfold xc at h ⊢
    revert h
    split
    · exact fun h=>by obtain ⟨ds,e,z⟩:=dM h;exact kW e ⟨z.1,k _ z.2⟩
    · exact id,
  fun {H xs vs Q} r h=>by
    unfold xc at h
    split at h
    · obtain ⟨v,rfl,r0⟩:=r.one
      obtain ⟨ds,e,hsc,h⟩:=dM h
      obtain ⟨a,ys,fq,rfl,hs,hr⟩:=r0.seq e
      obtain ⟨rfl,_⟩:=hr.lE hsc
      refine⟨a,_,rfl,.inl hs,fun l hl=>?_⟩
      obtain ⟨n1,n2,n3⟩:=Fx (K:=K) hsc hl
      exact h _ _ _ n1 n2 n3
    · exact h.elim⟩
end
end L3
namespace L3
open PySem L2
open PyProof.Rows (Ordered)
section
variable {K:PySem.W.Frag}{Γ M:List Nat}{te ta tb:TE}{de da db:DE}
theorem bQ {wi:TI}{di:DI}{g:TG}{dg:D→Dl→(Dl→Prop)→Prop}{k:Nat}{idx:List Nat} (hi:IT K [] wi di) (hg:GT K [] g dg) (he:EM K [] [] te de):EM K Γ [] (sQ wi g te k idx) (oQ di dg EA de k idx):=by
  rw[p8];exact vn hi hg Fq he
def D.tyn:D→Option String
  | .non=>some "NoneType" | .bl _=>some "bool" | .int _=>some "int" | .str _=>some "str" | .lst _=>some "list" | .tup _=>some "tuple" | .dic _=>some "dict" | .dit _=>some "dict" | .scr _=>none | .pin _ _=>none | .mem _=>none | .raw _=>none | .ins _ _ _=>none
theorem Rp.ty {H:Hp}{d:D}{v:V}{n:String} (h:Rp K H d v) (e:d.tyn=some n):l9 K H v (.type n):=by
  obtain ⟨fp,h⟩:=h
  cases d with
  | non=>cases e;obtain ⟨rfl,_⟩:=h;exact .non
  | bl b=>cases e;obtain ⟨rfl,_⟩:=h;exact .bl _
  | int b=>cases e;obtain ⟨rfl,_⟩:=h;exact .int _
  | str b=>cases e;obtain ⟨rfl,_⟩:=h;exact .str _
  | lst ds=>cases e;obtain ⟨a,xs,fq,rfl,h2,_⟩:=h;exact .lst h2
  | tup ds=>cases e;obtain ⟨a,xs,rfl,h2,_⟩:=h;exact .tup h2
  | dic ds=>cases e;obtain ⟨a,rfl,h2,_⟩:=h;exact .dK h2
  | dit ds=>cases e;obtain ⟨a,rfl,h2,_⟩:=h;exact .dT h2
  | scr ns=>cases e
  | pin a d=>cases e
  | mem φ=>cases e
  | raw w=>cases e
  | ins C ns ds=>cases e
def isB (m n:String):Bool:=m == n || (m == "bool" && n == "int")
def zK (n:String):Prop:=∀(K:PySem.W.Frag) (d:D) (m:String),d.tyn=some m→PySem.W.kitOne K (.type m) (.type n)=some (isB m n)
theorem xg:zK "bool":=fun K d m e=>by cases d<;>cases e<;>first | exact rK | with_unfolding_all rfl
theorem jC:zK "list":=fun K d m e=>by cases d<;>cases e<;>first | exact rK | with_unfolding_all rfl
theorem kit_tuple:zK "tuple":=fun K d m e=>by cases d<;>cases e<;>first | exact rK | with_unfolding_all rfl
def vIs (n:String) (da:DE) (δ:Dl) (P:DK):Prop:=da δ fun x=>match x.tyn with | some m=>P (.bl (isB m n)) | none=>False
theorem c9 {n:String} (hk:zK n) (ha:ER K Γ ta da):EM K Γ [] (tCB (fun xs H Q=>∃x n t b,xs=[x,.ty n]∧l9 K H x t∧PySem.W.kitOne K t (.type n)=some b∧Q (.bl b) H) (fg ta (fg (tC (.ty n)) mT))) (vIs n da) :=
  ⟨fun δ P P' k h=>ha.mono _ _ _ (fun x z=>by
      revert z;split
      · exact fun z=>k _ z
      · exact id) h,
   fun {B0 fps δ σ H Q} o h=>ha.run o (ha.mono _ _ _ (fun x z v H1 s1 r1=>by
      split at z
      · rename_i m e
        exact⟨v,n,_,_,rfl,r1.ty e,hk K x m e,z _ H1 [] s1 ⟨rfl,rfl⟩ Nw.nil⟩
      · exact z.elim) h)⟩
mutual
def D.old:D→Option L2.D
  | .non=>some .non | .bl b=>some (.bl b) | .int i=>some (.int i) | .str x=>some (.str x)
  | .lst ds=>(D.olds ds).map L2.D.lst | .tup ds=>(D.olds ds).map L2.D.tup
  | .dic _=>none | .dit _=>none | .scr _=>none | .pin _ _=>none | .mem _=>none | .raw _=>none | .ins _ _ _=>none
def D.olds:List D→Option (List L2.D)
  | []=>some []
  | d::ds=>match D.old d,D.olds ds with | some x,some xs=>some (x::xs) | _,_=>none
end
mutual
theorem Rf.old {H:Hp}:∀{d:D}{d':L2.D}{v:V}{fp:List Addr},Rf K H d v fp→d.old=some d'→L2.Rf H d' v fp
  | .non,d',v,fp,h,e=>by rw[D.old] at e;cases e;rw[L2.Rf];exact h
  | .bl _,d',v,fp,h,e=>by rw[D.old] at e;cases e;rw[L2.Rf];exact h
  | .int _,d',v,fp,h,e=>by rw[D.old] at e;cases e;rw[L2.Rf];exact h
  | .str _,d',v,fp,h,e=>by rw[D.old] at e;cases e;rw[L2.Rf];exact h
  | .lst ds,d',v,fp,h,e=>by
    rw[D.old] at e
    cases q:D.olds ds with
    | none=>rw[q] at e;cases e
    | some es =>
      rw[q] at e;cases e
      obtain ⟨a,xs,fq,e1,e2,e3,h⟩:=h
      rw[L2.Rf]
      exact⟨a,xs,fq,e1,e2,e3,Rfs.old h q⟩
  | .tup ds,d',v,fp,h,e=>by
    rw[D.old] at e
    cases q:D.olds ds with
    | none=>rw[q] at e;cases e
    | some es =>
      rw[q] at e;cases e
      obtain ⟨a,xs,e1,e2,h⟩:=h
      rw[L2.Rf]
      exact⟨a,xs,e1,e2,Rfs.old h q⟩
  | .dic _,d',v,fp,h,e=>by rw[D.old] at e;cases e
  | .dit _,d',v,fp,h,e=>by rw[D.old] at e;cases e
  | .scr _,d',v,fp,h,e=>by rw[D.old] at e;cases e
  | .pin _ _,d',v,fp,h,e=>by rw[D.old] at e;cases e
  | .mem _,d',v,fp,h,e=>by rw[D.old] at e;cases e
  | .raw _,d',v,fp,h,e=>by rw[D.old] at e;cases e
  | .ins _ _ _,d',v,fp,h,e=>by rw[D.old] at e;cases e
theorem Rfs.old {H:Hp}:∀{ds:List D}{ds':List L2.D}{vs:List V}{fp:List Addr},Rfs K H ds vs fp→D.olds ds=some ds'→L2.Rfs H ds' vs fp
  | [],ds',vs,fp,h,e=>by rw[D.olds] at e;cases e;rw[L2.Rfs];exact h
  | d::ds,ds',vs,fp,h,e=>by
    rw[D.olds] at e
    obtain ⟨x,r,f1,f2,e1,e2,h1,h2⟩:=h
    cases q1:d.old with
    | none=>rw[q1] at e;simp at e
    | some x' =>
      cases q2:D.olds ds with
      | none=>rw[q1,q2] at e;simp at e
      | some xs' =>
        rw[q1,q2] at e
        cases e
        rw[L2.Rfs]
        exact⟨x,r,f1,f2,e1,e2,Rf.old h1 q1,Rfs.old h2 q2⟩
end
abbrev dI (xs:List Int):D:=.lst (xs.map D.int)
abbrev dT (t:List (List Int)):D:=.lst (t.map dI)
def Bu (neg:Bool) (x:D) (y:D) (P:DK):Prop:=∃a b,x.old=some (.lst a)∧y.old=some (.lst b)∧L2.D.cZ a=true∧L2.D.cZ b=true∧L2.D.dF a≤60∧P (.bl (if neg then !L2.D.jf a b else L2.D.jf a b))
theorem BU {neg:Bool}:OpV K (F5 neg) (Bu neg):=⟨fun x y P P' k h=>by
    obtain ⟨a,b,h1,h2,h3,h4,h5,h⟩:=h
    exact⟨a,b,h1,h2,h3,h4,h5,k _ h⟩,
  fun {H x y v w Q} ⟨f1,r1⟩ ⟨f2,r2⟩ h=>by
    obtain ⟨a,b,h1,h2,h3,h4,h5,h⟩:=h
    exact⟨a,b,⟨f1,r1.old h1⟩,⟨f2,r2.old h2⟩,h3,h4,h5,h _ H [] (aN.refl H) ⟨rfl,rfl⟩ Nw.nil⟩⟩
theorem oy:OpV K (F5 false) (Bu false):=BU
theorem um:∀{ns:List Int},D.olds (ns.map D.int)=some (ns.map L2.D.int)
  | []=>by rw[List.map_nil,D.olds];rfl
  | n::ns=>by rw[List.map_cons,D.olds,um,D.old];rfl
theorem wN {ns:List Int}:(dI ns).old=some (L2.dI ns):=by rw[D.old,um];rfl
theorem vf:∀{t:List (List Int)},D.olds (t.map dI)=some (t.map L2.dI)
  | []=>by rw[List.map_nil,D.olds];rfl
  | n::ns=>by rw[List.map_cons,D.olds,vf,wN];rfl
theorem Bm {t:List (List Int)}:(dT t).old=some (L2.dT t):=by rw[D.old,vf];rfl
theorem jt {neg:Bool}{xs ys:List Int}{P:DK} (h:P (.bl (if neg then !decide (xs=ys) else decide (xs=ys)))):Bu neg (dI xs) (dI ys) P :=
  ⟨_,_,wN,wN,D.iP _,D.iP _,by rw[D.jT];omega,by rw[D.mB];exact h⟩
theorem va {neg:Bool}{xs ys:List (List Int)}{P:DK} (h:P (.bl (if neg then !decide (xs=ys) else decide (xs=ys)))):Bu neg (dT xs) (dT ys) P :=
  ⟨_,_,Bm,Bm,D.l8 _,D.l8 _,Nat.le_trans (D.qH _) (by omega),by rw[D.uz];exact h⟩
def mH (b:Bool) (xs:List D) (P:DK):Prop:=match xs with | [x]=>xJ x fun ns=>ns.length<64∧∀ms:List Int,ms.Perm ns→Ordered b ms→P (dI ms) | _=>False
theorem Rf.ofInts {H:Hp}{p:Addr}{ms:List Int} (e:H p=some (.lst (ms.map V.int))):Rf K H (dI ms) (.ref p) [p]:=⟨p,_,[],rfl,e,rfl,Rfs.ofInts⟩
theorem Nw.one {H H':Hp}{p:Addr}{xs:List V} (h:H p=none) (e:H' p=some (.lst xs)):Nw H H' nf [] [p]:=⟨by simp,fun b hb=>by cases List.mem_singleton.mp hb;exact .inl ⟨_,e⟩,fun b hb=>by cases List.mem_singleton.mp hb;exact .inl h⟩
theorem vm {u:TA}{dr:DA}{b:Bool} (hr:AR K Γ u dr):EM K Γ [] (Hq (fun xs zs H Q=>∃(a:Addr) (ns:List Int) (b:Bool),xs=[.ref a]∧zs=[.bl b]∧SqL K H a (ns.map V.int)∧ns.length<64 ∧
    ∀(l:Addr) (ms:List Int),H l=none→ms.Perm ns→Ordered b ms→Q (.ref l) (upd H l (.lst (ms.map V.int)))) u (fg (tC (.bl b)) mT)) (qr (mH b) dr):=by
  have mono:br (mH b):=fun xs P P' k h=>by
    unfold mH at h ⊢
    revert h
    split
    · exact fun h=>by obtain ⟨ns,e,z⟩:=fQ h;exact o8 e ⟨z.1,fun ms a b=>k _ (z.2 ms a b)⟩
    · exact id
  refine⟨fun δ P P' k h=>hr.mono _ _ _ (fun y z=>mono _ _ _ k z) h,fun {B0 fps δ σ H Q} o q=>hr.run o (hr.mono _ _ _ (fun xs z vs H1 s1 r1=>?_) q)⟩
  unfold mH at z
  split at z
  · obtain ⟨v,rfl,r0⟩:=r1.one
    obtain ⟨ns,e,z⟩:=fQ z
    obtain ⟨a,ys,fq,rfl,hs,hr⟩:=r0.seq e
    rw[hr.vg] at hs
    refine⟨a,ns,b,rfl,rfl,hs,z.1,fun l ms hl hp ho=>?_⟩
    have s2:aN H1 (upd H1 l (.lst (ms.map V.int))):=aN.lO hl
    exact z.2 ms hp ho _ _ [l] (s1.trans s2) (Rf.ofInts aP) ((Nw.one hl aP).any.later s1)
  · exact z.elim
def F9 (xs:List D) (P:DK):Prop:=asI xs fun i=>P (.int (if i<0 then -i else i))
theorem GZ:mi K (fun xs H Q=>∃i,xs=[.int i]∧Q (.int (if i<0 then -i else i)) H) F9:=⟨fun xs P P' k h=>by obtain ⟨i,rfl,z⟩:=oH h;exact k _ z,
  fun {H xs vs Q} r h=>by obtain ⟨i,rfl,z⟩:=oH h;exact⟨i,r.ints1,z _ H [] (aN.refl H) ⟨rfl,rfl⟩ Nw.nil⟩⟩
def D.vc:D→Bool | .non=>true | .raw w=>decide (w=.non) | _=>false
def HB (neg:Bool) (x:D) (y:D) (P:DK):Prop:=match y with | .non=>P (.bl (if neg then !x.vc else x.vc)) | _=>False
def FP (da db:DE) (δ:Dl) (P:List D→Prop):Prop:=da δ fun x=>db δ fun y=>asL x fun xs=>asL y fun ys=>xs.length=ys.length∧P ((xs.zip ys).map fun p=>.tup [p.1,p.2])
theorem Bs (ha:ES K Γ ta da) (hb:ES K Γ tb db):IT K Γ (Fi K (fg ta (fg tb mT))) (FP da db) :=
  ⟨fun δ P P' k h=>ha.mono _ _ _ (fun x z=>hb.mono _ _ _ (fun y z=>by
      obtain ⟨xs,e1,z⟩:=dM z;obtain ⟨ys,e2,z⟩:=dM z;exact kW e1 (kW e2 ⟨z.1,k _ z.2⟩)) z) h,
   fun {B0 fps δ σ H R} o h=>ha.run o (ha.mono _ _ _ (fun x z v H1 f1 s1 r1 n1=>hb.run (o.same s1) (hb.mono _ _ _ (fun y z w H2 f2 s2 r2 n2=>by
    obtain ⟨xs,ex,z⟩:=dM z
    obtain ⟨ys,ey,z⟩:=dM z
    have r1':=r1.same s2
    obtain ⟨a,as,fa,rfl,hsa,hra,hina⟩:=r1'.seq ex
    obtain ⟨b,bs,fb,rfl,hsb,hrb,hinb⟩:=r2.seq ey
    refine⟨a,b,rfl,⟨as,hsa⟩,⟨bs,hsb⟩,z.2 (Itz K a b) H2 (f1++f2) (s1.trans s2) (fun j hj c hc=>(List.mem_append.mp hc).elim (n1 j hj c) (n2 j hj c)) fun B sB ag im=>?_⟩
    have rBa:Rf K B x (.ref a) f1:=r1'.mono (fun c hc u e=>by rw[ag c (List.mem_append_left _ hc)];exact e) im
    have rBb:Rf K B y (.ref b) f2:=r2.mono (fun c hc u e=>by rw[ag c (List.mem_append_right _ hc)];exact e) im
    obtain ⟨a',as',fa',e1,hsa',hra',_⟩:=rBa.seq ex
    obtain ⟨b',bs',fb',e2,hsb',hrb',_⟩:=rBb.seq ey
    cases e1;cases e2
    have sq:∀{c:Addr}{zs:List V}{H3:Hp},SqL K B c zs→aN B H3→SqL K H3 c zs:=fun h s3=>s3.seq h
    have la:=hra'.length
    have lb:=hrb'.length
    have hl:=z.1
    have hlen:((xs.zip ys).map fun p=>D.tup [p.1,p.2]).length=xs.length:=by simp [hl]
    refine⟨fun {i H3} s3 hi=>?_,fun {i H3 u H4 d} s3 hy hd=>?_,fun {i H3} s3 hi=>?_⟩
    · rw[hlen] at hi
      exact⟨as',bs',as'[i]'(by omega),bs'[i]'(by omega),sq hsa' s3,sq hsb' s3,by simp [la,hi],by simp [lb,← hl,hi]⟩
    · obtain ⟨p,u1,u2,rfl,hp,rfl,h1,h2⟩:=hy
      have q1:=h1 as' (sq hsa' s3)
      have q2:=h2 bs' (sq hsb' s3)
      obtain ⟨d1,g1,e1,t1,_⟩:=hra'.get' q1
      obtain ⟨d2,g2,e2,t2,_⟩:=hrb'.get' q2
      have ez:(xs.zip ys)[i]?=some (d1,d2):=List.getElem?_zip_eq_some.mpr ⟨e1,e2⟩
      rw[List.getElem?_map,ez] at hd
      cases hd
      have s4:aN H3 (upd H3 p (.tup [u1,u2])):=aN.lO hp
      refine⟨s4,g1++g2,⟨p,_,rfl,aP,u1,[u2],g1,g2,rfl,rfl,(t1.same s3).same s4,u2,[],g2,[],rfl,(List.append_nil _).symm,(t2.same s3).same s4,rfl,rfl⟩,fun c hc=>?_⟩
      rcases List.mem_append.mp hc with w | w
      · obtain ⟨u,hu,_⟩:=t1.dom c w;rw[hu];intro z;cases z
      · obtain ⟨u,hu,_⟩:=t2.dom c w;rw[hu];intro z;cases z
    · rw[hlen] at hi
      exact⟨as',bs',sq hsa' s3,sq hsb' s3,.inl (by omega)⟩) z)) h)⟩
end
theorem a9 {K:PySem.W.Frag}{S:DSp}{n:Nat} (hS:∀ds P,S ds P→ds.length=n) {vs:List V}{H:Hp}{Q:VK}{E:XK} (h:spP K S vs H Q E):vs.length=n:=by
  obtain ⟨ds,⟨fp,r⟩,h⟩:=h
  rw[r.length];exact hS _ _ h
theorem EE {K:PySem.W.Frag}{S:DSp}{n:Nat} (hS:∀ds P,S ds P→ds.length=n) {vs:List V}{H:Hp}{Q:VK}{E:XK} (h:spR K S vs H Q E):vs.length=n:=by
  obtain ⟨ds,⟨fp,r⟩,h⟩:=h
  rw[r.length];exact hS _ _ h
theorem Ca {dg:D→Dl→(Dl→Prop)→Prop}{db:DS}{E:b8} (I:Nat→Dl→Prop) {ds:List D}{δ:Dl} (h0:I 0 δ)
    (hs:∀i d δ (N:Dl→Prop),ds[i]?=some d→I i δ→(∀δ',I (i+1) δ'→N δ')→dg d δ fun δ'=>db { nx:=N,ct:=N,bk:=E.nx,rt:=E.rt } δ')
    (hd:∀δ,I ds.length δ→E.nx δ):kL dg db E ds δ:=by
  have key:∀(n:Nat) (i:Nat) (δ:Dl),ds.length - i=n→i≤ds.length→I i δ→kL dg db E (ds.drop i) δ:=by
    intro n
    induction n with
    | zero =>
      intro i δ h1 h2 hI
      have:i=ds.length:=by omega
      subst this
      rw[List.drop_length]
      exact hd δ hI
    | succ n ih =>
      intro i δ h1 h2 hI
      have hlt:i<ds.length:=by omega
      rw[List.drop_eq_getElem_cons hlt]
      exact hs i _ δ _ (List.getElem?_eq_getElem hlt) hI fun δ' h'=>ih (i+1) δ' (by omega) hlt h'
  have:=key ds.length 0 δ (by omega) (Nat.zero_le _) h0
  rwa [List.drop_zero] at this
end L3
namespace L3
open PySem L2
theorem GI {K:PySem.W.Frag}{H:Hp}{a:Addr}{xs:List V} (hO:DQ H) (h:SqL K H a xs):Sc K H a xs:=by
  rcases h with (h | h) | h
  · rcases hO a with z | ⟨o,ys,z⟩
    · rw[z] at h;cases h
    · rw[z] at h;cases h
  · exact .inl h
  · exact .inr h
end L3
namespace L3
open PySem
open L2 hiding D Rf Rfs Rp dI dT
section
variable {di:DI}{dg:D→Dl→(Dl→Prop)→Prop}{dt:DT}{de:DE}{k:Nat}{idx:List Nat}{δ:Dl}{P:DK}
theorem rY {α:Type}{as:List α}{f:α→D}{p:α→Bool}{g:α→D} (hdi:∀R:List D→Prop,R (as.map f)→di δ R) (hl:as.length≤1000)
    (hb:∀a∈as,∀R:List D→Prop,R (if p a then [g a] else [])→jW dg dt de (eU k idx δ) (f a) R) (h:P (.lst ((as.filter p).map g))):oQ di dg dt de k idx δ P:=by
  refine hdi _ ⟨by rw[List.length_map];exact hl,?_⟩
  have key:∀(as:List α) (acc:List D),(∀a∈as,∀R:List D→Prop,R (if p a then [g a] else [])→jW dg dt de (eU k idx δ) (f a) R)→P (.lst (acc++(as.filter p).map g))→uC (jW dg dt de (eU k idx δ)) (as.map f) acc fun ys=>P (.lst ys):=by
    intro as
    induction as with
    | nil=>intro acc _ h;rw[List.filter_nil,List.map_nil,List.append_nil] at h;exact h
    | cons a as ih =>
      intro acc hb h
      refine hb a List.mem_cons_self _ (ih _ (fun x hx=>hb x (List.mem_cons_of_mem _ hx)) ?_)
      by_cases hp:p a=true
      · rw[if_pos hp,List.append_assoc];rwa [List.filter_cons_of_pos hp] at h
      · rw[if_neg hp,List.append_nil];rwa [List.filter_cons_of_neg hp] at h
  exact key as [] hb h
theorem kH {α:Type}{as:List α}{f:α→D}{g:α→D} (hdi:∀R:List D→Prop,R (as.map f)→di δ R) (hl:as.length≤1000)
    (hb:∀a∈as,∀R:List D→Prop,R [g a]→jW dg dt de (eU k idx δ) (f a) R) (h:P (.lst (as.map g))):oQ di dg dt de k idx δ P:=by
  refine rY (p:=fun _=>true) hdi hl (fun a ha R h=>hb a ha R h) ?_
  rw[List.filter_eq_self.mpr (fun _ _=>rfl)]
  exact h
theorem jq {ns:List Int}{g:Int→D} (hdi:∀R:List D→Prop,R (ns.map D.int)→di δ R) (hl:ns.length≤1000)
    (hb:∀n∈ns,∀R:List D→Prop,R [g n]→jW dg dt de (eU k idx δ) (.int n) R) (h:P (.lst (ns.map g))):oQ di dg dt de k idx δ P:=kH hdi hl hb h
theorem kF {lo:Int}{n:Nat}{g:Nat→D} (hdi:∀R:List D→Prop,R (oP lo n)→di δ R) (hl:n≤1000)
    (hb:∀i,i<n→∀R:List D→Prop,R [g i]→jW dg dt de (eU k idx δ) (.int (lo+(i:Int))) R) (h:P (.lst ((List.range n).map g))):oQ di dg dt de k idx δ P :=
  kH (as:=List.range n) (f:=fun (k:Nat)=>D.int (lo+(k:Int))) hdi (by rw[List.length_range];exact hl) (fun a ha=>hb a (List.mem_range.mp ha)) h
theorem uK {lo:Int}{n:Nat}{p:Nat→Bool}{g:Nat→D} (hdi:∀R:List D→Prop,R (oP lo n)→di δ R) (hl:n≤1000)
    (hb:∀i,i<n→∀R:List D→Prop,R (if p i then [g i] else [])→jW dg dt de (eU k idx δ) (.int (lo+(i:Int))) R) (h:P (.lst (((List.range n).filter p).map g))):oQ di dg dt de k idx δ P :=
  rY (as:=List.range n) (f:=fun (k:Nat)=>D.int (lo+(k:Int))) hdi (by rw[List.length_range];exact hl) (fun a ha=>hb a (List.mem_range.mp ha)) h
theorem iy {t:List (List Int)}{g:List Int→D} (hdi:∀R:List D→Prop,R (t.map dI)→di δ R) (hl:t.length≤1000)
    (hb:∀r∈t,∀R:List D→Prop,R [g r]→jW dg dt de (eU k idx δ) (dI r) R) (h:P (.lst (t.map g))):oQ di dg dt de k idx δ P:=kH hdi hl hb h
variable {db:DS}{E:b8}
theorem jA {α:Type}{as:List α}{f:α→D} (I:Nat→Dl→Prop) (h0:I 0 δ)
    (hs:∀i a δ (N:Dl→Prop),as[i]?=some a→I i δ→(∀δ',I (i+1) δ'→N δ')→dg (f a) δ fun δ'=>db { nx:=N,ct:=N,bk:=E.nx,rt:=E.rt } δ')
    (hd:∀δ,I as.length δ→E.nx δ):kL dg db E (as.map f) δ:=by
  refine Ca I h0 (fun i d δ N e hI hN=>?_) (fun δ hI=>hd δ (by rwa [List.length_map] at hI))
  rw[List.getElem?_map] at e
  cases q:as[i]? with
  | none=>rw[q] at e;cases e
  | some a=>rw[q] at e;cases e;exact hs i a δ N q hI hN
theorem rA {lo:Int}{n:Nat} (I:Nat→Dl→Prop) (h0:I 0 δ)
    (hs:∀i δ (N:Dl→Prop),i<n→I i δ→(∀δ',I (i+1) δ'→N δ')→dg (.int (lo+(i:Int))) δ fun δ'=>db { nx:=N,ct:=N,bk:=E.nx,rt:=E.rt } δ')
    (hd:∀δ,I n δ→E.nx δ):kL dg db E (oP lo n) δ:=by
  refine jA (as:=List.range n) (f:=fun (k:Nat)=>D.int (lo+(k:Int))) I h0 (fun i a δ N e hI hN=>?_) (fun δ hI=>hd δ (by rwa [List.length_range] at hI))
  obtain ⟨h1,h2⟩:=List.getElem?_eq_some_iff.mp e
  rw[List.getElem_range] at h2
  subst h2
  exact hs i δ N (by simpa using h1) hI hN
end
theorem GV {ns:List Int}{i:Int} (h0:0≤i) (h:i<ns.length):atI (ns.map D.int) i=some (.int (ns.getD i.toNat 0)):=by
  unfold atI ixN
  rw[if_pos h0,List.length_map,if_pos h]
  show (ns.map D.int)[i.toNat]?=_
  rw[List.getElem?_map,List.getD_eq_getElem?_getD]
  have:i.toNat<ns.length:=by omega
  rw[List.getElem?_eq_getElem this]
  rfl
theorem jx {ns:List Int}:(ns.map D.int).all D.bC=true:=by rw[List.all_map,List.all_eq_true];exact fun _ _=>rfl
theorem iK {n:Nat}{i:Int} (h0:0≤i) (h:i<n):ixN n i=some i.toNat:=by unfold ixN;rw[if_pos h0,if_pos h]
theorem Ct {ns:List Int}{j:Nat}{v:Int}:(ns.map D.int).set j (.int v)=(ns.set j v).map D.int:=(List.map_set ..).symm
theorem zY {ns:List Int}{v:Int}:ns.map D.int++[.int v]=(ns++[v]).map D.int:=by simp
section
variable {P:DK}
def asO (o:Option D) (P:DK):Prop:=match o with | some d=>P d | none=>False
theorem xa {d:D}:asO (some d) P↔P d:=Iff.rfl
theorem Bo {o:Option D}{d:D} (h:o=some d):asO o P↔P d:=by rw[h];rfl
theorem CB {k:Bool}{Q:Bool→Prop}:asB (.bl k) Q↔Q k:=Iff.rfl
theorem zV {g:Int→Int→D}{i j:Int}:vI0 g (.int i) (.int j) P↔P (g i j):=Iff.rfl
theorem Bf {C:Int→Int→Prop}{g:Int→Int→D}{i j:Int}:vI C g (.int i) (.int j) P↔C i j∧P (g i j):=Iff.rfl
theorem Bv {g:Int→D}{i:Int}:vU g (.int i) P↔P (g i):=Iff.rfl
theorem zt {i:Int}{Q:Int→Prop}:asI [.int i] Q↔Q i:=Iff.rfl
theorem xH {i j:Int}{Q:Int→Int→Prop}:ED [.int i,.int j] Q↔Q i j:=Iff.rfl
theorem zb {ds:List D}{Q:List D→Prop}:asL (.lst ds) Q↔Q ds:=Iff.rfl
theorem zD {ns:List Int}{Q:List D→Prop}:asL (.scr ns) Q↔Q (ns.map D.int):=Iff.rfl
theorem tm {ds:List D}{i:Int}:tw (.lst ds) (.int i) P↔asO (atI ds i) P:=Iff.rfl
theorem wY {ns:List Int}{i:Int}:tw (.scr ns) (.int i) P↔asO (atI (ns.map D.int) i) P:=Iff.rfl
theorem yf {ds:List D}{i:Int}:xG (.tup ds) (.int i) P↔asO (atI ds i) P:=Iff.rfl
theorem wZ {ds:List D}:A5 [.tup ds] P↔P (.int ds.length):=Iff.rfl
theorem xE {neg:Bool}{x:D}:HB neg x .non P↔P (.bl (if neg then !x.vc else x.vc)):=Iff.rfl
theorem xQ {a b:List D}:Er (.lst a) (.lst b) P↔(a.all D.bC=true∧b.all D.bC=true∧a.length+b.length≤1000)∧P (.lst (a++b)):=Iff.rfl
theorem xO {a:List D}{k:Int}:DY (.lst a) (.int k) P↔(a.all D.bC=true∧(-(2 ^ 63)≤k∧k<2 ^ 63)∧a.length*k.toNat≤1000)∧P (.lst (tG a k.toNat)):=Iff.rfl
theorem ur {ds:List D}:xc [.lst ds] P↔ds.all D.bC=true∧P (.lst ds):=Iff.rfl
theorem uj {ns:List Int}:xc [.scr ns] P↔P (dI ns):=by
  show ((ns.map D.int).all D.bC=true∧P _)↔_
  rw[jx];exact⟨fun h=>h.2,fun h=>⟨rfl,h⟩⟩
theorem ve {ns:List Int}:DZ [dI ns] P↔P (.int ns.sum):=by
  show (match i7 (ns.map D.int) with | some ns=>P (.int ns.sum) | none=>False)↔_
  rw[jP]
theorem kD {ns:List Int}{Q:List Int→Prop}:xJ (dI ns) Q↔Q ns:=by
  show (match i7 (ns.map D.int) with | some ns=>Q ns | none=>False)↔_
  rw[jP]
theorem C1 {g:List D→Dl→(Dl→Prop)→Prop}{n:Nat}{ds:List D}{δ:Dl}{Q:Dl→Prop}:y9 n g (.tup ds) δ Q↔ds.length=n∧g ds δ Q:=Iff.rfl
theorem xo {g:D→Dl→(Dl→Prop)→Prop}{gs:List D→Dl→(Dl→Prop)→Prop}{x:D}{xs:List D}{δ:Dl}{Q:Dl→Prop}:CP g gs (x::xs) δ Q↔g x δ fun δ'=>gs xs δ' Q:=Iff.rfl
theorem Ak {δ:Dl}{Q:Dl→Prop}:Fb [] δ Q↔Q δ:=Iff.rfl
theorem zM {i:Nat}{δ:Dl}{ds:List D}{Q:List D→Prop} (h:δ[i]?=some (some (.lst ds))):lQ δ i Q↔Q ds:=by unfold lQ;rw[h]
theorem zJ {i:Int}:(D.int i).tyn=some "int":=rfl
theorem De {i:Bool}:(D.bl i).tyn=some "bool":=rfl
theorem zk {i:List D}:(D.lst i).tyn=some "list":=rfl
theorem zE {i:List D}:(D.tup i).tyn=some "tuple":=rfl
theorem zH {i:Str}:(D.str i).tyn=some "str":=rfl
theorem y8:D.non.tyn=some "NoneType":=rfl
theorem C0:isB "int" "int" = true:=rfl
theorem CM:isB "int" "bool" = false:=rfl
theorem CO:isB "list" "list" = true:=rfl
theorem B4:isB "tuple" "tuple" = true:=rfl
theorem BM:isB "str" "str" = true:=rfl
theorem Bz:isB "bool" "bool" = true:=rfl
theorem Bg:isB "bool" "int" = true:=rfl
theorem Df:isB "int" "list" = false:=rfl
theorem Cf:isB "NoneType" "list" = false:=rfl
theorem mulC {i j:Int} (h:∃m n:Nat,i.natAbs<2 ^ m∧j.natAbs<2 ^ n∧m+n≤100000000):E5 i j:=h
end
end L3
namespace L2
open PySem PySem.Spec PyProof.Rows
section
variable {X:Cx}{K:PySem.W.Frag}
theorem uJ (hK:X.K=K) (hc:X.calm=true):iU X (.builtin "min") (fun xs H Q=>∃(a:Addr) (ns:List Int),xs=[.ref a]∧SqL K H a (ns.map V.int)∧0<ns.length∧∀M,M∈ns→(∀x∈ns,M≤x)→Q (.int M) H):=by
  subst hK
  intro pins s σ H xs us Q I r h
  obtain ⟨a,ns,rfl,hS,hne,q⟩:=h
  obtain ⟨u,rfl,ru⟩:=vals1 r
  obtain rfl:u=Value.ref a:=ru
  obtain ⟨its,rv,pl,hz⟩:=I.list hS
  have hi:=kM rv
  obtain ⟨xs',e⟩:=hi.allInts.items
  have hl:s.heap.IsList a (intItems xs'):=by rw[← e];exact pl.isList
  have hns:ns=xs'.toList.map (·.1):=by rw[← hi.numsOf,← nums_intItems,← e]
  have hsz:0<xs'.size:=by
    have h3:=hne;rw[hns,List.length_map,Array.length_toList] at h3;exact h3
  refine min_intList (I.ok.hd hc) hl hsz fun v h' tk hv hk=>?_
  obtain ⟨t,rfl⟩:=intItems_at hv
  obtain ⟨h1,h2⟩:=argBest_lt (numAt xs') (xs'.size - 1)
  refine⟨.int _,H,I.kept hk,⟨t,rfl⟩,q _ ?_ fun b hb=>?_⟩
  · rw[hns,numAt_eq];exact getD_mem (by rw[List.length_map,Array.length_toList];omega)
  · rw[hns] at hb
    obtain ⟨j,hj,rfl⟩:=mem_getD hb
    rw[List.length_map,Array.length_toList] at hj
    rw[← numAt_eq];exact h2 j (by omega)
theorem AL (hK:X.K=K) (hc:X.calm=true):iU X (.builtin "max") (fun xs H Q=>∃(a:Addr) (ns:List Int),xs=[.ref a]∧SqL K H a (ns.map V.int)∧0<ns.length∧∀M,M∈ns→(∀x∈ns,x≤M)→Q (.int M) H):=by
  subst hK
  intro pins s σ H xs us Q I r h
  obtain ⟨a,ns,rfl,hS,hne,q⟩:=h
  obtain ⟨u,rfl,ru⟩:=vals1 r
  obtain rfl:u=Value.ref a:=ru
  obtain ⟨its,rv,pl,hz⟩:=I.list hS
  have hi:=kM rv
  obtain ⟨xs',e⟩:=hi.allInts.items
  have hl:s.heap.IsList a (intItems xs'):=by rw[← e];exact pl.isList
  have hns:ns=xs'.toList.map (·.1):=by rw[← hi.numsOf,← nums_intItems,← e]
  have hsz:0<xs'.size:=by
    have h3:=hne;rw[hns,List.length_map,Array.length_toList] at h3;exact h3
  refine max_intList (I.ok.hd hc) hl hsz fun v h' tk hv hk=>?_
  obtain ⟨t,rfl⟩:=intItems_at hv
  obtain ⟨h1,h2⟩:=argBest_gt (numAt xs') (xs'.size - 1)
  refine⟨.int _,H,I.kept hk,⟨t,rfl⟩,q _ ?_ fun b hb=>?_⟩
  · rw[hns,numAt_eq];exact getD_mem (by rw[List.length_map,Array.length_toList];omega)
  · rw[hns] at hb
    obtain ⟨j,hj,rfl⟩:=mem_getD hb
    rw[List.length_map,Array.length_toList] at hj
    rw[← numAt_eq];exact h2 j (by omega)
theorem pM:∀{bs:List Bool}{its:List Value},Vals (bs.map V.bl) its→LSm.BoolsAre its bs
  | [],_,.nil=>.nil
  | b::bs,_,.cons r t=>by
    cases (show _=Value.bool b from r)
    exact .cons b (pM t)
theorem kI (hK:X.K=K) (hc:X.calm=true):iU X (.builtin "all") (fun xs H Q=>∃(a:Addr) (bs:List Bool),xs=[.ref a]∧SqL K H a (bs.map V.bl)∧Q (.bl (bs.all id)) H):=by
  subst hK
  intro pins s σ H xs us Q I r h
  obtain ⟨l,bs,rfl,hS,q⟩:=h
  obtain ⟨u,rfl,ru⟩:=vals1 r
  obtain rfl:u=Value.ref l:=ru
  obtain ⟨vs,rv,pl,hz⟩:=I.list hS
  have hb:=pM rv
  have hl:=pl.isList
  have hlt:l<s.heap.objs.size:=by obtain ⟨_,e,_⟩:=hl;exact Heap.lt_size e
  refine PySem.call_all_walk (wpAny_pyIter_list hl ?_)
  refine⟨s.heap.objs.size,[s.heap.objs.size,l],[s.heap.objs.size],vs.toArray.size,_,_,fun i=>(bs[i]?).getD true,rfl,Walks.list (A:=X.A.in1) (I.ok.hd hc) _ l (Nat.ne_of_lt hlt) vs.toArray,
    ⟨⟨_,Heap.get?_push_size _ rfl,rfl,rfl⟩,hl.push _⟩,fun i v s' Q' E' hP hQ=>?_,fun h' tk hk=>?_⟩
  · obtain ⟨b,e,rfl⟩:=hb.get i v (by simpa using hP)
    simp only[e,Option.getD_some] at hQ
    exact wpAny_truthy_bool hQ
  · have e:((List.range vs.toArray.size).all fun i=>(bs[i]?).getD true)=bs.all id:=by
      rw[List.size_toArray,hb.length];exact LSm.range_all bs
    rw[e]
    exact⟨.bl _,H,I.kept (LSm.kept_iter hk),rfl,q⟩
theorem Az (hK:X.K=K) (hc:X.calm=true):iU X (.builtin "any") (fun xs H Q=>∃(a:Addr) (bs:List Bool),xs=[.ref a]∧SqL K H a (bs.map V.bl)∧Q (.bl (bs.any id)) H):=by
  subst hK
  intro pins s σ H xs us Q I r h
  obtain ⟨l,bs,rfl,hS,q⟩:=h
  obtain ⟨u,rfl,ru⟩:=vals1 r
  obtain rfl:u=Value.ref l:=ru
  obtain ⟨vs,rv,pl,hz⟩:=I.list hS
  have hb:=pM rv
  have hl:=pl.isList
  have hlt:l<s.heap.objs.size:=by obtain ⟨_,e,_⟩:=hl;exact Heap.lt_size e
  refine PySem.call_any_walk (wpAny_pyIter_list hl ?_)
  refine⟨s.heap.objs.size,[s.heap.objs.size,l],[s.heap.objs.size],vs.toArray.size,_,_,fun i=>(bs[i]?).getD false,rfl,Walks.list (A:=X.A.in1) (I.ok.hd hc) _ l (Nat.ne_of_lt hlt) vs.toArray,
    ⟨⟨_,Heap.get?_push_size _ rfl,rfl,rfl⟩,hl.push _⟩,fun i v s' Q' E' hP hQ=>?_,fun h' tk hk=>?_⟩
  · obtain ⟨b,e,rfl⟩:=hb.get i v (by simpa using hP)
    simp only[e,Option.getD_some] at hQ
    exact wpAny_truthy_bool hQ
  · have e:((List.range vs.toArray.size).any fun i=>(bs[i]?).getD false)=bs.any id:=by
      rw[List.size_toArray,hb.length];exact LSm.range_any bs
    rw[e]
    exact⟨.bl _,H,I.kept (LSm.kept_iter hk),rfl,q⟩
def AV (n:Nat):List V:=(List.range n).map fun (k:Nat)=>.int (k:Int)
def w4 (te:TE):TE:=fun σ H Q=>te σ H fun x H1=>∃j:Int,x=.int j∧j≤100000∧-(2 ^ 62)≤j∧∀l,H1 l=none→Q (.ref l) (upd H1 l (.lst (AV j.toNat)))
theorem xT {e:Expr}{te:TE}{p p2 pos pos2:Pos} (hc:X.calm=true) (hg:Gl X "list") (hm:X.mg "list" = none) (hg2:Gl X "range") (hm2:X.mg "range" = none) (he:PE X e te)
    (hs:starEach [Expr.Call (.Name "range" p2) [e] [] pos2] X.env=[(false,eval (.Call (.Name "range" p2) [e] [] pos2) X.env)]:=by rfl) (hs2:starEach [e] X.env=[(false,eval e X.env)]:=by rfl) :
    PE X (.Call (.Name "list" p) [.Call (.Name "range" p2) [e] [] pos2] [] pos) (w4 te):=by
  intro pins s σ H Q I h
  refine wpAny_Call_Name_kw (lz I hg hm boot_list ?_)
  refine PyProof.Rows.callWith_type1 ?_ hs rfl
  rw[hs]
  refine Calls.spliced_cons ?_
  refine wpAny_Call_Name_kw (lz I hg2 hm2 boot_range ?_)
  refine PyProof.Rows.callWith_type1 ?_ hs2 rfl
  rw[hs2]
  refine Calls.spliced_cons (thn (he pins s σ H _ I h) fun v s1 ⟨x,H1,I1,r1,j,ex,hj,hj2,q⟩=>?_)
  subst ex
  obtain ⟨t,rfl⟩:=r1
  refine Calls.spliced_nil (call_range_1 (Calls.spliced_nil ?_))
  have hn:Builtin.Range.rangeSize 0 j 1=(j.toNat:Nat):=by rw[rangeSize_one];split<;>omega
  refine call_list_range (n:=j.toNat) (I.ok.hd hc) (IsRange.new ..) (small_one (by omega) (by omega) hj2 (by omega)) hn (by omega) fun h' tk acc' c' hk hS' hacc=>?_
  have hsz:∀o:Obj,(s1.heap.push o).objs.size=s1.heap.objs.size+1:=fun o=>Heap.size_push ..
  have k1:∀b o,s1.heap.get? b=some o→h'.get? b=some o:=fun b o e=>hk b o (Heap.get?_push_of_some _ e)
  have hn1:H1 (s1.heap.objs.size+1)=none:=I1.hok.fresh (Nat.le_succ _)
  dsimp only at hS' ⊢
  rw[hsz] at hS' ⊢
  have hacc2:Vals (AV j.toNat) acc'.toList:=by
    obtain ⟨a1,a2⟩:=hacc
    have key:∀(n:Nat) (f:Nat→V) (its:List Value),its.length=n→(∀i v,its[i]?=some v→RelV (f i) v)→Vals ((List.range n).map f) its:=by
      intro n
      induction n with
      | zero=>intro f its h1 h2;cases its with | nil=>exact .nil | cons _ _=>simp at h1
      | succ n ih =>
        intro f its h1 h2
        cases its with
        | nil=>simp at h1
        | cons v vs =>
          rw[List.range_succ_eq_map,List.map_cons,List.map_map]
          exact .cons (h2 0 v rfl) (ih (f ∘ Nat.succ) vs (by simpa using h1) fun i w e=>h2 (i+1) w (by simpa using e))
    refine key _ _ _ (by simpa using a1) fun i v e=>?_
    obtain ⟨t,hv⟩:=a2 i v (by simpa using e)
    exact⟨t,by rw[hv];simp⟩
  refine⟨.ref (s1.heap.objs.size+1),_,I1.laid (t':=tk) (o:=.lst (AV j.toNat)) k1 (Nat.le_succ _) ⟨by unfold AV;rw[List.length_map,List.length_range];exact small (by omega),acc'.toList,c',hacc2,?_⟩,rfl,q _ hn1⟩
  rw[hS']
end
end L2
namespace L2
open PySem PySem.Spec PyProof.Rows
section
variable {X:Cx}{K:PySem.W.Frag}
end
end L2
namespace L2
open PySem PySem.Spec PyProof.Rows
section
variable {X:Cx}
end
end L2
namespace L3
open PySem
open L2 hiding D Rf Rfs Rp dI dT
section
variable {K:PySem.W.Frag}{ρ:Bool}{Γr Γl Γ Γ1 Γ2 Γn M:List Nat}{t u:TS}{te ta tb tx t1 t2:TE}{de da db dx d1 d2:DE}{d e:DS}
variable {B0:Hp}{fps:Nat→List Addr}{δ:Dl}{σ:St}{H H':Hp}
def Af (xs:List D) (P:DK):Prop:=match xs with | [x]=>xJ x fun ns=>0<ns.length∧∀M,M∈ns→(∀x∈ns,M≤x)→P (.int M) | _=>False
def Ab (xs:List D) (P:DK):Prop:=match xs with | [x]=>xJ x fun ns=>0<ns.length∧∀M,M∈ns→(∀x∈ns,x≤M)→P (.int M) | _=>False
theorem CK:mi K (fun xs H Q=>∃(a:Addr) (ns:List Int),xs=[.ref a]∧SqL K H a (ns.map V.int)∧0<ns.length∧∀M,M∈ns→(∀x∈ns,M≤x)→Q (.int M) H) Af:=⟨fun xs P P' k h=>by
    unfold Af at h ⊢
    revert h
    split
    · exact fun h=>by obtain ⟨ns,e,z⟩:=fQ h;exact o8 e ⟨z.1,fun M a b=>k _ (z.2 M a b)⟩
    · exact id,
  fun {H xs vs Q} r h=>by
    unfold Af at h
    split at h
    · obtain ⟨v,rfl,r0⟩:=r.one
      obtain ⟨ns,e,h⟩:=fQ h
      obtain ⟨a,ys,fq,rfl,hs,hr⟩:=r0.seq e
      rw[hr.vg] at hs
      exact⟨a,ns,rfl,hs,h.1,fun M h1 h2=>h.2 M h1 h2 _ H [] (aN.refl H) ⟨rfl,rfl⟩ Nw.nil⟩
    · exact h.elim⟩
theorem Gu:mi K (fun xs H Q=>∃(a:Addr) (ns:List Int),xs=[.ref a]∧SqL K H a (ns.map V.int)∧0<ns.length∧∀M,M∈ns→(∀x∈ns,x≤M)→Q (.int M) H) Ab:=⟨fun xs P P' k h=>by
    unfold Ab at h ⊢
    revert h
    split
    · exact fun h=>by obtain ⟨ns,e,z⟩:=fQ h;exact o8 e ⟨z.1,fun M a b=>k _ (z.2 M a b)⟩
    · exact id,
  fun {H xs vs Q} r h=>by
    unfold Ab at h
    split at h
    · obtain ⟨v,rfl,r0⟩:=r.one
      obtain ⟨ns,e,h⟩:=fQ h
      obtain ⟨a,ys,fq,rfl,hs,hr⟩:=r0.seq e
      rw[hr.vg] at hs
      exact⟨a,ns,rfl,hs,h.1,fun M h1 h2=>h.2 M h1 h2 _ H [] (aN.refl H) ⟨rfl,rfl⟩ Nw.nil⟩
    · exact h.elim⟩
def iF:List D→Option (List Bool)
  | []=>some []
  | .bl i::ds=>(iF ds).map (i::·)
  | _=>none
theorem j6:∀{ns:List Bool},iF (ns.map D.bl)=some ns
  | []=>rfl
  | n::ns=>by rw[List.map_cons,iF,j6];rfl
theorem sP:∀{ds:List D}{ns:List Bool},iF ds=some ns→ds=ns.map D.bl
  | [],ns,h=>by cases h;rfl
  | .bl i::ds,ns,h=>by
    rw[iF] at h
    cases e:iF ds with
    | none=>rw[e] at h;cases h
    | some ms=>rw[e] at h;cases h;rw[sP e];rfl
  | .non::_,_,h=>by cases h
  | .int _::_,_,h=>by cases h
  | .str _::_,_,h=>by cases h
  | .lst _::_,_,h=>by cases h
  | .tup _::_,_,h=>by cases h
  | .dic _::_,_,h=>by cases h
  | .dit _::_,_,h=>by cases h
  | .scr _::_,_,h=>by cases h
def Ee (x:D) (P:List Bool→Prop):Prop:=asL x fun ds=>match iF ds with | some ns=>P ns | none=>False
theorem pA {x:D}{P:List Bool→Prop} (h:Ee x P):∃ns,x.items=some (ns.map D.bl)∧P ns:=by
  obtain ⟨ds,e,h⟩:=dM h
  cases q:iF ds with
  | none=>rw[q] at h;exact h.elim
  | some ns=>rw[q] at h;rw[sP q] at e;exact⟨ns,e,h⟩
theorem z6 {x:D}{ns:List Bool}{P:List Bool→Prop} (e:x.items=some (ns.map D.bl)) (h:P ns):Ee x P:=by
  refine kW e ?_
  rw[j6];exact h
theorem Rfs.CV {ns:List Bool}{vs:List V}{fp:List Addr} (h:Rfs K H (ns.map D.bl) vs fp):vs=ns.map V.bl:=by
  have hs:(ns.map D.bl).all D.bC=true:=by rw[List.all_map,List.all_eq_true];exact fun _ _=>rfl
  rw[(h.lE hs).1,List.map_map]
  rfl
def EC (xs:List D) (P:DK):Prop:=match xs with | [x]=>Ee x fun ns=>P (.bl (ns.all id)) | _=>False
def Dx (xs:List D) (P:DK):Prop:=match xs with | [x]=>Ee x fun ns=>P (.bl (ns.any id)) | _=>False
theorem sX:mi K (fun xs H Q=>∃(a:Addr) (bs:List Bool),xs=[.ref a]∧SqL K H a (bs.map V.bl)∧Q (.bl (bs.all id)) H) EC:=⟨fun xs P P' k h=>by
    unfold EC at h ⊢
    revert h
    split
    · exact fun h=>by obtain ⟨ns,e,z⟩:=pA h;exact z6 e (k _ z)
    · exact id,
  fun {H xs vs Q} r h=>by
    unfold EC at h
    split at h
    · obtain ⟨v,rfl,r0⟩:=r.one
      obtain ⟨ns,e,h⟩:=pA h
      obtain ⟨a,ys,fq,rfl,hs,hr⟩:=r0.seq e
      rw[hr.CV] at hs
      exact⟨a,ns,rfl,hs,h _ H [] (aN.refl H) ⟨rfl,rfl⟩ Nw.nil⟩
    · exact h.elim⟩
theorem Fv:mi K (fun xs H Q=>∃(a:Addr) (bs:List Bool),xs=[.ref a]∧SqL K H a (bs.map V.bl)∧Q (.bl (bs.any id)) H) Dx:=⟨fun xs P P' k h=>by
    unfold Dx at h ⊢
    revert h
    split
    · exact fun h=>by obtain ⟨ns,e,z⟩:=pA h;exact z6 e (k _ z)
    · exact id,
  fun {H xs vs Q} r h=>by
    unfold Dx at h
    split at h
    · obtain ⟨v,rfl,r0⟩:=r.one
      obtain ⟨ns,e,h⟩:=pA h
      obtain ⟨a,ys,fq,rfl,hs,hr⟩:=r0.seq e
      rw[hr.CV] at hs
      exact⟨a,ns,rfl,hs,h _ H [] (aN.refl H) ⟨rfl,rfl⟩ Nw.nil⟩
    · exact h.elim⟩
theorem nY {ns:List Bool}{P:DK}:EC [.lst (ns.map D.bl)] P↔P (.bl (ns.all id)):=by
  show (match iF (ns.map D.bl) with | some ns=>P (.bl (ns.all id)) | none=>False)↔_
  rw[j6]
theorem rQ {ns:List Bool}{P:DK}:Dx [.lst (ns.map D.bl)] P↔P (.bl (ns.any id)):=by
  show (match iF (ns.map D.bl) with | some ns=>P (.bl (ns.any id)) | none=>False)↔_
  rw[j6]
theorem sy {ns:List Int}{P:DK}:Af [dI ns] P↔0<ns.length∧∀M,M∈ns→(∀x∈ns,M≤x)→P (.int M):=kD
theorem so {ns:List Int}{P:DK}:Ab [dI ns] P↔0<ns.length∧∀M,M∈ns→(∀x∈ns,x≤M)→P (.int M):=kD
def ji (n:Nat):List Int:=(List.range n).map fun (k:Nat)=>(k:Int)
def su (de:DE) (δ:Dl) (P:DK):Prop:=de δ fun x=>asI [x] fun j=>(j≤100000∧-(2 ^ 62)≤j)∧P (dI (ji j.toNat))
theorem yO (he:ER K Γ te de):EM K Γ [] (w4 te) (su de) :=
  ⟨fun δ P P' k h=>he.mono _ _ _ (fun x z=>by obtain ⟨j,rfl,z⟩:=gJ z;exact⟨z.1,k _ z.2⟩) h,
   fun {B0 fps δ σ H Q} o h=>he.run o (he.mono _ _ _ (fun x z v H1 s1 r1=>by
    obtain ⟨j,ej,z'⟩:=gJ z
    subst ej
    refine⟨j,r1.int,z'.1.1,z'.1.2,fun l hl=>?_⟩
    have e:AV j.toNat=(ji j.toNat).map V.int:=by unfold AV ji;rw[List.map_map];rfl
    rw[e]
    have s2:aN H1 (upd H1 l (.lst ((ji j.toNat).map V.int))):=aN.lO hl
    exact z'.2 _ _ [l] (s1.trans s2) (Rf.ofInts aP) ((Nw.one hl aP).any.later s1)) h)⟩
theorem DB {o:Option D}{P:DK} (h:asO o P):∃d,o=some d∧P d:=by
  unfold asO at h;split at h
  · exact⟨_,rfl,h⟩
  · exact h.elim
theorem BQ {o:Option D}{es:List D}{Q:List D→Prop} (e:o=some (.lst es)) (h:Q es):uG o Q:=by rw[e];exact h
theorem Fy {ds:List D}{xs:List V}{fq:List Addr}{p:Addr} (h:Rfs K H ds xs fq) (hp:H p=none):aN H (upd H p (.lst xs))∧Rp K (upd H p (.lst xs)) (.lst ds) (.ref p) :=
  have s:aN H (upd H p (.lst xs)):=aN.lO hp
  ⟨s,p::fq,p,xs,fq,rfl,aP,rfl,h.same s⟩
structure OpW (K:PySem.W.Frag) (r:R2) (rv:D2):Prop where
  mono:∀x y (P P':DK),(∀z,P z→P' z)→rv x y P→rv x y P'
  run:∀{H x y v w Q},Rp K H x v→Rp K H y w→rv x y (fun z=>∀u H',aN H H'→Rp K H' z u→Q u H')→r v w H Q
theorem G6 {r:R2}{rv:D2} (ho:OpW K r rv) (ha:ER K Γ ta da) (hb:ER K Γ tb db):ER K Γ (tOp r ta tb) (vOp rv da db) :=
  ⟨fun δ P P' k h=>ha.mono _ _ _ (fun x z=>hb.mono _ _ _ (fun y z=>ho.mono x y _ _ k z) z) h,
   fun o q=>ha.run o (ha.mono _ _ _ (fun x z v H1 s1 r1=>hb.run (o.same s1) (hb.mono _ _ _ (fun y z w H2 s2 r2=>ho.run (r1.same s2) r2 (ho.mono _ _ _ _ (fun u z u' H' s r=>z u' H' ((s1.trans s2).trans s) r) z)) z)) q)⟩
def zm (x y:D) (P:DK):Prop:=match x,y with | .lst a,.lst b=>a.length+b.length≤1000∧P (.lst (a++b)) | _,_=>False
theorem uy {a b:List D}{P:DK}:zm (.lst a) (.lst b) P↔a.length+b.length≤1000∧P (.lst (a++b)):=Iff.rfl
theorem FH:OpW K FZ zm:=⟨fun x y P P' k h=>by unfold zm at h ⊢;revert h;split<;>first | exact fun h=>⟨h.1,k _ h.2⟩ | exact id,fun {H x y v w Q} r1 r2 h=>by
  unfold zm at h
  split at h
  · rename_i a b
    obtain ⟨hl,h⟩:=h
    obtain ⟨f1,l1,xs,q1,rfl,e1,_,hr1⟩:=r1
    obtain ⟨f2,l2,ys,q2,rfl,e2,_,hr2⟩:=r2
    refine⟨l1,l2,_,_,rfl,rfl,e1,e2,by rw[hr1.length,hr2.length];exact jI hl,fun p hp=>?_⟩
    obtain ⟨n1,n2⟩:=Fy (hr1.append hr2) hp
    exact h _ _ n1 n2
  · exact h.elim⟩
def He (x y:D) (P:DK):Prop:=match x,y with | .lst a,.int k=>((-(2 ^ 63)≤k∧k<2 ^ 63)∧a.length*k.toNat≤1000)∧P (.lst (tG a k.toNat)) | _,_=>False
theorem ux {a:List D}{k:Int}{P:DK}:He (.lst a) (.int k) P↔((-(2 ^ 63)≤k∧k<2 ^ 63)∧a.length*k.toNat≤1000)∧P (.lst (tG a k.toNat)):=Iff.rfl
def FW (xs:List D) (P:DK):Prop:=match xs with | [x]=>asL x fun ds=>P (.lst ds) | _=>False
theorem sW {ds:List D}{P:DK}:FW [.lst ds] P↔P (.lst ds):=Iff.rfl
theorem zh {neg:Bool}{i j:Bool}{P:DK}:tO neg (.bl i) (.bl j) P↔P (.bl (if neg then !decide (i=j) else decide (i=j))):=by
  unfold tO
  simp only[D.bC,D.toV,bC,true_and,V.bl.injEq]
theorem yh {neg:Bool}{i j:Str}{P:DK}:tO neg (.str i) (.str j) P↔P (.bl (if neg then !decide (i=j) else decide (i=j))):=by
  unfold tO
  simp only[D.bC,D.toV,bC,true_and,V.str.injEq]
end
end L3
namespace L3
open PySem
open L2 hiding D Rf Rfs Rp dI dT
def cM (n m:Nat) (t:List (List Int)):Prop:=t.length=n∧∀r∈t,r.length=m
abbrev rowAt (t:List (List Int)) (i:Nat):List Int:=t.getD i []
abbrev cellAt (t:List (List Int)) (i j:Nat):Int:=(t.getD i []).getD j 0
abbrev setCell (t:List (List Int)) (i j:Nat) (v:Int):List (List Int):=t.set i ((t.getD i []).set j v)
theorem mF {t:List (List Int)}{i:Nat} (h:i<t.length):rowAt t i∈t:=by
  unfold rowAt
  rw[List.getD_eq_getElem?_getD,List.getElem?_eq_getElem h]
  exact List.getElem_mem h
theorem cM.row {n m:Nat}{t:List (List Int)} (h:cM n m t) {i:Nat} (hi:i<n):(rowAt t i).length=m:=h.2 _ (mF (by rw[h.1];exact hi))
theorem cM.set {n m:Nat}{t:List (List Int)} (h:cM n m t) {i:Nat}{r:List Int} (hr:r.length=m):cM n m (t.set i r):=by
  refine⟨by rw[List.length_set];exact h.1,fun x hx=>?_⟩
  rcases List.mem_or_eq_of_mem_set hx with z | z
  · exact h.2 x z
  · rw[z];exact hr
theorem cM.setCell {n m:Nat}{t:List (List Int)} (h:cM n m t) {i j:Nat}{v:Int} (hi:i<n):cM n m (setCell t i j v):=h.set (by rw[List.length_set];exact h.row hi)
theorem Fj {t:List (List Int)}{i:Nat} (h:i<t.length):(t.map dI)[i]?=some (dI (rowAt t i)):=by
  unfold rowAt
  rw[List.getElem?_map,List.getD_eq_getElem?_getD,List.getElem?_eq_getElem h]
  rfl
theorem E7 {t:List (List Int)}{i:Int} (h0:0≤i) (h:i<t.length):atI (t.map dI) i=some (dI (rowAt t i.toNat)):=by
  unfold atI
  rw[iK h0 (by rw[List.length_map];exact h)]
  exact Fj (by omega)
theorem FV {t:List (List Int)}{i:Nat}{r:List Int}:(t.map dI).set i (dI r)=(t.set i r).map dI:=(List.map_set ..).symm
section
variable {i j:Nat}{δ:Dl}{de d1 d2 dx:DE}{E:b8}{t:List (List Int)}{r:List Int}{a b v:Int}
theorem oK (hs:δ[i]?=some (some (dI r))) (hde:∀R:DK,R (.int v)→de δ R) (hdx:∀R:DK,R (.int a)→dx δ R) (ha:0≤a∧a<r.length) (h:E.nx (δ.set i (some (dI (r.set a.toNat v))))):rg i de dx E δ:=by
  unfold rg
  refine hde _ ((zM hs).mpr (hdx _ ?_))
  show match ixN (r.map D.int).length a with | some j=>E.nx (δ.set i (some (.lst ((r.map D.int).set j (.int v))))) | none=>False
  rw[iK ha.1 (by rw[List.length_map];exact ha.2)]
  show E.nx (δ.set i (some (.lst ((r.map D.int).set a.toNat (.int v)))))
  rw[Ct];exact h
theorem gN (hs:δ[i]?=some (some (dT t))) (hde:∀R:DK,R (.int v)→de δ R) (h1:∀R:DK,R (.int a)→d1 δ R) (h2:∀R:DK,R (.int b)→d2 δ R) (ha:0≤a∧a<t.length) (hb:0≤b∧b<(rowAt t a.toNat).length)
    (h:E.nx (δ.set i (some (dT (setCell t a.toNat b.toNat v))))):mJ i de d1 d2 E δ:=by
  unfold mJ
  refine hde _ ((zM hs).mpr (h1 _ ?_))
  show uG (atI (t.map dI) a) _
  rw[E7 ha.1 ha.2]
  refine h2 _ ?_
  show match ixN (t.map dI).length a,ixN ((rowAt t a.toNat).map D.int).length b with | some j,some j2=>E.nx (δ.set i (some (.lst ((t.map dI).set j (.lst (((rowAt t a.toNat).map D.int).set j2 (.int v))))))) | _,_=>False
  rw[iK ha.1 (by rw[List.length_map];exact ha.2),iK hb.1 (by rw[List.length_map];exact hb.2)]
  show E.nx (δ.set i (some (.lst ((t.map dI).set a.toNat (.lst (((rowAt t a.toNat).map D.int).set b.toNat (.int v)))))))
  rw[Ct,FV];exact h
end
theorem bR {r:List Int}{a:Int}{P:DK} (ha:0≤a∧a<r.length) (h:P (.int (r.getD a.toNat 0))):asO (atI (r.map D.int) a) P:=(Bo (GV ha.1 ha.2)).mpr h
theorem eu {t:List (List Int)}{a:Int}{P:DK} (ha:0≤a∧a<t.length) (h:P (dI (rowAt t a.toNat))):asO (atI (t.map dI) a) P:=(Bo (E7 ha.1 ha.2)).mpr h
theorem BB {n:Nat}{x:Int}:tG [D.int x] n=(List.replicate n x).map D.int:=by
  unfold tG
  induction n with
  | zero=>rfl
  | succ n ih=>rw[List.replicate_succ,List.flatten_cons,ih,List.replicate_succ];rfl
theorem Cp {α:Type}{as:List α}{f:α→List Int}:as.map (fun a=>dI (f a))=(as.map f).map dI:=by rw[List.map_map];rfl
theorem gK {α:Type}{as:List α}{f:α→Int}:as.map (fun a=>D.int (f a))=(as.map f).map D.int:=by rw[List.map_map];rfl
theorem aq {K:PySem.W.Frag}{Γ:List Nat}{ta:TE}{da:DE}{tr:TA}{dr:DA} (ha:EM K Γ [] ta da) (hr:AM K Γ [] tr dr):AM K Γ [] (fg ta tr) (pK da dr):=Eu ha hr (fun _ h=>(nomatch h)) (fun _ h=>(nomatch h))
theorem AQ {di:DI}{dg:D→Dl→(Dl→Prop)→Prop}{dt:DT}{de:DE}{k:Nat}{idx:List Nat}{δ:Dl}{P:DK}{t:List (List Int)} (hdi:∀R:List D→Prop,R (t.map dI)→di δ R) (hl:t.length≤1000)
    (hb:∀r∈t,∀R:List D→Prop,R [dI r]→jW dg dt de (eU k idx δ) (dI r) R) (h:P (dT t)):oQ di dg dt de k idx δ P:=iy (g:=dI) hdi hl hb h
theorem vM {α:Type}{as:List α}{f:α→Bool}:as.map (fun a=>D.bl (f a))=(as.map f).map D.bl:=by rw[List.map_map];rfl
theorem Gx {a b:List Int}:a.map D.int++b.map D.int=(a++b).map D.int:=List.map_append.symm
theorem En {n:Nat}:(ji n).length=n:=by unfold ji;rw[List.length_map,List.length_range]
theorem Et {n:Nat}{x:Int}:x∈ji n↔0≤x∧x<n:=by
  unfold ji
  rw[List.mem_map]
  constructor
  · rintro ⟨k,hk,rfl⟩
    have:=List.mem_range.mp hk
    omega
  · rintro ⟨h0,h1⟩
    exact⟨x.toNat,List.mem_range.mpr (by omega),by omega⟩
theorem DX {n i:Nat}{p:List Int} (h:p.Perm (ji n)) (hi:i<n):i<p.length∧0≤p.getD i 0∧p.getD i 0<n:=by
  have hl:p.length=n:=by rw[h.length_eq,En]
  have hlt:i<p.length:=by omega
  have:p.getD i 0∈ji n:=h.mem_iff.mp (by rw[List.getD_eq_getElem?_getD,List.getElem?_eq_getElem hlt];exact List.getElem_mem hlt)
  exact⟨hlt,Et.mp this⟩
def pI (t:List (List Int)) (j:Nat):List Int:=t.map fun r=>r.getD j 0
end L3
namespace L3
open PySem
open L2 hiding D Rf Rfs Rp dI dT
end L3
namespace L3
open PySem
open L2 hiding D Rf Rfs Rp dI dT
theorem DM {ds:List D}{k:Int} (h:0≤k):cutD ds none (some k)=ds.take k.toNat:=by
  obtain ⟨n,rfl⟩:=Int.eq_ofNat_of_zero_le h
  unfold cutD
  rw[HT.Em,HT.Dt,Nat.sub_zero,List.drop_zero,← List.take_eq_take_min]
  rfl
theorem DG {α:Type}{as:List α}{f:α→D}{i:Int}{P:DK} (hne:1≤as.length) (hi:i=0∨i=-1) (h:∀a∈as,P (f a)):asO (atI (as.map f) i) P:=by
  have key:∀j,j<as.length→asO ((as.map f)[j]?) P:=fun j hj=>by
    rw[List.getElem?_map,List.getElem?_eq_getElem hj]
    exact h _ (List.getElem_mem hj)
  unfold atI
  rcases hi with rfl | rfl
  · rw[iK (by omega) (by rw[List.length_map];omega)]
    exact key 0 (by omega)
  · have:ixN (as.map f).length (-1)=some (as.length - 1):=by
      unfold ixN
      rw[List.length_map,if_neg (by omega),if_pos (by omega)]
      congr 1;omega
    rw[this]
    exact key _ (by omega)
theorem BH {a:D}{ds:List D}:atI (a::ds) 0=some a:=by
  unfold atI;rw[iK (by omega) (by rw[List.length_cons];omega)];rfl
theorem Cv {a b:D}{ds:List D}:atI (a::b::ds) 1=some b:=by
  unfold atI;rw[iK (by omega) (by rw[List.length_cons,List.length_cons];omega)];rfl
theorem Cm {a b c:D}{ds:List D}:atI (a::b::c::ds) 2=some c:=by
  unfold atI;rw[iK (by omega) (by rw[List.length_cons,List.length_cons,List.length_cons];omega)];rfl
theorem CQ {a b c d:D}{ds:List D}:atI (a::b::c::d::ds) 3=some d:=by
  unfold atI;rw[iK (by omega) (by rw[List.length_cons,List.length_cons,List.length_cons,List.length_cons];omega)];rfl
end L3
namespace L2
open PySem PySem.Spec PyProof.Rows
section
variable {prog:Program}{w:World}{A:Around}{E:Value→Shared→Prop}{s:Shared}
end
section
variable {X:Cx}{K:PySem.W.Frag}
end
end L2
namespace Maj
open L2 (tW pP u4 qA)
def nI (xs:List Int) (k:Nat):Int:=((tW xs).take k).sum
def qW (xs:List Int) (g t:Nat) (a:Int):List Int:=(xs.set g (xs.getD g 0 - a)).set t ((xs.set g (xs.getD g 0 - a)).getD t 0+a)
end Maj
namespace L3
open PySem
open L2 hiding D Rf Rfs Rp dI dT
section
variable {K:PySem.W.Frag}{ρ:Bool}{Γr Γl Γ Γn:List Nat}{te:TE}{de:DE}
theorem ER.es0 (h:ER K [] te de):ES K [] te de:=⟨h.mono,fun o q=>h.run o (h.mono _ _ _ (fun x z v H' s r=>let ⟨fp,r⟩:=r;z v H' fp s r fun j hj=>(nomatch hj)) q)⟩
end
end L3
namespace L3
open PySem L2
section
variable {K:PySem.W.Frag}
def GQ (xs:List D) (P:Int→Prop):Prop:=match xs with | [.int j]=>P j | [.bl b]=>P (if b then 1 else 0) | _=>False
theorem xx {i:Int}{P:Int→Prop}:GQ [.int i] P↔P i:=Iff.rfl
theorem zu {b:Bool}{P:Int→Prop}:GQ [.bl b] P↔P (if b then 1 else 0):=Iff.rfl
end
end L3
namespace L3
open PySem
open L2 hiding D Rf Rfs Rp dI dT
end L3
namespace L3
open PySem L2
section
variable {K:PySem.W.Frag}{ρ:Bool}{Γr Γl Γ:List Nat}{B0:Hp}{i j m:Nat}{a0:Addr}{fps:Nat→List Addr}{δ:Dl}{σ:St}{H H':Hp}{t u:TS}{d e:Nat→DS}{te tx t1:TE}{de dx d1:DE}
end
end L3
namespace L3
open PySem
open L2 hiding D Rf Rfs Rp dI dT
section
variable {δ:Dl}{i j:Nat}{t:List (List Int)}{a b v:Int}{d1 de dx:DE}{d:Nat→DS}{E:b8}
end
end L3
namespace L3
open PySem L2
def D.flat:D→Bool
  | .tup ds=>ds.all D.bC
  | d=>d.bC
theorem xj {i:Int}:(D.int i).flat=true:=rfl
theorem Ao {b:Bool}:(D.bl b).flat=true:=rfl
theorem uM {a b c d:Int}:(D.tup [.int a,.int b,.int c,.int d]).flat=true:=rfl
theorem uL {a b c:Int}:(D.tup [.int a,.int b,.int c]).flat=true:=rfl
theorem uF {a b:Int}:(D.tup [.int a,.int b]).flat=true:=rfl
end L3
namespace L3
open PySem
open L2 hiding D Rf Rfs Rp dI dT
theorem xk {t:List (List Int)}{n m:Nat}{a b:Int}{R:DK} (hR:cM n m t) (ha:0≤a∧a<n) (hb:0≤b∧b<m) (h:R (.int (cellAt t a.toNat b.toNat))):asO (atI (t.map dI) a) fun z=>tw z (.int b) R:=by
  have h1:=hR.row (i:=a.toNat) (by omega)
  have hl:=hR.1
  refine eu (by omega) ?_
  rw[tm]
  exact bR (by omega) h
theorem Dd {t:List (List Int)}{n m a b c d:Nat}{v:Int} (hR:cM n m t) (ha:a<n) (hb:b<m):cellAt (setCell t a b v) c d=if a=c∧b=d then v else cellAt t c d:=by
  have hl:=hR.1
  have hr:=hR.row ha
  unfold setCell cellAt
  by_cases h:a=c
  · subst h
    rw[List.getD_eq_getElem?_getD (l:=t.set a _),List.getElem?_set_self (by omega),Option.getD_some]
    by_cases h2:b=d
    · subst h2
      rw[if_pos ⟨rfl,rfl⟩,List.getD_eq_getElem?_getD,List.getElem?_set_self (by rw[show (t.getD a []).length=m from hr];exact hb),Option.getD_some]
    · rw[if_neg (fun z=>h2 z.2),List.getD_eq_getElem?_getD,List.getElem?_set_ne h2,← List.getD_eq_getElem?_getD]
  · rw[if_neg (fun z=>h z.1),List.getD_eq_getElem?_getD (l:=t.set a _),List.getElem?_set_ne h,← List.getD_eq_getElem?_getD]
theorem cM.ext {t u:List (List Int)}{n m:Nat} (h1:cM n m t) (h2:cM n m u) (h:∀a b,a<n→b<m→cellAt t a b=cellAt u a b):t=u:=by
  refine List.ext_getElem (by rw[h1.1,h2.1]) fun a ha hb=>?_
  have la:=h1.2 _ (List.getElem_mem ha)
  have lb:=h2.2 _ (List.getElem_mem hb)
  refine List.ext_getElem (by rw[la,lb]) fun b hc hd=>?_
  have:=h a b (by rw[← h1.1];exact ha) (by rw[← la];exact hc)
  unfold cellAt at this
  rw[List.getD_eq_getElem?_getD,List.getD_eq_getElem?_getD (l:=t),List.getD_eq_getElem?_getD,List.getD_eq_getElem?_getD (l:=u),List.getElem?_eq_getElem ha,List.getElem?_eq_getElem hb,Option.getD_some,Option.getD_some,List.getElem?_eq_getElem hc,List.getElem?_eq_getElem hd] at this
  exact this
def gR (n m:Nat) (t:List (List Int)) (i j k l:Int):Prop:=(0≤i∧i<n)∧(0≤k∧k<n)∧(0≤j∧j<m)∧(0≤l∧l<m)∧cellAt t i.toNat j.toNat=1∧cellAt t i.toNat l.toNat=0∧cellAt t k.toNat j.toNat=0∧cellAt t k.toNat l.toNat=1
instance {n m:Nat}{t:List (List Int)}{i j k l:Int}:Decidable (gR n m t i j k l):=by unfold gR;infer_instance
def oE (t:List (List Int)) (i j k l:Nat):List (List Int):=setCell (setCell (setCell (setCell t i j 0) i l 1) k j 1) k l 0
end L3
namespace L2
open PySem PySem.Spec PyProof.Rows
section
variable {κ:Type} [DecidableEq κ]
end
section
variable {P:Program}{w:World}{H:Hp}{h:Heap}{a:Addr}
end
section
variable {X:Cx}{pins:List (Addr × Obj)}{σ:St}{H:Hp}{s:Shared}{a:Addr}{y v:V}{u r:Value}{o:Option V}{A:Around}{E:Value→Shared→Prop}
end
section
variable {X:Cx}{pins:List (Addr × Obj)}{σ:St}{H:Hp}{s:Shared}{a:Addr}{kvs:List (Key × V)}{k:Key}{u:Value}{A:Around}{E:Value→Shared→Prop}
end
section
variable {X:Cx}{o i e value:Expr}{pos pos' tpos:Pos}{td ty tv:TE}
end
section
variable {X:Cx}{pos:Pos}
end
section
variable {X:Cx}{pins:List (Addr × Obj)}{σ:St}{H:Hp}{s:Shared}{a:Addr}{y d:V}{u r:Value}{o:Option V}{A:Around}{E:Value→Shared→Prop}
end
section
variable {X:Cx}{o e f:Expr}{apos cpos:Pos}{td ty tx:TE}
end
section
variable {X:Cx}{pins:List (Addr × Obj)}{σ:St}{H:Hp}{s:Shared}{a:Addr}{kvs:List (Key × V)}{A:Around}{E:Value→Shared→Prop}
end
section
variable {X:Cx}{pins:List (Addr × Obj)}{σ:St}{H:Hp}{s:Shared}{a:Addr}{y:V}{u:Value}{A:Around}{E:Value→Shared→Prop}
end
end L2
namespace L3
open PySem L2
def ST0 (K:PySem.W.Frag) (t:TS) (Γ Γn:List Nat) (d:DS):Prop :=
  ∀⦃B0:Hp⦄ ⦃Dn:Ends⦄ ⦃E:b8⦄ ⦃fps:Nat→List Addr⦄ ⦃δ:Dl⦄ ⦃σ:St⦄ ⦃H:Hp⦄,(∀{fps δ H},Ok K B0 Γn fps δ σ H→E.nx δ→Dn.nx σ H)→Ok K B0 Γ fps δ σ H→d E δ→t Dn σ H
section
variable {K:PySem.W.Frag}{ρ:Bool}{Γr Γl Γ Γ1 Γ2 Γn M:List Nat}{t u:TS}{te ta tb tx t1 t2:TE}{de da db dx d1 d2:DE}{d e:DS}
variable {B0:Hp}{fps:Nat→List Addr}{δ:Dl}{σ:St}{H H':Hp}
theorem ST0.st (h:ST0 K t Γ Γn d):ST K ρ Γr Γl t Γ Γn d:=fun _ _ _ _ _ _ _ k o q=>h (fun o' z=>k.nx o' z) o q
theorem wb (i:Nat) (he:EM K Γ [] te de) (h1:ER K Γ t1 d1) (h2:ER K Γ t2 d2) (hi:i∈Γ:=by decide):ST0 K (t4 te (El (tOp (AH K) (jd i) t1) t2 Aj)) Γ Γ (mJ i de d1 d2):=by
  intro B0 Dn E fps δ σ H k o h
  refine he.run o (he.mono _ _ _ (fun x z v H1 fp s r n=>?_) h)
  obtain ⟨ds,e,z⟩:=jr z
  obtain ⟨a0,xs0,fq0,g1,_⟩:=(o.same s).vQ e
  refine⟨.ref a0,g1,h1.run (o.same s) (h1.mono _ _ _ (fun y z w H2 s2 r2=>?_) z)⟩
  obtain ⟨m,em,z8⟩:=gJ z
  subst em
  obtain ⟨es,ej,z8⟩:=mG z8
  cases ejj:ixN ds.length m with
  | none=>unfold atI at ej;rw[ejj] at ej;cases ej
  | some j =>
    have o2:=(o.same s).same s2
    have ej':ds[j]?=some (.lst es):=by unfold atI at ej;rw[ejj] at ej;exact ej
    obtain ⟨a,xs,b,ys,fe,e1,e2,e3,e4,e5,e6,e7,e8,e9,_,KK⟩:=pC (es':=[]) o2 hi e ej'
    rw[g1] at e1;cases e1
    refine⟨a0,xs,m,.ref b,rfl,r2.int,.inl (.inl e2),by unfold atI;rw[e3,ejj];exact e4,h2.run o2 (h2.mono _ _ _ (fun y2 z w2 H3 s3 r3=>?_) z8)⟩
    obtain ⟨m2,em2,z9⟩:=gJ z
    subst em2
    rw[ejj] at z9
    cases ej2:ixN es.length m2 with
    | none=>rw[ej2] at z9;exact z9.elim
    | some j2 =>
      rw[ej2] at z9
      have o3:=o2.same s3
      obtain ⟨a',xs',b',ys',fe',f1,f2,f3,f4,f5,f6,f7,f8,f9,f10,KK⟩:=pC (es':=es.set j2 x) o3 hi e ej'
      rw[g1] at f1;cases f1
      rw[s3 _ _ e2] at f2;cases f2
      rw[e4] at f4;cases f4
      have r4:=r.same (s2.trans s3)
      have src:∀c∈fp,B0 c=none∧∀j,c∉fps j:=fun a ha=>⟨o.b0.free (n.fresh a ha),fun j z=>o.dom z (n.fresh a ha)⟩
      obtain ⟨fq',r',nd',k'⟩:=Rfs.set r4 n.nd f6 f7 (fun c hc z=>(src c hc).2 i (f9 c z)) (ym ej2)
      have mu':∀c∈fq',Mu H3 c:=fun c hc=>by
        rcases k' c hc with w | w
        · exact ((o3.own i hi).2 c (f9 c w)).2
        · exact (n.mu c w).same (s2.trans s3)
      obtain ⟨fps',o'⟩:=KK r' nd' (fun z=>(k' b z).elim f8 fun w=>(src b w).2 i f10) mu' (fun c hc=>(k' c hc).imp id fun w=>src c w)
      exact⟨b,ys',m2,j2,rfl,r3.int,f5,by rw[f6.length];exact ej2,k o' z9⟩
def kO (δ:Dl) (i:Nat) (P:Addr→D→Prop):Prop:=match δ[i]? with | some (some (.pin a d))=>P a d | _=>False
theorem ia {i:Nat}{P:Addr→D→Prop} (h:kO δ i P):∃a d,δ[i]?=some (some (.pin a d))∧P a d:=by
  unfold kO at h;split at h
  · exact⟨_,_,by assumption,h⟩
  · exact h.elim
theorem xP {i:Nat}{P:Addr→D→Prop}{a:Addr}{x:D} (e:δ[i]?=some (some (.pin a x))) (h:P a x):kO δ i P:=by unfold kO;rw[e];exact h
theorem Ok.nF (o:Ok K B0 Γ fps δ σ H) {i:Nat}{x y:D} (e:δ[i]?=some (some x)) (h:∀v,σ[i]?=some (some v)→Rf K H x v (fps i)→Rf K H y v (fps i)):Ok K B0 Γ fps (δ.set i (some y)) σ H:=by
  have hl:i<δ.length:=(List.getElem?_eq_some_iff.mp e).1
  refine⟨by rw[List.length_set];exact o.len,o.b0,fun j d q=>?_,fun j q=>?_,o.own,o.dj⟩
  · by_cases hj:j=i
    · subst hj
      rw[List.getElem?_set_self hl] at q;cases q
      obtain ⟨v,h1,h2⟩:=o.val j x e
      exact⟨v,h1,h v h1 h2⟩
    · rw[List.getElem?_set_ne (Ne.symm hj)] at q
      exact o.val j d q
  · by_cases hj:j=i
    · subst hj
      exact absurd (List.getElem?_set_self hl) (q y)
    · exact o.non j fun d z=>q d (by rw[List.getElem?_set_ne (Ne.symm hj)];exact z)
def EB (i:Nat) (d:DS) (E:b8) (δ:Dl):Prop:=kO δ i fun a x=>d { E with nx:=fun δ'=>p9 i δ' fun x'=>E.nx (δ'.set i (some (.pin a x'))) } (δ.set i (some x))
theorem Ed (i:Nat) (h:ST0 K t Γ Γn d):ST0 K t Γ Γn (EB i d):=by
  intro B0 Dn E fps δ σ H k o q
  obtain ⟨a,x,e,q⟩:=ia q
  obtain ⟨v,h1,h2⟩:=o.val i _ e
  obtain rfl:v=.ref a:=h2.1
  have o1:Ok K B0 Γ fps (δ.set i (some x)) σ H:=o.nF e fun _ _ z=>z.2
  refine h (E:={ E with nx:=fun δ'=>p9 i δ' fun x'=>E.nx (δ'.set i (some (.pin a x'))) }) (fun {fps2 δ2 H2} o2 z=>?_) o1 q
  obtain ⟨x',e2,z⟩:=lZ z
  exact k (o2.nF (y:=.pin a x') e2 fun v hv r=>⟨by rw[h1] at hv;cases hv;rfl,r⟩) z
theorem sk (i:Nat) (h:ST0 K t Γ Γn d):ST K ρ Γr Γl t Γ Γn (EB i d):=(Ed i h).st
def Ai (i:Nat) (δ:Dl) (P:DK):Prop:=kO δ i fun _ x=>P x
theorem vy (i:Nat):ER K Γ (jd i) (Ai i):=⟨fun δ P P' k h=>by obtain ⟨a,x,e,z⟩:=ia h;exact xP e (k _ z),fun {B0 fps δ σ H Q} o q=>by
  obtain ⟨a,x,e,q⟩:=ia q
  obtain ⟨v,e1,r⟩:=o.val i _ e
  exact⟨v,e1,q v H (aN.refl H) ⟨_,r.2⟩⟩⟩
def D.isRef:D→Bool | .lst _=>true | .dic _=>true | .pin _ _=>true | .ins _ _ _=>true | _=>false
theorem Rf.isRef {x:D}{v:V}{fp:List Addr} (h:Rf K H x v fp) (e:x.isRef=true):∃a,v=.ref a:=by
  cases x with
  | lst ds=>obtain ⟨a,xs,fq,rfl,_⟩:=h;exact⟨a,rfl⟩
  | dic ds=>obtain ⟨a,rfl,_⟩:=h;exact⟨a,rfl⟩
  | pin a d=>exact⟨a,h.1⟩
  | ins C ns ds=>obtain ⟨a,dx,xs,fq,rfl,_⟩:=h;exact⟨a,rfl⟩
  | _=>cases e
abbrev DSI:=List D→(D→D→Prop)→Prop
def v8 (S:DSI):Prop:=∀xs (P P':D→D→Prop),(∀r x,P r x→P' r x)→S xs P→S xs P'
def BI (K:PySem.W.Frag) (p:Nat) (vs:List V) (B:Hp) (Q:VK) (r x':D):Prop :=
  ∀w H' fp' fpw v,aN B H'→vs[p]?=some v→Rf K H' x' v fp'→fp'.Nodup→(∀b∈fp',B b=none∧Mu H' b)→Rf K H' r w fpw→fpw.Nodup→(∀b∈fpw,B b=none∧Mu H' b∧b∉fp')→Q w H'
def spI (K:PySem.W.Frag) (p:Nat) (S:DSI):Sp:=fun vs H Q _=>∃B fv ds,Ok K B [p] fv (ds.map some) (vs.map some) H∧(∃a,vs[p]?=some (.ref a))∧S ds (BI K p vs B Q)
theorem zr {p:Nat}{S:DSI}{n:Nat} (hS:∀ds P,S ds P→ds.length=n) {vs:List V}{H:Hp}{Q:VK}{E:XK} (h:spI K p S vs H Q E):vs.length=n:=by
  obtain ⟨B,fv,ds,o,_,h⟩:=h
  have:=o.len
  rw[List.length_map,List.length_map] at this
  rw[this];exact hS _ _ h
abbrev EJ (p:Nat) (a:Addr) (P:D→D→Prop):b8:=⟨fun δ=>kO δ p fun a' x=>a'=a∧P .non x,fun r δ=>kO δ p fun a' x=>a'=a∧P r x,fun _=>False,fun _=>False⟩
theorem AS {p:Nat}{N:List Str}{ds:List D}{vs:List V}{fv:Nat→List Addr}{a:Addr} (o:Ok K B0 [p] fv (ds.map some) (vs.map some) H) (ha:vs[p]?=some (.ref a)) {x:D} (hx:ds[p]?=some x) :
    Ok K B0 [p] fv (aO N (ds.set p (.pin a x))) (L2.start N vs) H:=by
  have hl:vs.length=ds.length:=by have:=o.len;rwa [List.length_map,List.length_map] at this
  have hp:p<ds.length:=(List.getElem?_eq_some_iff.mp hx).1
  have o1:Ok K B0 [p] fv ((ds.map some).set p (some (.pin a x))) (vs.map some) H:=o.nF (x:=x) (by rw[List.getElem?_map,hx];rfl) fun v hv r=>⟨by rw[List.getElem?_map,ha] at hv;cases hv;rfl,r⟩
  have e:(ds.map some).set p (some (.pin a x))=(ds.set p (.pin a x)).map some:=by rw[List.map_set]
  rw[e] at o1
  have hl1:(ds.set p (.pin a x)).length=ds.length:=List.length_set
  generalize ds.set p (.pin a x)=ds1 at *
  unfold aO L2.start
  refine⟨by rw[List.length_append,List.length_append,List.length_map,List.length_map,List.length_replicate,List.length_replicate];omega,o1.b0,fun i d q=>?_,fun i q=>?_,o1.own,o1.dj⟩
  · by_cases hi:i<ds1.length
    · rw[List.getElem?_append_left (by simpa using hi)] at q
      rw[List.getElem?_append_left (by rw[List.length_map];omega)]
      exact o1.val i d q
    · rw[List.getElem?_append_right (by simpa using hi),List.getElem?_replicate] at q
      split at q<;>cases q
  · refine o1.non i fun d z=>q d ?_
    have:i<ds1.length:=by simpa using (List.getElem?_eq_some_iff.mp z).1
    rw[List.getElem?_append_left (by simpa using this)]
    exact z
theorem zx {N:List Str}{p:Nat}{S:DSI} (hs:ST K true [p] [] t [p] Γn d) (hd:∀ds P a x,S ds P→ds[p]?=some x→d (EJ p a P) (aO N (ds.set p (.pin a x)))) (hΓ:p∈Γn:=by decide) (hS:∀ds P,S ds P→p<ds.length) :
    ∀{vs H Q E},spI K p S vs H Q E→t { nx:=fun _ H'=>Q .non H',rt:=Q } (L2.start N vs) H:=by
  rintro vs H Q E ⟨B,fv,ds,o,⟨a,ha⟩,h⟩
  have hlt:=hS _ _ h
  obtain ⟨x,hx⟩:∃x,ds[p]?=some x:=⟨_,List.getElem?_eq_getElem hlt⟩
  have fin:∀{Γ' fps δ σ H' r w fpw},p∈Γ'→Ok K B Γ' fps δ σ H'→Rf K H' r w fpw→fpw.Nodup→(∀b∈fpw,B b=none∧Mu H' b∧b∉fps p)→(kO δ p fun a' x=>a'=a∧BI K p vs B Q r x)→Q w H':=by
    intro Γ' fps δ σ H' r w fpw hp o' rr nd fr z
    obtain ⟨a',x',e,ea,z2⟩:=ia z
    subst ea
    obtain ⟨v,h1,h2⟩:=o'.val p _ e
    obtain rfl:v=.ref a':=h2.1
    exact z2 w H' (fps p) fpw (.ref a') o'.b0 ha h2.2 (o'.own p hp).1 (fun b hb=>(o'.own p hp).2 b hb) rr nd fr
  refine hs (E:=EJ p a (BI K p vs B Q)) ⟨fun o' z=>?_,fun _ (z:False)=>z.elim,fun _ (z:False)=>z.elim,fun o' r i z=>?_⟩ (AS o ha hx) (hd ds _ a x h hx)
  · exact fin (r:=.non) (w:=.non) (fpw:=[]) hΓ o' ⟨rfl,rfl⟩ List.nodup_nil (fun b hb=>(nomatch hb)) z
  · exact fin (List.mem_singleton.mpr rfl) o' r (i rfl).nd (fun b hb=>⟨(i rfl).nw b hb,(i rfl).mu b hb,(i rfl).dj p (List.mem_singleton.mpr rfl) b hb⟩) z
theorem Rfs.CS {H:Hp}:∀{ds:List D}{vs:List V}{fp:List Addr},Rfs K H ds vs fp→∃fps:Nat→List Addr,(∀i d,ds[i]?=some d→∃v,vs[i]?=some v∧Rf K H d v (fps i))∧(∀i,ds.length≤i→fps i=[])∧∀i a,a∈fps i→a∈fp
  | [],vs,fp,h=>⟨fun _=>[],fun i d e=>by simp at e,fun _ _=>rfl,fun _ _ h=>(nomatch h)⟩
  | d::ds,vs,fp,h=>by
    obtain ⟨x,r,f1,f2,rfl,rfl,h1,h2⟩:=h
    obtain ⟨fps,k1,k2,k3⟩:=Rfs.CS h2
    refine⟨fun i=>match i with | 0=>f1 | j+1=>fps j,fun i d' e=>?_,fun i hi=>?_,fun i a hm=>?_⟩
    · cases i with
      | zero=>simp at e;subst e;exact⟨x,rfl,h1⟩
      | succ j=>simpa using k1 j d' (by simpa using e)
    · cases i with
      | zero=>simp at hi
      | succ j=>exact k2 j (by simpa using hi)
    · cases i with
      | zero=>exact List.mem_append_left _ hm
      | succ j=>exact List.mem_append_right _ (k3 j a hm)
structure AI (K:PySem.W.Frag) (Γ:List Nat) (i p:Nat) (t:TA) (d:DA):Prop where
  mono:∀δ (P P':List D→Prop),(∀x,P x→P' x)→d δ P→d δ P'
  run:∀{B0 fps δ σ H Q},Ok K B0 Γ fps δ σ H→d δ (fun xs=>∀vs H' (fv:Nat→List Addr),aN H H'→vs.length=xs.length→(∀l x,xs[l]?=some x→∃v,vs[l]?=some v∧Rf K H' x v (fv l))→(∀l,xs.length≤l→fv l=[])→fv p=fps i→p<xs.length→(∃v,vs[p]?=some v∧σ[i]?=some (some v)) →
    (∀l,l≠p→∀a∈fv l,a∉fps i)→Q vs H')→t σ H Q
structure EX (K:PySem.W.Frag) (Γ:List Nat) (i:Nat) (t:TE) (d:DE):Prop where
  mono:∀δ (P P':DK),(∀x,P x→P' x)→d δ P→d δ P'
  run:∀{B0 fps δ σ H Q},Ok K B0 Γ fps δ σ H→d δ (fun x=>∀v H' fp,aN H H'→Rf K H' x v fp→(∀a∈fp,a∉fps i)→Q v H')→t σ H Q
theorem E1 {i:Nat} (h:ES K Γ te de) (hi:i∈Γ:=by decide):EX K Γ i te de:=⟨h.mono,fun o q=>h.run o (h.mono _ _ _ (fun x z v H' fp s r n=>z v H' fp s r fun a ha=>n i hi a ha) q)⟩
structure AX (K:PySem.W.Frag) (Γ:List Nat) (i:Nat) (t:TA) (d:DA):Prop where
  mono:∀δ (P P':List D→Prop),(∀x,P x→P' x)→d δ P→d δ P'
  run:∀{B0 fps δ σ H Q},Ok K B0 Γ fps δ σ H→d δ (fun xs=>∀vs H' fp,aN H H'→Rfs K H' xs vs fp→(∀a∈fp,a∉fps i)→Q vs H')→t σ H Q
theorem BS {i:Nat}:AX K Γ i mT A0:=⟨fun _ _ _ k h=>k _ h,fun {_ _ _ _ H _} o q=>q [] H [] (aN.refl H) ⟨rfl,rfl⟩ fun _ h=>(nomatch h)⟩
theorem Ag {i:Nat}{ta:TA}{da:DA} (he:EX K Γ i te de) (ha:AX K Γ i ta da):AX K Γ i (fg te ta) (pK de da) :=
  ⟨fun δ P P' k h=>he.mono _ _ _ (fun x z=>ha.mono _ _ _ (fun xs z=>k _ z) z) h,fun {B0 fps δ σ H Q} o q =>
    he.run o (he.mono _ _ _ (fun x z v H1 fp s1 r n=>ha.run (o.same s1) (ha.mono _ _ _ (fun xs z vs H' fq s2 rs ns=>z (v::vs) H' (fp++fq) (s1.trans s2) ⟨v,vs,fp,fq,rfl,rfl,r.same s2,rs⟩ fun a ha=>(List.mem_append.mp ha).elim (n a) (ns a)) z)) q)⟩
theorem zy (i:Nat) {ta:TA}{da:DA} (ha:AX K Γ i ta da):AI K Γ i 0 (fg (jd i) ta) (pK (p9 i) da) :=
  ⟨fun δ P P' k h=>mE _ _ _ (fun x z=>ha.mono _ _ _ (fun xs z=>k _ z) z) h,fun {B0 fps δ σ H Q} o q=>by
    obtain ⟨x,e,q⟩:=lZ q
    obtain ⟨v,h1,h2⟩:=o.val i x e
    refine⟨v,h1,ha.run o (ha.mono _ _ _ (fun xs z vs H' fp s r n=>?_) q)⟩
    obtain ⟨fv,k1,k2,k3⟩:=r.CS
    refine z (v::vs) H' (fun l=>match l with | 0=>fps i | l+1=>fv l) s (by rw[List.length_cons,List.length_cons,r.length]) (fun l y ey=>?_) (fun l hl=>?_) rfl (by rw[List.length_cons];omega) ⟨v,rfl,h1⟩ (fun l hl a hm=>?_)
    · cases l with
      | zero=>simp at ey;subst ey;exact⟨v,rfl,h2.same s⟩
      | succ l=>simpa using k1 l y (by simpa using ey)
    · cases l with
      | zero=>simp at hl
      | succ l=>exact k2 l (by simpa using hl)
    · cases l with
      | zero=>exact absurd rfl hl
      | succ l =>
        exact n a (k3 l a hm)⟩
theorem AZ {Ex:XK}{i p:Nat}{S:DSI}{ta:TA}{da:DA} (hS:v8 S) (ha:AI K Γ i p ta da) (hi:i∈Γ) (o:Ok K B0 Γ fps δ σ H) {Q:VK}
    (h:da δ fun xs=>(∀x,xs[p]?=some x→x.isRef=true)∧S xs fun r x'=>∀w H' fps' fpw,Ok K B0 Γ fps' (δ.set i (some x')) σ H'→Rf K H' r w fpw→fpw.Nodup→(∀b∈fpw,B0 b=none∧Mu H' b∧∀j,b∉fps' j)→Q w H') :
    qv (spI K p S) [] Ex ta σ H Q:=by
  refine ha.run o (ha.mono _ _ _ (fun xs z vs H1 fv s hl k1 k2 k3 hp hv k4=>?_) h)
  rw[List.append_nil]
  obtain ⟨z1,z2⟩:=z
  obtain ⟨v0,hv1,hv2⟩:=hv
  have o1:=o.same s
  obtain ⟨x,hx⟩:∃x,xs[p]?=some x:=⟨_,List.getElem?_eq_getElem hp⟩
  obtain ⟨v,e1,e2⟩:=k1 p x hx
  rw[hv1] at e1;cases e1
  obtain ⟨a,rfl⟩:=e2.isRef (z1 x hx)
  have hown:=o1.own i hi
  refine⟨fun b=>if b∈fps i then none else H1 b,fv,xs,⟨by rw[List.length_map,List.length_map,hl],fun b u e=>?_,fun l d e=>?_,fun l e=>?_,fun l hl'=>?_,fun l hl' j hj b hb=>?_⟩,⟨a,hv1⟩,hS _ _ _ (fun r x' z=>?_) z2⟩
  · split at e
    · cases e
    · exact e
  · rw[List.getElem?_map] at e
    cases q:xs[l]? with
    | none=>rw[q] at e;cases e
    | some y =>
      rw[q] at e;cases e
      obtain ⟨v,e3,e4⟩:=k1 l d q
      exact⟨v,by rw[List.getElem?_map,e3];rfl,e4⟩
  · by_cases hlt:l<xs.length
    · exact absurd (by rw[List.getElem?_map,List.getElem?_eq_getElem hlt];rfl) (e (xs[l]))
    · exact k2 l (by omega)
  · cases List.mem_singleton.mp hl'
    rw[k3]
    exact⟨hown.1,fun b hb=>⟨if_pos hb,(hown.2 b hb).2⟩⟩
  · cases List.mem_singleton.mp hl'
    rw[k3] at hb
    exact fun w=>k4 j hj b w hb
  · intro w H' fp' fpw v sB hv r' nd mu rr ndw frw
    rw[hv1] at hv;cases hv
    have fresh:∀b,(if b∈fps i then none else H1 b)=none→b∈fps i∨(B0 b=none∧∀j,b∉fps j):=fun b hb=>by
      by_cases q:b∈fps i
      · exact .inl q
      · rw[if_neg q] at hb
        exact .inr ⟨o1.b0.free hb,fun j z=>o1.dom z hb⟩
    have o2:=o1.write hi (fp':=fp') (d':=x') hv2 r' nd (fun b hb=>(mu b hb).2) (fun b hb=>fresh b (mu b hb).1) (fun b u hb e=>sB b u (by show (if b∈fps i then none else H1 b)=some u;rw[if_neg hb];exact e))
    refine z w H' _ fpw o2 rr ndw fun b hb=>⟨?_,(frw b hb).2.1,fun j=>?_⟩
    · rcases fresh b (frw b hb).1 with q | q
      · exact (hown.2 b q).1
      · exact q.1
    · by_cases hj:j=i
      · rw[if_pos hj];exact (frw b hb).2.2
      · rw[if_neg hj]
        rcases fresh b (frw b hb).1 with q | q
        · exact o1.dj i hi j hj b q
        · exact q.2 j
def yl (i p:Nat) (S:DSI) (da:DA) (E:b8) (δ:Dl):Prop:=da δ fun xs=>(∀x,xs[p]?=some x→x.isRef=true)∧S xs fun _ x'=>E.nx (δ.set i (some x'))
theorem u5 {Ex:XK}{S:DSI}{ta:TA}{da:DA} (i p:Nat) (hS:v8 S) (ha:AI K Γ i p ta da) (hi:i∈Γ:=by decide):ST0 K (qz (qv (spI K p S) [] Ex ta)) Γ Γ (yl i p S da) :=
  fun {B0 Dn E fps δ σ H} k o h=>AZ hS ha hi o (ha.mono _ _ _ (fun xs z=>⟨z.1,hS _ _ _ (fun r x' z w H' fps' fpw o' _ _ _=>k o' z) z.2⟩) h)
end
end L3
namespace L2
open PySem PySem.Spec PyProof.Rows
section
variable {X:Cx}
end
end L2
namespace L2
open PySem PySem.Spec PyProof.Rows
section
variable {X:Cx}{K:PySem.W.Frag}
theorem wA (hK:X.K=K):iU X (.builtin "sorted") (fun xs H Q=>∃(a:Addr) (ns:List Int),xs=[.ref a]∧SqL K H a (ns.map V.int)∧ns.length<64 ∧
    ∀(l:Addr) (ms:List Int),H l=none→ms.Perm ns→ms.Pairwise (·≤·)→Q (.ref l) (upd H l (.lst (ms.map V.int)))):=by
  subst hK
  intro pins s σ H xs us Q I r h
  obtain ⟨a,ns,rfl,hS,hz,q⟩:=h
  obtain ⟨u,rfl,ru⟩:=vals1 r
  obtain rfl:u=Value.ref a:=ru
  obtain ⟨its,rv,pl,_⟩:=I.list hS
  have hl:=rv.length
  rw[List.length_map] at hl
  refine sorted_ints pl.isList (kM rv) (by omega) fun out ms a1 a2 a3=>?_
  obtain ⟨n,he⟩:=sortedAll_at s.heap its out
  have hn:H (s.heap.objs.size+1)=none:=I.hok.fresh (Nat.le_succ _)
  have hlm:=a2.length_eq
  refine⟨.ref (s.heap.objs.size+1),_,I.laid (t':=s.toks) (o:=.lst (ms.map V.int)) (fun b o e=>sortedAll_old e) (Nat.le_succ _) ⟨?_,out.toList,n,kT a1,?_⟩,rfl,q _ ms hn a2 a3⟩
  · rw[List.length_map];exact small (by omega)
  · exact he
end
end L2
namespace L2
open PySem PySem.Spec PyProof.Rows
end L2
namespace L3
open PySem L2
section
variable {K:PySem.W.Frag}{ρ:Bool}{Γr Γl Γ Γ1 Γ2 Γn M:List Nat}{t u:TS}{te ta tb td ty tv:TE}{de da db dd dk dv:DE}{d e:DS}
def ofV:V→D | .non=>.non | .bl b=>.bl b | .int i=>.int i | .str x=>.str x | _=>.non
def GD (x:D) (P:List (Key × V)→Prop):Prop:=match x with | .dic kvs=>P kvs | _=>False
theorem uN {kvs:List (Key × V)}{P:List (Key × V)→Prop}:GD (.dic kvs) P↔P kvs:=Iff.rfl
def zR (xs:List D) (P:DK):Prop:=match xs with | [x]=>xJ x fun ns=>ns.length<64∧∀ms:List Int,ms.Perm ns→ms.Pairwise (·≤·)→P (dI ms) | _=>False
theorem sR {ns:List Int}{P:DK}:zR [dI ns] P↔ns.length<64∧∀ms:List Int,ms.Perm ns→ms.Pairwise (·≤·)→P (dI ms):=kD
theorem FI:mi K (fun xs H Q=>∃(a:Addr) (ns:List Int),xs=[.ref a]∧SqL K H a (ns.map V.int)∧ns.length<64∧∀(l:Addr) (ms:List Int),H l=none→ms.Perm ns→ms.Pairwise (·≤·)→Q (.ref l) (upd H l (.lst (ms.map V.int)))) zR :=
  ⟨fun xs P P' k h=>by
    unfold zR at h ⊢
    revert h
    split
    · exact fun h=>by obtain ⟨ns,e,z⟩:=fQ h;exact o8 e ⟨z.1,fun ms a b=>k _ (z.2 ms a b)⟩
    · exact id,
   fun {H xs vs Q} r h=>by
    unfold zR at h
    split at h
    · obtain ⟨v,rfl,r0⟩:=r.one
      obtain ⟨ns,e,z⟩:=fQ h
      obtain ⟨a,ys,fq,rfl,hs,hr⟩:=r0.seq e
      rw[hr.vg] at hs
      exact⟨a,ns,rfl,hs,z.1,fun l ms hl hp ho=>z.2 ms hp ho _ _ [l] (aN.lO hl) (Rf.ofInts aP) (Nw.one hl aP).any⟩
    · exact h.elim⟩
theorem uZ {ds:List D}:(D.lst ds).isRef=true:=rfl
theorem uS {ds:List (Key × V)}:(D.dic ds).isRef=true:=rfl
theorem zF {i:Int}:ofV (.int i)=.int i:=rfl
theorem Cj {b:Bool}:ofV (.bl b)=.bl b:=rfl
theorem zT:ofV .non=.non:=rfl
def Hb (xs:List D) (P:DK):Prop:=match xs with | [.dic kvs]=>P (.int kvs.length) | _=>False
theorem uT {kvs:List (Key × V)}{P:DK}:Hb [.dic kvs] P↔P (.int kvs.length):=Iff.rfl
end
end L3
namespace Mat
theorem uO:∀{l l':List Nat},l.Nodup→(∀x∈l,x∈l')→l.length≤l'.length
  | [],_,_,_=>Nat.zero_le _
  | x::l,l',h,s=>by
    obtain ⟨h1,h2⟩:=List.nodup_cons.mp h
    have hx:=s x List.mem_cons_self
    have:=uO (l':=l'.erase x) h2 fun y hy=>(List.mem_erase_of_ne (fun z=>h1 (by rw[← z];exact hy))).mpr (s y (List.mem_cons_of_mem _ hy))
    rw[List.length_erase_of_mem hx] at this
    have:0<l'.length:=List.length_pos_of_mem hx
    rw[List.length_cons];omega
theorem Hj {l:List Nat}{n:Nat} (h:l.Nodup) (hl:∀x∈l,x<n):l.length≤n:=by
  have:=uO h (l':=List.range n) fun x hx=>List.mem_range.mpr (hl x hx)
  rwa [List.length_range] at this
end Mat
namespace Mat
end Mat
namespace Mat
end Mat
namespace L2
open PySem PySem.Spec PyProof.Rows
end L2
namespace L3
open PySem L2
section
variable {K:PySem.W.Frag}{ρ:Bool}{Γr Γl Γ Γ1 Γ2 Γn M:List Nat}{t u:TS}{te ta tb:TE}{de da db:DE}{d e:DS}
end
end L3
namespace L3
open PySem L2
abbrev dPr (q:Int × List Int):D:=.tup [.int q.1,dI q.2]
abbrev oPr (q:Int × List Int):L2.D:=.tup [.int q.1,L2.dI q.2]
theorem FG {q:Int × List Int}:(dPr q).old=some (oPr q):=by
  rw[D.old,D.olds,D.olds,D.olds,D.old,wN];rfl
theorem rG:∀{ps:List (Int × List Int)},D.olds (ps.map dPr)=some (ps.map oPr)
  | []=>by rw[List.map_nil,D.olds];rfl
  | p::ps=>by rw[List.map_cons,D.olds,rG,FG];rfl
theorem nU:∀(ps:List (Int × List Int)),L2.D.cZ (ps.map oPr)=true
  | []=>rfl
  | p::ps=>by
    rw[List.map_cons,L2.D.cZ,nU ps,L2.D.plain,L2.D.cZ,L2.D.cZ,L2.D.cZ,L2.D.plain,L2.D.plain,L2.D.iP];rfl
theorem rM:∀(ps:List (Int × List Int)),L2.D.dF (ps.map oPr)≤5
  | []=>by rw[List.map_nil,L2.D.dF];omega
  | p::ps=>by
    have:=rM ps
    rw[List.map_cons,L2.D.dF,L2.D.depth,L2.D.dF,L2.D.dF,L2.D.dF,L2.D.depth,L2.D.depth,L2.D.jT]
    · refine Nat.max_le.mpr ⟨?_,this⟩
      decide
    all_goals (intro ds h;cases h)
theorem xS:∀(ps qs:List (Int × List Int)),L2.D.jf (ps.map oPr) (qs.map oPr)=decide (ps=qs)
  | [],[]=>rfl
  | [],y::ys=>rfl
  | x::xs,[]=>rfl
  | (a,x)::xs,(b,y)::ys=>by
    rw[List.map_cons,List.map_cons,L2.D.jf,xS xs ys,L2.D.eqb,L2.D.jf,L2.D.jf,L2.D.jf,L2.D.eqb,L2.D.eqb,L2.D.mB]
    by_cases h1:a=b
    · subst h1
      by_cases h2:x=y
      · subst h2;simp
      · simp [h2]
    · have:(a == b)=false:=beq_eq_false_iff_ne.mpr h1
      simp [this,h1]
theorem yF {neg:Bool}{ps qs:List (Int × List Int)}{P:DK} (h:P (.bl (if neg then !decide (ps=qs) else decide (ps=qs)))):Bu neg (.lst (ps.map dPr)) (.lst (qs.map dPr)) P :=
  ⟨_,_,by rw[D.old,rG];rfl,by rw[D.old,rG];rfl,nU _,nU _,Nat.le_trans (rM _) (by omega),by rw[xS];exact h⟩
theorem yH {ms:List Int}{n:Nat} (h:ms.Perm (ji n)) (ho:ms.Pairwise (·≤·)):ms=ji n:=by
  refine List.Perm.eq_of_pairwise (fun a b _ _ h1 h2=>by omega) ho ?_ h
  unfold ji
  rw[List.pairwise_map]
  exact (List.pairwise_lt_range (n:=n)).imp fun h=>by omega
def Tab (n:Nat) (ps:List (Int × List Int)) (t:List (List Int)):Prop:=cM n n t∧∀k j:Nat,k<n→j<n→cellAt t k j=(ps.map fun q=>if q.2.getD k 0=(j:Int) then q.1 else 0).sum
theorem Tab.uniq {n:Nat}{ps:List (Int × List Int)}{t u:List (List Int)} (h1:Tab n ps t) (h2:Tab n ps u):t=u:=h1.1.ext h2.1 fun a b ha hb=>by rw[h1.2 a b ha hb,h2.2 a b ha hb]
theorem Tab.snoc {n:Nat}{ps:List (Int × List Int)}{t u:List (List Int)}{q:Int × List Int} (h:Tab n ps t) (hu:cM n n u) (hc:∀k j:Nat,k<n→j<n→cellAt u k j=cellAt t k j+if q.2.getD k 0=(j:Int) then q.1 else 0):Tab n (ps++[q]) u :=
  ⟨hu,fun k j hk hj=>by rw[hc k j hk hj,h.2 k j hk hj,List.map_append,List.sum_append];simp⟩
end L3
namespace Bir
section
variable {κ:Type} [DecidableEq κ]
end
end Bir
namespace Bir
open L3
end Bir
namespace L2
open PySem
end L2
namespace L3
open PySem L2
section
variable {K:PySem.W.Frag}{ρ:Bool}{Γr Γl Γ Γ1 Γ2 Γn M:List Nat}{t u:TS}{te ta tb td ty tv ti:TE}{de da db dd dk dv di:DE}{d e:DS}
def Gr (xs:List D) (P:DK):Prop:=match xs with | [x]=>asL x fun ds=>ds.all D.bC=true∧P (.tup ds) | _=>False
theorem rj {ds:List D}{P:DK}:Gr [.lst ds] P↔ds.all D.bC=true∧P (.tup ds):=Iff.rfl
def GA (x:D) (P:List Int→Prop):Prop:=match x with | .tup ds=>(match i7 ds with | some ns=>P ns | none=>False) | _=>False
theorem za {ns:List Int}{P:List Int→Prop}:GA (.tup (ns.map D.int)) P↔P ns:=by
  unfold GA
  show (match i7 (ns.map D.int) with | some ns=>P ns | none=>False)↔P ns
  rw[jP]
def Ho (x:D) (P:List (List Key × V)→Prop):Prop:=match x with | .dit kvs=>P kvs | _=>False
theorem uo {kvs:List (List Key × V)}{P:List (List Key × V)→Prop}:Ho (.dit kvs) P↔P kvs:=Iff.rfl
end
end L3
namespace L3
open PySem L2
section
variable {K:PySem.W.Frag}{Γ:List Nat}
def G9 (xs:List D) (P:DK):Prop:=match xs with | [x]=>asL x fun ds=>P (.tup ds) | _=>False
theorem uv {ds:List D}{P:DK}:G9 [.lst ds] P↔P (.tup ds):=Iff.rfl
end
end L3
namespace L3
open PySem L2
section
variable {K:PySem.W.Frag}{ρ:Bool}{Γr Γl Γ:List Nat}
end
end L3
namespace L2
open PySem PySem.Spec PyProof.Rows
def GW (t u:TE):TE:=fun σ H Q=>t σ H Q∨u σ H Q
theorem bM {X:Cx}{e:Expr}{t u:TE} (h1:PE X e t) (h2:PE X e u):PE X e (GW t u):=fun pins s σ H Q I h=>h.elim (h1 pins s σ H Q I) (h2 pins s σ H Q I)
def Gf (K:PySem.W.Frag) (P:Addr) (xs:List V) (H:Hp) (Q:VK):Prop:=∃x t b,xs=[x,.ref P]∧l9 K H x t∧PySem.W.kitOne K t (.ref P)=some b∧Q (.bl b) H
theorem fc {X:Cx}{K:PySem.W.Frag}{P:Addr} (hK:X.K=K):iU X (.builtin "isinstance") (Gf K P):=by
  subst hK
  intro pins s σ H xs us Q I r h
  obtain ⟨x,t,b,rfl,ty,e,q⟩:=h
  obtain ⟨u,w',rfl,rx,rn⟩:=vals2 r
  obtain rfl:w'=Value.ref P:=rn
  exact uH I rx ty e fun tk=>⟨.bl b,H,I.tok _,rfl,q⟩
theorem az {X:Cx}{K:PySem.W.Frag}{e:Expr}{f:Str}{pos:Pos}{ta:TE} (hK:X.K=K) (he:PE X e ta) (hb:attributeBase e f X.env (eval e X.env)=eval e X.env):PE X (.Attribute e f pos) (F3 K ta f):=hK▸Fn he hb
theorem bP {X:Cx}{K:PySem.W.Frag}{o value:Expr}{f:Str}{pos pos':Pos}{ta tv:TE} (hK:X.K=K) (ha:PE X o ta) (hv:PE X value tv) (hs:swapsWith value (some (.Attribute o f pos')) pos.line X.env=pure false):PS X (.Assign [.Attribute o f pos'] value pos) (yN K ta tv f):=hK▸Gb ha hv hs
structure fP (K:PySem.W.Frag) (C:Addr) (x qual:Str) (st:Stmt) (ps:List Str) (f:Addr) (fd:FuncData):Prop where
  fn:Fun K x qual st f fd
  mt:Meth K C x f
  bd:Binds K fd ps []
structure h8 (K:PySem.W.Frag) (mg:Str→Option Value) (n:Str) (C:Addr) (qual:Str) (st:Stmt) (ps:List Str) (f:Addr) (fd:FuncData):Prop where
  fn:Fun K "__init__" qual st f fd
  mkk:Mk K C f
  bd:Binds K fd ps []
  mg:mg n=some (.ref C)
structure fR (K:PySem.W.Frag) (C:Addr):Prop where
  cl:Cls K C
  ha:PySem.W.findIn K (.ref C) "__class__" = some (some (.builtin "object.__class__"))
  hn:PySem.W.specialIn K (.builtin "object.__class__") "__get__" = some (some (.builtin "getset_descriptor.__get__"))
  ht:PySem.W.takesIn K (.builtin "object.__class__")=some true
  hm:PySem.W.mroIn K C (.type "object")=some true
theorem sd {f:Str}{v:V}:∀{ns:List Str}{xs:List V}{i:Nat},ns.Nodup→ns[i]?=some f→xs[i]?=some v→(ns.zip xs).lookup f=some v
  | [],_,i,_,e,_=>by simp at e
  | _::_,[],i,_,_,e=>by simp at e
  | n::ns,x::xs,0,_,e1,e2=>by
    simp at e1 e2
    subst e1;subst e2
    simp
  | n::ns,x::xs,i+1,hd,e1,e2=>by
    obtain ⟨h1,h2⟩:=List.nodup_cons.mp hd
    simp only[List.getElem?_cons_succ] at e1 e2
    have hne:f≠n:=fun z=>h1 (z▸List.mem_of_getElem? e1)
    rw[List.zip_cons_cons,List.lookup_cons,beq_eq_false_iff_ne.mpr hne]
    exact sd h2 e1 e2
theorem lI {f:Str}:∀{ns:List Str}{xs:List V},f∉ns→(ns.zip xs).lookup f=none
  | [],_,_=>by simp
  | _::_,[],_=>by simp
  | n::ns,x::xs,h=>by
    have hne:f≠n:=fun z=>h (z▸List.mem_cons_self)
    rw[List.zip_cons_cons,List.lookup_cons,beq_eq_false_iff_ne.mpr hne]
    exact lI fun z=>h (List.mem_cons_of_mem _ z)
theorem xl {f:Str}{v:V}:∀{ns:List Str}{xs:List V},f∉ns→ns.length=xs.length→kK f v (ns.zip xs)=(ns++[f]).zip (xs++[v])
  | [],[],_,_=>rfl
  | [],_::_,_,h=>by simp at h
  | _::_,[],_,h=>by simp at h
  | n::ns,x::xs,h,hl=>by
    have hne:n≠f:=fun z=>h (z▸List.mem_cons_self)
    rw[List.zip_cons_cons,kK,if_neg hne,xl (fun z=>h (List.mem_cons_of_mem _ z)) (by simpa using hl)]
    rfl
end L2
namespace L3
open PySem L2
section
variable {K:PySem.W.Frag}{Γ M:List Nat}{t u ta tb:TE}{d e da db:DE}{C:Addr}{ns:List Str}{f:Str}
def asF (C:Addr) (ns:List Str) (i:Nat) (x:D) (P:DK):Prop:=match x with | .ins C' ns' ds=>(C'=C∧ns'=ns)∧asO (ds[i]?) P | _=>False
theorem we {ds:List D}{i:Nat}{P:DK}:asF C ns i (.ins C ns ds) P=asO (ds[i]?) P:=by
  unfold asF
  simp
theorem zL {x:D}{i:Nat}{P:DK} (h:asF C ns i x P):∃ds y,x=.ins C ns ds∧ds[i]?=some y∧P y:=by
  cases x with
  | ins C' ns' ds =>
    obtain ⟨⟨rfl,rfl⟩,h⟩:=h
    obtain ⟨y,e,h⟩:=DB h
    exact⟨ds,y,rfl,e,h⟩
  | _=>exact h.elim
theorem BZ {x:D}{i:Nat}{P P':DK} (k:∀z,P z→P' z) (h:asF C ns i x P):asF C ns i x P':=by
  obtain ⟨ds,y,rfl,e,h⟩:=zL h
  rw[we,e]
  exact k _ h
def F7 (C:Addr) (ns:List Str) (i:Nat) (da:DE) (δ:Dl) (P:DK):Prop:=da δ fun x=>asF C ns i x P
theorem aK (ns:List Str) (i:Nat) (hc:Cls K C) (hn:bB K C f) (ha:ES K Γ ta da) (hi:ns[i]?=some f:=by rfl) (hd:ns.Nodup:=by decide +kernel):ES K Γ (F3 K ta f) (F7 C ns i da) :=
  ⟨fun δ P P' k h=>ha.mono _ _ _ (fun x z=>BZ k z) h,
   fun o q=>ha.run o (ha.mono _ _ _ (fun x z v H1 fp s1 r1 n1=>by
    obtain ⟨ds,y,rfl,e,z⟩:=zL z
    obtain ⟨a,dx,xs,fq,rfl,hH,rfl,hr⟩:=r1
    obtain ⟨w,f',e1,r3,k⟩:=hr.get e
    exact⟨a,C,dx,_,w,rfl,hH,hc,hn,sd hd hi e1,z w H1 f' s1 r3 fun j hj b hb=>n1 j hj b (List.mem_cons_of_mem _ (k b hb))⟩) q)⟩
def isI (C:Addr) (ns:List Str) (x:D):Prop:=match x with | .ins C' ns' _=>C'=C∧ns'=ns | _=>False
theorem zC {ds:List D}:isI C ns (.ins C ns ds)=True:=by
  unfold isI
  simp
theorem Ey {x:D} (h:isI C ns x):∃ds,x=.ins C ns ds:=by
  cases x with
  | ins C' ns' ds=>obtain ⟨rfl,rfl⟩:=h;exact⟨ds,rfl⟩
  | _=>exact h.elim
def Ds (C:Addr) (ns:List Str) (S:DSp) (da:DE) (dr:DA) (δ:Dl) (P:DK):Prop:=da δ fun x=>isI C ns x∧dr δ fun xs=>S (x::xs) P
theorem a7 {m:Str}{S:DSp}{E:XK}{w:TA}{dr:DA} (ns:List Str) (hS:br S) (ha:ER K Γ ta da) (hr:AR K Γ w dr) (hm:m∉ns:=by decide +kernel):EM K Γ [] (EZ C m (spP K S) [] E ta w) (Ds C ns S da dr) :=
  ⟨fun δ P P' k h=>ha.mono _ _ _ (fun x z=>⟨z.1,hr.mono _ _ _ (fun y z=>hS _ _ _ k z) z.2⟩) h,
   fun {B0 fps δ σ H Q} o q=>ha.run o (ha.mono _ _ _ (fun x z v H1 s1 r1=>by
    obtain ⟨z1,z2⟩:=z
    obtain ⟨ds,rfl⟩:=Ey z1
    obtain ⟨fp,a,dx,xs,fq,rfl,hH,e,hq⟩:=id r1
    refine⟨a,dx,_,rfl,hH,lI hm,hr.run (o.same s1) (hr.mono _ _ _ (fun ys z vs H2 s2 r2=>?_) z2)⟩
    obtain ⟨f1,r1'⟩:=r1.same s2
    obtain ⟨f2,r2'⟩:=r2
    exact⟨.ins C ns ds::ys,⟨f1++f2,_,_,f1,f2,by rw[List.append_nil],rfl,r1',r2'⟩,hS _ _ _ (fun u z u' H' fp s r n=>z u' H' fp ((s1.trans s2).trans s) r (n.any.later (s1.trans s2))) z⟩) q)⟩
def FD (d e:DE) (δ:Dl) (P:DK):Prop:=d δ P∨e δ P
theorem bN (h1:EM K Γ M t d) (h2:EM K Γ M u e):EM K Γ M (GW t u) (FD d e) :=
  ⟨fun δ P P' k h=>h.imp (h1.mono _ _ _ k) (h2.mono _ _ _ k),fun o q=>q.elim (fun q=>.inl (h1.run o q)) fun q=>.inr (h2.run o q)⟩
def FY (L:List Addr) (da:DE) (δ:Dl) (P:DK):Prop:=da δ fun x=>(∃C ns ds,x=.ins C ns ds∧C∈L)∧P (.bl true)
theorem BP {P:Addr} (L:List Addr) (hk:∀C∈L,fR K C∧PySem.W.kitOne K (.ref C) (.ref P)=some true) (ha:ER K Γ ta da):EM K Γ [] (tCB (Gf K P) (fg ta (fg (tC (.ref P)) mT))) (FY L da) :=
  ⟨fun δ P P' k h=>ha.mono _ _ _ (fun x z=>⟨z.1,k _ z.2⟩) h,
   fun {B0 fps δ σ H Q} o h=>ha.run o (ha.mono _ _ _ (fun x z v H1 s1 r1=>by
    obtain ⟨⟨C,ns,ds,rfl,hC⟩,z⟩:=z
    obtain ⟨fp,a,dx,xs,fq,rfl,hH,_,_⟩:=r1
    obtain ⟨k1,k2⟩:=hk C hC
    exact⟨.ref a,_,_,rfl,.ins hH k1.cl k1.ha k1.hn k1.ht k1.hm,k2,z _ H1 [] s1 ⟨rfl,rfl⟩ Nw.nil⟩) h)⟩
def spN (K:PySem.W.Frag) (C:Addr) (S:DSp):Sp:=fun vs H Q _=>∃(x dx:Addr) (ws:List V) (ds:List D) (B0:Hp),vs=.ref x::ws∧B0 x=none∧H=upd B0 x (.ins C dx [])∧Rps K B0 ds ws ∧
  S ds fun d=>∀ns xs dd fq H',d=.ins C ns dd→aN B0 H'→H' x=some (.ins C dx (ns.zip xs))→Rfs K H' dd xs fq→fq.Nodup→(∀a∈fq,B0 a=none∧a≠x∧Mu H' a)→Q .non H'
theorem ki {S:DSp}{n:Nat} (h:∀ds P,S ds P→ds.length=n) {vs:List V}{H:Hp}{Q:VK}{E:XK} (k:spN K C S vs H Q E):vs.length=n+1:=by
  obtain ⟨x,dx,ws,ds,B0,rfl,_,_,r,hS⟩:=k
  obtain ⟨fp,r⟩:=r
  rw[List.length_cons,r.length,h _ _ hS]
theorem j4 {S:DSp}{E:XK}{w:TA}{dr:DA} (hS:br S) (hi:∀ds P,S ds P→S ds fun d=>(∃ns dd,d=.ins C ns dd)∧P d) (hr:AR K Γ w dr):EM K Γ [] (BC C (spN K C S) [] E w) (qr S dr) :=
  ⟨fun δ P P' k h=>hr.mono _ _ _ (fun y z=>hS _ _ _ k z) h,
   fun {B0 fps δ σ H Q} o q=>hr.run o (hr.mono _ _ _ (fun ys z vs H1 s1 r1=>by
    intro x dx hx hdx hne
    have sx:aN H1 (upd H1 dx (.own x)):=aN.lO hdx
    refine⟨x,dx,vs,ys,upd H1 dx (.own x),by rw[List.append_nil],by rw[bf (Ne.symm hne)];exact hx,rfl,r1.same sx,hS _ _ _ ?_ (hi _ _ z)⟩
    rintro d ⟨⟨ns,dd,rfl⟩,z⟩ ns' xs dd' fq H' e sH hH hq hnd hfq
    cases e
    refine⟨rfl,z (.ref x) H' (x::fq) (s1.trans (sx.trans sH)) ⟨x,dx,xs,fq,rfl,hH,rfl,hq⟩ ⟨List.nodup_cons.mpr ⟨fun h=>(hfq x h).2.1 rfl,hnd⟩,fun a ha=>?_,fun a ha=>?_⟩⟩
    · rcases List.mem_cons.mp ha with e | h
      · rw[e];exact .inr (.inr (.inr ⟨_,_,_,hH⟩))
      · exact (hfq a h).2.2
    · rcases List.mem_cons.mp ha with e | h
      · rw[e];exact .inl (s1.free hx)
      · exact .inl (s1.free (sx.free (hfq a h).1))) q)⟩
structure INI (K:PySem.W.Frag) (C:Addr) (t:TS) (ns:List Str) (d:DA):Prop where
  mono:∀δ (P P':List D→Prop),(∀x,P x→P' x)→d δ P→d δ P'
  run:∀{B0 fps δ σ H x dx ns0 xs0 ds0 fq0 Dn},Ok K B0 [] fps δ σ H→σ[0]?=some (some (.ref x))→H x=some (.ins C dx (ns0.zip xs0))→B0 x=none→ns0.length=xs0.length→Rfs K H ds0 xs0 fq0→fq0.Nodup →
    (∀a∈fq0,B0 a=none∧a≠x∧Mu H a)→(∀i,x∉fps i)→(∀n∈ns,n∉ns0)→(ns0++ns).Nodup→(ns0++ns).length≤100 →
    d δ (fun ds=>∀H' xs fq,aN B0 H'→H' x=some (.ins C dx ((ns0++ns).zip xs))→Rfs K H' (ds0++ds) xs fq→fq.Nodup→(∀a∈fq,B0 a=none∧a≠x∧Mu H' a)→Dn.nx σ H')→t Dn σ H
theorem Rfs.snoc {H:Hp}:∀{ds:List D}{xs:List V}{fq:List Addr}{d:D}{v:V}{fp:List Addr},Rfs K H ds xs fq→Rf K H d v fp→Rfs K H (ds++[d]) (xs++[v]) (fq++fp)
  | [],xs,fq,d,v,fp,h,r=>by
    obtain ⟨rfl,rfl⟩:=h
    exact⟨v,[],fp,[],rfl,by simp,r,rfl,rfl⟩
  | d0::ds,xs,fq,d,v,fp,h,r=>by
    obtain ⟨x,rr,f1,f2,rfl,rfl,h1,h2⟩:=h
    exact⟨x,rr++[v],f1,f2++fp,rfl,by simp,h1,h2.snoc r⟩
theorem xi {f:Str} (hc:Cls K C) (hn:bB K C f) (he:EM K [] [] ta da) {B0:Hp}{fps:Nat→List Addr}{δ:Dl}{σ:St}{H:Hp}{x dx:Addr}{ns0:List Str}{xs0:List V}{ds0:List D}{fq0:List Addr}{Dn:Ends}
    (o:Ok K B0 [] fps δ σ H) (h0:σ[0]?=some (some (.ref x))) (hx:H x=some (.ins C dx (ns0.zip xs0))) (hb:B0 x=none) (hl:ns0.length=xs0.length) (hr:Rfs K H ds0 xs0 fq0) (hnd:fq0.Nodup)
    (hq:∀a∈fq0,B0 a=none∧a≠x∧Mu H a) (hfp:∀i,x∉fps i) (hf:f∉ns0) (h100:ns0.length<100)
    (q:da δ fun y=>∀H' v fq,Ok K B0 [] fps δ σ H'→H' x=some (.ins C dx ((ns0++[f]).zip (xs0++[v])))→Rfs K H' (ds0++[y]) (xs0++[v]) fq→fq.Nodup→(∀a∈fq,B0 a=none∧a≠x∧Mu H' a)→Dn.nx σ H'):yN K (jd 0) ta f Dn σ H:=by
  refine he.run o (he.mono _ _ _ (fun y z v H1 fp s1 r1 n1=>?_) q)
  have hx1:=s1 _ _ hx
  refine⟨.ref x,h0,x,C,dx,_,rfl,hx1,hc,hn,by rw[List.length_zip];omega,?_⟩
  rw[xl hf hl]
  have hxp:x∉fp:=fun h=>by have:=n1.fresh x h;rw[hx] at this;cases this
  have keep:∀a,a≠x→upd H1 x (.ins C dx ((ns0++[f]).zip (xs0++[v]))) a=H1 a:=fun a ha=>bf ha
  have imm:∀a w,H1 a=some w→Im w→upd H1 x (.ins C dx ((ns0++[f]).zip (xs0++[v]))) a=some w:=fun a w e hi=>by
    have:a≠x:=fun z=>by
      subst z
      rw[hx1] at e
      cases e
      rcases hi with ⟨_,z⟩ | ⟨_,_,z⟩ | ⟨_,_,z⟩<;>cases z
    rw[keep a this];exact e
  have muk:∀a,a≠x→Mu H1 a→Mu (upd H1 x (.ins C dx ((ns0++[f]).zip (xs0++[v])))) a:=fun a ha m=>m.upd (.inr (.inr (.inr ⟨_,_,_,rfl⟩)))
  have o1:=o.same s1
  refine z _ v (fq0++fp) ⟨o1.len,fun a w e=>?_,fun i dd e=>?_,o1.non,fun _ h=>(nomatch h),fun _ h=>(nomatch h)⟩ aP (Rfs.snoc ((hr.same s1).mono (fun a ha w e=>by rw[keep a (hq a ha).2.1];exact e) imm) (r1.mono (fun a ha w e=>by rw[keep a (fun z=>hxp (z▸ha))];exact e) imm)) ?_ fun a ha=>?_
  · rw[keep a (fun z=>by subst z;rw[hb] at e;cases e)]
    exact o1.b0 a w e
  · obtain ⟨v',h1,h2⟩:=o1.val i dd e
    exact⟨v',h1,h2.mono (fun a ha w e=>by rw[keep a (fun z=>hfp i (z▸ha))];exact e) imm⟩
  · refine List.nodup_append.mpr ⟨hnd,n1.nd,fun a h1 b h2 e=>?_⟩
    subst e
    exact (hq a h1).2.2.some (n1.fresh a h2)
  · rcases List.mem_append.mp ha with h | h
    · exact⟨(hq a h).1,(hq a h).2.1,muk a (hq a h).2.1 ((hq a h).2.2.same s1)⟩
    · exact⟨o.b0.free (n1.fresh a h),fun z=>hxp (z▸h),muk a (fun z=>hxp (z▸h)) (n1.mu a h)⟩
theorem j5 {f:Str} (hc:Cls K C) (hn:bB K C f) (he:EM K [] [] ta da):INI K C (yN K (jd 0) ta f) [f] (pK da A0) :=
  ⟨fun δ P P' k h=>he.mono _ _ _ (fun x z=>k _ z) h,fun {B0 fps δ σ H x dx ns0 xs0 ds0 fq0 Dn} o h0 hx hb hl hr hnd hq hfp hf hns h100 q =>
    xi hc hn he o h0 hx hb hl hr hnd hq hfp (hf f List.mem_cons_self) (by simp at h100;omega) (he.mono _ _ _ (fun y z H' v fq o' g1 g2 g3 g4=>z H' _ fq o'.b0 g1 g2 g3 g4) q)⟩
theorem cA {f:Str}{t:TS}{ns:List Str}{dr:DA} (hc:Cls K C) (hn:bB K C f) (he:EM K [] [] ta da) (hr:INI K C t ns dr):INI K C (DW (yN K (jd 0) ta f) t) (f::ns) (pK da dr) :=
  ⟨fun δ P P' k h=>he.mono _ _ _ (fun x z=>hr.mono _ _ _ (fun y z=>k _ z) z) h,fun {B0 fps δ σ H x dx ns0 xs0 ds0 fq0 Dn} o h0 hx hb hl hR hnd hq hfp hf hns h100 q =>
    xi hc hn he o h0 hx hb hl hR hnd hq hfp (hf f List.mem_cons_self) (by simp at h100;omega) (he.mono _ _ _ (fun y z H' v fq o' g1 g2 g3 g4=>by
      have e1:ns0++f::ns=(ns0++[f])++ns:=by simp
      refine hr.run o' h0 g1 hb (by simp [hl]) g2 g3 g4 hfp (fun n hn' z'=>?_) (by rw[← e1];exact hns) (by rw[← e1];exact h100) (hr.mono _ _ _ (fun ds z H2 xs fq s2 k1 k2 k3 k4=>?_) z)
      · rw[e1] at hns
        exact (List.nodup_append.mp hns).2.2 n z' n hn' rfl
      · refine z H2 xs fq s2 (by rw[e1];exact k1) ?_ k3 k4
        rw[List.append_assoc] at k2
        exact k2) q)⟩
theorem mv {N:List Str}{S:DSp}{t:TS}{ns:List Str}{d:DA} (hs:INI K C t ns d) (hd:∀ds P,S ds P→d (none::(aO (N.drop 1) ds)) fun dd=>P (.ins C ns dd)) (hN:1≤N.length) (hns:ns.Nodup:=by decide +kernel) (h100:ns.length≤100:=by decide) :
    ∀{vs H Q E},spN K C S vs H Q E→t { nx:=fun _ H'=>Q .non H',rt:=Q } (L2.start N vs) H:=by
  rintro vs H Q E ⟨x,dx,ws,ds,B0,rfl,hb,rfl,r,h⟩
  obtain ⟨fps,o⟩:=lU (N:=N.drop 1) r
  have sx:aN B0 (upd B0 x (.ins C dx [])):=aN.lO hb
  have o2:=o.same sx
  have est:L2.start N (.ref x::ws)=some (.ref x)::L2.start (N.drop 1) ws:=by
    unfold L2.start
    rw[List.map_cons,List.cons_append,List.length_cons,List.length_drop,show N.length - (ws.length+1)=N.length - 1 - ws.length by omega]
  rw[est]
  refine hs.run (B0:=B0) (fps:=fun i=>match i with | 0=>[] | j+1=>fps j) (δ:=none::aO (N.drop 1) ds) (x:=x) (dx:=dx) (ns0:=[]) (xs0:=[]) (ds0:=[]) (fq0:=[]) ⟨by rw[List.length_cons,List.length_cons,o2.len],sx,fun i dd e=>?_,fun i e=>?_,fun _ h=>(nomatch h),fun _ h=>(nomatch h)⟩ rfl aP hb rfl ⟨rfl,rfl⟩ List.nodup_nil (fun _ h=>(nomatch h)) (fun i=>?_) (fun _ _ h=>(nomatch h)) hns h100 (hs.mono _ _ _ (fun dd z H' xs fq s1 k1 k2 k3 k4=>?_) (hd ds _ h))
  · cases i with
    | zero=>simp at e
    | succ j=>exact o2.val j dd (by simpa using e)
  · cases i with
    | zero=>rfl
    | succ j=>exact o2.non j fun dd z=>e dd (by simpa using z)
  · cases i with
    | zero=>exact fun h=>(nomatch h)
    | succ j=>exact fun h=>o.dom h hb
  · exact z ns xs dd fq H' rfl s1 k1 k2 k3 k4
end
end L3
namespace L2
open PySem PySem.Spec PyProof.Rows
theorem fO.there {P:Program}{w:World}{H:Hp}{h:Heap}{a:Addr}{o:HO} (x:fO P w H h a o):∃ob,h.get? a=some ob:=by
  cases o with
  | lst xs=>obtain ⟨_,_,_,_,e⟩:=x;exact⟨_,e⟩
  | tup xs=>obtain ⟨_,_,_,ob,e,_⟩:=x;exact⟨_,e⟩
  | dK kvs=>obtain ⟨_,_,_,_,o,_,_,e,_⟩:=x;exact⟨_,e⟩
  | dT kvs=>obtain ⟨_,_,_,_,o,_,_,e,_⟩:=x;exact⟨_,e⟩
  | set S n=>obtain ⟨o,_,_,_,e,_⟩:=x;exact⟨_,e⟩
  | ins C dx fs=>obtain ⟨_,_,_,e,_⟩:=x;exact⟨_,e⟩
  | own y=>exact x
  | xd fs=>obtain ⟨_,⟨_,_,_,e,_⟩,_⟩:=x;exact⟨_,e⟩
  | rng lo hi=>obtain ⟨_,_,_,e⟩:=x;exact⟨_,e⟩
  | frz ob u=>obtain ⟨e,_⟩:=x;exact⟨_,e⟩
  | tbl ps=>exact⟨_,(show h.get? a=some _ from x)⟩
  | met f y=>exact⟨_,(show h.get? a=some _ from x)⟩
  | ext φ=>obtain ⟨_,e,_⟩:=x;exact e
  | memo φ ks=>obtain ⟨_,_,_,_,_,_,_,e,_⟩:=x;exact⟨_,e⟩
def Fly (h:Heap) (H:Hp) (lo:Heap) (a:Addr) (C:Value):Prop :=
  (H a=none∧lo.get? a=none)∧∃oe vs a0 T oT ts,h.get? a=some oe∧(oe.cls=C∧vs[0]?=some a0)∧oe.data=.fields vs∧vs[1]?=some (.ref T)∧T≠a∧h.get? T=some oT∧oT.data=.fields ts∧ts[3]?=some .none∧H T=none∧lo.get? T=none
def Hz (h:Heap) (H:Hp) (lo:Heap) (a:Addr) (C:Value):Prop :=
  (H a=none∧lo.get? a=none)∧∃oe vs a0,h.get? a=some oe∧(oe.cls=C∧vs[0]?=some a0)∧oe.data=.fields vs∧vs[1]?=some .none
def CXR (P:Program) (w:World):CXT:=fun outer H s E e s'=>∃(a C:Addr) (H':Hp),e=.ref a∧s'.os=s.os∧AllBare s'.gens∧Un (frs outer) [] H H' s.heap s'.heap∧HOk P w H' s'.heap ∧
  Fly s'.heap H' s.heap a (.ref C)∧E (.ref C) none H'
section
variable {P:Program}{w:World}{K:PySem.W.Frag}{mg:Str→Option Value}{base:Heap}{N:List Str}{qual:Str}{scope:Scope}{f:Addr}{cd:Value}{A:Around}{outer:List Env}{s0:Shared}{H0:Hp}{E:XK}
variable {pins:List (Addr × Obj)}{σ:St}{H':Hp}{s':Shared}{a C:Addr}{h2:Heap}
theorem uX {as:List Addr}{a0:Value} (J:Inv (p7 (CXR P w) P w K mg base N qual scope f cd A outer s0 H0 E) pins σ H' s')
    (has:∀b∈as,b∈frs (envOfC qual scope s0.heap.objs.size f cd::outer)∨(H' b=none∧s0.heap.get? b=none))
    (L:Heap.LeftW (PySem.W.hideAll s'.heap as) (envOfC qual scope s0.heap.objs.size f cd::outer) a (.ref C) a0 s'.heap h2) (ha:H' a=none∧s0.heap.get? a=none) (q:E (.ref C) none H') :
    CXR P w outer H0 s0 E (.ref a) { s' with heap:=h2 }:=by
  obtain ⟨k1,k2,k3,k4⟩:=L
  have bs:Un (frs outer) [] H0 H' s0.heap s'.heap:=J.base
  have keepB:∀b o,s'.heap.get? b=some o→b∉as→h2.get? b=some o:=fun b o e n=>k1 b o (PySem.W.hideAll_get _ e n)
  have stf:∀b∈frs (envOfC qual scope s0.heap.objs.size f cd::outer),H' b=none:=J.qZ
  have sts:∀b∈frs (envOfC qual scope s0.heap.objs.size f cd::outer),b∈s0.heap.objs.size::frs outer:=J.ra
  have trk:∀b u,H' b=some u→b∉as:=fun b u e z=>by
    rcases has b z with z | ⟨z,_⟩
    · rw[stf b z] at e;cases e
    · rw[z] at e;cases e
  have nofld:∀b∈frs (envOfC qual scope s0.heap.objs.size f cd::outer),∃o,s'.heap.get? b=some o∧∀vs,o.data≠.fields vs:=fun b hb=>(J.stack.mem hb).2
  refine⟨a,C,H',rfl,J.os,J.bare,⟨fun b o e n hb hx=>?_,fun b o e n hb hx=>?_,bs.free,fun b o e hx=>?_,bs.tups,bs.frzs,bs.tbls⟩,fun c o e=>?_,⟨ha,?_⟩,q⟩
  · refine keepB b o (bs.keep b o e n hb hx) fun z=>?_
    rcases has b z with z | ⟨_,z⟩
    · rcases List.mem_cons.mp (sts b z) with z | z
      · rw[z] at e;exact absurd (Heap.lt_size e) (Nat.lt_irrefl _)
      · exact hb z
    · rw[z] at e;cases e
  · obtain ⟨sl,e1⟩:=bs.slot b o e n hb hx
    obtain ⟨_,o',e',nf⟩:=J.ok.pJ.mem hb
    have e':s0.heap.get? b=some o':=e'
    rw[e] at e';cases e'
    obtain ⟨sl2,e2⟩:=k4 b { o with slots:=sl } e1 nf
    exact⟨sl2,e2⟩
  · obtain ⟨o',e1⟩:=bs.there b o e hx
    by_cases z:b∈as
    · rcases has b z with z | ⟨_,z⟩
      · obtain ⟨o2,e2,nf⟩:=nofld b z
        obtain ⟨sl,e3⟩:=k4 b o2 e2 nf
        exact⟨_,e3⟩
      · rw[z] at e;cases e
    · exact⟨o',keepB b o' e1 z⟩
  · refine (J.hok c o e).tL (fun b u hb q=>keepB b u q ?_) (fun _ q=>q) fun _ _ q=>q
    rcases hb with rfl | hb
    · exact trk _ _ e
    · exact trk _ _ hb
  · obtain ⟨oe,vs,T,oT,ts,g1,g2,g3,g4,g5,g6,g7,g8,g9⟩:=k3
    refine⟨oe,vs,a0,T,oT,ts,g1,g2,g3,g4,g6,g7,g8,g9,?_,?_⟩
    · cases r:H' T with
      | none=>rfl
      | some u =>
        obtain ⟨ob,e⟩:=(J.hok T u r).there
        rw[PySem.W.hideAll_get as e (trk T u r)] at g5
        cases g5
    · cases r:s0.heap.get? T with
      | none=>rfl
      | some u =>
        obtain ⟨o',e1⟩:=bs.there T u r (fun z=>(nomatch z))
        by_cases z:T∈as
        · rcases has T z with z | ⟨_,z⟩
          · obtain ⟨_,o2,e2,nf⟩:=k2.mem z
            rw[g7] at e2;cases e2
            exact absurd g8 (nf ts)
          · rw[z] at r;cases r
        · rw[PySem.W.hideAll_get as e1 z] at g5;cases g5
theorem zd {H:Hp}{s:Shared} (I:Inv (p7 (CXR P w) P w K mg base N qual scope f cd A outer s0 H0 E) pins σ H s) (os:s'.os=s.os) (bare:AllBare s'.gens)
    (U:Un (frs (envOfC qual scope s0.heap.objs.size f cd::outer)) [] H H' s.heap s'.heap) (ok:HOk P w H' s'.heap) (fl:Hz s'.heap H' s.heap a (.ref C)∨Fly s'.heap H' s.heap a (.ref C)) (q:E (.ref C) none H') :
    (p7 (CXR P w) P w K mg base N qual scope f cd A outer s0 H0 E).xe (.ref a) s':=by
  have J:Inv (p7 (CXR P w) P w K mg base N qual scope f cd A outer s0 H0 E) pins σ H' s':=I.xq os U ok bare fun b hb=>(nomatch hb)
  have up:∀b,s.heap.get? b=none→s0.heap.get? b=none:=fun b n=>by
    cases r:s0.heap.get? b with
    | none=>rfl
    | some u =>
      obtain ⟨o',e1⟩:=I.base.there b u r (fun z=>(nomatch z))
      rw[n] at e1;cases e1
  have hfr:(A.deeper (envOfC qual scope s0.heap.objs.size f cd)).frames=some (envOfC qual scope s0.heap.objs.size f cd::outer):=J.ok.frames
  have hst:s'.heap.FunFrames base (envOfC qual scope s0.heap.objs.size f cd::outer):=J.stack
  have hin:∀env∈(envOfC qual scope s0.heap.objs.size f cd::outer),∀b,env.frame=some b→b∈frs (envOfC qual scope s0.heap.objs.size f cd::outer):=fun env he b hb=>List.mem_filterMap.mpr ⟨env,he,hb⟩
  show wpAny _ _ _ _ _ _
  rcases fl with ⟨⟨na,fa⟩,oe,vs,a0,ge,⟨gc,g0⟩,gd,g1⟩ | ⟨⟨na,fa⟩,oe,vs,a0,T,oT,ts,ge,gc,gd,g1,g2,g3,g4,g5,nT,fT⟩
  · refine wpAny_leaving_firstW (base:=PySem.W.hideAll s'.heap (a::frs (envOfC qual scope s0.heap.objs.size f cd::outer))) hfr
      (PySem.W.funFrames_hide hst fun env he b hb=>List.mem_cons_of_mem _ (hin env he b hb)) rfl ge (fun b o e=>PySem.W.of_hideAll _ e) (PySem.W.hideAll_none _ (List.mem_cons_self ..)) gd g1 g0 fun h2 L=>?_
    rw[gc] at L
    refine uX J (fun b hb=>?_) L ⟨na,up a fa⟩ q
    rcases List.mem_cons.mp hb with rfl | hb
    · exact .inr ⟨na,up _ fa⟩
    · exact .inl hb
  · refine wpAny_leaving_nextW (a0:=a0) (base:=PySem.W.hideAll s'.heap (a::T::frs (envOfC qual scope s0.heap.objs.size f cd::outer))) (cls:=.ref C) hfr
      (PySem.W.funFrames_hide hst fun env he b hb=>List.mem_cons_of_mem _ (List.mem_cons_of_mem _ (hin env he b hb))) rfl
      ⟨oe,vs,T,oT,ts,ge,gc,gd,g1,PySem.W.hideAll_none _ (List.mem_cons_of_mem _ (List.mem_cons_self ..)),g2,g3,g4,g5⟩ (fun b o e=>PySem.W.of_hideAll _ e) (PySem.W.hideAll_none _ (List.mem_cons_self ..)) fun h2 L=>?_
    refine uX J (fun b hb=>?_) L ⟨na,up a fa⟩ q
    rcases List.mem_cons.mp hb with rfl | hb
    · exact .inr ⟨na,up _ fa⟩
    · rcases List.mem_cons.mp hb with rfl | hb
      · exact .inr ⟨nT,up _ fT⟩
      · exact .inl hb
theorem Cu:Passes (CXR P w) (p7 (CXR P w) P w K mg base N qual scope f cd A outer s0 H0 E) E:=fun pins σ H s e s' I h=>by
  obtain ⟨a,C,H',rfl,os,bare,U,ok,fl,q⟩:=h
  exact zd I os bare U ok (.inr fl) q
end
def C2 (C:Addr) (E:XK) (ta:TA):TS:=fun _ σ H=>ta σ H fun vs H1=>vs.length≤1000∧E (.ref C) none H1
def Raises (X:Cx) (C:Addr) (E:XK):Prop:=∀(pins:List (Addr × Obj)) (σ:St) (H:Hp) (s:Shared) (h':Heap) (a:Addr) (us:List Value),Inv X pins σ H s→Heap.MadeExcOf s.heap h' a (.ref C) us→E (.ref C) none H→X.xe (.ref a) { s with heap:=h' }
theorem vx {P:Program}{w:World}{K:PySem.W.Frag}{mg:Str→Option Value}{base:Heap}{N:List Str}{qual:Str}{scope:Scope}{f:Addr}{cd:Value}{A:Around}{outer:List Env}{s0:Shared}{H0:Hp}{E:XK}{C:Addr} :
    Raises (p7 (CXR P w) P w K mg base N qual scope f cd A outer s0 H0 E) C E:=fun pins σ H s h' a us I hx q=>by
  obtain ⟨t,ht,_,_⟩:=hx.there
  refine zd (s':={ s with heap:=h' }) I rfl I.bare (Un.kept hx.keeps) (I.hok.kept hx.keeps) (.inl ⟨⟨?_,hx.new⟩,_,_,_,ht,⟨rfl,rfl⟩,rfl,rfl⟩) q
  cases r:H a with
  | none=>rfl
  | some u =>
    obtain ⟨ob,e⟩:=(I.hok a u r).there
    rw[hx.new] at e;cases e
section
variable {X:Cx}{x:Str}{C:Addr}{bmB:List Value}{B newId initId:String}{E:XK}{e:Expr}{es:List Expr}{ta:TA}{np cpos pos:Pos}
theorem tj (O:OwnCls x C bmB newId X.mg X.base) (FB:ExcBaseFacts B newId initId bmB) (hc:X.calm=true) (hg:Gl X x) (hxe:Raises X C E) (ha:PA X (e::es) ta) (hdb:(x == ("__debug__" : Str))=false:=by decide)
    (he:starEach (e::es) X.env=(false,eval e X.env)::starEach es X.env:=by rfl) (hpl:(backTo cpos (starEach es X.env)).any (·.1)=false:=by rfl) :
    PS X (.Raise (some (.Call (.Name x np) (e::es) [] cpos)) none pos) (C2 C E ta):=by
  intro pins s σ H D I h
  obtain ⟨tl,N,nm,q,bs,hdct,sn,sub,ab,col,dd,k0,k1,k2,k3,k5,mN,hC,hN,hni,T⟩:=O.obj
  refine wpAny_Raise_call_subT (C:=C) (nm:=nm) (q:=q) (N:=N) (bs:=bs) (bm:=tl) (hdct:=hdct) (sn:=sn) (sub:=sub) (ab:=ab) (col:=col) (dd:=dd) (k0:=k0) (k1:=k1) (k2:=k2) (k3:=k3) (k5:=k5)
    FB (mN:=mN) (T.hasType FB.hasBase) (I.ok.hd hc) (by rw[he];show (false || (backTo cpos (starEach es X.env)).any (·.1))=false;rw[hpl];rfl) hni (kU I hg O.bound ⟨rfl,?_⟩ hdb)
  have h1:=ha cpos pins s σ H _ I h
  rw[he] at h1 ⊢
  refine Calls.evalArgs_plain (thn h1 fun us s1 ⟨vs,H1,I1,r,q1,q2⟩=>?_)
  exact⟨rfl,by show us.length≤_;rw[← r.length];exact Nat.le_of_lt (AY q1),I1.bk _ _ hC,hN.keeps I1.bk,T.keeps I1.bk,fun h' a hx=>hxe pins σ H1 s1 h' a us I1 hx q2⟩
end
end L2
namespace L2
open PySem PySem.Spec PyProof.Rows
abbrev VB:List Value:=[.type "ValueError",.type "Exception",.type "BaseException",.type "object"]
def dX (h:Heap) (C:Addr) (ups:List Addr):Prop:=∃N nm q bs hdct sn sub ab col dd k0 k1 k2 k3 k5 mN,
  h.get? C=some (excClassObj nm q C N bs (ups.map Value.ref++VB) hdct sn sub ab col dd k0 k1 k2 k3 k5 "ValueError.__new__")∧h.Ns N mN∧mN "__init__" = none∧OwnTail h VB (ups.map Value.ref++VB)
theorem dX.keeps {h h':Heap}{C:Addr}{ups:List Addr} (O:dX h C ups) (hk:∀b o,h.get? b=some o→h'.get? b=some o):dX h' C ups :=
  let ⟨N,nm,q,bs,hdct,sn,sub,ab,col,dd,k0,k1,k2,k3,k5,mN,hC,hN,hni,T⟩:=O
  ⟨N,nm,q,bs,hdct,sn,sub,ab,col,dd,k0,k1,k2,k3,k5,mN,hk _ _ hC,hN.keeps hk,hni,T.keeps hk⟩
theorem dX.own {h:Heap}{C:Addr}{ups:List Addr}{mg:Str→Option Value}{x:Str} (O:dX h C ups) (hm:mg x=some (.ref C)):OwnCls x C VB "ValueError.__new__" mg h:=by
  obtain ⟨N,nm,q,bs,hdct,sn,sub,ab,col,dd,k0,k1,k2,k3,k5,mN,hC,hN,hni,T⟩:=O
  exact⟨hm,_,N,nm,q,bs,hdct,sn,sub,ab,col,dd,k0,k1,k2,k3,k5,mN,hC,hN,hni,T⟩
theorem tu {M:Model}{A:Around}{E:Value→Shared→Prop}{s:Shared}{C D e:Addr}{ups upD:List Addr}{oe:Obj}{Q:Bool→Shared→Prop} (OC:dX s.heap C ups) (OD:dX s.heap D upD)
    (he:s.heap.get? e=some oe) (hcls:oe.cls=.ref C) (hb:(C::ups).contains D=true) (hq:Q true s):wpAny M A (excMatches (.ref e) (.ref D)) Q E s:=by
  obtain ⟨h,g,d,t,os⟩:=s
  obtain ⟨N,nm,q,bs,hdct,sn,sub,ab,col,dd,k0,k1,k2,k3,k5,mN,hC,hN,hni,T⟩:=OC
  obtain ⟨N',nm',q',bs',hdct',sn',sub',ab',col',dd',l0,l1,l2,l3,l5,mN',hD,hN',hni',T'⟩:=OD
  have hcB:(Value.ref D::(upD.map Value.ref++VB)).contains (.type "BaseException")=true:=by
    rw[List.contains_cons,T'.hasType (b:=true) rfl,Bool.or_true]
  have hcC:(Value.ref C::(ups.map Value.ref++VB)).contains (.ref D)=true:=by
    rw[List.contains_iff_mem] at hb ⊢
    rcases List.mem_cons.mp hb with rfl | hb
    · exact List.mem_cons_self ..
    · exact List.mem_cons_of_mem _ (List.mem_append_left _ (List.mem_map_of_mem hb))
  have f:=tc_notTuple
  unfold excMatches
  repeat (first | (with_reducible refine wpAny_loadPart_at he ?_;rw[hcls]) | with_reducible refine wpAny_loadPart_at hD ?_ | (with_reducible refine wpAny_isSubtype_exc hD ?_;rw[hcB]) | (with_reducible refine wpAny_isSubtype_exc hC ?_;rw[hcC]) | wp_step)
  exact hq
section
variable {X:Cx}{pins:List (Addr × Obj)}{σ:St}{H H':Hp}{s s':Shared}{a C:Addr}{a0:Value}{h:Heap}
theorem rf {T:Addr} (I:Inv X pins σ H s) (os:s'.os=s.os) (bare:AllBare s'.gens) (U:Un (frs X.stack) [] H H' s.heap s'.heap) (ok:HOk X.prog X.w H' s'.heap)
    (na:H' a=none) (fa:s.heap.get? a=none) (nT:H' T=none) (fT:s.heap.get? T=none)
    (hfl:Heap.FlyingW (PySem.W.hideAll s'.heap (a::T::frs X.stack)) X.stack a (.ref C) a0 h) (hup:s'.heap.UpToSlots h) :
    ∃oe,Inv X ((a,oe)::pins) σ H' { s' with heap:=h }∧oe.cls=.ref C∧h.get? a=some oe:=by
  obtain ⟨k1,k2,k3,oe,vs,T',oT,ts,g1,⟨g2,_⟩,g3,_⟩:=hfl
  have keepB:∀b o,s'.heap.get? b=some o→b≠a→b≠T→b∉frs X.stack→h.get? b=some o:=fun b o e n1 n2 n3=>k1 b o (PySem.W.hideAll_get _ e fun z=>by
    rcases List.mem_cons.mp z with z | z
    · exact n1 z
    · rcases List.mem_cons.mp z with z | z
      · exact n2 z
      · exact n3 z)
  have old:∀b o,s.heap.get? b=some o→b≠a∧b≠T:=fun b o e=>⟨fun z=>(by rw[z,fa] at e;cases e),fun z=>(by rw[z,fT] at e;cases e)⟩
  have J:Inv X pins σ H' s':=I.xq os U ok bare fun b hb=>(nomatch hb)
  have un:Un (frs X.stack) [] H H' s.heap h:=by
    refine⟨fun b o e n hb hx=>keepB b o (U.keep b o e n hb hx) (old b o e).1 (old b o e).2 hb,fun b o e n hb hx=>?_,U.free,fun b o e hx=>?_,U.tups,U.frzs,U.tbls⟩
    · obtain ⟨sl,e1⟩:=U.slot b o e n hb hx
      obtain ⟨_,o',e',nf⟩:=I.stack.mem hb
      rw[e] at e';cases e'
      obtain ⟨sl2,e2⟩:=hup b { o with slots:=sl } e1 nf
      exact⟨sl2,e2⟩
    · obtain ⟨o',e1⟩:=U.there b o e hx
      by_cases z:b∈frs X.stack
      · obtain ⟨_,o2,e2,nf⟩:=J.stack.mem z
        obtain ⟨sl,e3⟩:=hup b o2 e2 nf
        exact⟨_,e3⟩
      · exact⟨o',keepB b o' e1 (old b o e).1 (old b o e).2 z⟩
  have trk:∀b u,H' b=some u→b≠a∧b≠T∧b∉frs X.stack:=fun b u e=>⟨fun z=>(by rw[z,na] at e;cases e),fun z=>(by rw[z,nT] at e;cases e),fun z=>(by rw[J.qZ b z] at e;cases e)⟩
  have ok':HOk X.prog X.w H' h:=fun c o e=>(ok c o e).tL (fun b u hb q=>by
    have t:b≠a∧b≠T∧b∉frs X.stack:=by
      rcases hb with rfl | hb
      · exact trk _ _ e
      · exact trk _ _ hb
    exact keepB b u q t.1 t.2.1 t.2.2) (fun _ q=>q) fun _ _ q=>q
  have J6:Inv X pins σ H' { s' with heap:=h }:=I.xq (s':={ s' with heap:=h }) os un ok' bare fun b hb=>(nomatch hb)
  refine⟨oe,J6.oB fun p hp=>?_,g2,g1⟩
  rcases List.mem_cons.mp hp with rfl | hp
  · refine⟨g1,na,fun z=>?_,fun z=>?_,fun v z=>by rw[g3] at z;cases z⟩
    · obtain ⟨m,⟨o,_,_,e,_⟩,_⟩:=I.loc
      have z:a=X.env.locals:=z
      rw[← z,fa] at e;cases e
    · have z:a∈frs X.stack:=by
        rcases I.ok.stk with e | ⟨e,_⟩
        · rw[e];exact z
        · rw[e];unfold frs;rw[List.filterMap_cons]
          split
          · exact z
          · exact List.mem_cons_of_mem _ z
      obtain ⟨_,o,e,_⟩:=I.stack.mem z
      rw[fa] at e;cases e
  · exact J6.pin p (List.mem_append_right _ hp)
end
end L2
namespace L2
open PySem PySem.Spec PyProof.Rows
abbrev Cx.held (X:Cx) (a:Addr) (oe:Obj):Cx:={ X with A:=X.A.mark (some (.ref a)),calm:=false,pn:=(a,oe)::X.pn,xe:=fun _ _=>False }
section
variable {X:Cx}{pins:List (Addr × Obj)}{σ:St}{H:Hp}{s:Shared}{a:Addr}{oe:Obj}
theorem xu {A:Around}{u:Option Value}:(A.mark u).frames=A.frames:=by cases A;rfl
theorem Cx.Ok.held (ok:X.Ok):(X.held a oe).Ok :=
  ⟨ok.mod,ok.kind,ok.glob,ok.blt,ok.above,ok.inj,ok.has,ok.cab,(fun z=>absurd z (by show ¬ (false=true);decide)),xu.trans ok.frames,ok.stk,ok.exf,ok.bs,ok.bsz,ok.noex,ok.exfs,ok.pJ,ok.frf⟩
theorem Inv.held (I:Inv X ((a,oe)::pins) σ H s):Inv (X.held a oe) pins σ H s :=
  ⟨I.ok.held,I.os,I.bare,I.base,I.loc,I.cell,I.free,I.freeC,fun p hp=>I.pin p (by
    have hp:p∈((a,oe)::X.pn)++pins:=hp
    simp only[List.cons_append,List.mem_cons,List.mem_append] at hp ⊢
    rcases hp with h | h | h
    · exact .inr (.inl h)
    · exact .inl h
    · exact .inr (.inr h)),I.hok,I.len⟩
theorem Inv.FX (ok:X.Ok) (I:Inv (X.held a oe) pins σ H s):Inv X pins σ H s :=
  ⟨ok,I.os,I.bare,I.base,I.loc,I.cell,I.free,I.freeC,fun p hp=>I.pin p (List.mem_cons_of_mem _ hp),I.hok,I.len⟩
end
section
variable {X:Cx}{CX:CXT}{k:Nat}{f C D:Addr}{fd:FuncData}{ps:List Str}{sp:Sp}{E:XK}{x y n:Str}{p np cp ep hp pos:Pos}{e:Expr}{es:List Expr}{ta:TA}{b₀:Stmt}{suite:List Stmt}{i:Nat}{ups upD:List Addr}
theorem D4 {XE:Value→Shared→Prop}{pins:List (Addr × Obj)}{σ:St}{H:Hp}{s:Shared}{Q:VK}{us:List Value}{vs:List V} (F:aG X.prog X.w X.K X.mg X.base CX k f fd ps sp) (hr:iQ k X.A) (hb:Binds X.K fd ps [])
    (I:Inv X pins σ H s) (r:Vals vs us) (h:sp vs H Q E) (hx:∀e s',CX X.stack H s E e s'→XE e s'):wpAny (model X.prog X.w) X.A (call (.ref f) us) (EP X pins σ Q) XE s:=by
  have hl:(us++[]).length=ps.length:=by rw[List.append_nil,← r.length];exact F.len _ _ _ _ h
  have hb':=hb s us I.kIn hl
  rw[List.append_nil] at hb'
  refine wpAny_call (codeAny_mono (F.run X.A X.stack s H ⟨us,[]⟩ us vs Q E hr I.wW hb' r h) fun r s' hq=>?_)
  cases r with
  | error e=>exact hx e s' hq
  | ok fl =>
    cases fl with
    | ret u=>exact I.after hq
    | next=>exact False.elim hq
    | brk=>exact False.elim hq
    | cont=>exact False.elim hq
end
end L2
namespace L3
open PySem L2
abbrev DSX:=List D→DK→(Addr→Prop)→Prop
def ku (S:DSX):Prop:=∀xs (P P':DK) (R R':Addr→Prop),(∀z,P z→P' z)→(∀C,R C→R' C)→S xs P R→S xs P' R'
def spX (K:PySem.W.Frag) (S:DSX):Sp:=fun vs H Q E=>∃ds,Rps K H ds vs∧S ds (fun x=>∀v H' fp,aN H H'→Rf K H' x v fp→Nw H H' nf [] fp→Q v H') (fun C=>∀H',aN H H'→E (.ref C) none H')
def SX (K:PySem.W.Frag) (ρ:Bool) (Γr Γl:List Nat) (R:Addr→Prop) (t:XK→TS) (Γ Γn:List Nat) (d:DS):Prop :=
  ∀⦃B0:Hp⦄ ⦃Dn:Ends⦄ ⦃E:b8⦄ ⦃Ex:XK⦄ ⦃fps:Nat→List Addr⦄ ⦃δ:Dl⦄ ⦃σ:St⦄ ⦃H:Hp⦄,(∀C H',aN B0 H'→R C→Ex (.ref C) none H')→EOk K ρ Γr Γl Γn B0 Dn E→Ok K B0 Γ fps δ σ H→d E δ→t Ex Dn σ H
section
variable {K:PySem.W.Frag}{ρ:Bool}{Γr Γl Γ Γ1 Γ2 Γn M:List Nat}{R:Addr→Prop}{t u:XK→TS}{t0:TS}{d e:DS}{C:Addr}{S:DSX}{ta:TA}{da:DA}
theorem ST.sx (h:ST K ρ Γr Γl t0 Γ Γn d):SX K ρ Γr Γl R (fun _=>t0) Γ Γn d:=fun _ _ _ _ _ _ _ _ _ k o q=>h k o q
theorem sT (h1:SX K ρ Γr Γl R t Γ Γ1 d) (h2:SX K ρ Γr Γl R u Γ1 Γ2 e):SX K ρ Γr Γl R (fun Ex=>DW (t Ex) (u Ex)) Γ Γ2 (Ep d e) :=
  fun {B0 Dn E Ex fps δ σ H} x k o h=>h1 (Dn:={ Dn with nx:=u Ex Dn }) (E:={ E with nx:=e E }) x ⟨fun o h=>h2 x k o h,k.bk,k.ct,k.rt⟩ o h
theorem BW {c:TT}{dc:DT} (hc:TR K Γ c dc) (h1:SX K ρ Γr Γl R t Γ Γn d) (h2:SX K ρ Γr Γl R u Γ Γn e):SX K ρ Γr Γl R (fun Ex=>Gp c (t Ex) (u Ex)) Γ Γn (EG dc d e) :=
  fun _ _ _ _ _ _ _ _ x k o h=>hc.run o (hc.mono _ _ _ (fun b z H' s=>eN (fun z=>h1 x k (o.same s) z) (fun z=>h2 x k (o.same s) z) z) h)
def yq (C:Addr) (R:Addr→Prop) (da:DA) (_:b8) (δ:Dl):Prop:=da δ fun xs=>xs.length≤1000∧R C
theorem rV (ha:AR K Γ ta da):SX K ρ Γr Γl R (fun Ex=>C2 C Ex ta) Γ Γn (yq C R da) :=
  fun {B0 Dn E Ex fps δ σ H} x k o h=>ha.run o (ha.mono _ _ _ (fun xs z vs H' s r=>by
    obtain ⟨fp,r⟩:=r
    exact⟨by rw[r.length];exact z.1,x C H' (o.b0.trans s) z.2⟩) h)
def Ci (S:DSX) (R:Addr→Prop) (i:Nat) (da:DA) (E:b8) (δ:Dl):Prop:=da δ fun xs=>S xs (fun x=>E.nx (δ.set i (some x))) R
theorem x5 {Ex:XK}{B0:Hp}{fps:Nat→List Addr}{δ:Dl}{σ:St}{H:Hp}{Q:VK} (hS:ku S) (ha:AR K Γ ta da) (x:∀C H',aN B0 H'→R C→Ex (.ref C) none H') (o:Ok K B0 Γ fps δ σ H)
    (h:da δ fun xs=>S xs (fun z=>∀v H' fp,aN H H'→Rf K H' z v fp→Nw H H' fps [] fp→Q v H') R):qv (spX K S) [] Ex ta σ H Q :=
  ha.run o (ha.mono _ _ _ (fun xs z vs H1 s1 r1=>⟨xs,by rw[List.append_nil];exact r1,hS _ _ _ _ _ (fun u z u' H' fp s r n=>z u' H' fp (s1.trans s) r (n.any.later s1)) (fun C z H2 s2=>x C H2 (o.b0.trans (s1.trans s2)) z) z⟩) h)
theorem Bc (i:Nat) (hS:ku S) (ha:AR K Γ ta da):SX K ρ Γr Γl R (fun Ex=>t4 (qv (spX K S) [] Ex ta) (lY i)) Γ (i::minus (minus Γ []) [i]) (Ci S R i da) :=
  fun {B0 Dn E Ex fps δ σ H} x k o h=>x5 hS ha x o (ha.mono _ _ _ (fun xs z=>hS _ _ _ _ _ (fun y z v H' fp s r n=>k.nx (o.EV (M:=[]) i (fun _ h=>(nomatch h)) s r n) z) (fun _ z=>z) z) h)
theorem wD {N:List Str}{dR:(Addr→Prop)→DS} (hs:∀R,SX K true [] [] R t [] Γn (dR R)) (hd:∀ds P R,S ds P R→dR R (m5 P) (aO N ds)) :
    ∀{vs H Q E},spX K S vs H Q E→t E { nx:=fun _ H'=>Q .non H',rt:=Q } (L2.start N vs) H:=by
  rintro vs H Q E ⟨ds,r,h⟩
  obtain ⟨fps,o⟩:=lU (N:=N) r
  refine hs _ (E:=m5 _) (Ex:=E) (fun C H' s z=>z H' s) ⟨fun {fps δ σ H'} o z=>?_,fun o (z:False)=>z.elim,fun o (z:False)=>z.elim,fun o r i z=>?_⟩ o (hd ds _ _ h)
  · exact z _ H' [] o.b0 ⟨rfl,rfl⟩ Nw.nil
  · exact z _ _ _ o.b0 r ⟨(i rfl).nd,(i rfl).mu,fun a ha=>.inl ((i rfl).nw a ha)⟩
def noX (S:DSX):DSp:=fun ds P=>S ds P fun _=>False
theorem C3 (hS:ku S):br (noX S):=fun xs P P' k h=>hS _ _ _ _ _ k (fun _ z=>z) h
theorem Gd {Ex:XK} (hS:ku S) (ha:AR K Γ ta da):EM K Γ [] (qv (spX K S) [] Ex ta) (qr (noX S) da) :=
  ⟨fun δ P P' k h=>ha.mono _ _ _ (fun y z=>C3 hS _ _ _ k z) h,fun {B0 fps δ σ H Q} o q=>x5 (R:=fun _=>False) hS ha (fun _ _ _ z=>z.elim) o q⟩
end
end L3
namespace PySem.W
open PySem PySem.Spec PySem.Calls PyProof.Rows
section
variable {prog:Program}{w:World}{A:Around}{E:Value→Shared→Prop}{s:Shared}{K:Frag}{x C:Addr}{ox:Obj}
structure Ei (K:Frag) (C:Addr):Prop where
  ga:findIn K (.ref C) "__getattribute__" = some (some (.builtin "BaseException.__getattribute__"))
  ge:findIn K (.ref C) "__getattr__" = some none
  cl:findIn K (.ref C) "__class__" = some (some (.builtin "object.__class__"))
  ob:mroIn K C (.type "object")=some true
  be:mroIn K C (.type "BaseException")=some true
  is:(clsIn K C).isSome=true
end
end PySem.W
namespace L2
open PySem PySem.Spec PyProof.Rows
section
variable {X:Cx}{pins:List (Addr × Obj)}{σ:St}{H:Hp}{s:Shared}{a C:Addr}{oe:Obj}{i:Nat}{n x:Str}{np p cp:Pos}{b:Bool}
end
end L2
namespace L2
open PySem PySem.Spec PyProof.Rows
section
variable {X:Cx}{a C:Addr}{oe:Obj}
end
section
variable {P:Program}{w:World}{K:PySem.W.Frag}{mg:Str→Option Value}{base:Heap}{CX:CXT}
theorem Fun.okX {x qual:Str}{st:Stmt}{f:Addr}{fd:FuncData}{N ps:List Str}{k:Nat}{sp:Sp} (F:Fun K x qual st f fd) (S:aJ N ps (au st)) (len:∀vs H Q E,sp vs H Q E→vs.length=ps.length)
    (hbody:∀(cdv:Value) (A:Around) (outer:List Env) (s:Shared) (H:Hp) (vs:List V) (Q:VK) (E:XK),iQ k (A.deeper (envOfC qual (au st) s.heap.objs.size f cdv))→sp vs H Q E →
      ∃t,PSs (p7 (CXR P w) P w K mg base N qual (au st) f cdv A outer s H E) (fY st) t∧t { nx:=fun _ H'=>Q .non H',rt:=Q } (start N vs) H):aG P w K mg base (CXR P w) (k+1) f fd ps sp:=by
  obtain ⟨oc,od,kV,doc,pm,an,cdv,ct,osl,rfl,lk,hcd⟩:=F.ex
  exact EL lk hcd S len fun A outer s H vs Q E hr hsp=>hbody cdv A outer s H vs Q E hr hsp
end
theorem dX.of_lookup {K:PySem.W.Frag}{h:Heap}{C:Addr}{ups:List Addr}{mro:List Value}{dd:Option Addr}{nm qn:Str}{bs:List Value}{ns:Addr}{hd:Bool}{sn:List Str}{sub:List Value}{ab:Bool}{col:Option Bool}{k0 k1 k2 k3 k5:Option Value} (X:K.In h)
    (u:K.lookup C=some ⟨.type "type",dd,.cls ⟨nm,bs,mro,ns,qn,hd,sn,sub,ab,col,false⟩,#[k0,k1,k2,k3,some (.builtin "ValueError.__new__"),k5]⟩) (hm:mro=.ref C::(ups.map Value.ref++VB)) (v:PySem.W.excIn K C VB "ValueError.__new__" = true):dX h C ups:=by
  subst hm
  unfold PySem.W.excIn at v
  rw[u] at v
  simp only[Bool.and_eq_true,beq_iff_eq,Bool.not_eq_true'] at v
  obtain ⟨⟨⟨_,ht⟩,hok⟩,hni⟩:=v
  exact⟨ns,nm,qn,bs,hd,sn,sub,ab,col,dd,k0,k1,k2,k3,k5,_,X _ _ u,.of_isNs (PySem.W.isNs_of_in X hok),PySem.W.nsMap_none_of_in X hok hni,PySem.W.tail_of_in X ht⟩
theorem Hs {X:Cx}{P:Program}{w:World}:Passes (CXR P w) X E0:=fun _ _ _ _ _ _ _ h=>by
  obtain ⟨_,_,_,_,_,_,_,_,_,q⟩:=h
  exact q.elim
end L2
namespace L3
open PySem L2
section
variable {K:PySem.W.Frag}{ρ:Bool}{Γr Γl Γ:List Nat}{i:Nat}{t u:Addr→TS}{d e:DS}{C:Addr}{S:DSX}{ta:TA}{da:DA}
end
theorem vj {K:PySem.W.Frag}{S:DSX}{n:Nat} (hS:∀ds P R,S ds P R→ds.length=n) {vs:List V}{H:Hp}{Q:VK}{E:XK} (h:spX K S vs H Q E):vs.length=n:=by
  obtain ⟨ds,⟨fp,r⟩,h⟩:=h
  rw[r.length];exact hS _ _ _ h
end L3
namespace L2
open PySem
theorem PA.nox {X:Cx}{es:List Expr}{t:TA} (h:PA X.nox es t):PA X es t:=fun pos pins s σ H Q I hw =>
  wpAny_mono (h pos pins s σ H Q (I.ph _) hw) (fun _ _ ⟨v,H',I',r,q⟩=>⟨v,H',I'.iX,r,q⟩) fun _ _ z=>False.elim z
end L2
namespace L2
open PySem PySem.Spec PyProof.Rows
section
variable {P:Program}{w:World}{K:PySem.W.Frag}{mg:Str→Option Value}{base:Heap}{x qual:Str}{st:Stmt}{dv:List Value}{f:Addr}{fd:FuncData}{N ps:List Str}{k:Nat}{sp:Sp}
end
end L2
namespace L3
open PySem L2
section
variable {K:PySem.W.Frag}{Γ:List Nat}{t:TA}{d:DA}
end
end L3
namespace L2
open PySem PySem.Spec PyProof.Rows
section
variable {X:Cx}{CX:CXT}{k:Nat}{f C D:Addr}{fd:FuncData}{ps:List Str}{sp:Sp}{E:XK}{x y n:Str}{p np cp ep hp pos:Pos}{e:Expr}{es:List Expr}{ta:TA}{b₀:Stmt}{suite:List Stmt}{i:Nat}{ups upD:List Addr}
end
end L2
namespace L2
open PySem PySem.Spec PyProof.Rows
section
variable {X:Cx}{CX:CXT}{k:Nat}{f C D:Addr}{fd:FuncData}{ps:List Str}{sp:Sp}{E:XK}{x y n:Str}{p np cp ep hp pos p2:Pos}{e b:Expr}{es:List Expr}{ta:TA}{tb:TE}{b₀:Stmt}{suite:List Stmt}{i:Nat}{ups upD:List Addr}{op:CmpOp}{r:R2}
def B9 (C:Addr) (sp:Sp) (ta:TA) (tb:TE) (r:R2) (th:TS):TS:=fun Dn σ H=>ta σ H fun vs H1=>sp vs H1 (fun v H2=>tb σ H2 fun u H3=>r v u H3 fun z H4=>Dn.rt z H4) fun cls _ H2=>cls=.ref C∧th { nx:=fun _ _=>False,rt:=Dn.rt } σ H2
theorem wX {th:TS} (hst:X.stack=X.env::X.outer) (hfm:X.env.frame=some X.env.locals) (F:aG X.prog X.w X.K X.mg X.base (CXR X.prog X.w) k f fd ps sp) (hr:iQ k X.A) (hgf:Gl X y) (hmf:X.mg y=some (.ref f))
    (hkf:PySem.W.keepIn X.K (.ref f)=true) (hb:Binds X.K fd ps []) (ha:PA X.nox (e::es) ta) (hrh:PE X.nox b tb) (ho:OpR X.nox (compareOp op) r) (OC:dX X.base C ups) (OD:dX X.base D upD) (hmD:X.mg x=some (.ref D)) (hgx:Gl X x) (hcon:(C::ups).contains D=true)
    (hs:∀a oe,oe.cls=.ref C→PSs (X.held a oe) (b₀::suite) th) (hm:behindInMarks op b=false)
    (hdx:(x == ("__debug__" : Str))=false:=by decide) (hdy:(y == ("__debug__" : Str))=false:=by decide) (he:starEach (e::es) X.env=(false,eval e X.env)::starEach es X.env:=by rfl) (hpl:(backTo cp (starEach es X.env)).any (·.1)=false:=by rfl) :
    PS X (.Try [.Return (some (.Compare (.Call (.Name y p) (e::es) [] cp) [op] [b] p2)) ep] [.ExceptHandler (some (.Name x np)) none (b₀::suite) hp] [] [] pos) (B9 C sp ta tb r th):=by
  intro pins s σ H Dn I h
  refine wpAny_Try_except (wpAny_execs_cons (wpAny_Return_some (wpAny_Compare1 ?_ hm)))
  refine wpAny_Call_Name_kw (kU I hgf hmf ?_ hdy)
  refine PySem.W.callWith_K (h₀:=X.base) I.ok.mod.kin hkf (wpAny_mono (ha cp pins s σ H _ (I.ph _) h) (fun us s1 q1=>?_) fun _ _ z=>z.elim) he hpl
  obtain ⟨vs,H1,I1,rr,q⟩:=q1
  have I1:Inv X pins σ H1 s1:=I1.iX
  refine⟨I1.kIn,wpAny_mono (D4 (XE:=fun ev s'=>CXR X.prog X.w X.stack H1 s1 _ ev s') F hr hb I1 rr q fun _ _ z=>z) (fun u s2 z=>?_) fun ev s' z=>?_⟩
  · obtain ⟨v,H2,I2,rv,q2⟩:=z
    refine wpAny_mono (hrh pins s2 σ H2 _ (I2.ph _) q2) (fun u2 s3 q3=>?_) fun _ _ z=>z.elim
    obtain ⟨v2,H3,I3,rv2,q3⟩:=q3
    refine wpAny_mono (ho pins s3 σ H3 v v2 u u2 _ I3 rv rv2 q3) (fun u3 s4 q4=>?_) fun _ _ z=>z.elim
    obtain ⟨v3,H4,I4,rv3,q4⟩:=q4
    exact⟨v3,σ,H4,I4.iX,rv3,q4⟩
  obtain ⟨a,C',H',rfl,os,bare,U,ok,fl,qC,q⟩:=z
  cases qC
  obtain ⟨⟨na,fa⟩,oe,ws,a0,T,oT,ts,ge,gc,gd,g1,g2,g3,g4,g5,nT,fT⟩:=fl
  have J:Inv X pins σ H' s':=I1.xq os U ok bare fun b hb=>(nomatch hb)
  have hfl:Heap.FlyingW (PySem.W.hideAll s'.heap (a::T::frs X.stack)) (X.env::X.outer) a (.ref C) a0 s'.heap:=by
    refine⟨fun b o e=>PySem.W.of_hideAll _ e,PySem.W.hideAll_none _ (List.mem_cons_self ..),?_,oe,ws,T,oT,ts,ge,gc,gd,g1,PySem.W.hideAll_none _ (List.mem_cons_of_mem _ (List.mem_cons_self ..)),g2,g3,g4,g5⟩
    rw[← hst]
    exact PySem.W.funFrames_hide J.stack fun env he b hb=>List.mem_cons_of_mem _ (List.mem_cons_of_mem _ (List.mem_filterMap.mpr ⟨env,he,hb⟩))
  have hfr:X.A.frames=some (X.env::X.outer):=by rw[← hst];exact J.ok.frames
  refine wpAny_looks_onW hfr hfm hfl fun h₄ hheld₄ hsm₄=>?_
  refine wpAny_landsW hheld₄ fun h₅ hfl₅ hsm₅=>?_
  obtain ⟨oe5,I5,c5,e5⟩:=rf I1 os bare U ok na fa nT fT (by rw[hst] at hfl₅ ⊢;exact hfl₅) (hsm₄.trans hsm₅)
  have I5':Inv (X.held a oe5) pins σ H' { s' with heap:=h₅ }:=I5.held
  refine wpAny_handleBy_cons (codeAny_handlers_test (kU (X:=X.held a oe5) I5' hgx hmD ?_ hdx)) (by intro q;cases q)
  refine tu (OC.keeps I5.bk) (OD.keeps I5.bk) e5 c5 hcon ?_
  refine codeAny_handlers_suite ?_
  refine lands_againW hfl₅ fun h₆ hfl₆ hsm₆=>?_
  obtain ⟨oe6,I6,c6,e6⟩:=rf I1 os bare U ok na fa nT fT (by rw[hst] at hfl₆ ⊢;exact hfl₆) ((hsm₄.trans hsm₅).trans hsm₆)
  have I6':Inv (X.held a oe6) pins σ H' { s' with heap:=h₆ }:=I6.held
  refine wpAny_mono (hs a oe6 c6 pins _ _ H' _ I6' q) (fun fl s8 q8=>?_) fun _ _ z=>z.elim
  cases fl with
  | next=>obtain ⟨_,_,_,z⟩:=q8;exact False.elim z
  | brk=>obtain ⟨_,_,_,z⟩:=q8;exact False.elim z
  | cont=>obtain ⟨_,_,_,z⟩:=q8;exact False.elim z
  | ret u =>
    obtain ⟨x8,σ8,H8,I8,r8,q8⟩:=q8
    exact⟨x8,σ8,H8,I8.FX J.ok,r8,q8⟩
end
end L2
namespace L3
open PySem L2
section
variable {K:PySem.W.Frag}{ρ:Bool}{Γr Γl Γ Γ1 Γ2 Γn M:List Nat}{R:Addr→Prop}{t u:TS}{te ta tb tx t1 t2 tz:TE}{de da db dx d1 d2 dz:DE}{d e:DS}
variable {B0:Hp}{fps:Nat→List Addr}{δ:Dl}{σ:St}{H H':Hp}
def m3:D→Bool
  | .tup ds=>ds.all D.bC
  | d=>D.bC d
theorem Rf.qt {H:Hp}{d:D}{v:V}{fp:List Addr} (h:Rf K H d v fp) (f:m3 d=true):fp=[]:=by
  cases d with
  | tup ds =>
    obtain ⟨a,xs,e1,e2,h⟩:=h
    exact (h.lE f).2
  | scr _ =>
    obtain ⟨a,e1,e2,e3⟩:=h
    exact e3
  | _=>first | exact h.2 | cases f
theorem Rfs.qt {H:Hp}:∀{ds:List D}{vs:List V}{fp:List Addr},Rfs K H ds vs fp→ds.all m3=true→fp=[]
  | [],_,_,h,_=>h.2
  | d::ds,vs,fp,h,f=>by
    obtain ⟨x,r,f1,f2,e1,e2,h1,h2⟩:=h
    rw[List.all_cons,Bool.and_eq_true] at f
    rw[e2,h1.qt f.1,h2.qt f.2];rfl
theorem SX.post {t:XK→TS} (h:SX K ρ Γr Γl R t Γ Γ1 d) (s:∀i∈Γn,i∈Γ1:=by decide):SX K ρ Γr Γl R t Γ Γn d:=fun _ _ _ _ _ _ _ _ x k o q=>h x ⟨fun o h=>k.nx (o.sub s) h,k.bk,k.ct,k.rt⟩ o q
theorem CA {wi:TI}{di:DI}{g:TG}{dg:D→Dl→(Dl→Prop)→Prop}{tb:XK→TS}{db:DS} (hi:IT K Γ wi di) (hg:GT K Γ g dg) (hb:SX K ρ Γr Γ R tb Γ Γ db):SX K ρ Γr Γl R (fun Ex=>Ew wi g (tb Ex)) Γ Γ (Eo di dg db):=by
  intro B0 Dn E Ex fps δ σ H x k o h
  refine hi.run o (hi.mono _ _ _ (fun ds z J H1 fq s1 n1 hit=>?_) h)
  obtain ⟨B1,sB,o1,ag⟩:=(o.same s1).rebase
  have hJ:BL K J B1 ds:=hit B1 o1.b0 (fun a ha=>ag a fun j hj=>n1 j hj a ha) fun a u e im=>by
    rw[ag a fun j hj ha=>((o1.own j hj).2 a ha).2.m4 u e im];exact e
  refine⟨fun i m σ H=>m=ds.length - i∧i≤ds.length∧∃fps δ,Ok K B1 Γ fps δ σ H∧kL dg db E (ds.drop i) δ,⟨ds.length,by omega,Nat.zero_le _,fps,δ,o1,by rw[List.drop_zero];exact z⟩,?_⟩
  rintro i m σ2 H2 ⟨rfl,hi2,fps2,δ2,o2,z2⟩
  by_cases hlt:i<ds.length
  · refine .inr ⟨hJ.go o2.b0 hlt,_,fun σ' H' q=>q,fun x3 H3 hy=>?_⟩
    obtain ⟨s3,fp,r3,n3⟩:=hJ.yld o2.b0 hy (List.getElem?_eq_getElem hlt)
    rw[List.drop_eq_getElem_cons hlt] at z2
    refine hg.run (o2.same s3) r3 (fun j hj a ha hz=>n3 a ha ((o2.own j hj).2 a hz).1) (hg.mono _ _ _ _ (fun δ' z' fps' σ' o' e'=>?_) z2)
    exact hb (E:={ nx:=kL dg db E (ds.drop (i+1)),ct:=kL dg db E (ds.drop (i+1)),bk:=E.nx,rt:=E.rt }) (fun C H' s z=>x C H' (sB.trans s) z) ⟨fun o4 z4=>⟨ds.length - (i+1),by omega,rfl,hlt,_,_,o4,z4⟩,fun o4 z4=>k.nx (o4.base sB) z4,fun o4 z4=>⟨ds.length - (i+1),by omega,rfl,hlt,_,_,o4,z4⟩,fun o4 r4 i4 z4=>k.rt (o4.base sB) r4 (fun y=>(i4 y).base sB) z4⟩ o' z'
  · have e:i=ds.length:=by omega
    subst e
    rw[List.drop_length] at z2
    exact .inl ⟨hJ.stop o2.b0 (Nat.le_refl _),k.nx (o2.base sB) z2⟩
def yr (K:PySem.W.Frag) (S:DSX):Sp:=fun vs H Q E=>∃ds,Rps K H ds vs∧S ds (fun x=>∀v H',aN H H'→Rp K H' x v→Q v H') (fun C=>∀H',aN H H'→E (.ref C) none H')
theorem yc {S:DSX}{n:Nat} (hS:∀ds P R,S ds P R→ds.length=n) {vs:List V}{H:Hp}{Q:VK}{E:XK} (h:yr K S vs H Q E):vs.length=n:=by
  obtain ⟨ds,⟨fp,r⟩,h⟩:=h
  rw[r.length];exact hS _ _ _ h
theorem x9 {S:DSX}{t:XK→TS}{N:List Str}{dR:(Addr→Prop)→DS} (hs:∀R,SX K false [] [] R t [] Γn (dR R)) (hd:∀ds P R,S ds P R→dR R (m5 P) (aO N ds)) :
    ∀{vs H Q E},yr K S vs H Q E→t E { nx:=fun _ H'=>Q .non H',rt:=Q } (L2.start N vs) H:=by
  rintro vs H Q E ⟨ds,r,h⟩
  obtain ⟨fps,o⟩:=lU (N:=N) r
  refine hs _ (E:=m5 _) (Ex:=E) (fun C H' s z=>z H' s) ⟨fun {fps δ σ H'} o z=>?_,fun o (z:False)=>z.elim,fun o (z:False)=>z.elim,fun o r i z=>?_⟩ o (hd ds _ _ h)
  · exact z _ H' o.b0 ⟨[],rfl,rfl⟩
  · exact z _ _ o.b0 ⟨_,r⟩
def yY (C:Addr) (S:DSX) (da:DA) (db:DE) (rv:D2) (dh:DS) (E:b8) (δ:Dl):Prop :=
  da δ fun xs=>S xs (fun x=>db δ fun y=>rv x y fun z=>E.rt z δ) fun C'=>C'=C∧dh { nx:=fun _=>False,rt:=E.rt,bk:=fun _=>False,ct:=fun _=>False } δ
theorem xC {C:Addr}{S:DSX}{ta:TA}{da:DA}{th:TS}{dh:DS}{r:R2}{rv:D2} (hS:ku S) (ho:OpV K r rv) (ha:AR K [] ta da) (hb:ER K [] tb db) (hh:ST K ρ [] Γl th [] Γn dh):ST K ρ [] Γl (B9 C (yr K S) ta tb r th) [] Γn (yY C S da db rv dh) :=
  fun {B0 Dn E fps δ σ H} k o h=>ha.run o (ha.mono _ _ _ (fun xs z vs H1 s1 r1=>⟨xs,r1,hS _ _ _ _ _
    (fun x z v H2 s2 rx=>hb.run (o.same (s1.trans s2)) (hb.mono _ _ _ (fun y z w H3 s3 ry=>ho.run (rx.same s3) ry (ho.mono _ _ _ _ (fun q z u H4 fp s4 rq n=>k.rt ((o.same (s1.trans s2)).same (s3.trans s4)) rq (fun _=>⟨n.nd,n.mu,fun a ha=>(n.src a ha).elim (fun e=>((o.same (s1.trans s2)).same s3).b0.free e) (fun ⟨j,hj,_⟩=>(nomatch hj)),fun j hj=>(nomatch hj)⟩) z) z)) z))
    (fun C' z H2 s2=>⟨congrArg Value.ref z.1,hh (E:={ nx:=fun _=>False,rt:=E.rt,bk:=fun _=>False,ct:=fun _=>False })
      ⟨fun _ (z:False)=>z.elim,fun _ (z:False)=>z.elim,fun _ (z:False)=>z.elim,k.rt⟩ (o.same (s1.trans s2)) z.2⟩) z⟩) h)
end
end L3
namespace L2
open PySem PySem.Spec PyProof.Rows
section
variable {X:Cx}
end
end L2
namespace L3
open PySem L2
section
variable {K:PySem.W.Frag}{ρ:Bool}{Γr Γl Γ Γ1 Γ2 Γn M:List Nat}{R:Addr→Prop}{t u:TS}{te ta tb tx t1 t2 tz:TE}{de da db dx d1 d2 dz:DE}{d e:DS}
variable {B0:Hp}{fps:Nat→List Addr}{δ:Dl}{σ:St}{H H':Hp}
theorem Rfs.Hy {ds es:List D}{vs ws:List V} (h:Rfs K H ds vs []) (r:Rfs K H es ws []):Rfs K H (ds++es) (vs++ws) []:=h.append r
theorem Hx {p:Addr}{ds:List D}{vs:List V} (r:Rfs K H ds vs []) (hp:H p=none):aN H (upd H p (.lst vs))∧Rf K (upd H p (.lst vs)) (.lst ds) (.ref p) [p]∧Nw H (upd H p (.lst vs)) nf [] [p] :=
  ⟨aN.lO hp,⟨p,_,[],rfl,aP,rfl,r.same (aN.lO hp)⟩,⟨by simp,fun b hb=>by cases List.mem_singleton.mp hb;exact .inl ⟨_,aP⟩,fun b hb=>by cases List.mem_singleton.mp hb;exact .inl hp⟩⟩
def sJ (xs:List D) (P:DK):Prop:=match xs with | [x]=>uG (some x) fun ds=>ds.all m3=true∧P (.lst ds) | _=>False
theorem zI:mi K (fun xs H Q=>∃p ys,xs=[.ref p]∧(SqL K H p ys∨SqT K H p ys)∧∀l,H l=none→Q (.ref l) (upd H l (.lst ys))) sJ:=⟨fun xs P P' k h=>by
    unfold sJ at h ⊢
    revert h
    split
    · exact fun h=>by obtain ⟨ds,e,z⟩:=mG h;exact BQ e ⟨z.1,k _ z.2⟩
    · exact id,
  fun {H xs vs Q} r h=>by
    unfold sJ at h
    split at h
    · obtain ⟨v,rfl,r0⟩:=r.one
      obtain ⟨ds,e,hsc,hq⟩:=mG h
      cases e
      obtain ⟨fp,a,ys,fq,rfl,hl,_,rs⟩:=r0
      obtain rfl:=rs.qt hsc
      refine⟨a,_,rfl,.inl (.inl (.inl hl)),fun l hl=>?_⟩
      obtain ⟨n1,n2,n3⟩:=Hx rs hl
      exact hq _ _ _ n1 n2 n3
    · exact h.elim⟩
theorem yk (o:Ok K B0 Γ fps δ σ H) {i:Nat} (hi:i∈Γ) {ds:List D} (e:δ[i]?=some (some (.lst ds))) (hf:ds.all m3=true) :
    ∃a xs,σ[i]?=some (some (.ref a))∧H a=some (.lst xs)∧Rfs K H ds xs []∧∀{ds':List D}{xs':List V},Rfs K H ds' xs' []→Ok K B0 Γ (fun j=>if j=i then [a] else fps j) (δ.set i (some (.lst ds'))) σ (upd H a (.lst xs')):=by
  obtain ⟨a,xs,fq,h1,h2,h3,h4⟩:=o.vQ e
  obtain rfl:=h4.qt hf
  have hown:=o.own i hi
  rw[h3] at hown
  have nt:=(hown.2 a List.mem_cons_self).2.m4
  refine⟨a,xs,h1,h2,h4,fun {ds' xs'} r=>o.write hi (d':=.lst ds') (fp':=[a]) h1 ⟨a,xs',[],rfl,aP,rfl,r.upd (fun z=>(nomatch z)) nt⟩ (by simp) (fun b hb=>?_) (fun b hb=>?_) ?_⟩
  · cases List.mem_singleton.mp hb;exact .inl ⟨_,aP⟩
  · cases List.mem_singleton.mp hb;rw[h3];exact .inl List.mem_cons_self
  · rw[h3];exact mw List.mem_cons_self
def C8 (i:Nat) (de:DE) (E:b8) (δ:Dl):Prop:=lQ δ i fun ds=>de δ fun x=>(ds.all m3=true∧m3 x=true∧ds.length<1000)∧E.nx (δ.set i (some (.lst (ds++[x]))))
theorem BE (i:Nat) (he:ER K Γ te de) (hi:i∈Γ:=by decide):ST0 K (qz (tBM K "list" qY (jd i) (fg te mT))) Γ Γ (C8 i de):=by
  intro B0 Dn E fps δ σ H k o h
  obtain ⟨ds,e,h⟩:=jr h
  obtain ⟨a0,xs0,fq,g1,g2,g3,g4⟩:=o.vQ e
  refine⟨.ref a0,g1,.inl ⟨rfl,xs0,.inl (.inl g2)⟩,he.run o (he.mono _ _ _ (fun x z v H1 s r=>?_) h)⟩
  obtain ⟨⟨z1,z2,z3⟩,z⟩:=z
  obtain ⟨fp,r⟩:=r
  obtain rfl:=r.qt z2
  obtain ⟨a,xs,h1,h2,h3,h4⟩:=yk (o.same s) hi e z1
  rw[g1] at h1;cases h1
  exact⟨a0,xs,v,rfl,rfl,h2,by rw[h3.length];exact Nat.lt_of_lt_of_le z3 (jI (Nat.le_refl _)),k (h4 (Rfs.Hy h3 (Rfs.one r))) z⟩
end
end L3
namespace L3
open PySem L2
section
variable {K:PySem.W.Frag}{ρ:Bool}{Γr Γl Γ Γ1 Γ2 Γn M:List Nat}{t u:TS}{te ta tb tz:TE}{de da db dz:DE}{d e:DS}
variable {B0:Hp}{fps:Nat→List Addr}{δ:Dl}{σ:St}{H H':Hp}
end
end L3
namespace L3
open PySem L2
section
variable {K:PySem.W.Frag}{ρ:Bool}{Γr Γl Γ Γ1 Γ2 Γn M:List Nat}{t u:TS}{te tb tz:TE}{de db dz:DE}{d e:DS}{ta:TA}{da:DA}
variable {B0:Hp}{fps:Nat→List Addr}{δ:Dl}{σ:St}{H H':Hp}
end
end L3
namespace L2
open PySem PySem.Spec PyProof.Rows
section
variable {X:Cx}
end
end L2
namespace L3
open PySem L2
section
variable {K:PySem.W.Frag}
end
end L3
namespace L2
open PySem PySem.Spec PyProof.Rows
section
variable {X:Cx}
def zZ:V→List V→Hp→VK→Prop:=fun x vs H Q=>∃(l:Addr) (xs:List V) (i:Int) (y:V),x=.ref l∧vs=[.int i,y]∧H l=some (.lst xs)∧0≤i∧i≤xs.length∧xs.length<1000∧Q .non (upd H l (.lst (xs.take i.toNat++[y]++xs.drop i.toNat)))
theorem Vals.Fe:∀{xs:List V}{us:List Value} (n:Nat),Vals xs us→Vals (xs.take n) (us.take n)
  | _,_,0,_=>.nil
  | _,_,n+1,.nil=>.nil
  | _,_,n+1,.cons p r=>.cons p (Vals.Fe n r)
theorem Vals.Fc:∀{xs:List V}{us:List Value} (n:Nat),Vals xs us→Vals (xs.drop n) (us.drop n)
  | _,_,0,r=>r
  | _,_,n+1,.nil=>.nil
  | _,_,n+1,.cons p r=>Vals.Fc n r
theorem D8 {i:Int}{n:Nat} (h0:0≤i) (h:i≤n) (hz:n<1000):¬ (!Builtin.List.listFitsIndex i)=true:=by
  have h1 : -(2 ^ 63:Int)≤i:=by omega
  have h2:i<2 ^ 63:=by omega
  unfold Builtin.List.listFitsIndex
  rw[decide_eq_true h1,decide_eq_true h2]
  decide
theorem Aw:MtM X "list.insert" zZ:=by
  intro pins s σ H x vs v us Q I rx rv h
  obtain ⟨l,xs,i,y,rfl,rfl,hH,h0,hk,hz,q⟩:=h
  cases rx
  obtain ⟨u1,u2,rfl,⟨t,rfl⟩,ru⟩:=vals2 rv
  obtain ⟨z,its,n,r,hl,e⟩:=I.BG hH
  have hz2:its.toArray.size≤sizeLine:=by
    have sl:(1000:Nat)<sizeLine:=by decide
    rw[List.size_toArray];exact Nat.le_of_lt (Nat.lt_trans (by rw[← hl];exact hz) sl)
  refine call_meets F.slot_list_insert ⟨_,e,rfl⟩ F.entry_list_insert (F.args_list_insert_3 _ _ _) (AutoSeq1.list_insert_list_int_val_1 l its.toArray n i t u2 (D8 h0 hk hz) hz2) ⟨e,?_⟩
  have hit:i.toNat≤its.length:=by omega
  refine⟨.non,_,I.G7 (its':=its.take i.toNat++[u2]++its.drop i.toNat) hH e ?_ (((Vals.Fe i.toNat r).append (.cons ru .nil)).append (Vals.Fc i.toNat r)) ?_,rfl,q⟩
  · show (its.toArray.extract 0 (if i<0 then (i+(its.toArray.size:Int)).toNat else min i.toNat its.toArray.size)).push u2++its.toArray.extract (if i<0 then (i+(its.toArray.size:Int)).toNat else min i.toNat its.toArray.size)=_
    rw[if_neg (by omega),List.size_toArray,Nat.min_eq_left hit]
    apply Array.toList_inj.mp
    simp
    exact List.take_of_length_le (by rw[List.length_drop];exact Nat.le_refl _)
  · rw[List.length_append,List.length_append,List.length_take,List.length_drop]
    simp only[List.length_cons,List.length_nil]
    refine Nat.le_trans ?_ (show (1000:Nat)≤sizeLine by decide)
    omega
end
end L2
namespace L3
open PySem L2
section
variable {K:PySem.W.Frag}{ρ:Bool}{Γr Γl Γ Γ1 Γ2 Γn M:List Nat}{R:Addr→Prop}{t u:TS}{te ta tb tx t1 t2 tz:TE}{de da db dx d1 d2 dz:DE}{d e:DS}
variable {B0:Hp}{fps:Nat→List Addr}{δ:Dl}{σ:St}{H H':Hp}
end
end L3
namespace L3
open PySem
open L2 hiding D Rf Rfs Rp dI dT
section
variable {K:PySem.W.Frag}{Γ:List Nat}
theorem zP {α:Type}{xs:List α}{k:Nat}{w:α} (h:xs[k]?=some w):atI xs (k:Int)=some w:=by
  have hl:k<xs.length:=(List.getElem?_eq_some_iff.mp h).1
  unfold atI
  rw[iK (by omega) (by omega)]
  simpa using h
end
end L3
namespace L3
open PySem L2
section
variable {K:PySem.W.Frag}{ρ:Bool}{Γr Γl Γ Γn M:List Nat}{te tx t1 t2:TE}{de dx d1 d2:DE}{t:TS}{d:DS}
variable {B0:Hp}{fps:Nat→List Addr}{δ:Dl}{σ:St}{H H':Hp}
theorem Rfs.vX:∀{ds:List D}{xs:List V}{fq:List Addr}{m:Nat}{d:D},Rfs K H ds xs fq→ds[m]?=some d →
    ∃v f F1 F2,xs[m]?=some v∧fq=F1++(f++F2)∧Rf K H d v f∧∀{d':D}{v':V}{f':List Addr},Rf K H d' v' f'→Rfs K H (ds.set m d') (xs.set m v') (F1++(f'++F2))
  | [],_,_,_,_,_,e=>by simp at e
  | d0::ds,_,_,0,d,h,e=>by
    obtain ⟨x,r,f1,f2,rfl,rfl,h1,h2⟩:=h
    simp at e;subst e
    exact⟨x,f1,[],f2,rfl,rfl,h1,fun r'=>⟨_,r,_,f2,rfl,rfl,r',h2⟩⟩
  | d0::ds,_,_,m+1,d,h,e=>by
    obtain ⟨x,r,f1,f2,rfl,rfl,h1,h2⟩:=h
    obtain ⟨v,f,F1,F2,e1,rfl,h3,mk⟩:=Rfs.vX (m:=m) h2 (by simpa using e)
    exact⟨v,f,f1++F1,F2,by simpa using e1,by rw[List.append_assoc],h3,fun r'=>⟨x,_,f1,_,rfl,by rw[List.append_assoc],h1,mk r'⟩⟩
theorem vP {A B C:List Addr}:(A++(B++C)).Nodup↔(A++C).Nodup∧B.Nodup∧∀c∈B,c∉A++C:=by
  rw[(List.Perm.nodup_iff (l₂:=B++(A++C)) (by
    rw[← List.append_assoc,← List.append_assoc]
    exact List.Perm.append_right C List.perm_append_comm)),List.nodup_append]
  exact⟨fun ⟨a,b,c⟩=>⟨b,a,fun x hx hy=>c x hx x hy rfl⟩,fun ⟨a,b,c⟩=>⟨b,a,fun x hx y hy z=>c x hx (z▸hy)⟩⟩
end
end L3
namespace L3
open PySem L2
section
variable {K:PySem.W.Frag}{ρ:Bool}{Γr Γl Γ Γn M:List Nat}{te tx tn t1 t2:TE}{de dx dn d1 d2:DE}{t u:TS}{d e:DS}
variable {B0:Hp}{fps:Nat→List Addr}{δ:Dl}{σ:St}{H H':Hp}
theorem ST.GR (h:ST K true [] [] (qz te) Γ Γn d):ST0 K (qz te) Γ Γn d:=by
  intro B0 Dn E fps δ σ H k o q
  have z:=h (Dn:={ nx:=fun σ' H'=>σ'=σ→Dn.nx σ H',bk:=fun _ _=>True,ct:=fun _ _=>True,rt:=fun _ _=>True }) ⟨fun o' z w=>by subst w;exact k o' z,fun _ _=>trivial,fun _ _=>trivial,fun _ _ _ _=>trivial⟩ o q
  have e:(fun (_:V) (H':Hp)=>σ=σ→Dn.nx σ H')=fun _ H'=>Dn.nx σ H':=by funext v H';simp
  show te σ H (fun _ H'=>Dn.nx σ H')
  rw[← e]
  exact z
end
end L3
namespace L3
open PySem L2
section
variable {K:PySem.W.Frag}{ρ:Bool}{Γr Γl Γ Γn M:List Nat}{tn:TE}{dn:DE}
variable {B0:Hp}{fps:Nat→List Addr}{δ:Dl}{σ:St}{H H':Hp}
end
end L3
namespace L2
open PySem PySem.Spec PyProof.Rows PySem.Calls
section
variable {prog:Program}{w:World}{A:Around}{E:Value→Shared→Prop}{s:Shared}
end
section
variable {X:Cx}{pins:List (Addr × Obj)}{σ:St}{H:Hp}{s:Shared}
end
end L2
namespace L2
open PySem PySem.Spec PyProof.Rows PySem.Calls
section
variable {X:Cx}
end
end L2
namespace L3
open PySem L2
section
variable {K:PySem.W.Frag}{Γ:List Nat}{te:TE}{de:DE}
end
end L3
namespace L3
open PySem L2
section
variable {K:PySem.W.Frag}{Γ:List Nat}
end
end L3
namespace L3
open PySem L2
section
variable {K:PySem.W.Frag}{ρ:Bool}{Γr Γl Γ Γn M:List Nat}{te tx t1 t2:TE}{de dx d1 d2:DE}{t:TS}{d e1 e2 e3:DS}
variable {B0:Hp}{fps:Nat→List Addr}{δ:Dl}{σ:St}{H H':Hp}
theorem mK {xs:List V}{m:Nat}{v:V} (e:xs[m]?=some v):xs.set m v=xs:=by
  refine List.ext_getElem? fun j=>?_
  rw[List.getElem?_set]
  by_cases z:m=j
  · subst z;rw[if_pos rfl,e,if_pos (List.getElem?_eq_some_iff.mp e).1]
  · rw[if_neg z]
theorem Ok.part (o:Ok K B0 Γ fps δ σ H) {S L:Nat} (hS:S∈Γ) (hL:L∉Γ) (hl:L<δ.length) {x y:D}{v w:V}{A B:List Addr} (hv:σ[S]?=some (some v)) (hSl:S<δ.length) (nA:A.Nodup) (nB:B.Nodup) (dAB:∀c∈B,c∉A) (sA:∀c∈A,c∈fps S) (sB:∀c∈B,c∈fps S) (rx:Rf K H x v A) (ry:Rf K H y w B) :
    Ok K B0 (L::Γ) (fun l=>if l=L then B else if l=S then A else fps l) ((δ.set S (some x)).set L (some y)) (σ.set L (some w)) H:=by
  have hSL:S≠L:=fun z=>hL (z▸hS)
  refine⟨by simp [o.len],o.b0,fun l d' e'=>?_,fun l e'=>?_,fun l hl'=>?_,fun l hl' j hj z hz=>?_⟩
  · by_cases q:l=L
    · subst q
      rw[if_pos rfl]
      rw[List.getElem?_set_self (by rw[List.length_set];exact hl)] at e'
      cases e'
      exact⟨w,by rw[List.getElem?_set_self (by rw[o.len];exact hl)],ry⟩
    · rw[if_neg q]
      rw[List.getElem?_set_ne (Ne.symm q)] at e' ⊢
      by_cases q2:l=S
      · subst q2
        rw[if_pos rfl]
        rw[List.getElem?_set_self hSl] at e'
        cases e'
        exact⟨_,hv,rx⟩
      · rw[if_neg q2]
        rw[List.getElem?_set_ne (Ne.symm q2)] at e'
        exact o.val l d' e'
  · by_cases q:l=L
    · subst q
      exact absurd (by rw[List.getElem?_set_self (by rw[List.length_set];exact hl)]) (e' _)
    · rw[if_neg q]
      by_cases q2:l=S
      · subst q2
        exact absurd (by rw[List.getElem?_set_ne (Ne.symm q),List.getElem?_set_self hSl]) (e' _)
      · rw[if_neg q2]
        exact o.non l fun d' z=>e' d' (by rw[List.getElem?_set_ne (Ne.symm q),List.getElem?_set_ne (Ne.symm q2)];exact z)
  · by_cases q:l=L
    · rw[if_pos q]
      exact⟨nB,fun z hz=>(o.own S hS).2 z (sB z hz)⟩
    · rw[if_neg q]
      have hl2:l∈Γ:=(List.mem_cons.mp hl').resolve_left q
      by_cases q2:l=S
      · rw[if_pos q2]
        exact⟨nA,fun z hz=>(o.own S hS).2 z (sA z hz)⟩
      · rw[if_neg q2];exact o.own l hl2
  · by_cases q:l=L
    · rw[if_pos q] at hz
      rw[if_neg (fun w=>hj (w.trans q.symm))]
      by_cases q3:j=S
      · rw[if_pos q3];exact dAB z hz
      · rw[if_neg q3];exact o.dj S hS j q3 z (sB z hz)
    · rw[if_neg q] at hz
      have hl2:l∈Γ:=(List.mem_cons.mp hl').resolve_left q
      by_cases q2:l=S
      · rw[if_pos q2] at hz
        by_cases q3:j=L
        · rw[if_pos q3];exact fun w=>dAB z w hz
        · rw[if_neg q3,if_neg (fun w=>hj (w.trans q2.symm))]
          exact o.dj S hS j (fun w=>hj (w.trans q2.symm)) z (sA z hz)
      · rw[if_neg q2] at hz
        by_cases q3:j=L
        · rw[if_pos q3];exact fun w=>o.dj l hl2 S (Ne.symm q2) z hz (sB z w)
        · rw[if_neg q3]
          by_cases q4:j=S
          · rw[if_pos q4];exact fun w=>o.dj l hl2 S (Ne.symm q2) z hz (sA z w)
          · rw[if_neg q4];exact o.dj l hl2 j hj z hz
theorem Ok.join {S L:Nat} (o:Ok K B0 (L::Γ) fps δ σ H) (hS:S∈Γ) (hL:L∉Γ) (hSl:S<δ.length) {x:D}{v:V}{A:List Addr} (hv:σ[S]?=some (some v)) (nA:A.Nodup) (sA:∀c∈A,c∈fps S∨c∈fps L) (rx:Rf K H x v A) :
    Ok K B0 Γ (fun l=>if l=L then [] else if l=S then A else fps l) ((δ.set S (some x)).set L none) σ H:=by
  have hSL:S≠L:=fun z=>hL (z▸hS)
  have mS:S∈L::Γ:=List.mem_cons_of_mem _ hS
  have mL:L∈L::Γ:=List.mem_cons_self
  refine⟨by simp [o.len],o.b0,fun l d' e'=>?_,fun l e'=>?_,fun l hl=>?_,fun l hl i hi a ha=>?_⟩
  · by_cases q:l=L
    · subst q
      rw[List.getElem?_set] at e'
      simp at e'
    · rw[if_neg q]
      rw[List.getElem?_set_ne (Ne.symm q)] at e'
      by_cases q2:l=S
      · subst q2
        rw[if_pos rfl]
        rw[List.getElem?_set_self hSl] at e'
        cases e'
        exact⟨_,hv,rx⟩
      · rw[if_neg q2]
        rw[List.getElem?_set_ne (Ne.symm q2)] at e'
        exact o.val l d' e'
  · by_cases q:l=L
    · rw[if_pos q]
    · rw[if_neg q]
      by_cases q2:l=S
      · subst q2
        exact absurd (by rw[List.getElem?_set_ne (Ne.symm q),List.getElem?_set_self hSl]) (e' _)
      · rw[if_neg q2]
        exact o.non l fun d' z=>e' d' (by rw[List.getElem?_set_ne (Ne.symm q),List.getElem?_set_ne (Ne.symm q2)];exact z)
  · have q:l≠L:=fun z=>hL (z▸hl)
    rw[if_neg q]
    by_cases q2:l=S
    · rw[if_pos q2]
      exact⟨nA,fun a ha=>(sA a ha).elim ((o.own S mS).2 a) ((o.own L mL).2 a)⟩
    · rw[if_neg q2];exact o.own l (List.mem_cons_of_mem _ hl)
  · have q:l≠L:=fun z=>hL (z▸hl)
    rw[if_neg q] at ha
    by_cases q3:i=L
    · rw[if_pos q3];exact List.not_mem_nil
    · rw[if_neg q3]
      by_cases q2:l=S
      · rw[if_pos q2] at ha
        rw[if_neg (fun w=>hi (w.trans q2.symm))]
        rcases sA a ha with w | w
        · exact o.dj S mS i (fun w=>hi (w.trans q2.symm)) a w
        · exact o.dj L mL i q3 a w
      · rw[if_neg q2] at ha
        by_cases q4:i=S
        · rw[if_pos q4]
          intro w
          rcases sA a w with w | w
          · exact o.dj l (List.mem_cons_of_mem _ hl) S (Ne.symm q2) a ha w
          · exact o.dj l (List.mem_cons_of_mem _ hl) L (Ne.symm q) a ha w
        · rw[if_neg q4];exact o.dj l (List.mem_cons_of_mem _ hl) i hi a ha
theorem Ok.Fg {L:Nat} (o:Ok K B0 Γ fps δ σ H) (hL:L∉Γ):Ok K B0 Γ (fun l=>if l=L then [] else fps l) (δ.set L none) σ H:=by
  refine⟨by simp [o.len],o.b0,fun l d' e'=>?_,fun l e'=>?_,fun l hl=>?_,fun l hl j hj z hz=>?_⟩
  · by_cases q:l=L
    · subst q
      rw[List.getElem?_set] at e'
      simp at e'
    · rw[if_neg q]
      rw[List.getElem?_set_ne (Ne.symm q)] at e'
      exact o.val l d' e'
  · by_cases q:l=L
    · rw[if_pos q]
    · rw[if_neg q]
      exact o.non l fun d' z=>e' d' (by rw[List.getElem?_set_ne (Ne.symm q)];exact z)
  · have q:l≠L:=fun z=>hL (z▸hl)
    rw[if_neg q]
    exact o.own l hl
  · have q:l≠L:=fun z=>hL (z▸hl)
    rw[if_neg q] at hz
    by_cases q3:j=L
    · rw[if_pos q3];exact List.not_mem_nil
    · rw[if_neg q3];exact o.dj l hl j hj z hz
def lnE (S L:Nat) (a:Addr) (m:Nat) (b:Addr) (W:Nat→Dl→Prop) (E:b8):b8:=⟨fun δ'=>∃ds y,δ'[S]?=some (some (.pin a (.lst ds)))∧δ'[L]?=some (some (.pin b y))∧ds[m]?=some (.raw (.ref b))∧W (m+1) ((δ'.set S (some (.pin a (.lst (ds.set m y))))).set L none),E.rt,fun _=>False,fun _=>False⟩
def flE (L m:Nat) (W:Nat→Dl→Prop) (E:b8):b8:=⟨fun δ'=>W (m+1) (δ'.set L none),E.rt,fun _=>False,fun _=>False⟩
def tuE (S L:Nat) (a:Addr) (m:Nat) (b:Addr) (W:Nat→Dl→Prop) (E:b8):b8:=⟨fun δ'=>∃ds p y,δ'[S]?=some (some (.pin a (.lst ds)))∧ds[m]?=some (.tup [p,.pin b y])∧W (m+1) ((δ'.set S (some (.pin a (.lst (ds.set m (.tup [p,y])))))).set L none),E.rt,fun _=>False,fun _=>False⟩
def Hc (S L:Nat) (e1 e2 e3:DS) (E:b8) (δ:Dl):Prop:=∃(a:Addr) (N:Nat) (W:Nat→Dl→Prop),W 0 δ∧∀m δ,W m δ→∃ds,δ[S]?=some (some (.pin a (.lst ds)))∧ds.length=N∧L<δ.length ∧
  if m<N then (∃es,ds[m]?=some (.lst es)∧∀b,e1 (lnE S L a m b W E) ((δ.set S (some (.pin a (.lst (ds.set m (.raw (.ref b))))))).set L (some (.pin b (.lst es))))) ∨
    (∃y,ds[m]?=some y∧m3 y=true∧e2 (flE L m W E) (δ.set L (some y))) ∨
    (∃p es,ds[m]?=some (.tup [p,.lst es])∧p.bC=true∧∀b,e3 (tuE S L a m b W E) ((δ.set S (some (.pin a (.lst (ds.set m (.tup [p,.pin b (.lst es)])))))).set L (some (.tup [p,.raw (.ref b)]))))
  else E.nx δ
theorem wL (S L:Nat) (h1:ST K ρ Γr Γl t (L::Γ) (L::Γ) e1) (h2:ST K ρ Γr Γl t Γ Γ e2) (h3:ST K ρ Γr Γl t Γ Γ e3) (hS:S∈Γ:=by decide) (hL:L∉Γ:=by decide) :
    ST K ρ Γr Γl (Ew (zc K (jd S)) (lY L) t) Γ Γ (Hc S L e1 e2 e3):=by
  intro B0 Dn E fps δ σ H k o h
  have hSL:S≠L:=fun z=>hL (z▸hS)
  obtain ⟨a,N,W,w0,turn⟩:=h
  obtain ⟨ds0,e0,_⟩:=turn 0 δ w0
  obtain ⟨v0,hv0,r0⟩:=o.val S _ e0
  obtain ⟨rfl,b0,xs0,fq0,eb0,hx0,_⟩:=r0
  cases eb0
  refine⟨.ref a,hv0,a,rfl,⟨xs0,.inl (.inl hx0)⟩,fun n m σ H=>m=N - n∧∃fps δ,Ok K B0 Γ fps δ σ H∧W n δ,⟨N,rfl,fps,δ,o,w0⟩,?_⟩
  rintro n m σ2 H2 ⟨rfl,fps2,δ2,o2,w2⟩
  obtain ⟨ds,e2,hN,hlL,z⟩:=turn n δ2 w2
  have hSl:S<δ2.length:=(List.getElem?_eq_some_iff.mp e2).1
  obtain ⟨v,hv,r⟩:=o2.val S _ e2
  obtain ⟨rfl,a',xs,fq,ea,hx,hfp,rs⟩:=r
  cases ea
  have hxl:=rs.length
  have own:=o2.own S hS
  rw[hfp] at own
  obtain ⟨na,nq⟩:=List.nodup_cons.mp own.1
  by_cases hlt:n<N
  · rw[if_pos hlt] at z
    have stop:∀{fps δ σ H},Ok K B0 Γ fps δ σ H→W (n+1) δ→∃m',m' < N - n∧m'=N - (n+1)∧∃fps δ,Ok K B0 Γ fps δ σ H∧W (n+1) δ:=fun o w=>⟨N - (n+1),by omega,rfl,_,_,o,w⟩
    rcases z with ⟨es,em,z⟩ | ⟨y,em,fy,z⟩ | ⟨p,es,em,hp,z⟩
    · obtain ⟨v1,f,F1,F2,ex,rfl,r1,mk⟩:=rs.vX em
      obtain ⟨b,ys,fe,rfl,hb,rfl,hr⟩:=id r1
      obtain ⟨n1,n2,n3⟩:=vP.mp nq
      refine .inr ⟨⟨xs,.ref b,.inl (.inl hx),ex⟩,fun σ H=>∃m',m' < N - n∧m'=N - (n+1)∧∃fps δ,Ok K B0 Γ fps δ σ H∧W (n+1) δ,fun σ' H' q=>by obtain ⟨m',q1,q2,q3⟩:=q;exact⟨m',q1,q2,q3⟩,fun x H3 hy=>?_⟩
      obtain ⟨rfl,hy⟩:=hy
      have ex2:=hy xs (.inl (.inl hx))
      rw[ex] at ex2;cases ex2
      have rS:Rf K H3 (.pin a (.lst (ds.set n (.raw (.ref b))))) (.ref a) (a::(F1++F2)):=⟨rfl,a,xs,F1++F2,rfl,hx,rfl,by
        have q:=mk (d':=.raw (.ref b)) (v':=.ref b) (f':=[]) ⟨rfl,rfl⟩
        rw[mK ex,List.nil_append] at q
        exact q⟩
      have o3:=o2.part hS hL hlL (x:=.pin a (.lst (ds.set n (.raw (.ref b))))) (y:=.pin b (.lst es)) (w:=.ref b) (A:=a::(F1++F2)) (B:=b::fe) hv hSl (List.nodup_cons.mpr ⟨fun q=>na (by rcases List.mem_append.mp q with q | q;exact List.mem_append_left _ q;exact List.mem_append_right _ (List.mem_append_right _ q)),n1⟩) n2 (fun c hc q=>by
        rcases List.mem_cons.mp q with q | q
        · exact na (by rw[← q];exact List.mem_append_right _ (List.mem_append_left _ hc))
        · exact n3 c hc q) (fun c hc=>by
        rw[hfp]
        rcases List.mem_cons.mp hc with q | q
        · exact List.mem_cons.mpr (.inl q)
        · exact List.mem_cons_of_mem _ (by rcases List.mem_append.mp q with q | q;exact List.mem_append_left _ q;exact List.mem_append_right _ (List.mem_append_right _ q))) (fun c hc=>by
        rw[hfp];exact List.mem_cons_of_mem _ (List.mem_append_right _ (List.mem_append_left _ hc))) rS ⟨rfl,r1⟩
      refine h1 (E:=lnE S L a n b W E) ⟨fun {fps4 δ4 σ4 H4} o4 q=>?_,fun _ (q:False)=>q.elim,fun _ (q:False)=>q.elim,k.rt⟩ o3 (z b)
      obtain ⟨ds4,y4,g1,g2,g3,g4⟩:=q
      obtain ⟨v4,hv4,r4⟩:=o4.val S _ g1
      obtain ⟨rfl,a4,xs4,fq4,ea4,hx4,hfp4,rs4⟩:=r4
      cases ea4
      obtain ⟨v5,f5,G1,G2,ex5,rfl,r5,mk5⟩:=rs4.vX g3
      obtain ⟨rfl,rfl⟩:v5=.ref b∧f5=[]:=r5
      obtain ⟨vL,hvL,rL⟩:=o4.val L _ g2
      obtain ⟨rfl,rL⟩:vL=.ref b∧_:=rL
      have mS:S∈L::Γ:=List.mem_cons_of_mem _ hS
      have mL:L∈L::Γ:=List.mem_cons_self
      have own4:=o4.own S mS
      rw[hfp4,List.nil_append] at own4
      obtain ⟨na4,nq4⟩:=List.nodup_cons.mp own4.1
      have dj:∀c∈fps4 L,c∉a::(G1++G2):=fun c hc=>by
        have:=o4.dj L mL S hSL c hc
        rw[hfp4,List.nil_append] at this
        exact this
      have rS4:Rf K H4 (.pin a (.lst (ds4.set n y4))) (.ref a) (a::(G1++(fps4 L++G2))):=⟨rfl,a,xs4,_,rfl,hx4,rfl,by
        have q:=mk5 rL
        rw[mK ex5] at q
        exact q⟩
      refine stop (o4.join hS hL (List.getElem?_eq_some_iff.mp g1).1 hv4 (List.nodup_cons.mpr ⟨fun q=>?_,vP.mpr ⟨nq4,(o4.own L mL).1,fun c hc q=>dj c hc (List.mem_cons_of_mem _ q)⟩⟩) (fun c hc=>?_) rS4) g4
      · rcases List.mem_append.mp q with q | q
        · exact na4 (List.mem_append_left _ q)
        · rcases List.mem_append.mp q with q | q
          · exact dj a q List.mem_cons_self
          · exact na4 (List.mem_append_right _ q)
      · rw[hfp4,List.nil_append]
        rcases List.mem_cons.mp hc with q | q
        · exact .inl (List.mem_cons.mpr (.inl q))
        · rcases List.mem_append.mp q with q | q
          · exact .inl (List.mem_cons_of_mem _ (List.mem_append_left _ q))
          · rcases List.mem_append.mp q with q | q
            · exact .inr q
            · exact .inl (List.mem_cons_of_mem _ (List.mem_append_right _ q))
    · obtain ⟨v1,f,F1,F2,ex,rfl,r1,mk⟩:=rs.vX em
      obtain rfl:=r1.qt fy
      refine .inr ⟨⟨xs,v1,.inl (.inl hx),ex⟩,fun σ H=>∃m',m' < N - n∧m'=N - (n+1)∧∃fps δ,Ok K B0 Γ fps δ σ H∧W (n+1) δ,fun σ' H' q=>by obtain ⟨m',q1,q2,q3⟩:=q;exact⟨m',q1,q2,q3⟩,fun x H3 hy=>?_⟩
      obtain ⟨rfl,hy⟩:=hy
      have ex2:=hy xs (.inl (.inl hx))
      rw[ex] at ex2;cases ex2
      have o3:=(o2.z7 L (aN.refl H3) r1 (fun _ _ _ w=>(nomatch w))).sub (Γ':=Γ) fun l hl=>c8.mpr ⟨hl,fun q=>hL (by rw[← List.mem_singleton.mp q];exact hl)⟩
      exact h2 (E:=flE L n W E) ⟨fun o4 q=>stop (o4.Fg hL) q,fun _ (q:False)=>q.elim,fun _ (q:False)=>q.elim,k.rt⟩ o3 z
    · obtain ⟨v1,f,F1,F2,ex,rfl,r1,mk⟩:=rs.vX em
      obtain ⟨c,ws,rfl,hc,u0,q0,g0,g1,rfl,rfl,t0,t1⟩:=id r1
      obtain ⟨rfl,rfl⟩:=t0.bC hp
      obtain ⟨u1,q1,g2,g3,rfl,rfl,t1,t2⟩:=t1
      obtain ⟨rfl,rfl⟩:q1=[]∧g3=[]:=t2
      obtain ⟨b,ys,fe,rfl,hb,rfl,hr⟩:=id t1
      refine .inr ⟨⟨xs,.ref c,.inl (.inl hx),ex⟩,fun σ H=>∃m',m' < N - n∧m'=N - (n+1)∧∃fps δ,Ok K B0 Γ fps δ σ H∧W (n+1) δ,fun σ' H' q=>by obtain ⟨m',q1,q2,q3⟩:=q;exact⟨m',q1,q2,q3⟩,fun x H3 hy=>?_⟩
      obtain ⟨rfl,hy⟩:=hy
      have ex2:=hy xs (.inl (.inl hx))
      rw[ex] at ex2;cases ex2
      have rT:Rf K H3 (.tup [p,.pin b (.lst es)]) (.ref c) (b::fe):=⟨c,_,rfl,hc,_,_,[],b::fe,rfl,rfl,t0,_,[],b::fe,[],rfl,(List.append_nil _).symm,⟨rfl,t1⟩,rfl,rfl⟩
      have o3:=o2.nF (y:=.pin a (.lst (ds.set n (.tup [p,.pin b (.lst es)])))) e2 fun v' hv' _=>by
        rw[hv] at hv';cases hv'
        refine⟨rfl,a,xs,_,rfl,hx,hfp,?_⟩
        have q:=mk rT
        rw[mK ex] at q
        simpa using q
      have fl:Rf K H3 (.tup [p,.raw (.ref b)]) (.ref c) []:=⟨c,_,rfl,hc,_,_,[],[],rfl,rfl,t0,_,[],[],[],rfl,rfl,⟨rfl,rfl⟩,rfl,rfl⟩
      have o4:=(o3.z7 L (aN.refl H3) fl (fun _ _ _ w=>(nomatch w))).sub (Γ':=Γ) fun l hl=>c8.mpr ⟨hl,fun q=>hL (by rw[← List.mem_singleton.mp q];exact hl)⟩
      refine h3 (E:=tuE S L a n b W E) ⟨fun {fps5 δ5 σ5 H5} o5 q=>?_,fun _ (q:False)=>q.elim,fun _ (q:False)=>q.elim,k.rt⟩ o4 (z b)
      obtain ⟨ds5,p5,y5,j1,j2,j3⟩:=q
      refine stop ((o5.nF (y:=.pin a (.lst (ds5.set n (.tup [p5,y5])))) j1 fun v' hv' r'=>?_).Fg hL) j3
      obtain ⟨rfl,a5,xs5,fq5,ea5,hx5,hfp5,rs5⟩:=r'
      cases ea5
      obtain ⟨v6,f6,G1,G2,ex6,rfl,r6,mk6⟩:=rs5.vX j2
      obtain ⟨c6,ws6,rfl,hc6,u6,q6,g6,g7,rfl,rfl,t6,t7⟩:=r6
      obtain ⟨u7,q7,g8,g9,rfl,rfl,t7,t8⟩:=t7
      obtain ⟨rfl,rfl⟩:q7=[]∧g9=[]:=t8
      refine⟨rfl,a,xs5,_,rfl,hx5,hfp5,?_⟩
      have q:=mk6 (d':=.tup [p5,y5]) (v':=.ref c6) (f':=g6++(g8++[])) ⟨c6,_,rfl,hc6,_,_,g6,g8++[],rfl,rfl,t6,_,[],g8,[],rfl,rfl,t7.2,rfl,rfl⟩
      rw[mK ex6] at q
      exact q
  · rw[if_neg hlt] at z
    exact .inl ⟨⟨xs,.inl (.inl hx),by omega⟩,k.nx o2 z⟩
end
end L3
namespace L3
open PySem L2
section
variable {K:PySem.W.Frag}{ρ:Bool}{Γr Γl Γ Γn M:List Nat}{te tx t1 t2:TE}{de dx d1 d2:DE}{t:TS}{d e1 e2 e3:DS}
variable {B0:Hp}{fps:Nat→List Addr}{δ:Dl}{σ:St}{H H':Hp}
def GG (S L:Nat) (δ:Dl) (P:DK):Prop:=∃(a:Addr) (ds:List D) (m:Nat) (p p':D) (b:Addr) (y:D),δ[L]?=some (some (.tup [p,.raw (.ref b)]))∧δ[S]?=some (some (.pin a (.lst ds)))∧ds[m]?=some (.tup [p',.pin b y])∧P y
theorem EF (S L:Nat):ER K Γ (tOp (CW K) (jd L) (tC (.int 1))) (GG S L) :=
  ⟨fun δ P P' k ⟨a,ds,m,p,p',b,y,h1,h2,h3,h4⟩=>⟨a,ds,m,p,p',b,y,h1,h2,h3,k _ h4⟩,fun {B0 fps δ σ H Q} o q=>by
    obtain ⟨a,ds,m,p,p',b,y,h1,h2,h3,h4⟩:=q
    obtain ⟨vL,hvL,c,ws,rfl,hc,u0,q0,g0,g1,rfl,e0,t0,u1,q1,g2,g3,rfl,rfl,t1,t2⟩:=o.val L _ h1
    obtain ⟨rfl,rfl⟩:q1=[]∧g3=[]:=t2
    obtain ⟨rfl,rfl⟩:u1=.ref b∧g2=[]:=t1
    obtain ⟨vS,hvS,rfl,a',xs,fq,ea,hx,hfp,rs⟩:=o.val S _ h2
    obtain ⟨v,f,F1,F2,ex,_,r1,_⟩:=rs.vX h3
    obtain ⟨c',ws',rfl,hc',w0,z0,k0,k1,rfl,_,s0,w1,z1,k2,k3,rfl,_,s1,s2⟩:=r1
    obtain ⟨rfl,s1⟩:w1=.ref b∧_:=s1
    exact⟨.ref c,hvL,c,_,1,.ref b,rfl,rfl,.inl (.inl hc),zP (k:=1) rfl,h4 (.ref b) H (aN.refl H) ⟨_,s1⟩⟩⟩
def DC (S L:Nat) (v:Int) (E:b8) (δ:Dl):Prop:=∃(a:Addr) (ds:List D) (m:Nat) (p p':D) (b:Addr) (r:List Int),δ[L]?=some (some (.tup [p,.raw (.ref b)]))∧δ[S]?=some (some (.pin a (.lst ds)))∧ds[m]?=some (.tup [p',.pin b (dI r)])∧p'.bC=true∧r.length<1000∧E.nx (δ.set S (some (.pin a (.lst (ds.set m (.tup [p',.pin b (dI (r++[v]))]))))))
theorem A1 (S L:Nat) {v:Int} (hS:S∈Γ:=by decide):ST K ρ Γr Γl (qz (tBM K "list" qY (tOp (CW K) (jd L) (tC (.int 1))) (fg (tC (.int v)) mT))) Γ Γ (DC S L v):=by
  intro B0 Dn E fps δ σ H k o h
  obtain ⟨a,ds,m,p,p',b,r,h1,h2,h3,hp,hl,hE⟩:=h
  obtain ⟨vL,hvL,c,ws,rfl,hc,u0,q0,g0,g1,rfl,e0,t0,u1,q1,g2,g3,rfl,rfl,t1,t2⟩:=o.val L _ h1
  obtain ⟨rfl,rfl⟩:q1=[]∧g3=[]:=t2
  obtain ⟨rfl,rfl⟩:u1=.ref b∧g2=[]:=t1
  obtain ⟨vS,hvS,rfl,a',xs,fq,ea,hx,hfp,rs⟩:=o.val S _ h2
  cases ea
  obtain ⟨w,f,F1,F2,ex,rfl,r1,mk⟩:=rs.vX h3
  obtain ⟨c',ws',rfl,hc',w0,z0,k0,k1,rfl,rfl,s0,w1,z1,k2,k3,rfl,rfl,s1,s2⟩:=r1
  obtain ⟨rfl,rfl⟩:z1=[]∧k3=[]:=s2
  obtain ⟨rfl,rfl⟩:=s0.bC hp
  obtain ⟨rfl,b',ys,fz,eb,hb,rfl,hr⟩:=s1
  cases eb
  have e3:fz=[]:=hr.qt (by rw[List.all_map];exact List.all_eq_true.mpr fun _ _=>rfl)
  subst e3
  rw[hr.vg] at hb
  have own:=o.own S hS
  rw[hfp] at own
  obtain ⟨na,nq⟩:=List.nodup_cons.mp own.1
  simp only[List.nil_append,List.append_nil] at nq na hfp mk own
  obtain ⟨n1,n2,n3⟩:=vP.mp nq
  have mb:b∈fps S:=by rw[hfp];exact List.mem_cons_of_mem _ (List.mem_append_right _ (List.mem_append_left _ List.mem_cons_self))
  have nt:=((o.own S hS).2 b mb).2.m4
  have nba:b≠a:=fun z=>na (by rw[← z];exact List.mem_append_right _ (List.mem_append_left _ List.mem_cons_self))
  have nb:b∉F1++F2:=n3 b List.mem_cons_self
  refine⟨.ref c,hvL,c,_,1,.ref b,rfl,rfl,.inl (.inl hc),zP (k:=1) rfl,.inl ⟨rfl,_,.inl (.inl hb)⟩,b,_,.int v,rfl,rfl,hb,by rw[List.length_map];exact Nat.lt_of_lt_of_le hl (jI (Nat.le_refl _)),?_⟩
  have es:r.map V.int++[.int v]=(r++[v]).map V.int:=by rw[List.map_append];rfl
  rw[es]
  have q1:=mk (d':=.tup [p',.raw (.ref b)]) (v':=.ref c') (f':=[]) ⟨c',_,rfl,hc',_,_,[],[],rfl,rfl,Rf.sF hp,_,[],[],[],rfl,rfl,⟨rfl,rfl⟩,rfl,rfl⟩
  rw[mK ex,List.nil_append] at q1
  have q2:=q1.upd (o:=.lst ((r++[v]).map V.int)) nb nt
  have lm:m<ds.length:=(List.getElem?_eq_some_iff.mp h3).1
  have g3:(ds.set m (.tup [p',.raw (.ref b)]))[m]?=some (.tup [p',.raw (.ref b)]):=List.getElem?_set_self lm
  obtain ⟨w6,f6,G1,G2,ex6,e6,r6,mk6⟩:=q2.vX g3
  rw[ex] at ex6;cases ex6
  obtain ⟨c6,ws6,ec,hc6,y0,y1,j0,j1,rfl,rfl,i0,y2,y3,j2,j3,rfl,rfl,i1,i2⟩:=r6
  cases ec
  obtain ⟨rfl,rfl⟩:y3=[]∧j3=[]:=i2
  obtain ⟨rfl,rfl⟩:y2=.ref b∧j2=[]:=i1
  obtain ⟨rfl,rfl⟩:=i0.bC hp
  simp only[List.nil_append] at e6
  have q3:=mk6 (d':=.tup [p',.pin b (dI (r++[v]))]) (v':=.ref c') (f':=[b]) ⟨c',_,rfl,hc6,_,_,[],[b],rfl,rfl,Rf.sF hp,_,[],[b],[],rfl,rfl,⟨rfl,b,_,[],rfl,aP,rfl,Rfs.ofInts⟩,rfl,rfl⟩
  rw[mK ex,List.set_set] at q3
  have hx2:(upd H b (.lst ((r++[v]).map V.int))) a=some (.lst xs):=by rw[bf (Ne.symm nba)];exact hx
  have sub:∀c∈a::(G1++([b]++G2)),c∈fps S:=fun c hc=>by
    rcases List.mem_cons.mp hc with q | q
    · rw[hfp,q];exact List.mem_cons_self
    · have:c=b∨c∈G1++G2:=by
        rcases List.mem_append.mp q with q | q
        · exact .inr (List.mem_append_left _ q)
        · rcases List.mem_append.mp q with q | q
          · exact .inl (List.mem_singleton.mp q)
          · exact .inr (List.mem_append_right _ q)
      rcases this with q | q
      · rw[q];exact mb
      · rw[← e6] at q
        rw[hfp]
        exact List.mem_cons_of_mem _ (by rcases List.mem_append.mp q with q | q;exact List.mem_append_left _ q;exact List.mem_append_right _ (List.mem_append_right _ q))
  have nd:(a::(G1++([b]++G2))).Nodup:=by
    refine List.nodup_cons.mpr ⟨fun q=>?_,vP.mpr ⟨by rw[← e6];exact n1,by simp,fun c hc=>by rw[List.mem_singleton.mp hc,← e6];exact nb⟩⟩
    have:a=b∨a∈G1++G2:=by
      rcases List.mem_append.mp q with q | q
      · exact .inr (List.mem_append_left _ q)
      · rcases List.mem_append.mp q with q | q
        · exact .inl (List.mem_singleton.mp q)
        · exact .inr (List.mem_append_right _ q)
    rcases this with q | q
    · exact nba q.symm
    · rw[← e6] at q
      exact na (by rcases List.mem_append.mp q with q | q;exact List.mem_append_left _ q;exact List.mem_append_right _ (List.mem_append_right _ q))
  exact k.nx (o.write hS (d':=.pin a (.lst (ds.set m (.tup [p',.pin b (dI (r++[v]))])))) (fp':=a::(G1++([b]++G2))) hvS ⟨rfl,a,xs,_,rfl,hx2,rfl,q3⟩ nd (fun c hc=>Mu.upd ((o.own S hS).2 c (sub c hc)).2 (.inl ⟨_,rfl⟩)) (fun c hc=>.inl (sub c hc)) (mw mb)) hE
def EO (i:Nat) (de:DE) (E:b8) (δ:Dl):Prop:=lQ δ i fun ds=>de δ fun x=>ds.length<1000∧E.nx (δ.set i (some (.lst (x::ds))))
theorem Dk (i:Nat) (he:EM K Γ [] te de) (hi:i∈Γ:=by decide):ST0 K (qz (tBM K "list" zZ (jd i) (fg (tC (.int 0)) (fg te mT)))) Γ Γ (EO i de):=by
  intro B0 Dn E fps δ σ H k o h
  obtain ⟨ds,e,h⟩:=jr h
  obtain ⟨a,xs,fq,h1,h2,h3,h4⟩:=o.vQ e
  refine⟨.ref a,h1,.inl ⟨rfl,xs,.inl (.inl h2)⟩,he.run o (he.mono _ _ _ (fun x z v H1 fp s r n=>?_) h)⟩
  have hl:=h4.length
  refine⟨a,xs,0,v,rfl,rfl,s _ _ h2,Int.le_refl _,by omega,by omega,?_⟩
  have ok:=o.same s
  have hown:=o.own i hi
  rw[h3] at hown
  obtain ⟨nd,hmu⟩:=hown
  obtain ⟨na,ndq⟩:=List.nodup_cons.mp nd
  have fr:∀b∈fp,H b=none:=fun b hb=>by
    rcases n.src b hb with y | ⟨j,hj,_⟩
    · exact y
    · exact (nomatch hj)
  have hfa:∀b∈fp,b≠a∧b∉fq:=fun b hb=>by
    have:b∉fps i:=fun z=>o.dom z (fr b hb)
    rw[h3] at this
    exact⟨fun z=>this (by rw[z];exact List.mem_cons_self),fun z=>this (List.mem_cons_of_mem _ z)⟩
  have nt:=((hmu a List.mem_cons_self).2.same s).m4
  have rv:Rfs K (upd H1 a (.lst (v::xs))) (x::ds) (v::xs) (fp++fq):=⟨v,xs,fp,fq,rfl,rfl,r.upd (fun w=>(hfa a w).1 rfl) nt,(h4.same s).upd na nt⟩
  refine k (ok.write hi (d':=.lst (x::ds)) (fp':=a::(fp++fq)) h1 ⟨a,v::xs,fp++fq,rfl,aP,rfl,rv⟩ ?_ (fun b hb=>?_) (fun b hb=>?_) ?_) z.2
  · refine List.nodup_cons.mpr ⟨fun w=>?_,List.nodup_append.mpr ⟨n.nd,ndq,fun b h1 c h2 z=>?_⟩⟩
    · rcases List.mem_append.mp w with w | w
      · exact (hfa a w).1 rfl
      · exact na w
    · subst z;exact (hfa b h1).2 h2
  · rcases List.mem_cons.mp hb with rfl | hb
    · exact .inl ⟨_,aP⟩
    · rcases List.mem_append.mp hb with w | w
      · exact Mu.upd (n.mu b w) (.inl ⟨_,rfl⟩)
      · exact Mu.upd ((hmu b (List.mem_cons_of_mem _ w)).2.same s) (.inl ⟨_,rfl⟩)
  · rcases List.mem_cons.mp hb with rfl | hb
    · exact .inl (by rw[h3];exact List.mem_cons_self)
    · rcases List.mem_append.mp hb with w | w
      · exact .inr ⟨o.b0.free (fr b w),fun j z=>o.dom z (fr b w)⟩
      · exact .inl (by rw[h3];exact List.mem_cons_of_mem _ w)
  · exact mw (by rw[h3];exact List.mem_cons_self)
def GH (i:Nat) (d:DS) (E:b8) (δ:Dl):Prop:=∃x,δ[i]?=some (some x)∧x.isRef=true∧∀a:Addr,d E (δ.set i (some (.pin a x)))
theorem wm (i:Nat) (h:ST K ρ Γr Γl t Γ Γn d):ST K ρ Γr Γl t Γ Γn (GH i d):=by
  intro B0 Dn E fps δ σ H k o q
  obtain ⟨x,e,hr,q⟩:=q
  obtain ⟨v,hv,r⟩:=o.val i _ e
  obtain ⟨a,rfl⟩:=r.isRef hr
  exact h k (o.nF (y:=.pin a x) e fun v' hv' r'=>⟨by rw[hv] at hv';cases hv';rfl,r'⟩) (q a)
end
end L3
namespace L2
open PySem
structure Mk0 (K:PySem.W.Frag) (C:Addr):Prop where
  makes:PySem.W.makesIn K C=true
  init:PySem.W.findIn K (.ref C) "__init__" = some (some (.builtin "object.__init__"))
  kp:PySem.W.keepIn K (.ref C)=true
def Hk (C:Addr):TE:=fun σ H Q=>∀x dx,H x=none→H dx=none→dx≠x→Q (.ref x) (upd (upd H dx (.own x)) x (.ins C dx []))
theorem Gm {X:Cx}{C:Addr}{x:Str}{p pos:Pos} (M:Mk0 X.K C) (hg:Gl X x) (hm:X.mg x=some (.ref C)) (hdb:(x == ("__debug__" : Str))=false:=by decide):PE X (.Call (.Name x p) [] [] pos) (Hk C):=by
  intro pins s σ H Q I h
  refine wpAny_Call_Name_kw (kU I hg hm ?_ hdb)
  refine PySem.W.callWith_K0 I.kIn M.kp ?_
  have I2:=Inv.made (C:=C) I
  have hq:=h (s.heap.objs.size+1) s.heap.objs.size (I.hok.fresh (Nat.le_succ _)) (I.hok.fresh (Nat.le_refl _)) (Nat.ne_of_lt (Nat.lt_succ_self _))
  have Y:=PySem.W.makes_of (M:=model X.prog X.w) I.kIn M.makes
  refine wpAny_call (Ar I.kIn M.makes M.init (fun self=>PySem.W.Looks.of_pure (PySem.W.oi_bind self)) ?_)
  have e2:((s.heap.push PySem.W.emptyDict).push (PySem.W.instObj C s.heap.objs.size)).get? (s.heap.objs.size+1)=some (PySem.W.instObj C s.heap.objs.size):=by
    have:=Heap.get?_push_size (s.heap.push PySem.W.emptyDict) (o:=PySem.W.instObj C s.heap.objs.size) rfl
    rwa [Heap.size_push] at this
  have t1:PySem.W.Looks (model X.prog X.w) ((s.heap.push PySem.W.emptyDict).push (PySem.W.instObj C s.heap.objs.size)) (typeOf (.ref (s.heap.objs.size+1))) (.ref C):=(PySem.W.Looks.ld e2).andThen .now
  have t2:PySem.W.Looks (model X.prog X.w) ((s.heap.push PySem.W.emptyDict).push (PySem.W.instObj C s.heap.objs.size)) (isInstance (.ref (s.heap.objs.size+1)) (.type "object")) true:=t1.andThen (Y.top.keeps fun b o e=>Heap.get?_push_of_some _ (Heap.get?_push_of_some _ e))
  refine codeAny_call_builtin PySem.W.oi_plain PySem.W.entry_oi (@PySem.W.check_slot (model X.prog X.w) _ _ _ "object.__init__" "object" "__init__" (.ref (s.heap.objs.size+1)) [] [] _ PySem.W.oi_kind PySem.W.oi_split t2 (PySem.W.oi_args (.ref (s.heap.objs.size+1))) ?_)
  rw[PySem.W.oi_run]
  exact wpAny_pure (And.intro rfl ⟨V.ref (s.heap.objs.size+1),_,I2,rfl,hq⟩)
end L2
namespace L3
open PySem L2
section
variable {K:PySem.W.Frag}{ρ:Bool}{Γr Γl Γ Γn M:List Nat}{te tx t1 t2 ta:TE}{de dx d1 d2 da:DE}{t:TS}{d e1 e2 e3:DS}{C:Addr}
def Gv (T:List (Addr × Bool)) (da:DE) (δ:Dl) (P:DK):Prop:=da δ fun x=>∃(k:Nat) (C:Addr) (ns:List Str) (ds:List D) (b:Bool),x=.ins C ns ds∧T[k]?=some (C,b)∧P (.bl b)
theorem k8 {P:Addr} (T:List (Addr × Bool)) (hk:∀p∈T,fR K p.1∧PySem.W.kitOne K (.ref p.1) (.ref P)=some p.2) (ha:ER K Γ ta da):EM K Γ [] (tCB (Gf K P) (fg ta (fg (tC (.ref P)) mT))) (Gv T da) :=
  ⟨fun δ P P' k h=>ha.mono _ _ _ (fun x ⟨i,C,ns,ds,b,e1,e2,z⟩=>⟨i,C,ns,ds,b,e1,e2,k _ z⟩) h,
   fun {B0 fps δ σ H Q} o h=>ha.run o (ha.mono _ _ _ (fun x z v H1 s1 r1=>by
    obtain ⟨i,C,ns,ds,b,rfl,hC,z⟩:=z
    obtain ⟨fp,a,dx,xs,fq,rfl,hH,_,_⟩:=r1
    obtain ⟨k1,k2⟩:=hk (C,b) (List.mem_of_getElem? hC)
    exact⟨.ref a,_,_,rfl,.ins hH k1.cl k1.ha k1.hn k1.ht k1.hm,k2,z _ H1 [] s1 ⟨rfl,rfl⟩ Nw.nil⟩) h)⟩
def Gn (C:Addr) (δ:Dl) (P:DK):Prop:=P (.ins C [] [])
theorem FA:EM K Γ [] (Hk C) (Gn C) :=
  ⟨fun δ P P' k h=>k _ h,fun {B0 fps δ σ H Q} o h=>fun x dx hx hdx hne=>by
    have e:upd (upd H dx (.own x)) x (.ins C dx []) x=some (.ins C dx []):=aP
    refine h (.ref x) _ [x] ((aN.lO hdx).trans (aN.lO (by rw[bf (Ne.symm hne)];exact hx))) ⟨x,dx,[],[],rfl,e,rfl,rfl,rfl⟩ ⟨by simp,fun a ha=>?_,fun a ha=>?_⟩
    · cases List.mem_singleton.mp ha;exact .inr (.inr (.inr ⟨_,_,_,e⟩))
    · cases List.mem_singleton.mp ha;exact .inl hx⟩
def B2 (K:PySem.W.Frag) (C:Addr) (f g:Str):Sp:=fun vs H Q _=>∃(x dx:Addr) (w1 w2:V),vs=[.ref x,w1,w2]∧H x=some (.ins C dx [])∧∀H',(∀a,a≠x→H' a=H a)→H' x=some (.ins C dx [(f,w1),(g,w2)])→Q .non H'
theorem Bn {f g:Str}{vs:List V}{H:Hp}{Q:VK}{E:XK} (k:B2 K C f g vs H Q E):vs.length=3:=by
  obtain ⟨x,dx,w1,w2,rfl,_⟩:=k;rfl
def yz (C:Addr) (f g:Str) (d1 d2:DE) (δ:Dl) (P:DK):Prop:=d1 δ fun x=>d2 δ fun y=>P (.ins C [f,g] [x,y])
theorem xp {f g:Str}{E:XK} (h1:ER K Γ t1 d1) (h2:ER K Γ t2 d2):ER K Γ (BC C (B2 K C f g) [] E (fg t1 (fg t2 mT))) (yz C f g d1 d2) :=
  ⟨fun δ P P' k h=>h1.mono _ _ _ (fun x z=>h2.mono _ _ _ (fun y z=>k _ z) z) h,
   fun {B0 fps δ σ H Q} o q=>h1.run o (h1.mono _ _ _ (fun x z v H1 s1 r1=>h2.run (o.same s1) (h2.mono _ _ _ (fun y z w H2 s2 r2=>by
    intro a dx hx hdx hne
    have e0:upd (upd H2 dx (.own a)) a (.ins C dx []) a=some (.ins C dx []):=aP
    refine⟨a,dx,v,w,rfl,e0,fun H' hk hH=>⟨rfl,?_⟩⟩
    have s3:aN H2 H':=fun b u e=>by
      have n1:b≠a:=fun z=>by rw[z,hx] at e;cases e
      have n2:b≠dx:=fun z=>by rw[z,hdx] at e;cases e
      rw[hk b n1,bf n1,bf n2];exact e
    obtain ⟨f1,r1⟩:=(r1.same s2).same s3
    obtain ⟨f2,r2⟩:=r2.same s3
    exact z (.ref a) H' ((s1.trans s2).trans s3) ⟨a::(f1++(f2++[])),a,dx,[v,w],f1++(f2++[]),rfl,hH,rfl,v,[w],f1,f2++[],rfl,rfl,r1,w,[],f2,[],rfl,rfl,r2,rfl,rfl⟩) z)) q)⟩
theorem Gw {f g:Str} (hc:Cls K C) (hf:bB K C f) (hg:bB K C g) (hne:f≠g):∀{vs H Q E},B2 K C f g vs H Q E→(yN K (jd 0) (jd 1) f) { nx:=fun σ' H'=>yN K (jd 0) (jd 2) g { nx:=fun _ H'=>Q .non H',rt:=Q } σ' H',rt:=Q } (L2.start ["self","first","second"] vs) H:=by
  rintro vs H Q E ⟨x,dx,w1,w2,rfl,hH,h⟩
  refine⟨w1,rfl,.ref x,rfl,x,C,dx,[],rfl,hH,hc,hf,by decide,?_⟩
  refine⟨w2,rfl,.ref x,rfl,x,C,dx,_,rfl,aP,hc,hg,by simp [kK],?_⟩
  refine h _ (fun a ha=>by rw[bf ha,bf ha]) ?_
  rw[aP]
  simp [kK,hne]
end
end L3
namespace L3
open PySem L2
section
variable {K:PySem.W.Frag}{ρ:Bool}{Γr Γl Γ G M:List Nat}{t:TS}{d:DS}
variable {B0:Hp}{fps:Nat→List Addr}{δ:Dl}{σ:St}{H H':Hp}
def yy (n p q:Nat) (M:List Nat) (d:DS) (E:b8) (δ:Dl):Prop:=∃(a b:Addr) (x y:D),δ.length=n∧δ[p]?=some (some (.pin a x))∧δ[q]?=some (some (.pin b y)) ∧
  d ⟨fun δ'=>δ'.length=n∧δ'[p]?=some (some (.pin a x))∧δ'[q]?=some (some (.pin b y))∧E.nx (kill M δ'),fun _ _=>False,fun _=>False,fun _=>False⟩ δ
theorem Br (n p q:Nat) (M:List Nat) (h:ST K ρ Γr Γl t G G d) (hp:p∈Γ:=by decide) (hq:q∈Γ:=by decide) (hpq:p≠q:=by decide) (hG:∀i∈G,i∈Γ∧i≠p∧i≠q∧i∉M:=by decide) (hΓ:∀i∈Γ,i=p∨i=q∨i∈G:=by decide) (hM:p∉M∧q∉M:=by decide) (hn:∀i,i<n→i∈M∨i=p∨i=q∨i∈G:=by decide) :
    ST K ρ Γr Γl t Γ Γ (yy n p q M d):=by
  intro B0 Dn E fps δ σ H k o z
  obtain ⟨a,b,x,y,hl,ep,eq,z⟩:=z
  obtain ⟨B1,s01,o1,hB⟩:=(o.sub (Γ':=G) fun i hi=>(hG i hi).1).rebase
  refine h (B0:=B1) ⟨fun {fps' δ' σ' H'} o' w=>?_,fun _ (w:False)=>w.elim,fun _ (w:False)=>w.elim,fun _ _ _ (w:False)=>w.elim⟩ o1 z
  obtain ⟨hl',ep',eq',w⟩:=w
  have out:∀{r:Nat},r∈Γ→r∉G→∀c∈fps r,B1 c=H c:=fun hr hg c hc=>hB c fun j hj=>o.dj _ hr j (fun e=>hg (e▸hj)) c hc
  have pG:p∉G:=fun e=>(hG p e).2.1 rfl
  have qG:q∉G:=fun e=>(hG q e).2.2.1 rfl
  have keep:∀{r:Nat},r∈Γ→r∉G→∀c∈fps r,∀u,H c=some u→H' c=some u:=fun hr hg c hc u e=>o'.b0 c u (by rw[out hr hg c hc];exact e)
  have imm:∀c u,H c=some u→Im u→H' c=some u:=fun c u e hi=>o'.b0 c u (by
    rw[hB c fun j hj hc=>((o.own j (hG j hj).1).2 c hc).2.m4 u e hi];exact e)
  have back:∀{r:Nat}{a:Addr}{x:D},r∈Γ→r∉G→δ[r]?=some (some (.pin a x))→δ'[r]?=some (some (.pin a x))→∃v,σ'[r]?=some (some v)∧Rf K H' (.pin a x) v (fps r):=fun {r a x} hr hg e e'=>by
    obtain ⟨v,hv,rv⟩:=o.val r _ e
    obtain ⟨v',hv',rv'⟩:=o'.val r _ e'
    obtain ⟨rfl,rv⟩:=rv
    obtain ⟨rfl,rv'⟩:=rv'
    exact⟨_,hv',rfl,rv.mono (keep hr hg) imm⟩
  have mu:∀{r:Nat},r∈Γ→r∉G→∀c∈fps r,B0 c=none∧Mu H' c:=fun hr hg c hc=>⟨((o.own _ hr).2 c hc).1,by
    rcases ((o.own _ hr).2 c hc).2 with ⟨u,e⟩ | ⟨u,e⟩ | ⟨u,e⟩ | ⟨u1,u2,u3,e⟩
    · exact .inl ⟨u,keep hr hg c hc _ e⟩
    · exact .inr (.inl ⟨u,keep hr hg c hc _ e⟩)
    · exact .inr (.inr (.inl ⟨u,keep hr hg c hc _ e⟩))
    · exact .inr (.inr (.inr ⟨u1,u2,u3,keep hr hg c hc _ e⟩))⟩
  have apart:∀{r i:Nat},r∈Γ→r∉G→i∈G→∀c∈fps r,c∉fps' i:=fun hr hg hi c hc hc'=>by
    have e1:=((o'.own _ hi).2 c hc').1
    rw[out hr hg c hc] at e1
    exact o.dom hc e1
  have far:∀i,i∉M→i≠p→i≠q→i∉G→fps' i=[]:=fun i h1 h2 h3 h4=>o'.non i fun d e=>by
    have:=(List.getElem?_eq_some_iff.mp e).1
    rcases hn i (by omega) with z | z | z | z
    · exact h1 z
    · exact h2 z
    · exact h3 z
    · exact h4 z
  refine k.nx (fps:=fun l=>if l=p then fps p else if l=q then fps q else if l∈M then [] else fps' l) ⟨by rw[gr];exact o'.len,s01.trans o'.b0,fun i d e=>?_,fun i e=>?_,fun i hi=>?_,fun i hi j hj c hc=>?_⟩ w
  · obtain ⟨hm,e⟩:=jO.mp e
    by_cases h1:i=p
    · subst h1
      rw[ep'] at e;cases e
      rw[if_pos rfl];exact back hp pG ep ep'
    · by_cases h2:i=q
      · subst h2
        rw[eq'] at e;cases e
        rw[if_neg h1,if_pos rfl];exact back hq qG eq eq'
      · rw[if_neg h1,if_neg h2,if_neg hm];exact o'.val i d e
  · by_cases h1:i=p
    · subst h1;exact absurd (jO.mpr ⟨hM.1,ep'⟩) (e _)
    · by_cases h2:i=q
      · subst h2;exact absurd (jO.mpr ⟨hM.2,eq'⟩) (e _)
      · by_cases h3:i∈M
        · rw[if_neg h1,if_neg h2,if_pos h3]
        · rw[if_neg h1,if_neg h2,if_neg h3]
          exact o'.non i fun d z=>e d (jO.mpr ⟨h3,z⟩)
  · by_cases h1:i=p
    · subst h1;rw[if_pos rfl];exact⟨(o.own _ hp).1,mu hp pG⟩
    · by_cases h2:i=q
      · subst h2;rw[if_neg h1,if_pos rfl];exact⟨(o.own _ hq).1,mu hq qG⟩
      · have hg:i∈G:=((hΓ i hi).resolve_left h1).resolve_left h2
        rw[if_neg h1,if_neg h2,if_neg (hG i hg).2.2.2]
        exact⟨(o'.own i hg).1,fun c hc=>⟨s01.free ((o'.own i hg).2 c hc).1,((o'.own i hg).2 c hc).2⟩⟩
  · have rest:∀{r:Nat},r∈Γ→r∉G→∀c∈fps r,c∉(if j∈M then [] else fps' j)∨j=p∨j=q:=fun hr hg c hc=>by
      by_cases h3:j∈M
      · rw[if_pos h3];exact .inl List.not_mem_nil
      · rw[if_neg h3]
        by_cases h4:j∈G
        · exact .inl (apart hr hg h4 c hc)
        · by_cases h1:j=p
          · exact .inr (.inl h1)
          · by_cases h2:j=q
            · exact .inr (.inr h2)
            · rw[far j h3 h1 h2 h4];exact .inl List.not_mem_nil
    by_cases h1:i=p
    · subst h1
      rw[if_pos rfl] at hc
      rw[if_neg hj]
      by_cases h2:j=q
      · rw[if_pos h2];subst h2;exact o.dj _ hp _ hj c hc
      · rw[if_neg h2]
        exact (rest hp pG c hc).resolve_right fun z=>z.elim hj h2
    · by_cases h2:i=q
      · subst h2
        rw[if_neg h1,if_pos rfl] at hc
        by_cases h3:j=p
        · rw[if_pos h3];subst h3;exact o.dj _ hq _ hj c hc
        · rw[if_neg h3,if_neg hj]
          exact (rest hq qG c hc).resolve_right fun z=>z.elim h3 hj
      · have hg:i∈G:=((hΓ i hi).resolve_left h1).resolve_left h2
        rw[if_neg h1,if_neg h2,if_neg (hG i hg).2.2.2] at hc
        by_cases h3:j=p
        · rw[if_pos h3];exact fun z=>apart hp pG hg c z hc
        · by_cases h4:j=q
          · rw[if_neg h3,if_pos h4];exact fun z=>apart hq qG hg c z hc
          · rw[if_neg h3,if_neg h4]
            by_cases h5:j∈M
            · rw[if_pos h5];exact List.not_mem_nil
            · rw[if_neg h5];exact o'.dj i hg j hj c hc
def Hg (E:b8) (δ:Dl):Prop:=False
theorem j9 {Γn:List Nat}:ST K ρ Γr Γl t Γ Γn Hg:=fun _ _ _ _ _ _ _ _ _ h=>h.elim
def Hw (δ:Dl) (P:Bool→Prop):Prop:=False
theorem EH {tt:TT}:TR K Γ tt Hw:=⟨fun _ _ _ _ h=>h,fun _ h=>h.elim⟩
def Ht (i:Nat) (d:DS) (E:b8) (δ:Dl):Prop:=d { E with nx:=fun δ'=>kO δ' i fun _ x=>E.nx (δ'.set i (some x)) } δ
theorem Dr {Γn:List Nat} (i:Nat) (h:ST K ρ Γr Γl t Γ Γn d):ST K ρ Γr Γl t Γ Γn (Ht i d):=by
  intro B0 Dn E fps δ σ H k o q
  refine h (E:={ E with nx:=fun δ'=>kO δ' i fun _ x=>E.nx (δ'.set i (some x)) }) ⟨fun {fps δ' σ' H'} o' z=>?_,k.bk,k.ct,k.rt⟩ o q
  obtain ⟨a,x,e,z⟩:=ia z
  exact k.nx (o'.nF e fun _ _ w=>w.2) z
end
end L3
namespace L2
open PySem PySem.Spec PyProof.Rows SeqAt
section
variable {X:Cx}
theorem rD:∀{bs:List Bool}{its:List Value},Vals (bs.map V.bl) its→its=bs.map Value.bool
  | [],_,h=>by cases h;rfl
  | b::bs,_,h=>by
    cases h with
    | cons h1 h2 =>
      rw[rD h2,List.map_cons]
      exact congrArg (·::bs.map Value.bool) h1
def GY:R2:=fun x y H Q=>∃(a b:Addr) (bs:List Bool),x=.ref a∧y=.ref b∧H a=some (.lst (bs.map V.bl))∧H b=some (.lst (bs.map V.bl))∧Q (.bl false) H
theorem Cr (hu:X.A.units+64<cLine):OpR X (compareOp .NotEq) GY:=by
  intro pins s σ H x y v u Q I rx ry h
  obtain ⟨a,b,bs,rfl,rfl,e1,e2,q⟩:=h
  obtain rfl:v=.ref a:=rx
  obtain rfl:u=.ref b:=ry
  obtain ⟨its,rv,pl,hz⟩:=I.list (SqL.of e1)
  obtain ⟨its2,rv2,pl2,hz2⟩:=I.list (SqL.of e2)
  obtain rfl:=rD rv
  obtain rfl:=rD rv2
  refine RcNeAt.lists (e:=fun _=>true) pl.isList pl2.isList rfl (by omega) (fun j h1 h2=>?_) _ _ _ _ (bW I q ?_)
  · have h3:j<bs.length:=by simpa using h1
    have e3:(bs.map Value.bool).toArray[j]=Value.bool bs[j]:=by simp
    rw[e3]
    have:=EqAt.bool_bool (A:=X.A.in1) (s:=s) bs[j] bs[j]
    rw[beq_self_eq_true] at this
    exact this
  · simp
end
end L2
namespace L3
open PySem L2
section
variable {K:PySem.W.Frag}{Γ:List Nat}
theorem zq (i:Nat) (h:i∉Γ:=by decide):ES K Γ (jd i) (Ai i):=⟨fun δ P P' k h=>by obtain ⟨a,x,e,z⟩:=ia h;exact xP e (k _ z),fun {B0 fps δ σ H Q} o q=>by
  obtain ⟨a,x,e,q⟩:=ia q
  obtain ⟨v,e1,r⟩:=o.val i _ e
  exact⟨v,e1,q v H _ (aN.refl H) r.2 fun j hj b hb z=>o.dj j hj i (fun y=>h (by rw[y];exact hj)) b z hb⟩⟩
def HE (x:D) (y:D) (P:DK):Prop:=∃bs:List Bool,x=.lst (bs.map D.bl)∧y=.lst (bs.map D.bl)∧P (.bl false)
theorem EY:OpV K GY HE:=⟨fun x y P P' k h=>by
    obtain ⟨bs,h1,h2,h⟩:=h
    exact⟨bs,h1,h2,k _ h⟩,
  fun {H x y v w Q} ⟨f1,r1⟩ ⟨f2,r2⟩ h=>by
    obtain ⟨bs,rfl,rfl,h⟩:=h
    have hs:(bs.map D.bl).all D.bC=true:=by rw[List.all_map,List.all_eq_true];exact fun _ _=>rfl
    have e:(bs.map D.bl).map D.toV=bs.map V.bl:=by rw[List.map_map];rfl
    obtain ⟨a,xs,fq,rfl,h1,_,h2⟩:=r1
    obtain ⟨b,ys,gq,rfl,h3,_,h4⟩:=r2
    obtain ⟨rfl,_⟩:=h2.lE hs
    obtain ⟨rfl,_⟩:=h4.lE hs
    rw[e] at h1 h3
    exact⟨a,b,bs,rfl,rfl,h1,h3,h _ H [] (aN.refl H) ⟨rfl,rfl⟩ Nw.nil⟩⟩
end
end L3
namespace L3
open PySem L2
section
variable {K:PySem.W.Frag}{h:Heap}{mg:Str→Option Value}{x m q:Str}{st:Stmt}{ps:List Str}{f C M:Addr}{oc:Value}{od an:Option Addr}{osl:Array (Option Value)}{kV doc pm cdv ct:Value}
abbrev B3 (x q:Str) (st:Stmt) (ps:List Str):Prop:=∀(kV doc pm:Value) (an:Option Addr) (cdv ct:Value) (us:List Value),us.length=ps.length→bindArgs (PySem.W.fnOf x q (iN st) (fY st) (au st) .none kV doc pm an cdv ct) ⟨us,[]⟩=pure (ps.zip us)
theorem fnA (X:K.In h) (G:h.Ns mainGlobals mg) (a:PySem.W.nsIn K mainGlobals x=some (some (.ref f))) (l:K.lookup f=some ⟨oc,od,.func (PySem.W.fnOf x x (iN st) (fY st) (au st) .none kV doc pm an cdv ct),osl⟩) (c:PySem.W.codeIn K cdv x=true) (k:PySem.W.keepIn K (.ref f)=true) (b:B3 x x st ps):∃f fd,FnAt K mg x st ps f fd :=
  ⟨f,_,nG l c k,PySem.W.mg_of X G a,(nG l c k).binds b⟩
theorem mtA (a:PySem.W.findIn K (.ref C) m=some (some (.ref f))) (i:PySem.W.isFn K (.ref f)=true) (l:K.lookup f=some ⟨oc,od,.func (PySem.W.fnOf m q (iN st) (fY st) (au st) .none kV doc pm an cdv ct),osl⟩) (c:PySem.W.codeIn K cdv q=true) (k:PySem.W.keepIn K (.ref f)=true) (b:B3 m q st ps):∃f fd,fP K C m q st ps f fd :=
  ⟨f,_,nG l c k,⟨a,i,k⟩,(nG l c k).binds b⟩
theorem mkA (X:K.In h) (G:h.Ns mainGlobals mg) (e:PySem.W.nsIn K mainGlobals x=some (some (.ref C))) (mk:PySem.W.makesIn K C=true) (a:PySem.W.findIn K (.ref C) "__init__" = some (some (.ref f))) (i:PySem.W.isFn K (.ref f)=true) (kc:PySem.W.keepIn K (.ref C)=true) (l:K.lookup f=some ⟨oc,od,.func (PySem.W.fnOf "__init__" q (iN st) (fY st) (au st) .none kV doc pm an cdv ct),osl⟩) (c:PySem.W.codeIn K cdv q=true) (k:PySem.W.keepIn K (.ref f)=true) (b:B3 "__init__" q st ps):∃f fd,h8 K mg x C q st ps f fd :=
  ⟨f,_,nG l c k,⟨mk,a,i,kc⟩,(nG l c k).binds b,PySem.W.mg_of X G e⟩
structure XC (K:PySem.W.Frag) (C M:Addr):Prop where
  obj:∀base,K.In base→dX base C [M]
  exk:PySem.W.Ei K C
variable {dd:Option Addr}{nm qn:Str}{bs:List Value}{ns:Addr}{hd:Bool}{sn:List Str}{sub:List Value}{ab:Bool}{col:Option Bool}{k0 k1 k2 k3 k5:Option Value}
theorem xoA (u:K.lookup C=some ⟨.type "type",dd,.cls ⟨nm,bs,.ref C::VB,ns,qn,hd,sn,sub,ab,col,false⟩,#[k0,k1,k2,k3,some (.builtin "ValueError.__new__"),k5]⟩) (v:PySem.W.excIn K C VB "ValueError.__new__" = true):∀base,K.In base→dX base C []:=fun _ hb=>dX.of_lookup (ups:=[]) hb u rfl v
theorem xcA (u:K.lookup C=some ⟨.type "type",dd,.cls ⟨nm,bs,.ref C::.ref M::VB,ns,qn,hd,sn,sub,ab,col,false⟩,#[k0,k1,k2,k3,some (.builtin "ValueError.__new__"),k5]⟩) (v:PySem.W.excIn K C VB "ValueError.__new__" = true) (ga:PySem.W.findIn K (.ref C) "__getattribute__" = some (some (.builtin "BaseException.__getattribute__"))) (ge:PySem.W.findIn K (.ref C) "__getattr__" = some none) (cl:PySem.W.findIn K (.ref C) "__class__" = some (some (.builtin "object.__class__"))) (ob:PySem.W.mroIn K C (.type "object")=some true) (be:PySem.W.mroIn K C (.type "BaseException")=some true):XC K C M :=
  ⟨fun _ hb=>dX.of_lookup (ups:=[M]) hb u rfl v,⟨ga,ge,cl,ob,be,by unfold PySem.W.clsIn;rw[u];rfl⟩⟩
end
end L3
namespace Mine
open PySem L3
open L2 hiding D Rf Rfs Rp dI dT
open PyProof.Rows hiding St
local macro_rules | `(tactic| walk_at "v1") => `(tactic| simp only [F7,we,Ds,zC,FD,FY,Gv,Gn,yz,yy,yY,sJ,C8,Bp,Ep,Cz,Fs,D0,EG,yW,C1,xo,Ak,Eo,p9,vC,vOp,vUn,zV,Bf,Bv,u9,CB,FC,vOr,FU,Bj,Ga,yG,A0,pK,DF,Gy,qr,FN,Cc,Cn,zt,xH,zb,zD,tm,wY,yf,vv,Cy,ya,xF,wZ,lQ,wQ,vIs,zJ,De,zk,zE,zH,y8,C0,CM,CO,B4,BM,Bz,Bg,Df,Cf,xE,D.vc,C9,D.bC,xj,Ao,uF,uL,uM,F9,xx,zu,EA,xQ,xO,ur,uj,ve,kD,mH,vSl,uy,ux,sW,nY,rQ,sy,so,su,EB,kO,Ai,yl,uN,sR,uT,rj,uv,za,uo,uZ,uS,zF,Cj,zT,D.toV,Option.some.injEq,forall_eq',zh,yh,yq,Ci,noX,BH,Cv,Cm,CQ,xa,kill,List.foldl_nil,List.foldl_cons,List.set_cons_zero,List.set_cons_succ,List.getElem?_cons_zero,List.getElem?_cons_succ,List.getElem?_nil,m5,xA,Bool.false_eq_true,Bool.not_false,Bool.not_true,if_true,if_false,ite_true,ite_false,true_and,and_true,List.length_cons,List.length_nil,decide_eq_true_eq,Bool.not_eq_true',decide_eq_false_iff_not,List.length_map,Bool.true_eq_false,eq_self,not_true_eq_false,not_false_eq_true,Int.reduceToNat,Int.reduceEq,Int.reduceLT,Int.reduceLE,Int.reducePow,Int.reduceAdd,Int.reduceMul,Int.reduceSub,Int.reduceNeg,Int.toNat_natCast])
local macro_rules | `(tactic| walk_at "vb1") => `(tactic| simp only [F7,we,Ds,zC,FD,FY,Gv,Gn,yz,yy,yY,sJ,C8,Bp,Ep,Cz,Fs,D0,EG,yW,C1,xo,Ak,Eo,p9,vC,vOp,vUn,zV,Bf,Bv,u9,CB,FC,vOr,FU,Bj,Ga,yG,A0,pK,DF,Gy,qr,FN,Cc,Cn,zt,xH,zb,zD,tm,wY,yf,vv,Cy,ya,xF,wZ,lQ,wQ,vIs,zJ,De,zk,zE,zH,y8,C0,CM,CO,B4,BM,Bz,Bg,Df,Cf,xE,D.vc,C9,D.bC,xj,Ao,uF,uL,uM,F9,xx,zu,EA,xQ,xO,ur,uj,ve,kD,mH,vSl,uy,ux,sW,nY,rQ,sy,so,su,EB,kO,Ai,yl,uN,sR,uT,rj,uv,za,uo,uZ,uS,zF,Cj,zT,D.toV,Option.some.injEq,forall_eq',zh,yh,yq,Ci,noX,BH,Cv,Cm,CQ,xa,kill,List.foldl_nil,List.foldl_cons,List.set_cons_zero,List.set_cons_succ,List.getElem?_cons_zero,List.getElem?_cons_succ,List.getElem?_nil,m5,xA,Bool.false_eq_true,Bool.not_false,Bool.not_true,if_true,if_false,ite_true,ite_false,true_and,and_true,List.length_cons,List.length_nil,decide_eq_true_eq,Bool.not_eq_true',decide_eq_false_iff_not,List.length_map,Bool.true_eq_false,eq_self,not_true_eq_false,not_false_eq_true,Int.reduceToNat,Int.reduceEq,Int.reduceLT,Int.reduceLE,Int.reducePow,Int.reduceAdd,Int.reduceMul,Int.reduceSub,Int.reduceNeg,Int.toNat_natCast,jW,eU,List.reduceReplicate,List.replicate_succ,List.replicate_zero,List.map_cons,List.map_nil,Option.getD_some,List.cons_append,List.nil_append,Nat.reduceAdd])
local macro_rules | `(tactic| walk_at "v") => `(tactic| try (walk_at "v1"))
local macro_rules | `(tactic| walk_at "vb") => `(tactic| try (walk_at "vb1"))
local macro_rules | `(tactic| walk_at "cd") => `(tactic| first | exact ⟨by decide,100,by decide,by decide⟩ | exact ⟨by omega,100,by omega,by decide⟩ | omega | decide | rfl | exact ⟨by decide,by decide,by decide⟩ | exact ⟨64,64,by omega,by omega,by decide⟩ | exact ⟨200,200,by omega,by omega,by decide⟩ | exact jx)
local macro_rules | `(tactic| walk_at "go") => `(tactic| repeat (first | (walk_at "v1") | ((with_reducible refine And.intro ?k1 ?_); (case k1 => walk_at "cd"))))
local macro_rules | `(tactic| walk_at "gb") => `(tactic| repeat (first | (walk_at "vb1") | ((with_reducible refine And.intro ?k1 ?_); (case k1 => walk_at "cd"))))
def top (i:Nat):Stmt:=PySem.Challenge.pw_evenmix_k68_pairs_and_copies.main.body.getD i (.Pass ⟨0,0,0,0⟩)
def lh (i j:Nat):Stmt:=(match top i with | .ClassDef _ _ _ b _ _ _ _ _ _ _=>b | _=>[]).getD j (.Pass ⟨0,0,0,0⟩)
abbrev my:Stmt:=top 6
abbrev pO:List Str:=["row"]
abbrev jl:List Str:=["row"]
theorem yv:aJ pO jl (au my):=⟨rfl,rfl,rfl,by decide +kernel,rfl,by decide +kernel,by decide +kernel⟩
abbrev kY:Stmt:=top 7
abbrev og:List Str:=["row","heads","head","number"]
abbrev ip:List Str:=["row"]
theorem iV:aJ og ip (au kY):=⟨rfl,rfl,rfl,by decide +kernel,rfl,by decide +kernel,by decide +kernel⟩
abbrev lj:Stmt:=top 10
abbrev nC:List Str:=["number","many"]
abbrev gm:List Str:=["number","many"]
theorem xV:aJ nC gm (au lj):=⟨rfl,rfl,rfl,by decide +kernel,rfl,by decide +kernel,by decide +kernel⟩
abbrev fh:Stmt:=top 11
abbrev jG:List Str:=["table"]
abbrev bE:List Str:=["table"]
theorem qN:aJ jG bE (au fh):=⟨rfl,rfl,rfl,by decide +kernel,rfl,by decide +kernel,by decide +kernel⟩
abbrev eW:Stmt:=top 12
abbrev jM:List Str:=["table"]
abbrev cG:List Str:=["table"]
theorem qV:aJ jM cG (au eW):=⟨rfl,rfl,rfl,by decide +kernel,rfl,by decide +kernel,by decide +kernel⟩
abbrev eL:Stmt:=top 13
abbrev h6:List Str:=["table"]
abbrev bX:List Str:=["table"]
theorem n6:aJ h6 bX (au eL):=⟨rfl,rfl,rfl,by decide +kernel,rfl,by decide +kernel,by decide +kernel⟩
abbrev eZ:Stmt:=top 14
abbrev jB:List Str:=["table"]
abbrev dZ:List Str:=["table"]
theorem qR:aJ jB dZ (au eZ):=⟨rfl,rfl,rfl,by decide +kernel,rfl,by decide +kernel,by decide +kernel⟩
abbrev iR:Stmt:=top 15
abbrev l7:List Str:=["table","place"]
abbrev gC:List Str:=["table","place"]
theorem wo:aJ l7 gC (au iR):=⟨rfl,rfl,rfl,by decide +kernel,rfl,by decide +kernel,by decide +kernel⟩
abbrev iT:Stmt:=top 16
abbrev lV:List Str:=["table","row"]
abbrev gB:List Str:=["table","row"]
theorem vR:aJ lV gB (au iT):=⟨rfl,rfl,rfl,by decide +kernel,rfl,by decide +kernel,by decide +kernel⟩
abbrev h7:Stmt:=top 17
abbrev ly:List Str:=["one","other"]
abbrev fw:List Str:=["one","other"]
theorem tE:aJ ly fw (au h7):=⟨rfl,rfl,rfl,by decide +kernel,rfl,by decide +kernel,by decide +kernel⟩
abbrev dG:Stmt:=top 19
abbrev kq:List Str:=["columns","low","high","some","others","most","row"]
abbrev eB:List Str:=["columns","low","high","some","others"]
theorem eY:aJ kq eB (au dG):=⟨rfl,rfl,rfl,by decide +kernel,rfl,by decide +kernel,by decide +kernel⟩
abbrev jk:Stmt:=top 21
abbrev qh:List Str:=["table","sums"]
abbrev jn:List Str:=["table"]
theorem sN:aJ qh jn (au jk):=⟨rfl,rfl,rfl,by decide +kernel,rfl,by decide +kernel,by decide +kernel⟩
abbrev hZ:Stmt:=top 22
abbrev lu:List Str:=["pairs","many"]
abbrev el:List Str:=["pairs"]
theorem m7:aJ lu el (au hZ):=⟨rfl,rfl,rfl,by decide +kernel,rfl,by decide +kernel,by decide +kernel⟩
abbrev mz:Stmt:=top 23
abbrev qc:List Str:=["pair","many"]
abbrev jy:List Str:=["pair","many"]
theorem yT:aJ qc jy (au mz):=⟨rfl,rfl,rfl,by decide +kernel,rfl,by decide +kernel,by decide +kernel⟩
abbrev kJ:Stmt:=top 24
abbrev pN:List Str:=["pairs","many","table","pair"]
abbrev jv:List Str:=["pairs"]
theorem lA:aJ pN jv (au kJ):=⟨rfl,rfl,rfl,by decide +kernel,rfl,by decide +kernel,by decide +kernel⟩
abbrev iI:Stmt:=top 25
abbrev ky:List Str:=["table","parts","dealing","row"]
abbrev eH:List Str:=["table","parts","dealing"]
theorem mq:aJ ky eH (au iI):=⟨rfl,rfl,rfl,by decide +kernel,rfl,by decide +kernel,by decide +kernel⟩
abbrev kE:Stmt:=top 27
abbrev pU:List Str:=["table"]
abbrev ig:List Str:=["table"]
theorem yC:aJ pU ig (au kE):=⟨rfl,rfl,rfl,by decide +kernel,rfl,by decide +kernel,by decide +kernel⟩
abbrev cR:Stmt:=top 29
abbrev iB:List Str:=["table","wider"]
abbrev cW:List Str:=["table"]
theorem kg:aJ iB cW (au cR):=⟨rfl,rfl,rfl,by decide +kernel,rfl,by decide +kernel,by decide +kernel⟩
abbrev gT:Stmt:=top 30
abbrev ll:List Str:=["table","bottom","whole","goals","wholes"]
abbrev fG:List Str:=["table","bottom","whole"]
theorem kB:aJ ll fG (au gT):=⟨rfl,rfl,rfl,by decide +kernel,rfl,by decide +kernel,by decide +kernel⟩
abbrev kC:Stmt:=top 31
abbrev qk:List Str:=["goals","bottom","wholes"]
abbrev js:List Str:=["goals","bottom","wholes"]
theorem yJ:aJ qk js (au kC):=⟨rfl,rfl,rfl,by decide +kernel,rfl,by decide +kernel,by decide +kernel⟩
abbrev kZ:Stmt:=top 33
abbrev nr:List Str:=["row","step","giver","taker"]
abbrev iE:List Str:=["row","step"]
theorem lW:aJ nr iE (au kZ):=⟨rfl,rfl,rfl,by decide +kernel,rfl,by decide +kernel,by decide +kernel⟩
abbrev jV:Stmt:=top 34
abbrev me:List Str:=["row","step","made"]
abbrev gn:List Str:=["row","step"]
theorem oq:aJ me gn (au jV):=⟨rfl,rfl,rfl,by decide +kernel,rfl,by decide +kernel,by decide +kernel⟩
abbrev jc:Stmt:=top 35
abbrev lq:List Str:=["row","steps","step"]
abbrev fk:List Str:=["row","steps"]
theorem kl:aJ lq fk (au jc):=⟨rfl,rfl,rfl,by decide +kernel,rfl,by decide +kernel,by decide +kernel⟩
abbrev lx:Stmt:=top 37
abbrev nD:List Str:=["table","swap","first","second"]
abbrev ik:List Str:=["table","swap"]
theorem mr:aJ nD ik (au lx):=⟨rfl,rfl,rfl,by decide +kernel,rfl,by decide +kernel,by decide +kernel⟩
abbrev kh:Stmt:=top 38
abbrev lN:List Str:=["table","swap","made"]
abbrev gx:List Str:=["table","swap"]
theorem oA:aJ lN gx (au kh):=⟨rfl,rfl,rfl,by decide +kernel,rfl,by decide +kernel,by decide +kernel⟩
abbrev gL:Stmt:=top 39
abbrev jL:List Str:=["table","swaps","swap"]
abbrev ee:List Str:=["table","swaps"]
theorem iY:aJ jL ee (au gL):=⟨rfl,rfl,rfl,by decide +kernel,rfl,by decide +kernel,by decide +kernel⟩
abbrev iL:Stmt:=lh 41 0
abbrev ko:List Str:=["self"]
abbrev cQ:List Str:=["self"]
theorem sL:aJ ko cQ (au iL):=⟨rfl,rfl,rfl,by decide +kernel,rfl,by decide +kernel,by decide +kernel⟩
abbrev eA:Stmt:=lh 42 0
abbrev iZ:List Str:=["self","table","pairs"]
abbrev dm:List Str:=["self","table","pairs"]
theorem pS:aJ iZ dm (au eA):=⟨rfl,rfl,rfl,by decide +kernel,rfl,by decide +kernel,by decide +kernel⟩
abbrev fo:Stmt:=lh 42 1
abbrev ix:List Str:=["self"]
abbrev cm:List Str:=["self"]
theorem oJ:aJ ix cm (au fo):=⟨rfl,rfl,rfl,by decide +kernel,rfl,by decide +kernel,by decide +kernel⟩
abbrev fA:Stmt:=lh 43 0
abbrev iD:List Str:=["self","one","other","steps"]
abbrev cS:List Str:=["self","one","other","steps"]
theorem ot:aJ iD cS (au fA):=⟨rfl,rfl,rfl,by decide +kernel,rfl,by decide +kernel,by decide +kernel⟩
abbrev eM:Stmt:=lh 43 1
abbrev gQ:List Str:=["self"]
abbrev b4:List Str:=["self"]
theorem ny:aJ gQ b4 (au eM):=⟨rfl,rfl,rfl,by decide +kernel,rfl,by decide +kernel,by decide +kernel⟩
abbrev fV:Stmt:=lh 44 0
abbrev i5:List Str:=["self","one","other","k"]
abbrev c4:List Str:=["self","one","other","k"]
theorem qf:aJ i5 c4 (au fV):=⟨rfl,rfl,rfl,by decide +kernel,rfl,by decide +kernel,by decide +kernel⟩
abbrev fB:Stmt:=lh 44 1
abbrev ic:List Str:=["self"]
abbrev cn:List Str:=["self"]
theorem pb:aJ ic cn (au fB):=⟨rfl,rfl,rfl,by decide +kernel,rfl,by decide +kernel,by decide +kernel⟩
abbrev ft:Stmt:=lh 45 0
abbrev ij:List Str:=["self","one","other","table"]
abbrev cU:List Str:=["self","one","other","table"]
theorem px:aJ ij cU (au ft):=⟨rfl,rfl,rfl,by decide +kernel,rfl,by decide +kernel,by decide +kernel⟩
abbrev dA:Stmt:=lh 45 1
abbrev hV:List Str:=["self","bottom"]
abbrev b3:List Str:=["self"]
theorem jS:aJ hV b3 (au dA):=⟨rfl,rfl,rfl,by decide +kernel,rfl,by decide +kernel,by decide +kernel⟩
abbrev fW:Stmt:=lh 46 0
abbrev i3:List Str:=["self","rows","columns","table"]
abbrev df:List Str:=["self","rows","columns","table"]
theorem pV:aJ i3 df (au fW):=⟨rfl,rfl,rfl,by decide +kernel,rfl,by decide +kernel,by decide +kernel⟩
abbrev fF:Stmt:=lh 46 1
abbrev iA:List Str:=["self"]
abbrev cf:List Str:=["self"]
theorem om:aJ iA cf (au fF):=⟨rfl,rfl,rfl,by decide +kernel,rfl,by decide +kernel,by decide +kernel⟩
abbrev fU:Stmt:=lh 47 0
abbrev iW:List Str:=["self","rows","columns","low","high","some","others"]
abbrev c7:List Str:=["self","rows","columns","low","high","some","others"]
theorem qg:aJ iW c7 (au fU):=⟨rfl,rfl,rfl,by decide +kernel,rfl,by decide +kernel,by decide +kernel⟩
abbrev dY:Stmt:=lh 47 1
abbrev iw:List Str:=["self","most"]
abbrev cq:List Str:=["self"]
theorem kj:aJ iw cq (au dY):=⟨rfl,rfl,rfl,by decide +kernel,rfl,by decide +kernel,by decide +kernel⟩
abbrev j8:Stmt:=top 48
abbrev lP:List Str:=["table","rows","columns"]
abbrev gw:List Str:=["table","rows","columns"]
theorem vi:aJ lP gw (au j8):=⟨rfl,rfl,rfl,by decide +kernel,rfl,by decide +kernel,by decide +kernel⟩
abbrev gP:Stmt:=top 49
abbrev lr:List Str:=["numbers","many"]
abbrev fC:List Str:=["numbers","many"]
theorem uf:aJ lr fC (au gP):=⟨rfl,rfl,rfl,by decide +kernel,rfl,by decide +kernel,by decide +kernel⟩
abbrev fj:Stmt:=lh 50 0
abbrev il:List Str:=["self","one","other","swaps"]
abbrev cV:List Str:=["self","one","other","swaps"]
theorem ow:aJ il cV (au fj):=⟨rfl,rfl,rfl,by decide +kernel,rfl,by decide +kernel,by decide +kernel⟩
abbrev eP:Stmt:=lh 50 1
abbrev gZ:List Str:=["self"]
abbrev bY:List Str:=["self"]
theorem nS:aJ gZ bY (au eP):=⟨rfl,rfl,rfl,by decide +kernel,rfl,by decide +kernel,by decide +kernel⟩
abbrev eR:Stmt:=lh 51 0
abbrev gY:List Str:=["self","table","bottom","whole"]
abbrev cH:List Str:=["self","table","bottom","whole"]
theorem n4:aJ gY cH (au eR):=⟨rfl,rfl,rfl,by decide +kernel,rfl,by decide +kernel,by decide +kernel⟩
abbrev eh:Stmt:=lh 51 1
abbrev gg:List Str:=["self"]
abbrev bS:List Str:=["self"]
theorem mZ:aJ gg bS (au eh):=⟨rfl,rfl,rfl,by decide +kernel,rfl,by decide +kernel,by decide +kernel⟩
abbrev fD:Stmt:=lh 52 0
abbrev pZ:List Str:=["self","first","second"]
abbrev cT:List Str:=["self","first","second"]
theorem pk:aJ pZ cT (au fD):=⟨rfl,rfl,rfl,by decide +kernel,rfl,by decide +kernel,by decide +kernel⟩
abbrev dq:Stmt:=lh 52 1
abbrev gH:List Str:=["self"]
abbrev bg:List Str:=["self"]
theorem nE:aJ gH bg (au dq):=⟨rfl,rfl,rfl,by decide +kernel,rfl,by decide +kernel,by decide +kernel⟩
abbrev kd:Stmt:=top 54
abbrev lK:List Str:=["_law_cell","_law_up","_law_by","_law_kind"]
abbrev gv:List Str:=["_law_cell"]
theorem jh:aJ lK gv (au kd):=⟨rfl,rfl,rfl,by decide +kernel,rfl,by decide +kernel,by decide +kernel⟩
abbrev jY:Stmt:=top 55
abbrev mj:List Str:=["_law_cell","_law_parts_here","_law_kind"]
abbrev gD:List Str:=["_law_cell","_law_parts_here"]
theorem oY:aJ mj gD (au jY):=⟨rfl,rfl,rfl,by decide +kernel,rfl,by decide +kernel,by decide +kernel⟩
abbrev iH:Stmt:=top 56
abbrev kA:List Str:=["_law_paper_here","_law_found"]
abbrev dE:List Str:=["_law_paper_here"]
theorem gI:aJ kA dE (au iH):=⟨rfl,rfl,rfl,by decide +kernel,rfl,by decide +kernel,by decide +kernel⟩
abbrev mD:Stmt:=top 57
abbrev pL:List Str:=["_law_cell"]
abbrev iq:List Str:=["_law_cell"]
theorem yu:aJ pL iq (au mD):=⟨rfl,rfl,rfl,by decide +kernel,rfl,by decide +kernel,by decide +kernel⟩
abbrev iM:Stmt:=top 58
abbrev kn:List Str:=["_law_things","_law_thing","_law_part"]
abbrev eF:List Str:=["_law_things"]
theorem jH:aJ kn eF (au iM):=⟨rfl,rfl,rfl,by decide +kernel,rfl,by decide +kernel,by decide +kernel⟩
abbrev j7:Stmt:=top 59
abbrev lL:List Str:=["_law_papers","_law_cells","_law_paper_here","_law_cell","_law_found"]
abbrev gp:List Str:=["_law_papers","_law_cells"]
theorem jj:aJ lL gp (au j7):=⟨rfl,rfl,rfl,by decide +kernel,rfl,by decide +kernel,by decide +kernel⟩
abbrev jb:Stmt:=top 60
abbrev kS:List Str:=["_law_papers","_law_cells","_law_pair","_law_due_here","_law_k","_law_found"]
abbrev fH:List Str:=["_law_papers","_law_cells"]
theorem b7:aJ kS fH (au jb):=⟨rfl,rfl,rfl,by decide +kernel,rfl,by decide +kernel,by decide +kernel⟩
abbrev ka:Stmt:=top 61
abbrev CG:List Str:=["_law_script","_law_cells","_law_parts_here","_law_papers","_law_cell","_law_things","_law_paper_here"]
abbrev sZ:List Str:=["_law_script"]
theorem mf:aJ CG sZ (au ka):=⟨rfl,rfl,rfl,by decide +kernel,rfl,by decide +kernel,by decide +kernel⟩
structure Txt (K:PySem.W.Frag) (mg:Str→Option Value):Prop where
  len_:mg "len" = none
  isinstance_:mg "isinstance" = none
  int_:mg "int" = none
  bool_:mg "bool" = none
  list_:mg "list" = none
  tuple_:mg "tuple" = none
  range_:mg "range" = none
  sum_:mg "sum" = none
  sorted_:mg "sorted" = none
  min_:mg "min" = none
  max_:mg "max" = none
  abs_:mg "abs" = none
  any_:mg "any" = none
  all_:mg "all" = none
  zip_:mg "zip" = none
  ValueError_:mg "ValueError" = none
  MOST_:∃t,mg "MOST" = some (Value.int 8 t)
structure Cs where
  (MixError NoStep NoMix NoSwap Paper MixPaper StepPaper BarPaper LeadPaper SumPaper CutPaper SwapPaper RoundPaper PairPaper:Addr)
structure Fns (K:PySem.W.Frag) (mg:Str→Option Value) (c:Cs):Prop where
  h_falling:∃f fd,FnAt K mg "falling" my jl f fd
  h_heads_of:∃f fd,FnAt K mg "heads_of" kY ip f fd
  h_is_place:∃f fd,FnAt K mg "is_place" lj gm f fd
  h_copied_table:∃f fd,FnAt K mg "copied_table" fh bE f fd
  h_sums_of_rows:∃f fd,FnAt K mg "sums_of_rows" eW cG f fd
  h_sums_of_columns:∃f fd,FnAt K mg "sums_of_columns" eL bX f fd
  h_turned_table:∃f fd,FnAt K mg "turned_table" eZ dZ f fd
  h_column_of:∃f fd,FnAt K mg "column_of" iR gC f fd
  h_times_row:∃f fd,FnAt K mg "times_row" iT gB f fd
  h_product_of:∃f fd,FnAt K mg "product_of" h7 fw f fd
  h_most_in_cut:∃f fd,FnAt K mg "most_in_cut" dG eB f fd
  h_is_even:∃f fd,FnAt K mg "is_even" jk jn f fd
  h_is_mixture:∃f fd,FnAt K mg "is_mixture" hZ el f fd
  h_is_pair:∃f fd,FnAt K mg "is_pair" mz jy f fd
  h_told_by:∃f fd,FnAt K mg "told_by" kJ jv f fd
  h_add_dealing:∃f fd,FnAt K mg "add_dealing" iI eH f fd
  h_is_ones:∃f fd,FnAt K mg "is_ones" kE ig f fd
  h_bordered_table:∃f fd,FnAt K mg "bordered_table" cR cW f fd
  h_is_rounded:∃f fd,FnAt K mg "is_rounded" gT fG f fd
  h_is_near:∃f fd,FnAt K mg "is_near" kC js f fd
  h_can_step:∃f fd,FnAt K mg "can_step" kZ iE f fd
  h_step_made:∃f fd,FnAt K mg "step_made" jV gn f fd
  h_row_behind:∃f fd,FnAt K mg "row_behind" jc fk f fd
  h_can_swap:∃f fd,FnAt K mg "can_swap" lx ik f fd
  h_swap_made:∃f fd,FnAt K mg "swap_made" kh gx f fd
  h_table_behind:∃f fd,FnAt K mg "table_behind" gL ee f fd
  h_Paper_holds:∃f fd,fP K c.Paper "holds" "Paper.holds" iL cQ f fd
  h_MixPaper_init:∃f fd,h8 K mg "MixPaper" c.MixPaper "MixPaper.__init__" eA dm f fd
  h_MixPaper_holds:∃f fd,fP K c.MixPaper "holds" "MixPaper.holds" fo cm f fd
  h_StepPaper_init:∃f fd,h8 K mg "StepPaper" c.StepPaper "StepPaper.__init__" fA cS f fd
  h_StepPaper_holds:∃f fd,fP K c.StepPaper "holds" "StepPaper.holds" eM b4 f fd
  h_BarPaper_init:∃f fd,h8 K mg "BarPaper" c.BarPaper "BarPaper.__init__" fV c4 f fd
  h_BarPaper_holds:∃f fd,fP K c.BarPaper "holds" "BarPaper.holds" fB cn f fd
  h_LeadPaper_init:∃f fd,h8 K mg "LeadPaper" c.LeadPaper "LeadPaper.__init__" ft cU f fd
  h_LeadPaper_holds:∃f fd,fP K c.LeadPaper "holds" "LeadPaper.holds" dA b3 f fd
  h_SumPaper_init:∃f fd,h8 K mg "SumPaper" c.SumPaper "SumPaper.__init__" fW df f fd
  h_SumPaper_holds:∃f fd,fP K c.SumPaper "holds" "SumPaper.holds" fF cf f fd
  h_CutPaper_init:∃f fd,h8 K mg "CutPaper" c.CutPaper "CutPaper.__init__" fU c7 f fd
  h_CutPaper_holds:∃f fd,fP K c.CutPaper "holds" "CutPaper.holds" dY cq f fd
  h_has_shape:∃f fd,FnAt K mg "has_shape" j8 gw f fd
  h_are_places:∃f fd,FnAt K mg "are_places" gP fC f fd
  h_SwapPaper_init:∃f fd,h8 K mg "SwapPaper" c.SwapPaper "SwapPaper.__init__" fj cV f fd
  h_SwapPaper_holds:∃f fd,fP K c.SwapPaper "holds" "SwapPaper.holds" eP bY f fd
  h_RoundPaper_init:∃f fd,h8 K mg "RoundPaper" c.RoundPaper "RoundPaper.__init__" eR cH f fd
  h_RoundPaper_holds:∃f fd,fP K c.RoundPaper "holds" "RoundPaper.holds" eh bS f fd
  h_PairPaper_init:∃f fd,h8 K mg "PairPaper" c.PairPaper "PairPaper.__init__" fD cT f fd
  h_PairPaper_holds:∃f fd,fP K c.PairPaper "holds" "PairPaper.holds" dq bg f fd
  h_law_parts:∃f fd,FnAt K mg "_law_parts" kd gv f fd
  h_law_paper:∃f fd,FnAt K mg "_law_paper" jY gD f fd
  h_law_classes:∃f fd,FnAt K mg "_law_classes" iH dE f fd
  h_law_due:∃f fd,FnAt K mg "_law_due" mD iq f fd
  h_law_changed:∃f fd,FnAt K mg "_law_changed" iM eF f fd
  h_law_asked:∃f fd,FnAt K mg "_law_asked" j7 gp f fd
  h_law_paired:∃f fd,FnAt K mg "_law_paired" jb fH f fd
  h_law:∃f fd,FnAt K mg "law" ka sZ f fd
structure Exs (K:PySem.W.Frag) (mg:Str→Option Value) (base:Heap) (c:Cs):Prop where
  m_MixError:mg "MixError" = some (.ref c.MixError)
  m_NoStep:mg "NoStep" = some (.ref c.NoStep)
  m_NoMix:mg "NoMix" = some (.ref c.NoMix)
  m_NoSwap:mg "NoSwap" = some (.ref c.NoSwap)
  m_Paper:mg "Paper" = some (.ref c.Paper)
  m_MixPaper:mg "MixPaper" = some (.ref c.MixPaper)
  m_StepPaper:mg "StepPaper" = some (.ref c.StepPaper)
  m_BarPaper:mg "BarPaper" = some (.ref c.BarPaper)
  m_LeadPaper:mg "LeadPaper" = some (.ref c.LeadPaper)
  m_SumPaper:mg "SumPaper" = some (.ref c.SumPaper)
  m_CutPaper:mg "CutPaper" = some (.ref c.CutPaper)
  m_SwapPaper:mg "SwapPaper" = some (.ref c.SwapPaper)
  m_RoundPaper:mg "RoundPaper" = some (.ref c.RoundPaper)
  m_PairPaper:mg "PairPaper" = some (.ref c.PairPaper)
  i_Paper:fR K c.Paper
  kp_Paper:PySem.W.kitOne K (.ref c.Paper) (.ref c.Paper)=some true
  i_MixPaper:fR K c.MixPaper
  kp_MixPaper:PySem.W.kitOne K (.ref c.MixPaper) (.ref c.Paper)=some true
  n_MixPaper_table:bB K c.MixPaper "table"
  n_MixPaper_pairs:bB K c.MixPaper "pairs"
  i_StepPaper:fR K c.StepPaper
  kp_StepPaper:PySem.W.kitOne K (.ref c.StepPaper) (.ref c.Paper)=some true
  n_StepPaper_one:bB K c.StepPaper "one"
  n_StepPaper_other:bB K c.StepPaper "other"
  n_StepPaper_steps:bB K c.StepPaper "steps"
  i_BarPaper:fR K c.BarPaper
  kp_BarPaper:PySem.W.kitOne K (.ref c.BarPaper) (.ref c.Paper)=some true
  n_BarPaper_one:bB K c.BarPaper "one"
  n_BarPaper_other:bB K c.BarPaper "other"
  n_BarPaper_k:bB K c.BarPaper "k"
  i_LeadPaper:fR K c.LeadPaper
  kp_LeadPaper:PySem.W.kitOne K (.ref c.LeadPaper) (.ref c.Paper)=some true
  n_LeadPaper_one:bB K c.LeadPaper "one"
  n_LeadPaper_other:bB K c.LeadPaper "other"
  n_LeadPaper_table:bB K c.LeadPaper "table"
  i_SumPaper:fR K c.SumPaper
  kp_SumPaper:PySem.W.kitOne K (.ref c.SumPaper) (.ref c.Paper)=some true
  n_SumPaper_rows:bB K c.SumPaper "rows"
  n_SumPaper_columns:bB K c.SumPaper "columns"
  n_SumPaper_table:bB K c.SumPaper "table"
  i_CutPaper:fR K c.CutPaper
  kp_CutPaper:PySem.W.kitOne K (.ref c.CutPaper) (.ref c.Paper)=some true
  n_CutPaper_rows:bB K c.CutPaper "rows"
  n_CutPaper_columns:bB K c.CutPaper "columns"
  n_CutPaper_low:bB K c.CutPaper "low"
  n_CutPaper_high:bB K c.CutPaper "high"
  n_CutPaper_some:bB K c.CutPaper "some"
  n_CutPaper_others:bB K c.CutPaper "others"
  i_SwapPaper:fR K c.SwapPaper
  kp_SwapPaper:PySem.W.kitOne K (.ref c.SwapPaper) (.ref c.Paper)=some true
  n_SwapPaper_one:bB K c.SwapPaper "one"
  n_SwapPaper_other:bB K c.SwapPaper "other"
  n_SwapPaper_swaps:bB K c.SwapPaper "swaps"
  i_RoundPaper:fR K c.RoundPaper
  kp_RoundPaper:PySem.W.kitOne K (.ref c.RoundPaper) (.ref c.Paper)=some true
  n_RoundPaper_table:bB K c.RoundPaper "table"
  n_RoundPaper_bottom:bB K c.RoundPaper "bottom"
  n_RoundPaper_whole:bB K c.RoundPaper "whole"
  i_PairPaper:fR K c.PairPaper
  kp_PairPaper:PySem.W.kitOne K (.ref c.PairPaper) (.ref c.Paper)=some true
  n_PairPaper_first:bB K c.PairPaper "first"
  n_PairPaper_second:bB K c.PairPaper "second"
  o_MixError:dX base c.MixError []
  o_NoMix:dX base c.NoMix [c.MixError]
  k_NoMix:PySem.W.Ei K c.NoMix
  o_NoStep:dX base c.NoStep [c.MixError]
  k_NoStep:PySem.W.Ei K c.NoStep
  o_NoSwap:dX base c.NoSwap [c.MixError]
  k_NoSwap:PySem.W.Ei K c.NoSwap
  y_Paper_MixPaper:PySem.W.kitOne K (.ref c.Paper) (.ref c.MixPaper)=some false
  y_MixPaper_MixPaper:PySem.W.kitOne K (.ref c.MixPaper) (.ref c.MixPaper)=some true
  y_StepPaper_MixPaper:PySem.W.kitOne K (.ref c.StepPaper) (.ref c.MixPaper)=some false
  y_BarPaper_MixPaper:PySem.W.kitOne K (.ref c.BarPaper) (.ref c.MixPaper)=some false
  y_LeadPaper_MixPaper:PySem.W.kitOne K (.ref c.LeadPaper) (.ref c.MixPaper)=some false
  y_SumPaper_MixPaper:PySem.W.kitOne K (.ref c.SumPaper) (.ref c.MixPaper)=some false
  y_CutPaper_MixPaper:PySem.W.kitOne K (.ref c.CutPaper) (.ref c.MixPaper)=some false
  y_SwapPaper_MixPaper:PySem.W.kitOne K (.ref c.SwapPaper) (.ref c.MixPaper)=some false
  y_RoundPaper_MixPaper:PySem.W.kitOne K (.ref c.RoundPaper) (.ref c.MixPaper)=some false
  y_PairPaper_MixPaper:PySem.W.kitOne K (.ref c.PairPaper) (.ref c.MixPaper)=some false
  y_Paper_StepPaper:PySem.W.kitOne K (.ref c.Paper) (.ref c.StepPaper)=some false
  y_MixPaper_StepPaper:PySem.W.kitOne K (.ref c.MixPaper) (.ref c.StepPaper)=some false
  y_StepPaper_StepPaper:PySem.W.kitOne K (.ref c.StepPaper) (.ref c.StepPaper)=some true
  y_BarPaper_StepPaper:PySem.W.kitOne K (.ref c.BarPaper) (.ref c.StepPaper)=some false
  y_LeadPaper_StepPaper:PySem.W.kitOne K (.ref c.LeadPaper) (.ref c.StepPaper)=some false
  y_SumPaper_StepPaper:PySem.W.kitOne K (.ref c.SumPaper) (.ref c.StepPaper)=some false
  y_CutPaper_StepPaper:PySem.W.kitOne K (.ref c.CutPaper) (.ref c.StepPaper)=some false
  y_SwapPaper_StepPaper:PySem.W.kitOne K (.ref c.SwapPaper) (.ref c.StepPaper)=some false
  y_RoundPaper_StepPaper:PySem.W.kitOne K (.ref c.RoundPaper) (.ref c.StepPaper)=some false
  y_PairPaper_StepPaper:PySem.W.kitOne K (.ref c.PairPaper) (.ref c.StepPaper)=some false
  y_Paper_BarPaper:PySem.W.kitOne K (.ref c.Paper) (.ref c.BarPaper)=some false
  y_MixPaper_BarPaper:PySem.W.kitOne K (.ref c.MixPaper) (.ref c.BarPaper)=some false
  y_StepPaper_BarPaper:PySem.W.kitOne K (.ref c.StepPaper) (.ref c.BarPaper)=some false
  y_BarPaper_BarPaper:PySem.W.kitOne K (.ref c.BarPaper) (.ref c.BarPaper)=some true
  y_LeadPaper_BarPaper:PySem.W.kitOne K (.ref c.LeadPaper) (.ref c.BarPaper)=some false
  y_SumPaper_BarPaper:PySem.W.kitOne K (.ref c.SumPaper) (.ref c.BarPaper)=some false
  y_CutPaper_BarPaper:PySem.W.kitOne K (.ref c.CutPaper) (.ref c.BarPaper)=some false
  y_SwapPaper_BarPaper:PySem.W.kitOne K (.ref c.SwapPaper) (.ref c.BarPaper)=some false
  y_RoundPaper_BarPaper:PySem.W.kitOne K (.ref c.RoundPaper) (.ref c.BarPaper)=some false
  y_PairPaper_BarPaper:PySem.W.kitOne K (.ref c.PairPaper) (.ref c.BarPaper)=some false
  y_Paper_LeadPaper:PySem.W.kitOne K (.ref c.Paper) (.ref c.LeadPaper)=some false
  y_MixPaper_LeadPaper:PySem.W.kitOne K (.ref c.MixPaper) (.ref c.LeadPaper)=some false
  y_StepPaper_LeadPaper:PySem.W.kitOne K (.ref c.StepPaper) (.ref c.LeadPaper)=some false
  y_BarPaper_LeadPaper:PySem.W.kitOne K (.ref c.BarPaper) (.ref c.LeadPaper)=some false
  y_LeadPaper_LeadPaper:PySem.W.kitOne K (.ref c.LeadPaper) (.ref c.LeadPaper)=some true
  y_SumPaper_LeadPaper:PySem.W.kitOne K (.ref c.SumPaper) (.ref c.LeadPaper)=some false
  y_CutPaper_LeadPaper:PySem.W.kitOne K (.ref c.CutPaper) (.ref c.LeadPaper)=some false
  y_SwapPaper_LeadPaper:PySem.W.kitOne K (.ref c.SwapPaper) (.ref c.LeadPaper)=some false
  y_RoundPaper_LeadPaper:PySem.W.kitOne K (.ref c.RoundPaper) (.ref c.LeadPaper)=some false
  y_PairPaper_LeadPaper:PySem.W.kitOne K (.ref c.PairPaper) (.ref c.LeadPaper)=some false
  y_Paper_SumPaper:PySem.W.kitOne K (.ref c.Paper) (.ref c.SumPaper)=some false
  y_MixPaper_SumPaper:PySem.W.kitOne K (.ref c.MixPaper) (.ref c.SumPaper)=some false
  y_StepPaper_SumPaper:PySem.W.kitOne K (.ref c.StepPaper) (.ref c.SumPaper)=some false
  y_BarPaper_SumPaper:PySem.W.kitOne K (.ref c.BarPaper) (.ref c.SumPaper)=some false
  y_LeadPaper_SumPaper:PySem.W.kitOne K (.ref c.LeadPaper) (.ref c.SumPaper)=some false
  y_SumPaper_SumPaper:PySem.W.kitOne K (.ref c.SumPaper) (.ref c.SumPaper)=some true
  y_CutPaper_SumPaper:PySem.W.kitOne K (.ref c.CutPaper) (.ref c.SumPaper)=some false
  y_SwapPaper_SumPaper:PySem.W.kitOne K (.ref c.SwapPaper) (.ref c.SumPaper)=some false
  y_RoundPaper_SumPaper:PySem.W.kitOne K (.ref c.RoundPaper) (.ref c.SumPaper)=some false
  y_PairPaper_SumPaper:PySem.W.kitOne K (.ref c.PairPaper) (.ref c.SumPaper)=some false
  y_Paper_CutPaper:PySem.W.kitOne K (.ref c.Paper) (.ref c.CutPaper)=some false
  y_MixPaper_CutPaper:PySem.W.kitOne K (.ref c.MixPaper) (.ref c.CutPaper)=some false
  y_StepPaper_CutPaper:PySem.W.kitOne K (.ref c.StepPaper) (.ref c.CutPaper)=some false
  y_BarPaper_CutPaper:PySem.W.kitOne K (.ref c.BarPaper) (.ref c.CutPaper)=some false
  y_LeadPaper_CutPaper:PySem.W.kitOne K (.ref c.LeadPaper) (.ref c.CutPaper)=some false
  y_SumPaper_CutPaper:PySem.W.kitOne K (.ref c.SumPaper) (.ref c.CutPaper)=some false
  y_CutPaper_CutPaper:PySem.W.kitOne K (.ref c.CutPaper) (.ref c.CutPaper)=some true
  y_SwapPaper_CutPaper:PySem.W.kitOne K (.ref c.SwapPaper) (.ref c.CutPaper)=some false
  y_RoundPaper_CutPaper:PySem.W.kitOne K (.ref c.RoundPaper) (.ref c.CutPaper)=some false
  y_PairPaper_CutPaper:PySem.W.kitOne K (.ref c.PairPaper) (.ref c.CutPaper)=some false
  y_Paper_SwapPaper:PySem.W.kitOne K (.ref c.Paper) (.ref c.SwapPaper)=some false
  y_MixPaper_SwapPaper:PySem.W.kitOne K (.ref c.MixPaper) (.ref c.SwapPaper)=some false
  y_StepPaper_SwapPaper:PySem.W.kitOne K (.ref c.StepPaper) (.ref c.SwapPaper)=some false
  y_BarPaper_SwapPaper:PySem.W.kitOne K (.ref c.BarPaper) (.ref c.SwapPaper)=some false
  y_LeadPaper_SwapPaper:PySem.W.kitOne K (.ref c.LeadPaper) (.ref c.SwapPaper)=some false
  y_SumPaper_SwapPaper:PySem.W.kitOne K (.ref c.SumPaper) (.ref c.SwapPaper)=some false
  y_CutPaper_SwapPaper:PySem.W.kitOne K (.ref c.CutPaper) (.ref c.SwapPaper)=some false
  y_SwapPaper_SwapPaper:PySem.W.kitOne K (.ref c.SwapPaper) (.ref c.SwapPaper)=some true
  y_RoundPaper_SwapPaper:PySem.W.kitOne K (.ref c.RoundPaper) (.ref c.SwapPaper)=some false
  y_PairPaper_SwapPaper:PySem.W.kitOne K (.ref c.PairPaper) (.ref c.SwapPaper)=some false
  y_Paper_RoundPaper:PySem.W.kitOne K (.ref c.Paper) (.ref c.RoundPaper)=some false
  y_MixPaper_RoundPaper:PySem.W.kitOne K (.ref c.MixPaper) (.ref c.RoundPaper)=some false
  y_StepPaper_RoundPaper:PySem.W.kitOne K (.ref c.StepPaper) (.ref c.RoundPaper)=some false
  y_BarPaper_RoundPaper:PySem.W.kitOne K (.ref c.BarPaper) (.ref c.RoundPaper)=some false
  y_LeadPaper_RoundPaper:PySem.W.kitOne K (.ref c.LeadPaper) (.ref c.RoundPaper)=some false
  y_SumPaper_RoundPaper:PySem.W.kitOne K (.ref c.SumPaper) (.ref c.RoundPaper)=some false
  y_CutPaper_RoundPaper:PySem.W.kitOne K (.ref c.CutPaper) (.ref c.RoundPaper)=some false
  y_SwapPaper_RoundPaper:PySem.W.kitOne K (.ref c.SwapPaper) (.ref c.RoundPaper)=some false
  y_RoundPaper_RoundPaper:PySem.W.kitOne K (.ref c.RoundPaper) (.ref c.RoundPaper)=some true
  y_PairPaper_RoundPaper:PySem.W.kitOne K (.ref c.PairPaper) (.ref c.RoundPaper)=some false
  y_Paper_PairPaper:PySem.W.kitOne K (.ref c.Paper) (.ref c.PairPaper)=some false
  y_MixPaper_PairPaper:PySem.W.kitOne K (.ref c.MixPaper) (.ref c.PairPaper)=some false
  y_StepPaper_PairPaper:PySem.W.kitOne K (.ref c.StepPaper) (.ref c.PairPaper)=some false
  y_BarPaper_PairPaper:PySem.W.kitOne K (.ref c.BarPaper) (.ref c.PairPaper)=some false
  y_LeadPaper_PairPaper:PySem.W.kitOne K (.ref c.LeadPaper) (.ref c.PairPaper)=some false
  y_SumPaper_PairPaper:PySem.W.kitOne K (.ref c.SumPaper) (.ref c.PairPaper)=some false
  y_CutPaper_PairPaper:PySem.W.kitOne K (.ref c.CutPaper) (.ref c.PairPaper)=some false
  y_SwapPaper_PairPaper:PySem.W.kitOne K (.ref c.SwapPaper) (.ref c.PairPaper)=some false
  y_RoundPaper_PairPaper:PySem.W.kitOne K (.ref c.RoundPaper) (.ref c.PairPaper)=some false
  y_PairPaper_PairPaper:PySem.W.kitOne K (.ref c.PairPaper) (.ref c.PairPaper)=some true
  m0_Paper:L2.Mk0 K c.Paper
abbrev qF (c:Cs):List (Addr × Bool):=[(c.Paper,false),(c.MixPaper,true),(c.StepPaper,false),(c.BarPaper,false),(c.LeadPaper,false),(c.SumPaper,false),(c.CutPaper,false),(c.SwapPaper,false),(c.RoundPaper,false),(c.PairPaper,false)]
theorem wB {K:PySem.W.Frag}{mg:Str→Option Value}{base:Heap}{c:Cs} (xs:Exs K mg base c):∀p∈qF c,fR K p.1∧PySem.W.kitOne K (.ref p.1) (.ref c.MixPaper)=some p.2:=fun p hp=>by
  simp only[List.mem_cons,List.not_mem_nil,or_false] at hp
  rcases hp with z | z | z | z | z | z | z | z | z | z
  · rw[z];exact⟨xs.i_Paper,xs.y_Paper_MixPaper⟩
  · rw[z];exact⟨xs.i_MixPaper,xs.y_MixPaper_MixPaper⟩
  · rw[z];exact⟨xs.i_StepPaper,xs.y_StepPaper_MixPaper⟩
  · rw[z];exact⟨xs.i_BarPaper,xs.y_BarPaper_MixPaper⟩
  · rw[z];exact⟨xs.i_LeadPaper,xs.y_LeadPaper_MixPaper⟩
  · rw[z];exact⟨xs.i_SumPaper,xs.y_SumPaper_MixPaper⟩
  · rw[z];exact⟨xs.i_CutPaper,xs.y_CutPaper_MixPaper⟩
  · rw[z];exact⟨xs.i_SwapPaper,xs.y_SwapPaper_MixPaper⟩
  · rw[z];exact⟨xs.i_RoundPaper,xs.y_RoundPaper_MixPaper⟩
  · rw[z];exact⟨xs.i_PairPaper,xs.y_PairPaper_MixPaper⟩
abbrev oM (c:Cs):List (Addr × Bool):=[(c.Paper,false),(c.MixPaper,false),(c.StepPaper,true),(c.BarPaper,false),(c.LeadPaper,false),(c.SumPaper,false),(c.CutPaper,false),(c.SwapPaper,false),(c.RoundPaper,false),(c.PairPaper,false)]
theorem t5 {K:PySem.W.Frag}{mg:Str→Option Value}{base:Heap}{c:Cs} (xs:Exs K mg base c):∀p∈oM c,fR K p.1∧PySem.W.kitOne K (.ref p.1) (.ref c.StepPaper)=some p.2:=fun p hp=>by
  simp only[List.mem_cons,List.not_mem_nil,or_false] at hp
  rcases hp with z | z | z | z | z | z | z | z | z | z
  · rw[z];exact⟨xs.i_Paper,xs.y_Paper_StepPaper⟩
  · rw[z];exact⟨xs.i_MixPaper,xs.y_MixPaper_StepPaper⟩
  · rw[z];exact⟨xs.i_StepPaper,xs.y_StepPaper_StepPaper⟩
  · rw[z];exact⟨xs.i_BarPaper,xs.y_BarPaper_StepPaper⟩
  · rw[z];exact⟨xs.i_LeadPaper,xs.y_LeadPaper_StepPaper⟩
  · rw[z];exact⟨xs.i_SumPaper,xs.y_SumPaper_StepPaper⟩
  · rw[z];exact⟨xs.i_CutPaper,xs.y_CutPaper_StepPaper⟩
  · rw[z];exact⟨xs.i_SwapPaper,xs.y_SwapPaper_StepPaper⟩
  · rw[z];exact⟨xs.i_RoundPaper,xs.y_RoundPaper_StepPaper⟩
  · rw[z];exact⟨xs.i_PairPaper,xs.y_PairPaper_StepPaper⟩
abbrev qq (c:Cs):List (Addr × Bool):=[(c.Paper,false),(c.MixPaper,false),(c.StepPaper,false),(c.BarPaper,true),(c.LeadPaper,false),(c.SumPaper,false),(c.CutPaper,false),(c.SwapPaper,false),(c.RoundPaper,false),(c.PairPaper,false)]
theorem v7 {K:PySem.W.Frag}{mg:Str→Option Value}{base:Heap}{c:Cs} (xs:Exs K mg base c):∀p∈qq c,fR K p.1∧PySem.W.kitOne K (.ref p.1) (.ref c.BarPaper)=some p.2:=fun p hp=>by
  simp only[List.mem_cons,List.not_mem_nil,or_false] at hp
  rcases hp with z | z | z | z | z | z | z | z | z | z
  · rw[z];exact⟨xs.i_Paper,xs.y_Paper_BarPaper⟩
  · rw[z];exact⟨xs.i_MixPaper,xs.y_MixPaper_BarPaper⟩
  · rw[z];exact⟨xs.i_StepPaper,xs.y_StepPaper_BarPaper⟩
  · rw[z];exact⟨xs.i_BarPaper,xs.y_BarPaper_BarPaper⟩
  · rw[z];exact⟨xs.i_LeadPaper,xs.y_LeadPaper_BarPaper⟩
  · rw[z];exact⟨xs.i_SumPaper,xs.y_SumPaper_BarPaper⟩
  · rw[z];exact⟨xs.i_CutPaper,xs.y_CutPaper_BarPaper⟩
  · rw[z];exact⟨xs.i_SwapPaper,xs.y_SwapPaper_BarPaper⟩
  · rw[z];exact⟨xs.i_RoundPaper,xs.y_RoundPaper_BarPaper⟩
  · rw[z];exact⟨xs.i_PairPaper,xs.y_PairPaper_BarPaper⟩
abbrev oX (c:Cs):List (Addr × Bool):=[(c.Paper,false),(c.MixPaper,false),(c.StepPaper,false),(c.BarPaper,false),(c.LeadPaper,true),(c.SumPaper,false),(c.CutPaper,false),(c.SwapPaper,false),(c.RoundPaper,false),(c.PairPaper,false)]
theorem t9 {K:PySem.W.Frag}{mg:Str→Option Value}{base:Heap}{c:Cs} (xs:Exs K mg base c):∀p∈oX c,fR K p.1∧PySem.W.kitOne K (.ref p.1) (.ref c.LeadPaper)=some p.2:=fun p hp=>by
  simp only[List.mem_cons,List.not_mem_nil,or_false] at hp
  rcases hp with z | z | z | z | z | z | z | z | z | z
  · rw[z];exact⟨xs.i_Paper,xs.y_Paper_LeadPaper⟩
  · rw[z];exact⟨xs.i_MixPaper,xs.y_MixPaper_LeadPaper⟩
  · rw[z];exact⟨xs.i_StepPaper,xs.y_StepPaper_LeadPaper⟩
  · rw[z];exact⟨xs.i_BarPaper,xs.y_BarPaper_LeadPaper⟩
  · rw[z];exact⟨xs.i_LeadPaper,xs.y_LeadPaper_LeadPaper⟩
  · rw[z];exact⟨xs.i_SumPaper,xs.y_SumPaper_LeadPaper⟩
  · rw[z];exact⟨xs.i_CutPaper,xs.y_CutPaper_LeadPaper⟩
  · rw[z];exact⟨xs.i_SwapPaper,xs.y_SwapPaper_LeadPaper⟩
  · rw[z];exact⟨xs.i_RoundPaper,xs.y_RoundPaper_LeadPaper⟩
  · rw[z];exact⟨xs.i_PairPaper,xs.y_PairPaper_LeadPaper⟩
abbrev qx (c:Cs):List (Addr × Bool):=[(c.Paper,false),(c.MixPaper,false),(c.StepPaper,false),(c.BarPaper,false),(c.LeadPaper,false),(c.SumPaper,true),(c.CutPaper,false),(c.SwapPaper,false),(c.RoundPaper,false),(c.PairPaper,false)]
theorem wI {K:PySem.W.Frag}{mg:Str→Option Value}{base:Heap}{c:Cs} (xs:Exs K mg base c):∀p∈qx c,fR K p.1∧PySem.W.kitOne K (.ref p.1) (.ref c.SumPaper)=some p.2:=fun p hp=>by
  simp only[List.mem_cons,List.not_mem_nil,or_false] at hp
  rcases hp with z | z | z | z | z | z | z | z | z | z
  · rw[z];exact⟨xs.i_Paper,xs.y_Paper_SumPaper⟩
  · rw[z];exact⟨xs.i_MixPaper,xs.y_MixPaper_SumPaper⟩
  · rw[z];exact⟨xs.i_StepPaper,xs.y_StepPaper_SumPaper⟩
  · rw[z];exact⟨xs.i_BarPaper,xs.y_BarPaper_SumPaper⟩
  · rw[z];exact⟨xs.i_LeadPaper,xs.y_LeadPaper_SumPaper⟩
  · rw[z];exact⟨xs.i_SumPaper,xs.y_SumPaper_SumPaper⟩
  · rw[z];exact⟨xs.i_CutPaper,xs.y_CutPaper_SumPaper⟩
  · rw[z];exact⟨xs.i_SwapPaper,xs.y_SwapPaper_SumPaper⟩
  · rw[z];exact⟨xs.i_RoundPaper,xs.y_RoundPaper_SumPaper⟩
  · rw[z];exact⟨xs.i_PairPaper,xs.y_PairPaper_SumPaper⟩
abbrev qy (c:Cs):List (Addr × Bool):=[(c.Paper,false),(c.MixPaper,false),(c.StepPaper,false),(c.BarPaper,false),(c.LeadPaper,false),(c.SumPaper,false),(c.CutPaper,true),(c.SwapPaper,false),(c.RoundPaper,false),(c.PairPaper,false)]
theorem vp {K:PySem.W.Frag}{mg:Str→Option Value}{base:Heap}{c:Cs} (xs:Exs K mg base c):∀p∈qy c,fR K p.1∧PySem.W.kitOne K (.ref p.1) (.ref c.CutPaper)=some p.2:=fun p hp=>by
  simp only[List.mem_cons,List.not_mem_nil,or_false] at hp
  rcases hp with z | z | z | z | z | z | z | z | z | z
  · rw[z];exact⟨xs.i_Paper,xs.y_Paper_CutPaper⟩
  · rw[z];exact⟨xs.i_MixPaper,xs.y_MixPaper_CutPaper⟩
  · rw[z];exact⟨xs.i_StepPaper,xs.y_StepPaper_CutPaper⟩
  · rw[z];exact⟨xs.i_BarPaper,xs.y_BarPaper_CutPaper⟩
  · rw[z];exact⟨xs.i_LeadPaper,xs.y_LeadPaper_CutPaper⟩
  · rw[z];exact⟨xs.i_SumPaper,xs.y_SumPaper_CutPaper⟩
  · rw[z];exact⟨xs.i_CutPaper,xs.y_CutPaper_CutPaper⟩
  · rw[z];exact⟨xs.i_SwapPaper,xs.y_SwapPaper_CutPaper⟩
  · rw[z];exact⟨xs.i_RoundPaper,xs.y_RoundPaper_CutPaper⟩
  · rw[z];exact⟨xs.i_PairPaper,xs.y_PairPaper_CutPaper⟩
abbrev pB (c:Cs):List (Addr × Bool):=[(c.Paper,false),(c.MixPaper,false),(c.StepPaper,false),(c.BarPaper,false),(c.LeadPaper,false),(c.SumPaper,false),(c.CutPaper,false),(c.SwapPaper,true),(c.RoundPaper,false),(c.PairPaper,false)]
theorem tY {K:PySem.W.Frag}{mg:Str→Option Value}{base:Heap}{c:Cs} (xs:Exs K mg base c):∀p∈pB c,fR K p.1∧PySem.W.kitOne K (.ref p.1) (.ref c.SwapPaper)=some p.2:=fun p hp=>by
  simp only[List.mem_cons,List.not_mem_nil,or_false] at hp
  rcases hp with z | z | z | z | z | z | z | z | z | z
  · rw[z];exact⟨xs.i_Paper,xs.y_Paper_SwapPaper⟩
  · rw[z];exact⟨xs.i_MixPaper,xs.y_MixPaper_SwapPaper⟩
  · rw[z];exact⟨xs.i_StepPaper,xs.y_StepPaper_SwapPaper⟩
  · rw[z];exact⟨xs.i_BarPaper,xs.y_BarPaper_SwapPaper⟩
  · rw[z];exact⟨xs.i_LeadPaper,xs.y_LeadPaper_SwapPaper⟩
  · rw[z];exact⟨xs.i_SumPaper,xs.y_SumPaper_SwapPaper⟩
  · rw[z];exact⟨xs.i_CutPaper,xs.y_CutPaper_SwapPaper⟩
  · rw[z];exact⟨xs.i_SwapPaper,xs.y_SwapPaper_SwapPaper⟩
  · rw[z];exact⟨xs.i_RoundPaper,xs.y_RoundPaper_SwapPaper⟩
  · rw[z];exact⟨xs.i_PairPaper,xs.y_PairPaper_SwapPaper⟩
abbrev m6 (c:Cs):List (Addr × Bool):=[(c.Paper,false),(c.MixPaper,false),(c.StepPaper,false),(c.BarPaper,false),(c.LeadPaper,false),(c.SumPaper,false),(c.CutPaper,false),(c.SwapPaper,false),(c.RoundPaper,true),(c.PairPaper,false)]
theorem rm {K:PySem.W.Frag}{mg:Str→Option Value}{base:Heap}{c:Cs} (xs:Exs K mg base c):∀p∈m6 c,fR K p.1∧PySem.W.kitOne K (.ref p.1) (.ref c.RoundPaper)=some p.2:=fun p hp=>by
  simp only[List.mem_cons,List.not_mem_nil,or_false] at hp
  rcases hp with z | z | z | z | z | z | z | z | z | z
  · rw[z];exact⟨xs.i_Paper,xs.y_Paper_RoundPaper⟩
  · rw[z];exact⟨xs.i_MixPaper,xs.y_MixPaper_RoundPaper⟩
  · rw[z];exact⟨xs.i_StepPaper,xs.y_StepPaper_RoundPaper⟩
  · rw[z];exact⟨xs.i_BarPaper,xs.y_BarPaper_RoundPaper⟩
  · rw[z];exact⟨xs.i_LeadPaper,xs.y_LeadPaper_RoundPaper⟩
  · rw[z];exact⟨xs.i_SumPaper,xs.y_SumPaper_RoundPaper⟩
  · rw[z];exact⟨xs.i_CutPaper,xs.y_CutPaper_RoundPaper⟩
  · rw[z];exact⟨xs.i_SwapPaper,xs.y_SwapPaper_RoundPaper⟩
  · rw[z];exact⟨xs.i_RoundPaper,xs.y_RoundPaper_RoundPaper⟩
  · rw[z];exact⟨xs.i_PairPaper,xs.y_PairPaper_RoundPaper⟩
abbrev oS (c:Cs):List (Addr × Bool):=[(c.Paper,false),(c.MixPaper,false),(c.StepPaper,false),(c.BarPaper,false),(c.LeadPaper,false),(c.SumPaper,false),(c.CutPaper,false),(c.SwapPaper,false),(c.RoundPaper,false),(c.PairPaper,true)]
theorem tQ {K:PySem.W.Frag}{mg:Str→Option Value}{base:Heap}{c:Cs} (xs:Exs K mg base c):∀p∈oS c,fR K p.1∧PySem.W.kitOne K (.ref p.1) (.ref c.PairPaper)=some p.2:=fun p hp=>by
  simp only[List.mem_cons,List.not_mem_nil,or_false] at hp
  rcases hp with z | z | z | z | z | z | z | z | z | z
  · rw[z];exact⟨xs.i_Paper,xs.y_Paper_PairPaper⟩
  · rw[z];exact⟨xs.i_MixPaper,xs.y_MixPaper_PairPaper⟩
  · rw[z];exact⟨xs.i_StepPaper,xs.y_StepPaper_PairPaper⟩
  · rw[z];exact⟨xs.i_BarPaper,xs.y_BarPaper_PairPaper⟩
  · rw[z];exact⟨xs.i_LeadPaper,xs.y_LeadPaper_PairPaper⟩
  · rw[z];exact⟨xs.i_SumPaper,xs.y_SumPaper_PairPaper⟩
  · rw[z];exact⟨xs.i_CutPaper,xs.y_CutPaper_PairPaper⟩
  · rw[z];exact⟨xs.i_SwapPaper,xs.y_SwapPaper_PairPaper⟩
  · rw[z];exact⟨xs.i_RoundPaper,xs.y_RoundPaper_PairPaper⟩
  · rw[z];exact⟨xs.i_PairPaper,xs.y_PairPaper_PairPaper⟩
theorem isP {K:PySem.W.Frag}{mg:Str→Option Value}{base:Heap}{c:Cs} (xs:Exs K mg base c):∀C∈[c.Paper,c.MixPaper,c.StepPaper,c.BarPaper,c.LeadPaper,c.SumPaper,c.CutPaper,c.SwapPaper,c.RoundPaper,c.PairPaper],fR K C∧PySem.W.kitOne K (.ref C) (.ref c.Paper)=some true:=fun C hC=>by
  simp only[List.mem_cons,List.not_mem_nil,or_false] at hC
  rcases hC with z | z | z | z | z | z | z | z | z | z
  · rw[z];exact⟨xs.i_Paper,xs.kp_Paper⟩
  · rw[z];exact⟨xs.i_MixPaper,xs.kp_MixPaper⟩
  · rw[z];exact⟨xs.i_StepPaper,xs.kp_StepPaper⟩
  · rw[z];exact⟨xs.i_BarPaper,xs.kp_BarPaper⟩
  · rw[z];exact⟨xs.i_LeadPaper,xs.kp_LeadPaper⟩
  · rw[z];exact⟨xs.i_SumPaper,xs.kp_SumPaper⟩
  · rw[z];exact⟨xs.i_CutPaper,xs.kp_CutPaper⟩
  · rw[z];exact⟨xs.i_SwapPaper,xs.kp_SwapPaper⟩
  · rw[z];exact⟨xs.i_RoundPaper,xs.kp_RoundPaper⟩
  · rw[z];exact⟨xs.i_PairPaper,xs.kp_PairPaper⟩
section
variable {P:Program}{w:World}{K:PySem.W.Frag}{mg:Str→Option Value}{base:Heap}
def aR:DSp:=fun ds P=>∃t,ds=[dT t]∧t.length≤1000∧P (dT t)
theorem bq:br aR:=by
  intro xs P P' k h
  unfold aR at h ⊢
  grind
theorem qi:∀ds P,aR ds P→ds.length=1:=by
  intro ds P h
  obtain ⟨_,e,_⟩:=h
  rw[e];rfl
theorem cJ {c:Cs}{f:Addr}{fd:FuncData} (F:FnAt K mg "copied_table" fh bE f fd) (A_:Fns K mg c) (T:Txt K mg) (xs:Exs K mg base c):aG P w K mg base CX0 1 f fd bE (spP K aR):=by
  refine F.fn.ok qN (fun vs H Q E h=>a9 qi h) (fun cdv A outer s H vs Q E hr h=>?_)
  refine⟨_,(av (aH (cg (aS.of (sc0:=(au fh)) (tn:=["row"]) (cap:=[]) (idx:=[]) (by decide +kernel) rfl rfl) (bL (K:=K) rfl (pv 0)) (fN.name (by decide)) (fun _ _ _ _ _=>ba (i:=0) (aX (l:=["row"]) (by decide +kernel)) rfl (by first | exact Or.inl rfl | exact Or.inr rfl) (by first | exact .inl rfl | exact .inr rfl)) (fun _ _ _ _ _=>(cj (bT (K:=K) rfl) (by rfl) T.list_ boot_list (aa (pv 0) ai)))))),bF (Γn:=[]) (N:=jG) (aI (M:=[]) (bQ (cD (af 0)) (bc 0) (aZ gj (ah (ES.er (af 0)) aj)))) (fun ds P hS=>?_) h⟩
  obtain ⟨t,rfl,hl,hP⟩:=hS
  rw[show aO jG [dT t]=[some (dT t)] from rfl]
  walk_at "v"
  refine AQ (t:=t) (fun R h=>h) hl (fun r hr R h=>by walk_at "gb";exact h) ?_
  exact hP
def jo:DSp:=fun ds P=>∃ns,ds=[dI ns]∧ns.length<64∧P (dI (tW ns))
theorem vE:br jo:=by
  intro xs P P' k h
  unfold jo at h ⊢
  grind
theorem yg:∀ds P,jo ds P→ds.length=1:=by
  intro ds P h
  obtain ⟨_,e,_⟩:=h
  rw[e];rfl
theorem yj {c:Cs}{f:Addr}{fd:FuncData} (F:FnAt K mg "falling" my jl f fd) (A_:Fns K mg c) (T:Txt K mg) (xs:Exs K mg base c):aG P w K mg base CX0 1 f fd jl (spP K jo):=by
  refine F.fn.ok yv (fun vs H Q E h=>a9 yg h) (fun cdv A outer s H vs Q E hr h=>?_)
  refine⟨_,(av (aH (Av (qJ (K:=K) rfl) (by rfl) T.sorted_ boot_sorted (aa (pv 0) ai) (Eh dH Ge)))),bF (Γn:=[]) (N:=pO) (aI (M:=[]) (vm (ah (ES.er (af 0)) aj))) (fun ds P hS=>?_) h⟩
  obtain ⟨ns,rfl,hl,hP⟩:=hS
  rw[show aO pO [dI ns]=[some (dI ns)] from rfl]
  walk_at "v"
  refine⟨hl,fun ms hp ho=>?_⟩
  rw[vV hp ho]
  exact hP
def sf (ns:List Int):List Int:=(List.range ns.length).map fun (i:Nat)=>Maj.nI ns (i+1)
theorem rl {ns:List Int}:(sf ns).length=ns.length:=by unfold sf;rw[List.length_map,List.length_range]
theorem ui {ns:List Int}{i:Nat} (h:i<ns.length):(sf ns).getD i 0=Maj.nI ns (i+1):=by
  unfold sf
  rw[List.getD_eq_getElem?_getD,List.getElem?_map,List.getElem?_range h];rfl
def gh:DSp:=fun ds P=>∃ns,ds=[dI ns]∧ns.length<64∧P (dI (sf ns))
theorem nc:br gh:=by
  intro xs P P' k h
  unfold gh at h ⊢
  grind
theorem wK:∀ds P,gh ds P→ds.length=1:=by
  intro ds P h
  obtain ⟨_,e,_⟩:=h
  rw[e];rfl
theorem xY {c:Cs}{f:Addr}{fd:FuncData} (F:FnAt K mg "heads_of" kY ip f fd) (A_:Fns K mg c) (T:Txt K mg) (xs:Exs K mg base c):aG P w K mg base CX0 2 f fd ip (spP K gh):=by
  obtain ⟨f0,d0,E_falling⟩:=A_.h_falling
  have G_falling:aG P w K mg base CX0 1 f0 d0 jl (spP K jo):=yj E_falling A_ T xs
  refine F.fn.ok iV (fun vs H Q E h=>a9 wK h) (fun cdv A outer s H vs Q E hr h=>?_)
  refine⟨_,(ar (bp (i:=1) iV.nd rfl (by first | exact Or.inl rfl | exact Or.inr rfl) (aT ai)) (ar (bp (i:=2) iV.nd rfl (by first | exact Or.inl rfl | exact Or.inr rfl) ak) (ar (i6 PassesOwn.never rfl (bL (K:=K) rfl (aF G_falling (hr.mono (by decide)) rfl E_falling.mg E_falling.fn.kp E_falling.bd .nil aD (aa (pv 0) ai))) (ba (i:=3) iV.nd rfl (by first | exact Or.inl rfl | exact Or.inr rfl)) (ar (bp (i:=2) iV.nd rfl (by first | exact Or.inl rfl | exact Or.inr rfl) (bj iz (pv 2) (pv 3))) (av (kf (uq PySem.F.plainAttrs_list PySem.F.slot_list_append PySem.F.type_list_append kP (pv 1) (aa (pv 2) ai)))))) (av (aH (pv 1)))))),bF (Γn:=[1]) (N:=og) (aA (ST.post (Γn:=[1]) (eQ (M:=[]) 1 (aV aQ))) (aA (ST.post (Γn:=[1]) (bO 2 (EM.es ao))) (aA (nO (cD (EM.es (aL (S:=jo) vE (ah (ES.er (af 0)) aj)))) (bc 3) (aA (ST.post (Γn:=[1]) (bO 2 (EM.es (aE eO (ES.er (af 2)) (ES.er (af 3)))))) (ST.post (Γn:=[1]) (qd (M:=[]) 1 (ER.bC (ES.er (af 2))))))) (aI (M:=[1]) (oj 1))))) (fun ds P hS=>?_) h⟩
  obtain ⟨ns,rfl,hl,hP⟩:=hS
  rw[show aO og [dI ns]=[some (dI ns),none,none,none] from rfl]
  walk_at "go"
  refine⟨ns,rfl,hl,?_⟩
  walk_at "v"
  have hfl:=qA ns
  refine jA (as:=tW ns) (f:=L3.D.int) (fun i δ=>∃o3:Option D,δ=[some (dI ns),some (dI ((List.range i).map fun (j:Nat)=>Maj.nI ns (j+1))),some (.int (Maj.nI ns i)),o3]) ⟨none,rfl⟩ ?_ ?_
  · rintro i a δ N e ⟨o3,rfl⟩ hN
    obtain ⟨h1,h2⟩:=List.getElem?_eq_some_iff.mp e
    have et:Maj.nI ns i+a=Maj.nI ns (i+1):=by
      unfold Maj.nI
      rw[List.take_add_one,e,List.sum_append];simp
    walk_at "go"
    rw[et,zY]
    have er:(List.range (i+1)).map (fun (j:Nat)=>Maj.nI ns (j+1))=(List.range i).map (fun (j:Nat)=>Maj.nI ns (j+1))++[Maj.nI ns (i+1)]:=by rw[List.range_succ,List.map_append];rfl
    exact⟨by rw[List.length_range];omega,hN _ ⟨some (.int a),by rw[er]⟩⟩
  · rintro δ ⟨o3,rfl⟩
    walk_at "v"
    rw[hfl]
    exact hP
def cK:DSp:=fun ds P=>∃x m,ds=[.int x,.int m]∧P (.bl (decide (0≤x∧x<m)))
theorem eG:br cK:=by
  intro xs P P' k h
  unfold cK at h ⊢
  grind
theorem wq:∀ds P,cK ds P→ds.length=2:=by
  intro ds P h
  obtain ⟨_,_,e,_⟩:=h
  rw[e];rfl
theorem qI {c:Cs}{f:Addr}{fd:FuncData} (F:FnAt K mg "is_place" lj gm f fd) (A_:Fns K mg c) (T:Txt K mg) (xs:Exs K mg base c):aG P w K mg base CX0 1 f fd gm (spP K cK):=by
  refine F.fn.ok xV (fun vs H Q E h=>a9 wq h) (fun cdv A outer s H vs Q E hr h=>?_)
  refine⟨_,(av (aH (ma qD BR ak (pv 0) (pv 1)))),bF (Γn:=[]) (N:=nC) (aI (M:=[]) (jQ lR lR (EM.er ao) (ES.er (af 0)) (ES.er (af 1)))) (fun ds P hS=>?_) h⟩
  obtain ⟨x,m,rfl,hP⟩:=hS
  rw[show aO nC [.int x,.int m]=[some (.int x),some (.int m)] from rfl]
  walk_at "v"
  split
  · rename_i c
    have e:decide (0≤x∧x<m)=decide (x<m):=by rw[Bool.eq_iff_iff,decide_eq_true_eq,decide_eq_true_eq];exact⟨fun z=>z.2,fun z=>⟨c,z⟩⟩
    rw[e] at hP
    exact hP
  · rename_i c
    rw[decide_eq_false (fun z=>c z.1)] at hP
    exact hP
def b6:DSp:=fun ds P=>∃t,ds=[dT t]∧t.length≤1000∧P (dI (t.map List.sum))
theorem gX:br b6:=by
  intro xs P P' k h
  unfold b6 at h ⊢
  grind
theorem pY:∀ds P,b6 ds P→ds.length=1:=by
  intro ds P h
  obtain ⟨_,e,_⟩:=h
  rw[e];rfl
theorem i8 {c:Cs}{f:Addr}{fd:FuncData} (F:FnAt K mg "sums_of_rows" eW cG f fd) (A_:Fns K mg c) (T:Txt K mg) (xs:Exs K mg base c):aG P w K mg base CX0 1 f fd cG (spP K b6):=by
  refine F.fn.ok qV (fun vs H Q E h=>a9 pY h) (fun cdv A outer s H vs Q E hr h=>?_)
  refine⟨_,(av (aH (cg (aS.of (sc0:=(au eW)) (tn:=["row"]) (cap:=[]) (idx:=[]) (by decide +kernel) rfl rfl) (bL (K:=K) rfl (pv 0)) (fN.name (by decide)) (fun _ _ _ _ _=>ba (i:=0) (aX (l:=["row"]) (by decide +kernel)) rfl (by first | exact Or.inl rfl | exact Or.inr rfl) (by first | exact .inl rfl | exact .inr rfl)) (fun _ _ _ _ _=>(ay (eI (K:=K) rfl rfl) (by rfl) T.sum_ boot_sum (aa (pv 0) ai)))))),bF (Γn:=[]) (N:=jM) (aI (M:=[]) (bQ (cD (af 0)) (bc 0) (aZ ni (ah (ES.er (af 0)) aj)))) (fun ds P hS=>?_) h⟩
  obtain ⟨t,rfl,hl,hP⟩:=hS
  rw[show aO jM [dT t]=[some (dT t)] from rfl]
  walk_at "v"
  refine iy (t:=t) (g:=fun r=>.int r.sum) (fun R h=>h) hl (fun r hr R h=>?_) ?_
  · walk_at "gb"
    exact h
  · rw[gK];exact hP
def gE:DSp:=fun ds P=>∃(t:List (List Int)) (j:Nat),ds=[dT t,.int j]∧t.length≤1000∧(∀r∈t,j<r.length)∧P (dI (pI t j))
theorem sh:br gE:=by
  intro xs P P' k h
  unfold gE at h ⊢
  grind
theorem tI:∀ds P,gE ds P→ds.length=2:=by
  intro ds P h
  obtain ⟨_,_,e,_⟩:=h
  rw[e];rfl
theorem wV {c:Cs}{f:Addr}{fd:FuncData} (F:FnAt K mg "column_of" iR gC f fd) (A_:Fns K mg c) (T:Txt K mg) (xs:Exs K mg base c):aG P w K mg base CX0 1 f fd gC (spP K gE):=by
  refine F.fn.ok wo (fun vs H Q E h=>a9 tI h) (fun cdv A outer s H vs Q E hr h=>?_)
  refine⟨_,(av (aH (cg (aS.of (sc0:=(au iR)) (tn:=["row"]) (cap:=["place"]) (idx:=[1]) (by decide +kernel) rfl rfl) (bL (K:=K) rfl (pv 0)) (fN.name (by decide)) (fun _ _ _ _ _=>ba (i:=0) (aX (l:=["row","place"]) (by decide +kernel)) rfl (by first | exact Or.inl rfl | exact Or.inr rfl) (by first | exact .inl rfl | exact .inr rfl)) (fun _ _ _ _ _=>(aB (ax (K:=K) rfl) (pv 0) (pv 1) (fun _ _=>rfl)))))),bF (Γn:=[]) (N:=l7) (aI (M:=[]) (bQ (cD (af 0)) (bc 0) (ER.bC (ES.er (aM (af 0) (ES.er (af 1))))))) (fun ds P hS=>?_) h⟩
  obtain ⟨t,j,rfl,hl,hj,hP⟩:=hS
  rw[show aO l7 [dT t,.int j]=[some (dT t),some (.int j)] from rfl]
  walk_at "v"
  refine iy (t:=t) (g:=fun r=>.int (r.getD j 0)) (fun R h=>h) hl (fun r hr R h=>?_) ?_
  · walk_at "gb"
    have:=hj r hr
    refine bR (by omega) ?_
    rw[Int.toNat_natCast]
    exact⟨rfl,h⟩
  · rw[gK];exact hP
def turned (m:Nat) (t:List (List Int)):List (List Int):=(List.range m).map fun (j:Nat)=>pI t j
def dQ:DSp:=fun ds P=>∃(t:List (List Int)) (n m:Nat),ds=[dT t]∧cM n m t∧1≤n∧n≤1000∧m≤1000∧P (dT (turned m t))
theorem oW:br dQ:=by
  intro xs P P' k h
  unfold dQ at h ⊢
  grind
theorem pQ:∀ds P,dQ ds P→ds.length=1:=by
  intro ds P h
  obtain ⟨_,_,_,e,_⟩:=h
  rw[e];rfl
theorem qK {c:Cs}{f:Addr}{fd:FuncData} (F:FnAt K mg "turned_table" eZ dZ f fd) (A_:Fns K mg c) (T:Txt K mg) (xs:Exs K mg base c):aG P w K mg base CX0 2 f fd dZ (spP K dQ):=by
  obtain ⟨f0,d0,E_column_of⟩:=A_.h_column_of
  have G_column_of:aG P w K mg base CX0 1 f0 d0 gC (spP K gE):=wV E_column_of A_ T xs
  refine F.fn.ok qR (fun vs H Q E h=>a9 pQ h) (fun cdv A outer s H vs Q E hr h=>?_)
  refine⟨_,(av (aH (cg (aS.of (sc0:=(au eZ)) (tn:=["place"]) (cap:=["table"]) (idx:=[0]) (by decide +kernel) rfl rfl) (eE rfl T.range_ (aa (ay (aU (K:=K) rfl) (by rfl) T.len_ PySem.boot_len (aa (aB (ax (K:=K) rfl) (pv 0) ak (fun _ _=>rfl)) ai)) ai)) (fN.name (by decide)) (fun _ _ _ _ _=>ba (i:=0) (aX (l:=["place","table"]) (by decide +kernel)) rfl (by first | exact Or.inl rfl | exact Or.inr rfl) (by first | exact .inl rfl | exact .inr rfl)) (fun _ _ _ _ _=>(aF G_column_of (hr.mono (by decide)) rfl E_column_of.mg E_column_of.fn.kp E_column_of.bd .nil aD (aa (pv 1) (aa (pv 0) ai))))))),bF (Γn:=[]) (N:=jB) (aI (M:=[]) (bQ (iG (ah (EM.er (aZ cF (ah (ES.er (aM (af 0) (EM.er ao))) aj))) aj)) (bc 0) (aL (S:=gE) sh (ah (ES.er (af 1)) (ah (ES.er (af 0)) aj))))) (fun ds P hS=>?_) h⟩
  obtain ⟨t,n,m,rfl,hR,hn,hn2,hm,hP⟩:=hS
  rw[show aO jB [dT t]=[some (dT t)] from rfl]
  have ht:=hR.1
  have h0:=hR.row (i:=0) (by omega)
  walk_at "v"
  refine kF (lo:=0) (n:=m) (g:=fun (j:Nat)=>dI (pI t j)) (fun R h=>?_) hm (fun j hj R h=>?_) ?_
  · walk_at "v"
    refine eu (by omega) ?_
    walk_at "v"
    rw[h0]
    exact⟨by omega,h⟩
  · walk_at "gb"
    rw[Int.zero_add]
    exact⟨t,j,rfl,by omega,fun r hr=>by rw[hR.2 r hr];exact hj,h⟩
  · rw[Cp];exact hP
def bu:DSp:=fun ds P=>∃(t:List (List Int)) (n m:Nat),ds=[dT t]∧cM n m t∧1≤n∧n≤1000∧m≤1000∧P (dI ((turned m t).map List.sum))
theorem eT:br bu:=by
  intro xs P P' k h
  unfold bu at h ⊢
  grind
theorem mU:∀ds P,bu ds P→ds.length=1:=by
  intro ds P h
  obtain ⟨_,_,_,e,_⟩:=h
  rw[e];rfl
theorem gk {c:Cs}{f:Addr}{fd:FuncData} (F:FnAt K mg "sums_of_columns" eL bX f fd) (A_:Fns K mg c) (T:Txt K mg) (xs:Exs K mg base c):aG P w K mg base CX0 3 f fd bX (spP K bu):=by
  obtain ⟨f0,d0,E_sums_of_rows⟩:=A_.h_sums_of_rows
  have G_sums_of_rows:aG P w K mg base CX0 1 f0 d0 cG (spP K b6):=i8 E_sums_of_rows A_ T xs
  obtain ⟨f1,d1,E_turned_table⟩:=A_.h_turned_table
  have G_turned_table:aG P w K mg base CX0 2 f1 d1 dZ (spP K dQ):=qK E_turned_table A_ T xs
  refine F.fn.ok n6 (fun vs H Q E h=>a9 mU h) (fun cdv A outer s H vs Q E hr h=>?_)
  refine⟨_,(av (aH (aF G_sums_of_rows (hr.mono (by decide)) rfl E_sums_of_rows.mg E_sums_of_rows.fn.kp E_sums_of_rows.bd .nil aD (aa (aF G_turned_table (hr.mono (by decide)) rfl E_turned_table.mg E_turned_table.fn.kp E_turned_table.bd .nil aD (aa (pv 0) ai)) ai)))),bF (Γn:=[]) (N:=h6) (aI (M:=[]) (aL (S:=b6) gX (ah (EM.er (aL (S:=dQ) oW (ah (ES.er (af 0)) aj))) aj))) (fun ds P hS=>?_) h⟩
  obtain ⟨t,n,m,rfl,hR,hn,hn2,hm,hP⟩:=hS
  rw[show aO h6 [dT t]=[some (dT t)] from rfl]
  walk_at "v"
  refine⟨t,n,m,rfl,hR,hn,hn2,hm,?_⟩
  exact⟨turned m t,rfl,by unfold turned;rw[List.length_map,List.length_range];exact hm,hP⟩
def BF (n m:Nat) (t:List (List Int)):Prop:=n=m∧(∀r∈t,∀x∈r,0≤x)∧1≤(rowAt t 0).sum∧(∀r∈t,r.sum=(rowAt t 0).sum)∧∀j,j<m→(pI t j).sum=(rowAt t 0).sum
theorem Es {r:List Int}{M:Int} (h1:M∈r) (h2:∀x∈r,M≤x):decide (M<0)=r.any fun x=>decide (x<0):=by
  rw[Bool.eq_iff_iff,decide_eq_true_eq,List.any_eq_true]
  constructor
  · exact fun h=>⟨M,h1,decide_eq_true h⟩
  · rintro ⟨x,hx,h⟩
    have:=h2 x hx
    have:=of_decide_eq_true h
    omega
def jw:DSp:=fun ds P=>∃(t:List (List Int)) (n m:Nat),ds=[dT t]∧cM n m t∧1≤n∧n≤9∧1≤m∧m≤9∧∀b:Bool,(b=true↔BF n m t)→P (.bl b)
theorem wd:br jw:=by
  intro xs P P' k h
  unfold jw at h ⊢
  grind
theorem xm:∀ds P,jw ds P→ds.length=1:=by
  intro ds P h
  obtain ⟨_,_,_,e,_⟩:=h
  rw[e];rfl
theorem yS {c:Cs}{f:Addr}{fd:FuncData} (F:FnAt K mg "is_even" jk jn f fd) (A_:Fns K mg c) (T:Txt K mg) (xs:Exs K mg base c):aG P w K mg base CX0 4 f fd jn (spP K jw):=by
  obtain ⟨f0,d0,E_sums_of_rows⟩:=A_.h_sums_of_rows
  have G_sums_of_rows:aG P w K mg base CX0 1 f0 d0 cG (spP K b6):=i8 E_sums_of_rows A_ T xs
  obtain ⟨f1,d1,E_sums_of_columns⟩:=A_.h_sums_of_columns
  have G_sums_of_columns:aG P w K mg base CX0 3 f1 d1 bX (spP K bu):=gk E_sums_of_columns A_ T xs
  refine F.fn.ok sN (fun vs H Q E h=>a9 xm h) (fun cdv A outer s H vs Q E hr h=>?_)
  refine⟨_,(ar (b5 (bD tq (ay (aU (K:=K) rfl) (by rfl) T.len_ PySem.boot_len (aa (aB (ax (K:=K) rfl) (pv 0) ak (fun _ _=>rfl)) ai)) (ay (aU (K:=K) rfl) (by rfl) T.len_ PySem.boot_len (aa (pv 0) ai)) (a6 _)) (av (aH dH)) a8) (ar (b5 (cB (ay (Az (K:=K) rfl rfl) (by rfl) T.any_ boot_any (aa (cg (aS.of (sc0:=(au jk)) (tn:=["row"]) (cap:=[]) (idx:=[]) (by decide +kernel) rfl rfl) (bL (K:=K) rfl (pv 0)) (fN.name (by decide)) (fun _ _ _ _ _=>ba (i:=0) (aX (l:=["row"]) (by decide +kernel)) rfl (by first | exact Or.inl rfl | exact Or.inr rfl) (by first | exact .inl rfl | exact .inr rfl)) (fun _ _ _ _ _=>(cE BR (ay (uJ (K:=K) rfl rfl) (by rfl) T.min_ boot_min (aa (pv 0) ai)) ak (a6 _)))) ai))) (av (aH dH)) a8) (ar (bp (i:=1) sN.nd rfl (by first | exact Or.inl rfl | exact Or.inr rfl) (bj lT (aF G_sums_of_rows (hr.mono (by decide)) rfl E_sums_of_rows.mg E_sums_of_rows.fn.kp E_sums_of_rows.bd .nil aD (aa (pv 0) ai)) (aF G_sums_of_columns (hr.mono (by decide)) rfl E_sums_of_columns.mg E_sums_of_columns.fn.kp E_sums_of_columns.bd .nil aD (aa (pv 0) ai)))) (av (aH (ie (cE Bi (aB (ax (K:=K) rfl) (pv 1) ak (fun _ _=>rfl)) ak (a6 _)) (ib (ay (kI (K:=K) rfl rfl) (by rfl) T.all_ boot_all (aa (cg (aS.of (sc0:=(au jk)) (tn:=["number"]) (cap:=["sums"]) (idx:=[1]) (by decide +kernel) rfl rfl) (bL (K:=K) rfl (pv 1)) (fN.name (by decide)) (fun _ _ _ _ _=>ba (i:=0) (aX (l:=["number","sums"]) (by decide +kernel)) rfl (by first | exact Or.inl rfl | exact Or.inr rfl) (by first | exact .inl rfl | exact .inr rfl)) (fun _ _ _ _ _=>(cE cY (pv 0) (aB (ax (K:=K) rfl) (pv 1) ak (fun _ _=>rfl)) (a6 _)))) ai))))))))),bF (Γn:=[]) (N:=qh) (aA (bV (bh (EM.er (aE yw (EM.er (aZ cF (ah (ES.er (aM (af 0) (EM.er ao))) aj))) (EM.er (aZ cF (ah (ES.er (af 0)) aj)))))) (aI (M:=[]) dU) aY) (aA (bV (fJ (EM.er (aZ Fv (ah (EM.er (bQ (cD (af 0)) (bc 0) (aE lR (EM.er (aZ CK (ah (ES.er (af 0)) aj))) (EM.er ao)))) aj)))) (aI (M:=[]) dU) aY) (aA (ST.post (Γn:=[]) (bO 1 (EM.es (aE rh (EM.er (aL (S:=b6) gX (ah (ES.er (af 0)) aj))) (EM.er (aL (S:=bu) eT (ah (ES.er (af 0)) aj))))))) (aI (M:=[]) (fm (EM.er (aE lR (ES.er (aM (af 1) (EM.er ao))) (EM.er ao))) (aZ sX (ah (EM.er (bQ (cD (af 1)) (bc 0) (aE gF (ES.er (af 0)) (ES.er (aM (af 1) (EM.er ao)))))) aj))))))) (fun ds P hS=>?_) h⟩
  obtain ⟨t,n,m,rfl,hR,hn1,hn9,hm1,hm9,hP⟩:=hS
  rw[show aO qh [dT t]=[some (dT t),none] from rfl]
  have hl:=hR.1
  have h0:=hR.row (i:=0) (by omega)
  walk_at "v"
  refine eu (by omega) ?_
  walk_at "v"
  rw[h0,hl]
  split
  · rename_i c
    exact hP false ⟨fun z=>(by cases z),fun z=>absurd (by rw[z.1]:(m:Int)=n) c⟩
  rename_i c
  have emn:n=m:=by omega
  refine iy (t:=t) (g:=fun r=>.bl (r.any fun x=>decide (x<0))) (fun R h=>h) (by omega) (fun r hr R h=>?_) ?_
  · walk_at "gb"
    refine⟨by rw[hR.2 r hr];omega,fun M h1 h2=>?_⟩
    walk_at "gb"
    rw[Es h1 h2]
    exact h
  rw[vM]
  walk_at "v"
  split
  · rename_i c2
    refine hP false ⟨fun z=>(by cases z),fun z=>?_⟩
    rw[List.any_map,List.any_eq_true] at c2
    obtain ⟨r,hr,h⟩:=c2
    obtain ⟨x,hx,h⟩:=List.any_eq_true.mp h
    have:=z.2.1 r hr x hx
    have:=of_decide_eq_true h
    omega
  rename_i c2
  have nonneg:∀r∈t,∀x∈r,0≤x:=fun r hr x hx=>by
    by_cases h:0≤x
    · exact h
    · refine absurd ?_ c2
      rw[List.any_map,List.any_eq_true]
      exact⟨r,hr,List.any_eq_true.mpr ⟨x,hx,decide_eq_true (by omega)⟩⟩
  refine⟨t,rfl,by omega,?_⟩
  refine⟨t,n,m,rfl,hR,by omega,by omega,by omega,?_⟩
  have hlt:(turned m t).length=m:=by unfold turned;rw[List.length_map,List.length_range]
  walk_at "go"
  refine⟨⟨jx,jx,by omega⟩,?_⟩
  rw[Gx]
  generalize hs:t.map List.sum++(turned m t).map List.sum=sums
  have hs0:sums.getD 0 0=(rowAt t 0).sum:=by
    rw[← hs,rowAt,List.getD_eq_getElem?_getD,List.getD_eq_getElem?_getD,List.getElem?_append_left (by rw[List.length_map];omega),List.getElem?_map,List.getElem?_eq_getElem (by omega)]
    rfl
  have hsl:sums.length=n+m:=by rw[← hs,List.length_append,List.length_map,List.length_map,hl,hlt]
  refine bR (by omega) ?_
  walk_at "v"
  rw[hs0]
  have all:(∀x∈sums,x=(rowAt t 0).sum)↔(∀r∈t,r.sum=(rowAt t 0).sum)∧∀j,j<m→(pI t j).sum=(rowAt t 0).sum:=by
    rw[← hs]
    constructor
    · intro h
      refine⟨fun r hr=>h _ (List.mem_append_left _ (List.mem_map_of_mem hr)),fun j hj=>h _ (List.mem_append_right _ (List.mem_map.mpr ⟨pI t j,?_,rfl⟩))⟩
      exact List.mem_map.mpr ⟨j,List.mem_range.mpr hj,rfl⟩
    · rintro ⟨h1,h2⟩ x hx
      rcases List.mem_append.mp hx with z | z
      · obtain ⟨r,hr,rfl⟩:=List.mem_map.mp z;exact h1 r hr
      · obtain ⟨r,hr,rfl⟩:=List.mem_map.mp z
        obtain ⟨j,hj,rfl⟩:=List.mem_map.mp hr
        exact h2 j (List.mem_range.mp hj)
  split
  · rename_i c3
    refine jq (ns:=sums) (g:=fun x=>.bl (decide (x=(rowAt t 0).sum))) (fun R h=>h) (by omega) (fun x hx R h=>?_) ?_
    · walk_at "gb"
      refine bR (by omega) ?_
      walk_at "gb"
      rw[hs0]
      exact h
    rw[vM]
    walk_at "v"
    refine hP _ ?_
    rw[List.all_map,List.all_eq_true]
    constructor
    · intro h
      exact⟨emn,nonneg,c3,all.mp fun x hx=>of_decide_eq_true (h x hx)⟩
    · intro h x hx
      exact decide_eq_true (all.mpr h.2.2.2 x hx)
  · rename_i c3
    exact hP false ⟨fun z=>(by cases z),fun z=>absurd z.2.2.1 c3⟩
def ju:DSp:=fun ds P=>∃(w:Int) (d:List Int) (n:Nat),ds=[.tup [.int w,dI d],.int n]∧n≤64∧d.length<64∧∀b:Bool,(b=true↔1≤w∧d.Perm (ji n))→P (.bl b)
theorem vh:br ju:=by
  intro xs P P' k h
  unfold ju at h ⊢
  grind
theorem xI:∀ds P,ju ds P→ds.length=2:=by
  intro ds P h
  obtain ⟨_,_,_,e,_⟩:=h
  rw[e];rfl
theorem yL {c:Cs}{f:Addr}{fd:FuncData} (F:FnAt K mg "is_pair" mz jy f fd) (A_:Fns K mg c) (T:Txt K mg) (xs:Exs K mg base c):aG P w K mg base CX0 1 f fd jy (spP K ju):=by
  refine F.fn.ok yT (fun vs H Q E h=>a9 xI h) (fun cdv A outer s H vs Q E hr h=>?_)
  refine⟨_,(av (aH (ie (cE Bi (aB (bb (K:=K) rfl) (pv 0) ak (fun _ _=>rfl)) ak (a6 _)) (ie (cE cY (ay (aU (K:=K) rfl) (by rfl) T.len_ PySem.boot_len (aa (aB (bb (K:=K) rfl) (pv 0) ak (fun _ _=>rfl)) ai)) (pv 1) (a6 _)) (ib (cE (lB hr.units) (ay (wA (K:=K) rfl) (by rfl) T.sorted_ boot_sorted (aa (aB (bb (K:=K) rfl) (pv 0) ak (fun _ _=>rfl)) ai)) (xT rfl rfl T.list_ rfl T.range_ (pv 1)) (a6 _))))))),bF (Γn:=[]) (N:=qc) (aI (M:=[]) (fm (EM.er (aE lR (ES.er (bK (af 0) (EM.er ao))) (EM.er ao))) (fm (EM.er (aE gF (EM.er (aZ cF (ah (ES.er (bK (af 0) (EM.er ao))) aj))) (ES.er (af 1)))) (aE oy (EM.er (aZ FI (ah (ES.er (bK (af 0) (EM.er ao))) aj))) (EM.er (yO (ES.er (af 1)))))))) (fun ds P hS=>?_) h⟩
  obtain ⟨w,d,n,rfl,hn,hl,hP⟩:=hS
  have hlr:(ji n).length=n:=by unfold ji;rw[List.length_map,List.length_range]
  have no:¬ (1≤w∧d.Perm (ji n))→P (.bl false):=fun h=>hP false ⟨fun z=>(by cases z),fun z=>absurd z h⟩
  rw[show aO qc [.tup [.int w,dI d],.int n]=[some (.tup [.int w,dI d]),some (.int n)] from rfl]
  walk_at "go"
  split
  · rename_i c1
    split
    · rename_i c2
      refine⟨by omega,fun ms hm ho=>?_⟩
      walk_at "go"
      refine jt ?_
      simp only[Bool.false_eq_true,if_false]
      refine hP _ ⟨fun z=>⟨by omega,?_⟩,fun z=>decide_eq_true (yH (hm.trans z.2) ho)⟩
      have:=of_decide_eq_true z
      rw[← show ms=ji n from this]
      exact hm.symm
    · rename_i c2
      exact no fun z=>c2 (by have:=z.2.length_eq;omega)
  · rename_i c1
    exact no fun z=>c1 (by omega)
def Mix (n:Nat) (ps:List (Int × List Int)):Prop:=1≤n∧n≤8∧1≤ps.length∧ps.length≤200∧∀q∈ps,1≤q.1∧q.2.Perm (ji n)
theorem Mix.len {n:Nat}{ps:List (Int × List Int)} (h:Mix n ps) {q:Int × List Int} (hq:q∈ps):q.2.length=n:=by
  have:=(h.2.2.2.2 q hq).2.length_eq
  rw[this];unfold ji;rw[List.length_map,List.length_range]
theorem EI {ps:List (Int × List Int)}{P:DK} (h:1≤ps.length) (k:∀q∈ps,P (dPr q)):asO (atI (ps.map dPr) 0) P:=DG h (.inl rfl) k
noncomputable def rJ (n:Nat) (q:Int × List Int):Bool:=@decide (1≤q.1∧q.2.Perm (ji n)) (Classical.propDecidable _)
def dB:DSp:=fun ds P=>∃(ps:List (Int × List Int)),ds=[.lst (ps.map dPr)]∧ps.length≤200∧(∀q∈ps,q.2.length<64)∧∀b:Bool,(b=true↔∃n,Mix n ps)→P (.bl b)
theorem lD:br dB:=by
  intro xs P P' k h
  unfold dB at h ⊢
  grind
theorem sv:∀ds P,dB ds P→ds.length=1:=by
  intro ds P h
  obtain ⟨_,e,_⟩:=h
  rw[e];rfl
theorem nh {c:Cs}{f:Addr}{fd:FuncData} (F:FnAt K mg "is_mixture" hZ el f fd) (A_:Fns K mg c) (T:Txt K mg) (xs:Exs K mg base c):aG P w K mg base CX0 2 f fd el (spP K dB):=by
  obtain ⟨f0,d0,E_is_pair⟩:=A_.h_is_pair
  have G_is_pair:aG P w K mg base CX0 1 f0 d0 jy (spP K ju):=yL E_is_pair A_ T xs
  refine F.fn.ok m7 (fun vs H Q E h=>a9 sv h) (fun cdv A outer s H vs Q E hr h=>?_)
  refine⟨_,(ar (b5 (bD (lB hr.units) (pv 0) (aT ai) (a6 _)) (av (aH dH)) a8) (ar (bp (i:=1) m7.nd rfl (by first | exact Or.inl rfl | exact Or.inr rfl) (ay (aU (K:=K) rfl) (by rfl) T.len_ PySem.boot_len (aa (aB (bb (K:=K) rfl) (aB (ax (K:=K) rfl) (pv 0) ak (fun _ _=>rfl)) ak (fun _ _=>rfl)) ai))) (av (aH (ie (ma qD qD ak (pv 1) (fX (v:=.int 8) rfl T.MOST_.choose_spec ⟨_,rfl⟩)) (ib (ay (kI (K:=K) rfl rfl) (by rfl) T.all_ boot_all (aa (cg (aS.of (sc0:=(au hZ)) (tn:=["pair"]) (cap:=["many"]) (idx:=[1]) (by decide +kernel) rfl rfl) (bL (K:=K) rfl (pv 0)) (fN.name (by decide)) (fun _ _ _ _ _=>ba (i:=0) (aX (l:=["pair","many"]) (by decide +kernel)) rfl (by first | exact Or.inl rfl | exact Or.inr rfl) (by first | exact .inl rfl | exact .inr rfl)) (fun _ _ _ _ _=>(aF G_is_pair (hr.mono (by decide)) rfl E_is_pair.mg E_is_pair.fn.kp E_is_pair.bd .nil aD (aa (pv 0) (aa (pv 1) ai))))) ai)))))))),bF (Γn:=[]) (N:=lu) (aA (bV (bh (EM.er (aE oy (ES.er (af 0)) (EM.er (aV aQ))))) (aI (M:=[]) dU) aY) (aA (ST.post (Γn:=[]) (bO 1 (EM.es (aZ cF (ah (ES.er (bK (aM (af 0) (EM.er ao)) (EM.er ao))) aj))))) (aI (M:=[]) (fm (EM.er (jQ lR lR (EM.er ao) (ES.er (af 1)) (EM.er ao))) (aZ sX (ah (EM.er (bQ (cD (af 0)) (bc 0) (aL (S:=ju) vh (ah (ES.er (af 0)) (ah (ES.er (af 1)) aj))))) aj)))))) (fun ds P hS=>?_) h⟩
  obtain ⟨ps,rfl,p2,h64,hP⟩:=hS
  have no:(∀n,¬ Mix n ps)→P (.bl false):=fun h=>hP false ⟨fun z=>(by cases z),fun ⟨n,z⟩=>absurd z (h n)⟩
  rw[show aO lu [.lst (ps.map dPr)]=[some (.lst (ps.map dPr)),none] from rfl]
  walk_at "go"
  refine yF (qs:=[]) ?_
  walk_at "v"
  by_cases p0:ps=[]
  · rw[if_pos p0]
    refine no fun n h=>?_
    have:=h.2.2.1
    rw[p0] at this
    exact absurd this (by decide)
  rw[if_neg p0]
  have p1:1≤ps.length:=by
    cases ps with
    | nil=>exact absurd rfl p0
    | cons a l=>simp
  refine EI p1 fun q hq0=>?_
  walk_at "go"
  split
  · rename_i c1
    walk_at "go"
    split
    · rename_i c2
      have hq64:=h64 q hq0
      refine rY (as:=ps) (f:=dPr) (p:=fun _=>true) (g:=fun q'=>.bl (rJ q.2.length q')) (fun R h=>h) (by omega) (fun q' hq' R h=>?_) ?_
      · walk_at "gb"
        refine⟨q'.1,q'.2,q.2.length,rfl,by omega,h64 q' hq',fun b hb=>?_⟩
        have e:b=rJ q.2.length q':=by
          rw[Bool.eq_iff_iff,hb]
          unfold rJ
          exact (@decide_eq_true_iff _ (Classical.propDecidable _)).symm
        rw[e]
        exact h
      rw[show (ps.filter fun _=>true)=ps from List.filter_eq_self.mpr fun _ _=>rfl,show ps.map (fun q'=>L3.D.bl (rJ q.2.length q'))=(ps.map fun q'=>rJ q.2.length q').map L3.D.bl by rw[List.map_map];rfl]
      walk_at "v"
      refine hP _ ?_
      rw[List.all_map,List.all_eq_true]
      constructor
      · intro h
        exact⟨q.2.length,by omega,by omega,p1,p2,fun q' hq'=>(@of_decide_eq_true _ (Classical.propDecidable _) (h q' hq'))⟩
      · rintro ⟨n,hM⟩ q' hq'
        have e:=hM.len hq0
        show rJ q.2.length q'=true
        unfold rJ
        rw[e]
        exact (@decide_eq_true _ (Classical.propDecidable _) (hM.2.2.2.2 q' hq'))
    · rename_i c2
      refine no fun n h=>?_
      have:=h.len hq0
      have:=h.2.1
      omega
  · rename_i c1
    refine no fun n h=>?_
    have:=h.len hq0
    have:=h.1
    omega
def eD:DSI:=fun ds P=>∃(t:List (List Int)) (n:Nat) (w:Int) (d:List Int),ds=[dT t,.int w,dI d]∧cM n n t∧n≤8∧d.Perm (ji n)∧∀u,cM n n u→(∀k j:Nat,k<n→j<n→cellAt u k j=cellAt t k j+if d.getD k 0=(j:Int) then w else 0)→P .non (dT u)
theorem pR:v8 eD:=by
  intro xs P P' k h
  unfold eD at h ⊢
  grind
theorem lC:∀ds P,eD ds P→ds.length=3:=by
  intro ds P h
  unfold eD at h
  grind
theorem rb {c:Cs}{f:Addr}{fd:FuncData} (F:FnAt K mg "add_dealing" iI eH f fd) (A_:Fns K mg c) (T:Txt K mg) (xs:Exs K mg base c):aG P w K mg base CX0 1 f fd eH (spI K 0 eD):=by
  refine F.fn.ok mq (fun vs H Q E h=>zr lC h) (fun cdv A outer s H vs Q E hr h=>?_)
  refine⟨_,(av (i6 PassesOwn.never rfl (eE rfl T.range_ (aa (ay (aU (K:=K) rfl) (by rfl) T.len_ PySem.boot_len (aa (pv 2) ai)) ai)) (ba (i:=3) mq.nd rfl (by first | exact Or.inl rfl | exact Or.inr rfl)) (av (nQ (bj iz (aB (ax (K:=K) rfl) (aB (ax (K:=K) rfl) (pv 0) (pv 3) (fun _ _=>rfl)) (aB (ax (K:=K) rfl) (pv 2) (pv 3) (fun _ _=>rfl)) (fun _ _=>rfl)) (pv 1)) (nj (aB (ax (K:=K) rfl) (pv 0) (pv 3) (fun _ _=>rfl)) (aB (ax (K:=K) rfl) (pv 2) (pv 3) (fun _ _=>rfl)) set_list))))),zx (Γn:=[0]) (N:=ky) (p:=0) (nO (iG (ah (EM.er (aZ cF (ah (ES.er (af 2)) aj))) aj)) (bc 3) (sk 0 (wb 0 (aE eO (wx (wx (fM 0) (ES.er (af 3))) (ES.er (aM (af 2) (ES.er (af 3))))) (ES.er (af 1))) (ES.er (af 3)) (ES.er (aM (af 2) (ES.er (af 3))))))) (fun ds P a x hS hx=>?_) (by decide) (fun ds P h=>by have:=lC ds P h;omega) h⟩
  obtain ⟨t,n,w,d,rfl,hR,n8,hp,hP⟩:=hS
  have hlr:(ji n).length=n:=by unfold ji;rw[List.length_map,List.length_range]
  have hdl:d.length=n:=by rw[hp.length_eq];exact hlr
  cases hx
  simp only[List.set_cons_zero,List.set_cons_succ]
  rw[show aO ky [.pin a (dT t),.int w,dI d]=[some (.pin a (dT t)),some (.int w),some (dI d),none] from rfl]
  walk_at "go"
  refine rA (fun i δ=>∃(u:List (List Int)) (o3:Option D),δ=[some (.pin a (dT u)),some (.int w),some (dI d),o3]∧cM n n u∧∀k j:Nat,k<n→j<n→cellAt u k j=cellAt t k j+if k<i∧d.getD k 0=(j:Int) then w else 0) ⟨t,none,rfl,hR,fun k j _ _=>by simp⟩ ?_ ?_
  · rintro i δ N hi ⟨u,o3,rfl,hU,hc⟩ hN
    obtain ⟨p1,p2,p3⟩:=DX hp (show i<n by omega)
    have hl:=hU.1
    have hrow:=hU.row (i:=i) (by omega)
    obtain ⟨c,ec⟩:∃c:Nat,d.getD i 0=(c:Int):=⟨(d.getD i 0).toNat,by omega⟩
    walk_at "v"
    rw[Int.zero_add]
    refine gN (t:=u) (a:=(i:Int)) (b:=(c:Int)) (v:=cellAt u i c+w) rfl (fun R h=>?_) (fun R h=>?_) (fun R h=>?_) (by omega) (by rw[Int.toNat_natCast,hrow];omega) ?_
    · walk_at "v"
      refine eu (by omega) ?_
      walk_at "v"
      refine bR (by omega) ?_
      rw[Int.toNat_natCast,ec]
      walk_at "v"
      refine bR (by rw[hrow];omega) ?_
      rw[Int.toNat_natCast]
      walk_at "v"
      exact h
    · walk_at "v";exact h
    · walk_at "v"
      refine bR (by omega) ?_
      rw[Int.toNat_natCast,ec]
      exact h
    rw[Int.toNat_natCast,Int.toNat_natCast]
    walk_at "v"
    refine hN _ ⟨_,_,rfl,hU.setCell (by omega),fun k j hk hj=>?_⟩
    rw[Dd hU (by omega) (by omega)]
    by_cases q:i=k∧c=j
    · obtain ⟨rfl,rfl⟩:=q
      rw[if_pos ⟨rfl,rfl⟩,hc i c hk hj,if_neg (fun z=>by omega),if_pos ⟨by omega,ec⟩]
      omega
    · rw[if_neg q,hc k j hk hj]
      congr 1
      by_cases h1:k<i∧d.getD k 0=(j:Int)
      · rw[if_pos h1,if_pos ⟨by omega,h1.2⟩]
      · rw[if_neg h1,if_neg (fun z=>?_)]
        by_cases z1:k=i
        · subst z1
          rw[ec] at z
          exact q ⟨rfl,by omega⟩
        · exact h1 ⟨by omega,z.2⟩
  · rintro δ ⟨u,o3,rfl,hU,hc⟩
    walk_at "v"
    exact hP u hU fun k j hk hj=>by rw[hc k j hk hj,hdl];simp [hk]
def mI (c:Cs):DSX:=fun ds P R=>∃(ps:List (Int × List Int)),ds=[.lst (ps.map dPr)]∧ps.length≤200∧(∀q∈ps,q.2.length<64)∧(∀n,Mix n ps→∀t,Tab n ps t→P (dT t))∧((∀n,¬ Mix n ps)→R c.NoMix)
theorem wJ {c:Cs}:ku (mI c):=by
  intro xs P P' R R' k kr h
  obtain ⟨ps,e,h0,h1,h2,h3⟩:=h
  exact⟨ps,e,h0,h1,fun n a t b=>k _ (h2 n a t b),fun z=>kr _ (h3 z)⟩
theorem ye {c:Cs}:∀ds P R,mI c ds P R→ds.length=1:=by
  intro ds P R h
  obtain ⟨ps,e,_⟩:=h
  rw[e];rfl
theorem yA {c:Cs}{f:Addr}{fd:FuncData} (F:FnAt K mg "told_by" kJ jv f fd) (A_:Fns K mg c) (T:Txt K mg) (xs:Exs K mg base c):aG P w K mg base (CXR P w) 3 f fd jv (spX K (mI c)):=by
  obtain ⟨f0,d0,E_is_mixture⟩:=A_.h_is_mixture
  have G_is_mixture:aG P w K mg base CX0 2 f0 d0 el (spP K dB):=nh E_is_mixture A_ T xs
  obtain ⟨f1,d1,E_add_dealing⟩:=A_.h_add_dealing
  have G_add_dealing:aG P w K mg base CX0 1 f1 d1 eH (spI K 0 eD):=rb E_add_dealing A_ T xs
  refine F.fn.okX lA (fun vs H Q E h=>vj ye h) (fun cdv A outer s H vs Q E hr h=>?_)
  refine⟨_,(ar (b5 (PT.nox (cL (cB (aF G_is_mixture (hr.mono (by decide)) rfl E_is_mixture.mg E_is_mixture.fn.kp E_is_mixture.bd .nil aD (aa (pv 0) ai))))) (av (tj (xs.o_NoMix.own xs.m_NoMix) PySem.F.excBase_ValueError rfl rfl vx (aa yx ai))) a8) (PSs.nox (ar (bp (i:=1) lA.nd rfl (by first | exact Or.inl rfl | exact Or.inr rfl) (ay (aU (K:=K) rfl) (by rfl) T.len_ PySem.boot_len (aa (aB (bb (K:=K) rfl) (aB (ax (K:=K) rfl) (pv 0) ak (fun _ _=>rfl)) ak (fun _ _=>rfl)) ai))) (ar (rH (i:=2) (aS.of (sc0:=(au kJ)) (tn:=["row"]) (cap:=["many"]) (idx:=[1]) (by decide +kernel) rfl rfl) lA.nd rfl (by first | exact Or.inl rfl | exact Or.inr rfl) (eE rfl T.range_ (aa (pv 1) ai)) (fN.name (by decide)) (fun _ _ _ _ _=>ba (i:=0) (aX (l:=["row","many"]) (by decide +kernel)) rfl (by first | exact Or.inl rfl | exact Or.inr rfl) (by first | exact .inl rfl | exact .inr rfl)) (fun _ _ _ _ _=>(bj BX (aT (aa ak ai)) (pv 1)))) (ar (i6 PassesOwn.never rfl (bL (K:=K) rfl (pv 0)) (ba (i:=3) lA.nd rfl (by first | exact Or.inl rfl | exact Or.inr rfl)) (av (kf (aF G_add_dealing (hr.mono (by decide)) rfl E_add_dealing.mg E_add_dealing.fn.kp E_add_dealing.bd .nil aD (aa (pv 2) (aa (aB (bb (K:=K) rfl) (pv 3) ak (fun _ _=>rfl)) (aa (aB (bb (K:=K) rfl) (pv 3) ak (fun _ _=>rfl)) ai))))))) (av (aH (pv 2)))))))),wD (Γn:=[2]) (N:=pN) (fun R=>(sT (BW (cO (fJ (EM.er (aL (S:=dB) lD (ah (ES.er (af 0)) aj))))) (rV (ah (EM.er yQ) aj)) (ST.sx aY)) (ST.sx (aA (ST.post (Γn:=[]) (bO 1 (EM.es (aZ cF (ah (ES.er (bK (aM (af 0) (EM.er ao)) (EM.er ao))) aj))))) (aA (ST.post (Γn:=[2]) (eQ (M:=[]) 2 (bQ (iG (ah (ES.er (af 1)) aj)) (bc 0) (aE E9 (EM.er (aV (aq ao aQ))) (ES.er (af 1)))))) (aA (nO (cD (af 0)) (bc 3) (ST0.st (u5 2 0 pR (zy 2 (Ag (E1 (bK (af 3) (EM.er ao))) (Ag (E1 (bK (af 3) (EM.er ao))) BS)))))) (aI (M:=[2]) (oj 2)))))))) (fun ds P R hS=>?_) h⟩
  obtain ⟨ps,rfl,p2,h64,hP,hX⟩:=hS
  rw[show aO pN [.lst (ps.map dPr)]=[some (.lst (ps.map dPr)),none,none,none] from rfl]
  walk_at "v"
  refine⟨ps,rfl,p2,h64,fun b hb=>?_⟩
  by_cases hm:∃n,Mix n ps
  case neg =>
    have hb0:b=false:=by
      cases b with
      | false=>rfl
      | true=>exact absurd (hb.mp rfl) hm
    subst hb0
    walk_at "v"
    exact⟨by decide,hX fun n h=>hm ⟨n,h⟩⟩
  rw[hb.mpr hm]
  obtain ⟨n,hM⟩:=hm
  have hP:=hP n hM
  obtain ⟨n1,n8,p1,_,hq⟩:=id hM
  walk_at "go"
  refine EI p1 fun q hq0=>?_
  walk_at "go"
  rw[hM.len hq0]
  refine kF (lo:=0) (n:=n) (g:=fun _=>dI (List.replicate n 0)) (fun R h=>?_) (by omega) (fun i hi R h=>?_) ?_
  · walk_at "go";exact h
  · walk_at "gb"
    rw[BB]
    exact⟨⟨rfl,by omega,by omega⟩,h⟩
  rw[Cp]
  walk_at "go"
  have h0:cM n n ((List.range n).map fun _=>List.replicate n (0:Int)):=⟨by rw[List.length_map,List.length_range],fun r hr=>by
    obtain ⟨_,_,rfl⟩:=List.mem_map.mp hr
    exact List.length_replicate⟩
  have c0:∀k j:Nat,k<n→j<n→cellAt ((List.range n).map fun _=>List.replicate n (0:Int)) k j=0:=fun k j hk hj=>by
    unfold cellAt
    rw[List.getD_eq_getElem?_getD (l:=(List.range n).map _),List.getElem?_map,List.getElem?_range hk,Option.map_some,Option.getD_some,List.getD_eq_getElem?_getD,List.getElem?_replicate,if_pos hj];rfl
  refine jA (as:=ps) (f:=dPr) (fun i δ=>∃(t:List (List Int)) (o3:Option D),δ=[some (.lst (ps.map dPr)),some (.int n),some (dT t),o3]∧Tab n (ps.take i) t) ⟨_,none,rfl,h0,fun k j hk hj=>by rw[c0 k j hk hj,List.take_zero];rfl⟩ ?_ ?_
  · rintro i q' δ N e ⟨t,o3,rfl,hT⟩ hN
    have hq':=hq q' (List.mem_of_getElem? e)
    walk_at "go"
    refine⟨t,n,q'.1,q'.2,rfl,hT.1,n8,hq'.2,fun u hU hc=>?_⟩
    walk_at "v"
    refine hN _ ⟨u,_,rfl,?_⟩
    rw[List.take_add_one,e]
    exact hT.snoc hU hc
  · rintro δ ⟨t,o3,rfl,hT⟩
    rw[List.take_length] at hT
    walk_at "v"
    exact hP t hT
def Bd (k:Nat) (xs:List Int):Prop:=∀x∈xs,x.natAbs<2 ^ k
theorem Bd.at {k:Nat}{xs:List Int} (h:Bd k xs) (j:Nat):(xs.getD j 0).natAbs<2 ^ k:=by
  rw[List.getD_eq_getElem?_getD]
  cases e:xs[j]? with
  | none=>exact Nat.pow_pos (by decide)
  | some v=>exact h v (List.mem_of_getElem? e)
theorem Bd.mono {k l:Nat}{xs:List Int} (h:Bd k xs) (hk:k≤l):Bd l xs:=fun x hx=>Nat.lt_of_lt_of_le (h x hx) (Nat.pow_le_pow_right (by decide) hk)
def BdT (k:Nat) (t:List (List Int)):Prop:=∀r∈t,Bd k r
theorem BdT.mono {k l:Nat}{t:List (List Int)} (h:BdT k t) (hk:k≤l):BdT l t:=fun r hr=>(h r hr).mono hk
theorem BdT.cell {k n m i j:Nat}{t:List (List Int)} (h:BdT k t) (hR:cM n m t) (hi:i<n):(cellAt t i j).natAbs<2 ^ k:=(h _ (mF (by rw[hR.1];exact hi))).at j
def dot (xs ys:List Int):Int:=((List.range xs.length).map fun (j:Nat)=>xs.getD j 0*ys.getD j 0).sum
def fu:DSp:=fun ds P=>∃xs ys:List Int,ds=[dI xs,dI ys]∧xs.length≤9∧ys.length=xs.length∧Bd 300 xs∧Bd 300 ys∧P (.int (dot xs ys))
theorem qS:br fu:=by
  intro xs P P' k h
  unfold fu at h ⊢
  grind
theorem si:∀ds P,fu ds P→ds.length=2:=by
  intro ds P h
  obtain ⟨_,_,e,_⟩:=h
  rw[e];rfl
theorem tJ {c:Cs}{f:Addr}{fd:FuncData} (F:FnAt K mg "product_of" h7 fw f fd) (A_:Fns K mg c) (T:Txt K mg) (xs:Exs K mg base c):aG P w K mg base CX0 1 f fd fw (spP K fu):=by
  refine F.fn.ok tE (fun vs H Q E h=>a9 si h) (fun cdv A outer s H vs Q E hr h=>?_)
  refine⟨_,(av (aH (ay (eI (K:=K) rfl rfl) (by rfl) T.sum_ boot_sum (aa (cg (aS.of (sc0:=(au h7)) (tn:=["place"]) (cap:=["one","other"]) (idx:=[0,1]) (by decide +kernel) rfl rfl) (eE rfl T.range_ (aa (ay (aU (K:=K) rfl) (by rfl) T.len_ PySem.boot_len (aa (pv 0) ai)) ai)) (fN.name (by decide)) (fun _ _ _ _ _=>ba (i:=0) (aX (l:=["place","one","other"]) (by decide +kernel)) rfl (by first | exact Or.inl rfl | exact Or.inr rfl) (by first | exact .inl rfl | exact .inr rfl)) (fun _ _ _ _ _=>(bj kX (aB (ax (K:=K) rfl) (pv 1) (pv 0) (fun _ _=>rfl)) (aB (ax (K:=K) rfl) (pv 2) (pv 0) (fun _ _=>rfl))))) ai)))),bF (Γn:=[]) (N:=ly) (aI (M:=[]) (aZ ni (ah (EM.er (bQ (iG (ah (EM.er (aZ cF (ah (ES.er (af 0)) aj))) aj)) (bc 0) (aE cN (ES.er (aM (af 1) (ES.er (af 0)))) (ES.er (aM (af 2) (ES.er (af 0))))))) aj))) (fun ds P hS=>?_) h⟩
  obtain ⟨xs,ys,rfl,hl,hy,b1,b2,hP⟩:=hS
  rw[show aO ly [dI xs,dI ys]=[some (dI xs),some (dI ys)] from rfl]
  walk_at "go"
  refine kF (lo:=0) (n:=xs.length) (g:=fun (j:Nat)=>.int (xs.getD j 0*ys.getD j 0)) (fun R h=>?_) (by omega) (fun j hj R h=>?_) ?_
  · walk_at "go"
    exact h
  · walk_at "gb"
    rw[Int.zero_add]
    refine bR (by omega) (bR (by omega) ?_)
    rw[Int.toNat_natCast]
    exact⟨⟨300,300,b1.at j,b2.at j,by decide⟩,h⟩
  · rw[gK]
    walk_at "go"
    exact hP
def gz:DSp:=fun ds P=>∃(t:List (List Int)) (ys:List Int),ds=[dT t,dI ys]∧t.length≤9∧(∀r∈t,r.length=ys.length)∧ys.length≤9∧BdT 300 t∧Bd 300 ys∧P (dI (t.map fun r=>dot r ys))
theorem rF:br gz:=by
  intro xs P P' k h
  unfold gz at h ⊢
  grind
theorem tM:∀ds P,gz ds P→ds.length=2:=by
  intro ds P h
  obtain ⟨_,_,e,_⟩:=h
  rw[e];rfl
theorem vZ {c:Cs}{f:Addr}{fd:FuncData} (F:FnAt K mg "times_row" iT gB f fd) (A_:Fns K mg c) (T:Txt K mg) (xs:Exs K mg base c):aG P w K mg base CX0 2 f fd gB (spP K gz):=by
  obtain ⟨f0,d0,E_product_of⟩:=A_.h_product_of
  have G_product_of:aG P w K mg base CX0 1 f0 d0 fw (spP K fu):=tJ E_product_of A_ T xs
  refine F.fn.ok vR (fun vs H Q E h=>a9 tM h) (fun cdv A outer s H vs Q E hr h=>?_)
  refine⟨_,(av (aH (cg (aS.of (sc0:=(au iT)) (tn:=["line"]) (cap:=["row"]) (idx:=[1]) (by decide +kernel) rfl rfl) (bL (K:=K) rfl (pv 0)) (fN.name (by decide)) (fun _ _ _ _ _=>ba (i:=0) (aX (l:=["line","row"]) (by decide +kernel)) rfl (by first | exact Or.inl rfl | exact Or.inr rfl) (by first | exact .inl rfl | exact .inr rfl)) (fun _ _ _ _ _=>(aF G_product_of (hr.mono (by decide)) rfl E_product_of.mg E_product_of.fn.kp E_product_of.bd .nil aD (aa (pv 0) (aa (pv 1) ai))))))),bF (Γn:=[]) (N:=lV) (aI (M:=[]) (bQ (cD (af 0)) (bc 0) (aL (S:=fu) qS (ah (ES.er (af 0)) (ah (ES.er (af 1)) aj))))) (fun ds P hS=>?_) h⟩
  obtain ⟨t,ys,rfl,hl,hr,hy,b1,b2,hP⟩:=hS
  rw[show aO lV [dT t,dI ys]=[some (dT t),some (dI ys)] from rfl]
  walk_at "go"
  refine iy (t:=t) (g:=fun r=>.int (dot r ys)) (fun R h=>h) (by omega) (fun r hq R h=>?_) ?_
  · walk_at "gb"
    exact⟨r,ys,rfl,by rw[hr r hq];exact hy,(hr r hq).symm,b1 r hq,b2,h⟩
  · rw[gK]
    exact hP
abbrev zA:List Str:=["table","pairs"]
abbrev AA (c:Cs) (t:List (List Int)) (ps:List (Int × List Int)):D:=.ins c.MixPaper zA [dT t,.lst (ps.map dPr)]
def cy (c:Cs):DSp:=fun ds P=>∃(t:List (List Int)) (ps:List (Int × List Int)),ds=[dT t,.lst (ps.map dPr)]∧t.length≤1000∧ps.length≤200∧P (AA c t ps)
theorem nz {c:Cs}:br (cy c):=by
  intro xs P P' k h
  unfold cy at h ⊢
  grind
theorem ou {c:Cs}:∀ds P,(cy c) ds P→ds.length=2:=by
  intro ds P h
  obtain ⟨_,_,e,_⟩:=h
  rw[e];rfl
theorem oC {c:Cs}:∀ds P,(cy c) ds P→(cy c) ds fun d=>(∃ns dd,d=.ins c.MixPaper ns dd)∧P d:=by
  intro ds P h
  unfold cy at h ⊢
  grind
theorem pX {c:Cs}{f:Addr}{fd:FuncData} (F:h8 K mg "MixPaper" c.MixPaper "MixPaper.__init__" eA dm f fd) (A_:Fns K mg c) (T:Txt K mg) (xs:Exs K mg base c):aG P w K mg base CX0 2 f fd dm (spN K c.MixPaper (cy c)):=by
  obtain ⟨f0,d0,E_copied_table⟩:=A_.h_copied_table
  have G_copied_table:aG P w K mg base CX0 1 f0 d0 bE (spP K aR):=cJ E_copied_table A_ T xs
  refine F.fn.ok pS (fun vs H Q E h=>ki ou h) (fun cdv A outer s H vs Q E hr h=>?_)
  refine⟨_,(ar (bP (K:=K) rfl (pv 0) (aF G_copied_table (hr.mono (by decide)) rfl E_copied_table.mg E_copied_table.fn.kp E_copied_table.bd .nil aD (aa (pv 1) ai)) rfl) (av (bP (K:=K) rfl (pv 0) (cg (aS.of (sc0:=(au eA)) (tn:=["pair"]) (cap:=[]) (idx:=[]) (by decide +kernel) rfl rfl) (bL (K:=K) rfl (pv 2)) (fN.name (by decide)) (fun _ _ _ _ _=>ba (i:=0) (aX (l:=["pair"]) (by decide +kernel)) rfl (by first | exact Or.inl rfl | exact Or.inr rfl) (by first | exact .inl rfl | exact .inr rfl)) (fun _ _ _ _ _=>(wu (aa (aB (bb (K:=K) rfl) (pv 0) ak (fun _ _=>rfl)) (aa (cj (bT (K:=K) rfl) (by rfl) T.list_ boot_list (aa (aB (bb (K:=K) rfl) (pv 0) ak (fun _ _=>rfl)) ai)) ai))))) rfl))),mv (N:=iZ) (cA xs.i_MixPaper.cl xs.n_MixPaper_table (aL (S:=aR) bq (ah (ES.er (af 1)) aj)) (j5 xs.i_MixPaper.cl xs.n_MixPaper_pairs (bQ (cD (af 2)) (bc 0) (vJ (aq (ER.bC (ES.er (bK (af 0) (EM.er ao)))) (aq (aZ gj (ah (ES.er (bK (af 0) (EM.er ao))) aj)) aQ)))))) (fun ds P hS=>?_) (by decide) (by decide +kernel) (by decide) h⟩
  obtain ⟨t,ps,rfl,h1,h2,hP⟩:=hS
  rw[show aO (iZ.drop 1) [dT t,.lst (ps.map dPr)]=[some (dT t),some (.lst (ps.map dPr))] from rfl]
  walk_at "go"
  refine⟨t,rfl,h1,?_⟩
  walk_at "go"
  refine kH (as:=ps) (f:=dPr) (g:=dPr) (fun R h=>h) (by omega) (fun q hq R h=>?_) ?_
  · rw[show dPr q=.tup [.int q.1,dI q.2] from rfl] at h ⊢
    walk_at "gb"
    exact h
  exact hP
def bH (c:Cs):DSp:=fun ds P=>∃(t:List (List Int)) (ps:List (Int × List Int)),ds=[AA c t ps]∧ps.length≤200∧(∀q∈ps,q.2.length<64)∧∀b:Bool,(b=true↔∃n,Mix n ps∧Tab n ps t)→P (.bl b)
theorem dP {c:Cs}:br (bH c):=by
  intro xs P P' k h
  unfold bH at h ⊢
  grind
theorem nM {c:Cs}:∀ds P,(bH c) ds P→ds.length=1:=by
  intro ds P h
  obtain ⟨_,_,e,_⟩:=h
  rw[e];rfl
theorem gW {c:Cs}{f:Addr}{fd:FuncData} (F:fP K c.MixPaper "holds" "MixPaper.holds" fo cm f fd) (A_:Fns K mg c) (T:Txt K mg) (xs:Exs K mg base c):aG P w K mg base CX0 4 f fd cm (spP K (bH c)):=by
  obtain ⟨f0,d0,E_is_mixture⟩:=A_.h_is_mixture
  have G_is_mixture:aG P w K mg base CX0 2 f0 d0 el (spP K dB):=nh E_is_mixture A_ T xs
  obtain ⟨f1,d1,E_told_by⟩:=A_.h_told_by
  have G_told_by:aG P w K mg base (CXR P w) 3 f1 d1 jv (spX K (mI c)):=yA E_told_by A_ T xs
  refine F.fn.ok oJ (fun vs H Q E h=>a9 nM h) (fun cdv A outer s H vs Q E hr h=>?_)
  refine⟨_,(av (aH (ie (aF G_is_mixture (hr.mono (by decide)) rfl E_is_mixture.mg E_is_mixture.fn.kp E_is_mixture.bd .nil aD (aa (az (K:=K) rfl (pv 0) rfl) ai)) (ib (cE (lB hr.units) (aF G_told_by (hr.mono (by decide)) rfl E_told_by.mg E_told_by.fn.kp E_told_by.bd .nil Hs (aa (az (K:=K) rfl (pv 0) rfl) ai)) (az (K:=K) rfl (pv 0) rfl) (a6 _)))))),bF (Γn:=[]) (N:=ix) (aI (M:=[]) (fm (EM.er (aL (S:=dB) lD (ah (ES.er (aK ["table","pairs"] 1 xs.i_MixPaper.cl xs.n_MixPaper_pairs (af 0))) aj))) (aE oy (EM.er (Gd wJ (ah (ES.er (aK ["table","pairs"] 1 xs.i_MixPaper.cl xs.n_MixPaper_pairs (af 0))) aj))) (ES.er (aK ["table","pairs"] 0 xs.i_MixPaper.cl xs.n_MixPaper_table (af 0)))))) (fun ds P hS=>?_) h⟩
  obtain ⟨t,ps,rfl,h1,h2,hP⟩:=hS
  rw[show aO ix [AA c t ps]=[some (AA c t ps)] from rfl]
  walk_at "go"
  refine⟨ps,rfl,h1,h2,fun b hb=>?_⟩
  dsimp only
  cases b with
  | false =>
    walk_at "go"
    exact hP false ⟨fun z=>(by cases z),fun ⟨n,hM,_⟩=>by have:=hb.mpr ⟨n,hM⟩;cases this⟩
  | true =>
    obtain ⟨n,hM⟩:=hb.mp rfl
    walk_at "go"
    refine⟨ps,rfl,h1,h2,fun n' hM' t' hT'=>?_,fun z=>absurd hM (z n)⟩
    refine va (xs:=t') (ys:=t) ?_
    rw[if_neg (by decide)]
    refine hP _ ⟨fun z=>⟨n',hM',by rw[← of_decide_eq_true z];exact hT'⟩,fun ⟨n2,hM2,hT2⟩=>decide_eq_true ?_⟩
    obtain ⟨q,hq⟩:∃q,q∈ps:=⟨_,List.getElem_mem (show 0<ps.length from hM.2.2.1)⟩
    have e:n2=n':=by rw[← hM2.len hq,← hM'.len hq]
    subst e
    exact hT'.uniq hT2
abbrev Ad:List Str:=["one","other","table"]
abbrev Ap (c:Cs) (one other:List Int) (t:List (List Int)):D:=.ins c.LeadPaper Ad [dI one,dI other,dT t]
def cc (c:Cs):DSp:=fun ds P=>∃(one other:List Int) (t:List (List Int)),ds=[dI one,dI other,dT t]∧t.length≤1000∧P (Ap c one other t)
theorem mR {c:Cs}:br (cc c):=by
  intro xs P P' k h
  unfold cc at h ⊢
  grind
theorem nZ {c:Cs}:∀ds P,(cc c) ds P→ds.length=3:=by
  intro ds P h
  obtain ⟨_,_,_,e,_⟩:=h
  rw[e];rfl
theorem nH {c:Cs}:∀ds P,(cc c) ds P→(cc c) ds fun d=>(∃ns dd,d=.ins c.LeadPaper ns dd)∧P d:=by
  intro ds P h
  unfold cc at h ⊢
  grind
theorem o9 {c:Cs}{f:Addr}{fd:FuncData} (F:h8 K mg "LeadPaper" c.LeadPaper "LeadPaper.__init__" ft cU f fd) (A_:Fns K mg c) (T:Txt K mg) (xs:Exs K mg base c):aG P w K mg base CX0 2 f fd cU (spN K c.LeadPaper (cc c)):=by
  obtain ⟨f0,d0,E_copied_table⟩:=A_.h_copied_table
  have G_copied_table:aG P w K mg base CX0 1 f0 d0 bE (spP K aR):=cJ E_copied_table A_ T xs
  refine F.fn.ok px (fun vs H Q E h=>ki nZ h) (fun cdv A outer s H vs Q E hr h=>?_)
  refine⟨_,(ar (bP (K:=K) rfl (pv 0) (cj (bT (K:=K) rfl) (by rfl) T.list_ boot_list (aa (pv 1) ai)) rfl) (ar (bP (K:=K) rfl (pv 0) (cj (bT (K:=K) rfl) (by rfl) T.list_ boot_list (aa (pv 2) ai)) rfl) (av (bP (K:=K) rfl (pv 0) (aF G_copied_table (hr.mono (by decide)) rfl E_copied_table.mg E_copied_table.fn.kp E_copied_table.bd .nil aD (aa (pv 3) ai)) rfl)))),mv (N:=ij) (cA xs.i_LeadPaper.cl xs.n_LeadPaper_one (aZ gj (ah (ES.er (af 1)) aj)) (cA xs.i_LeadPaper.cl xs.n_LeadPaper_other (aZ gj (ah (ES.er (af 2)) aj)) (j5 xs.i_LeadPaper.cl xs.n_LeadPaper_table (aL (S:=aR) bq (ah (ES.er (af 3)) aj))))) (fun ds P hS=>?_) (by decide) (by decide +kernel) (by decide) h⟩
  obtain ⟨one,other,t,rfl,h1,hP⟩:=hS
  rw[show aO (ij.drop 1) [dI one,dI other,dT t]=[some (dI one),some (dI other),some (dT t)] from rfl]
  walk_at "go"
  refine⟨t,rfl,h1,?_⟩
  walk_at "go"
  exact hP
theorem CI {k:Nat}:∀{xs:List Int},Bd k xs→xs.sum.natAbs≤xs.length*2 ^ k
  | [],_=>by simp
  | x::xs,h=>by
    have a:=h x List.mem_cons_self
    have b:=CI (xs:=xs) fun y hy=>h y (List.mem_cons_of_mem _ hy)
    rw[List.sum_cons,List.length_cons,Nat.succ_mul]
    omega
theorem Fu {k:Nat}{xs:List Int} (h:Bd k xs) (l:xs.length≤8):xs.sum.natAbs<2 ^ (k+4):=by
  have a:=CI h
  have b:xs.length*2 ^ k≤8*2 ^ k:=Nat.mul_le_mul_right _ l
  have c:0<2 ^ k:=Nat.pow_pos (by decide)
  rw[Nat.pow_add]
  generalize 2 ^ k=z at *
  omega
def Dz (n m:Nat) (one other:List Int) (t:List (List Int)):Prop:=BF n m t∧one.length=n∧other.length=n∧(t.map fun r=>dot r other)=one.map fun x=>x*(rowAt t 0).sum
def bz (c:Cs):DSp:=fun ds P=>∃(one other:List Int) (t:List (List Int)) (n m:Nat),ds=[Ap c one other t]∧cM n m t∧1≤n∧n≤8∧1≤m∧m≤8∧Bd 200 one∧Bd 200 other∧BdT 100 t∧one.length≤100∧∀b:Bool,(b=true↔Dz n m one other t)→P (.bl b)
theorem dy {c:Cs}:br (bz c):=by
  intro xs P P' k h
  unfold bz at h ⊢
  grind
theorem mW {c:Cs}:∀ds P,(bz c) ds P→ds.length=1:=by
  intro ds P h
  obtain ⟨_,_,_,_,_,e,_⟩:=h
  rw[e];rfl
theorem gi {c:Cs}{f:Addr}{fd:FuncData} (F:fP K c.LeadPaper "holds" "LeadPaper.holds" dA b3 f fd) (A_:Fns K mg c) (T:Txt K mg) (xs:Exs K mg base c):aG P w K mg base CX0 5 f fd b3 (spP K (bz c)):=by
  obtain ⟨f0,d0,E_times_row⟩:=A_.h_times_row
  have G_times_row:aG P w K mg base CX0 2 f0 d0 gB (spP K gz):=vZ E_times_row A_ T xs
  obtain ⟨f1,d1,E_is_even⟩:=A_.h_is_even
  have G_is_even:aG P w K mg base CX0 4 f1 d1 jn (spP K jw):=yS E_is_even A_ T xs
  refine F.fn.ok jS (fun vs H Q E h=>a9 mW h) (fun cdv A outer s H vs Q E hr h=>?_)
  refine⟨_,(ar (b5 (PW.pt (kN (cL (cB (aF G_is_even (hr.mono (by decide)) rfl E_is_even.mg E_is_even.fn.kp E_is_even.bd .nil aD (aa (az (K:=K) rfl (pv 0) rfl) ai)))) (jN (cL (xN cY cY (ay (aU (K:=K) rfl) (by rfl) T.len_ PySem.boot_len (aa (az (K:=K) rfl (pv 0) rfl) ai)) (ay (aU (K:=K) rfl) (by rfl) T.len_ PySem.boot_len (aa (az (K:=K) rfl (pv 0) rfl) ai)) (ay (aU (K:=K) rfl) (by rfl) T.len_ PySem.boot_len (aa (az (K:=K) rfl (pv 0) rfl) ai))))))) (av (aH dH)) a8) (ar (bp (i:=1) jS.nd rfl (by first | exact Or.inl rfl | exact Or.inr rfl) (ay (eI (K:=K) rfl rfl) (by rfl) T.sum_ boot_sum (aa (aB (ax (K:=K) rfl) (az (K:=K) rfl (pv 0) rfl) ak (fun _ _=>rfl)) ai))) (av (aH (cE (lB hr.units) (aF G_times_row (hr.mono (by decide)) rfl E_times_row.mg E_times_row.fn.kp E_times_row.bd .nil aD (aa (az (K:=K) rfl (pv 0) rfl) (aa (az (K:=K) rfl (pv 0) rfl) ai))) (cg (aS.of (sc0:=(au dA)) (tn:=["number"]) (cap:=["bottom"]) (idx:=[1]) (by decide +kernel) rfl rfl) (bL (K:=K) rfl (az (K:=K) rfl (pv 0) rfl)) (fN.name (by decide)) (fun _ _ _ _ _=>ba (i:=0) (aX (l:=["number","bottom"]) (by decide +kernel)) rfl (by first | exact Or.inl rfl | exact Or.inr rfl) (by first | exact .inl rfl | exact .inr rfl)) (fun _ _ _ _ _=>(bj kX (pv 0) (pv 1)))) (a6 _)))))),bF (Γn:=[]) (N:=hV) (aA (bV (kQ (cO (fJ (EM.er (aL (S:=jw) wd (ah (ES.er (aK ["one","other","table"] 2 xs.i_LeadPaper.cl xs.n_LeadPaper_table (af 0))) aj))))) (cO (bh (EM.er (jQ gF gF (EM.er (aZ cF (ah (ES.er (aK ["one","other","table"] 2 xs.i_LeadPaper.cl xs.n_LeadPaper_table (af 0))) aj))) (EM.er (aZ cF (ah (ES.er (aK ["one","other","table"] 0 xs.i_LeadPaper.cl xs.n_LeadPaper_one (af 0))) aj))) (EM.er (aZ cF (ah (ES.er (aK ["one","other","table"] 1 xs.i_LeadPaper.cl xs.n_LeadPaper_other (af 0))) aj)))))))) (aI (M:=[]) dU) aY) (aA (ST.post (Γn:=[]) (bO 1 (EM.es (aZ ni (ah (ES.er (aM (aK ["one","other","table"] 2 xs.i_LeadPaper.cl xs.n_LeadPaper_table (af 0)) (EM.er ao))) aj))))) (aI (M:=[]) (aE oy (EM.er (aL (S:=gz) rF (ah (ES.er (aK ["one","other","table"] 2 xs.i_LeadPaper.cl xs.n_LeadPaper_table (af 0))) (ah (ES.er (aK ["one","other","table"] 1 xs.i_LeadPaper.cl xs.n_LeadPaper_other (af 0))) aj)))) (EM.er (bQ (cD (aK ["one","other","table"] 0 xs.i_LeadPaper.cl xs.n_LeadPaper_one (af 0))) (bc 0) (aE cN (ES.er (af 0)) (ES.er (af 1))))))))) (fun ds P hS=>?_) h⟩
  obtain ⟨one,other,t,n,m,rfl,hR,n1,n8,m1,m8,b1,b2,bt,lo,hP⟩:=hS
  rw[show aO hV [Ap c one other t]=[some (Ap c one other t),none] from rfl]
  walk_at "go"
  refine⟨t,n,m,rfl,hR,n1,by omega,m1,by omega,fun b hb=>?_⟩
  have lt:=hR.1
  have no:¬ Dz n m one other t→P (.bl false):=fun h=>hP false ⟨fun z=>(by cases z),fun z=>absurd z h⟩
  dsimp only
  cases b with
  | false =>
    walk_at "go"
    exact no fun z=>by have:=hb.mpr z.1;cases this
  | true =>
    have hE:=hb.mp rfl
    have nm:=hE.1
    walk_at "go"
    by_cases c1:t.length=one.length
    case neg =>
      rw[if_neg (by omega)]
      exact no fun z=>c1 (by rw[lt];exact z.2.1.symm)
    rw[if_pos (by omega)]
    by_cases c2:one.length=other.length
    case neg =>
      rw[if_pos (by omega)]
      exact no fun z=>c2 (z.2.1.trans z.2.2.1.symm)
    rw[if_neg (by omega)]
    have r0:=hR.row (i:=0) (by omega)
    have sb:=Fu (bt _ (mF (t:=t) (i:=0) (by omega))) (by omega)
    refine eu (by omega) ?_
    walk_at "go"
    refine⟨t,other,rfl,by omega,fun r hr=>by rw[hR.2 r hr];omega,by omega,bt.mono (by decide),b2.mono (by decide),?_⟩
    walk_at "go"
    refine jq (ns:=one) (g:=fun x=>.int (x*(rowAt t 0).sum)) (fun R h=>by walk_at "go";exact h) (by omega) (fun x hx R h=>?_) ?_
    · walk_at "gb"
      exact⟨⟨200,104,b1 x hx,sb,by decide⟩,h⟩
    rw[show one.map (fun x=>L3.D.int (x*(rowAt t 0).sum))=(one.map fun x=>x*(rowAt t 0).sum).map L3.D.int from gK]
    refine jt ?_
    rw[if_neg (by decide)]
    exact hP _ ⟨fun z=>⟨hE,by omega,by omega,of_decide_eq_true z⟩,fun z=>decide_eq_true z.2.2.2⟩
def kx (xs:List Int) (g t a:Int):Prop:=0≤g∧g<xs.length∧0≤t∧t<xs.length∧1≤a∧a≤xs.getD g.toNat 0 - xs.getD t.toNat 0
instance {xs:List Int}{g t a:Int}:Decidable (kx xs g t a):=by unfold kx;infer_instance
def dS (g t a:Int):D:=.tup [.int g,.int t,.int a]
def iu:DSp:=fun ds P=>∃xs g t a,ds=[dI xs,dS g t a]∧P (.bl (decide (kx xs g t a)))
theorem tN:br iu:=by
  intro xs P P' k h
  unfold iu at h ⊢
  grind
theorem vz:∀ds P,iu ds P→ds.length=2:=by
  intro ds P h
  obtain ⟨_,_,_,_,e,_⟩:=h
  rw[e];rfl
theorem xh {c:Cs}{f:Addr}{fd:FuncData} (F:FnAt K mg "can_step" kZ iE f fd) (A_:Fns K mg c) (T:Txt K mg) (xs:Exs K mg base c):aG P w K mg base CX0 2 f fd iE (spP K iu):=by
  obtain ⟨f0,d0,E_is_place⟩:=A_.h_is_place
  have G_is_place:aG P w K mg base CX0 1 f0 d0 gm (spP K cK):=qI E_is_place A_ T xs
  refine F.fn.ok lW (fun vs H Q E h=>a9 vz h) (fun cdv A outer s H vs Q E hr h=>?_)
  refine⟨_,(ar (bp (i:=2) lW.nd rfl (by first | exact Or.inl rfl | exact Or.inr rfl) (aB (bb (K:=K) rfl) (pv 1) ak (fun _ _=>rfl))) (ar (bp (i:=3) lW.nd rfl (by first | exact Or.inl rfl | exact Or.inr rfl) (aB (bb (K:=K) rfl) (pv 1) ak (fun _ _=>rfl))) (ar (b5 (PW.pt (kN (cL (cB (aF G_is_place (hr.mono (by decide)) rfl E_is_place.mg E_is_place.fn.kp E_is_place.bd .nil aD (aa (pv 2) (aa (ay (aU (K:=K) rfl) (by rfl) T.len_ PySem.boot_len (aa (pv 0) ai)) ai))))) (jN (cL (cB (aF G_is_place (hr.mono (by decide)) rfl E_is_place.mg E_is_place.fn.kp E_is_place.bd .nil aD (aa (pv 3) (aa (ay (aU (K:=K) rfl) (by rfl) T.len_ PySem.boot_len (aa (pv 0) ai)) ai)))))))) (av (aH dH)) a8) (av (aH (ma qD qD ak (aB (bb (K:=K) rfl) (pv 1) ak (fun _ _=>rfl)) (bj jK (aB (ax (K:=K) rfl) (pv 0) (pv 2) (fun _ _=>rfl)) (aB (ax (K:=K) rfl) (pv 0) (pv 3) (fun _ _=>rfl))))))))),bF (Γn:=[]) (N:=nr) (aA (ST.post (Γn:=[]) (bO 2 (bK (af 1) (EM.er ao)))) (aA (ST.post (Γn:=[]) (bO 3 (bK (af 1) (EM.er ao)))) (aA (bV (kQ (cO (fJ (EM.er (aL (S:=cK) eG (ah (ES.er (af 2)) (ah (EM.er (aZ cF (ah (ES.er (af 0)) aj))) aj)))))) (cO (fJ (EM.er (aL (S:=cK) eG (ah (ES.er (af 3)) (ah (EM.er (aZ cF (ah (ES.er (af 0)) aj))) aj))))))) (aI (M:=[]) dU) aY) (aI (M:=[]) (jQ lR lR (EM.er ao) (ES.er (bK (af 1) (EM.er ao))) (EM.er (aE eO (ES.er (aM (af 0) (ES.er (af 2)))) (ES.er (aM (af 0) (ES.er (af 3))))))))))) (fun ds P hS=>?_) h⟩
  obtain ⟨xs,g,t,a,rfl,hP⟩:=hS
  rw[show aO nr [dI xs,dS g t a]=[some (dI xs),some (dS g t a),none,none] from rfl]
  unfold dS
  walk_at "v"
  refine⟨_,_,rfl,?_⟩
  by_cases hg:0≤g∧g<(xs.length:Int)
  · rw[decide_eq_true hg]
    walk_at "v"
    refine⟨_,_,rfl,?_⟩
    by_cases ht:0≤t∧t<(xs.length:Int)
    · rw[decide_eq_true ht]
      walk_at "v"
      split
      · rename_i ha
        refine bR hg (bR ht ?_)
        walk_at "v"
        have e:decide (kx xs g t a)=decide (a≤xs.getD g.toNat 0 - xs.getD t.toNat 0):=by
          rw[Bool.eq_iff_iff,decide_eq_true_eq,decide_eq_true_eq]
          exact⟨fun z=>z.2.2.2.2.2,fun z=>⟨hg.1,hg.2,ht.1,ht.2,ha,z⟩⟩
        rw[e] at hP;exact hP
      · rename_i ha
        rw[decide_eq_false (fun z=>ha z.2.2.2.2.1)] at hP;exact hP
    · rw[decide_eq_false ht]
      walk_at "v"
      rw[decide_eq_false (fun z=>ht ⟨z.2.2.1,z.2.2.2.1⟩)] at hP;exact hP
  · rw[decide_eq_false hg]
    walk_at "v"
    rw[decide_eq_false (fun z=>hg ⟨z.1,z.2.1⟩)] at hP;exact hP
def iS (c:Cs):DSX:=fun ds P R=>∃xs g t a,ds=[dI xs,dS g t a]∧(kx xs g t a→P (dI (Maj.qW xs g.toNat t.toNat a)))∧(¬ kx xs g t a→R c.NoStep)
theorem sE {c:Cs}:ku (iS c):=by
  intro xs P P' R R' k kr h
  obtain ⟨ys,g,t,a,e,h1,h2⟩:=h
  exact⟨ys,g,t,a,e,fun z=>k _ (h1 z),fun z=>kr _ (h2 z)⟩
theorem tR {c:Cs}:∀ds P R,iS c ds P R→ds.length=2:=by
  intro ds P R h
  unfold iS at h
  grind
theorem wz {c:Cs}{f:Addr}{fd:FuncData} (F:FnAt K mg "step_made" jV gn f fd) (A_:Fns K mg c) (T:Txt K mg) (xs:Exs K mg base c):aG P w K mg base (CXR P w) 3 f fd gn (spX K (iS c)):=by
  obtain ⟨f0,d0,E_can_step⟩:=A_.h_can_step
  have G_can_step:aG P w K mg base CX0 2 f0 d0 iE (spP K iu):=xh E_can_step A_ T xs
  refine F.fn.okX oq (fun vs H Q E h=>vj tR h) (fun cdv A outer s H vs Q E hr h=>?_)
  refine⟨_,(ar (b5 (PT.nox (cL (cB (aF G_can_step (hr.mono (by decide)) rfl E_can_step.mg E_can_step.fn.kp E_can_step.bd .nil aD (aa (pv 0) (aa (pv 1) ai)))))) (av (tj (xs.o_NoStep.own xs.m_NoStep) PySem.F.excBase_ValueError rfl rfl vx (aa yx ai))) a8) (PSs.nox (ar (bp (i:=2) oq.nd rfl (by first | exact Or.inl rfl | exact Or.inr rfl) (cj (bT (K:=K) rfl) (by rfl) T.list_ boot_list (aa (pv 0) ai))) (ar (nQ (bj jK (aB (ax (K:=K) rfl) (pv 2) (aB (bb (K:=K) rfl) (pv 1) ak (fun _ _=>rfl)) (fun _ _=>rfl)) (aB (bb (K:=K) rfl) (pv 1) ak (fun _ _=>rfl))) (nj (pv 2) (aB (bb (K:=K) rfl) (pv 1) ak (fun _ _=>rfl)) set_list)) (ar (nQ (bj iz (aB (ax (K:=K) rfl) (pv 2) (aB (bb (K:=K) rfl) (pv 1) ak (fun _ _=>rfl)) (fun _ _=>rfl)) (aB (bb (K:=K) rfl) (pv 1) ak (fun _ _=>rfl))) (nj (pv 2) (aB (bb (K:=K) rfl) (pv 1) ak (fun _ _=>rfl)) set_list)) (av (aH (pv 2)))))))),wD (Γn:=[2]) (N:=me) (fun R=>(sT (BW (cO (fJ (EM.er (aL (S:=iu) tN (ah (ES.er (af 0)) (ah (ES.er (af 1)) aj)))))) (rV (ah (EM.er yQ) aj)) (ST.sx aY)) (ST.sx (aA (ST.post (Γn:=[2]) (eQ (M:=[]) 2 (aZ gj (ah (ES.er (af 0)) aj)))) (aA (sM 2 (aE eO (wx (fM 2) (ES.er (bK (af 1) (EM.er ao)))) (ES.er (bK (af 1) (EM.er ao)))) (ES.er (bK (af 1) (EM.er ao)))) (aA (sM 2 (aE eO (wx (fM 2) (ES.er (bK (af 1) (EM.er ao)))) (ES.er (bK (af 1) (EM.er ao)))) (ES.er (bK (af 1) (EM.er ao)))) (aI (M:=[2]) (oj 2)))))))) (fun ds P R hS=>?_) h⟩
  obtain ⟨xs,g,t,a,rfl,hP,hR⟩:=hS
  rw[show aO me [dI xs,dS g t a]=[some (dI xs),some (dS g t a),none] from rfl]
  walk_at "v"
  refine⟨xs,g,t,a,rfl,?_⟩
  by_cases h:kx xs g t a
  · rw[decide_eq_true h]
    obtain ⟨g1,g2,t1,t2,a1,a2⟩:=id h
    have hP:=hP h
    walk_at "go"
    refine oK (r:=xs) (a:=g) (v:=xs.getD g.toNat 0 - a) rfl (fun R h=>?_) (fun R h=>?_) (by omega) ?_
    · unfold dS
      walk_at "v"
      refine bR (by omega) ?_
      walk_at "v"
      exact h
    · unfold dS
      walk_at "v"
      exact h
    · walk_at "v"
      refine oK (r:=xs.set g.toNat (xs.getD g.toNat 0 - a)) (a:=t) (v:=(xs.set g.toNat (xs.getD g.toNat 0 - a)).getD t.toNat 0+a) rfl (fun R h=>?_) (fun R h=>?_) (by rw[List.length_set];omega) ?_
      · unfold dS
        walk_at "v"
        refine bR (by rw[List.length_set];omega) ?_
        walk_at "v"
        exact h
      · unfold dS
        walk_at "v"
        exact h
      · walk_at "v"
        exact hP
  · rw[decide_eq_false h]
    walk_at "go"
    exact hR h
def dS3 (q:Int × Int × Int):D:=dS q.1 q.2.1 q.2.2
def goL:List Int→List (Int × Int × Int)→Option (List Int)
  | xs,[]=>some xs
  | xs,(g,t,a)::r=>if kx xs g t a then goL (Maj.qW xs g.toNat t.toNat a) r else none
theorem CY {xs:List Int}{g t a:Int}{r:List (Int × Int × Int)} (h:kx xs g t a):goL xs ((g,t,a)::r)=goL (Maj.qW xs g.toNat t.toNat a) r:=by rw[goL,if_pos h]
theorem FK {xs:List Int}{g t a:Int}{r:List (Int × Int × Int)} (h:¬ kx xs g t a):goL xs ((g,t,a)::r)=none:=by rw[goL,if_neg h]
def gG (c:Cs):DSX:=fun ds P R=>∃(xs:List Int) (ss:List (Int × Int × Int)),ds=[dI xs,.lst (ss.map dS3)]∧(∀ys,goL xs ss=some ys→P (dI ys))∧(goL xs ss=none→R c.NoStep)
theorem qQ {c:Cs}:ku (gG c):=by
  intro xs P P' R R' k kr h
  obtain ⟨ys,ss,e,h1,h2⟩:=h
  exact⟨ys,ss,e,fun z y=>k _ (h1 z y),fun z=>kr _ (h2 z)⟩
theorem rW {c:Cs}:∀ds P R,gG c ds P R→ds.length=2:=by
  intro ds P R h
  unfold gG at h
  grind
theorem tX {c:Cs}{f:Addr}{fd:FuncData} (F:FnAt K mg "row_behind" jc fk f fd) (A_:Fns K mg c) (T:Txt K mg) (xs:Exs K mg base c):aG P w K mg base (CXR P w) 4 f fd fk (yr K (gG c)):=by
  obtain ⟨f0,d0,E_step_made⟩:=A_.h_step_made
  have G_step_made:aG P w K mg base (CXR P w) 3 f0 d0 gn (spX K (iS c)):=wz E_step_made A_ T xs
  refine F.fn.okX kl (fun vs H Q E h=>yc rW h) (fun cdv A outer s H vs Q E hr h=>?_)
  refine⟨_,(ar (i6 PassesOwn.leaving rfl (bL (K:=K) rfl (pv 1)) (ba (i:=2) kl.nd rfl (by first | exact Or.inl rfl | exact Or.inr rfl)) (av (bp (i:=0) kl.nd rfl (by first | exact Or.inl rfl | exact Or.inr rfl) (aF G_step_made (hr.mono (by decide)) rfl E_step_made.mg E_step_made.fn.kp E_step_made.bd .nil Cu (PA.nox (aa (pv 0) (aa (pv 2) ai))))))) (PSs.nox (av (aH (pv 0))))),x9 (Γn:=[]) (N:=lq) (fun R=>(sT (CA (cD (af 1)) (bc 2) (SX.post (Γn:=[]) (Bc 0 sE (ah (ES.er (af 0)) (ah (ES.er (af 2)) aj))))) (ST.sx (wO (ES.er (af 0)))))) (fun ds P R hS=>?_) h⟩
  obtain ⟨xs,ss,rfl,hP,hR⟩:=hS
  rw[show aO lq [dI xs,.lst (ss.map dS3)]=[some (dI xs),some (.lst (ss.map dS3)),none] from rfl]
  walk_at "go"
  refine jA (as:=ss) (f:=dS3) (fun i δ=>∃(zs:List Int) (o2:Option D),δ=[some (dI zs),some (.lst (ss.map dS3)),o2]∧goL zs (ss.drop i)=goL xs ss) ⟨xs,none,rfl,rfl⟩ ?_ ?_
  · rintro i ⟨g,t,a⟩ δ N e ⟨zs,o2,rfl,hW⟩ hN
    obtain ⟨h1,h2⟩:=List.getElem?_eq_some_iff.mp e
    rw[List.drop_eq_getElem_cons h1,h2] at hW
    walk_at "go"
    refine⟨zs,g,t,a,rfl,fun h=>hN _ ⟨_,_,rfl,by rw[← hW,CY h]⟩,fun h=>hR (by rw[← hW,FK h])⟩
  · rintro δ ⟨zs,o2,rfl,hW⟩
    rw[List.drop_length] at hW
    walk_at "go"
    exact hP zs hW.symm
abbrev zU:List Str:=["one","other","steps"]
abbrev AD (c:Cs) (one other:List Int) (ss:List (Int × Int × Int)):D:=.ins c.StepPaper zU [dI one,dI other,.lst (ss.map dS3)]
theorem Eb {ss:List (Int × Int × Int)}:(ss.map dS3).all L3.m3=true:=by
  rw[List.all_map,List.all_eq_true];exact fun _ _=>rfl
def ck (c:Cs):DSp:=fun ds P=>∃(one other:List Int) (ss:List (Int × Int × Int)),ds=[dI one,dI other,.lst (ss.map dS3)]∧P (AD c one other ss)
theorem mY {c:Cs}:br (ck c):=by
  intro xs P P' k h
  unfold ck at h ⊢
  grind
theorem nP {c:Cs}:∀ds P,(ck c) ds P→ds.length=3:=by
  intro ds P h
  obtain ⟨_,_,_,e,_⟩:=h
  rw[e];rfl
theorem nW {c:Cs}:∀ds P,(ck c) ds P→(ck c) ds fun d=>(∃ns dd,d=.ins c.StepPaper ns dd)∧P d:=by
  intro ds P h
  unfold ck at h ⊢
  grind
theorem oV {c:Cs}{f:Addr}{fd:FuncData} (F:h8 K mg "StepPaper" c.StepPaper "StepPaper.__init__" fA cS f fd) (A_:Fns K mg c) (T:Txt K mg) (xs:Exs K mg base c):aG P w K mg base CX0 1 f fd cS (spN K c.StepPaper (ck c)):=by
  refine F.fn.ok ot (fun vs H Q E h=>ki nP h) (fun cdv A outer s H vs Q E hr h=>?_)
  refine⟨_,(ar (bP (K:=K) rfl (pv 0) (cj (bT (K:=K) rfl) (by rfl) T.list_ boot_list (aa (pv 1) ai)) rfl) (ar (bP (K:=K) rfl (pv 0) (cj (bT (K:=K) rfl) (by rfl) T.list_ boot_list (aa (pv 2) ai)) rfl) (av (bP (K:=K) rfl (pv 0) (cj (bT (K:=K) rfl) (by rfl) T.list_ boot_list (aa (pv 3) ai)) rfl)))),mv (N:=iD) (cA xs.i_StepPaper.cl xs.n_StepPaper_one (aZ gj (ah (ES.er (af 1)) aj)) (cA xs.i_StepPaper.cl xs.n_StepPaper_other (aZ gj (ah (ES.er (af 2)) aj)) (j5 xs.i_StepPaper.cl xs.n_StepPaper_steps (aZ zI (ah (ES.er (af 3)) aj))))) (fun ds P hS=>?_) (by decide) (by decide +kernel) (by decide) h⟩
  obtain ⟨one,other,ss,rfl,hP⟩:=hS
  rw[show aO (iD.drop 1) [dI one,dI other,.lst (ss.map dS3)]=[some (dI one),some (dI other),some (.lst (ss.map dS3))] from rfl]
  walk_at "go"
  exact⟨Eb,hP⟩
def bw (c:Cs):DSp:=fun ds P=>∃(one other:List Int) (ss:List (Int × Int × Int)),ds=[AD c one other ss]∧P (.bl (decide (goL other ss=some one)))
theorem dD {c:Cs}:br (bw c):=by
  intro xs P P' k h
  unfold bw at h ⊢
  grind
theorem mV {c:Cs}:∀ds P,(bw c) ds P→ds.length=1:=by
  intro ds P h
  obtain ⟨_,_,_,e,_⟩:=h
  rw[e];rfl
theorem fZ {c:Cs}{f:Addr}{fd:FuncData} (F:fP K c.StepPaper "holds" "StepPaper.holds" eM b4 f fd) (A_:Fns K mg c) (T:Txt K mg) (xs:Exs K mg base c):aG P w K mg base CX0 5 f fd b4 (spP K (bw c)):=by
  obtain ⟨f0,d0,E_row_behind⟩:=A_.h_row_behind
  have G_row_behind:aG P w K mg base (CXR P w) 4 f0 d0 fk (yr K (gG c)):=tX E_row_behind A_ T xs
  refine F.fn.ok ny (fun vs H Q E h=>a9 mV h) (fun cdv A outer s H vs Q E hr h=>?_)
  refine⟨_,(av (wX rfl rfl G_row_behind (hr.mono (by decide)) rfl E_row_behind.mg E_row_behind.fn.kp E_row_behind.bd (aa (az (K:=K) rfl (pv 0) rfl) (aa (az (K:=K) rfl (pv 0) rfl) ai)) (az (K:=K) rfl (pv 0) rfl) (lB hr.units) xs.o_NoStep xs.o_NoStep xs.m_NoStep rfl (by simp) (fun a oe hc=>(av (aH dH))) (a6 _))),bF (Γn:=[]) (N:=gQ) (xC qQ oy (ah (ES.er (aK ["one","other","steps"] 1 xs.i_StepPaper.cl xs.n_StepPaper_other (af 0))) (ah (ES.er (aK ["one","other","steps"] 2 xs.i_StepPaper.cl xs.n_StepPaper_steps (af 0))) aj)) (ES.er (aK ["one","other","steps"] 0 xs.i_StepPaper.cl xs.n_StepPaper_one (af 0))) (aI (M:=[]) dU)) (fun ds P hS=>?_) h⟩
  obtain ⟨one,other,ss,rfl,hP⟩:=hS
  rw[show aO gQ [AD c one other ss]=[some (AD c one other ss)] from rfl]
  walk_at "go"
  refine⟨other,ss,rfl,fun ys e=>?_,fun e=>⟨rfl,?_⟩⟩
  · refine jt ?_
    have e2:decide (goL other ss=some one)=decide (ys=one):=by
      rw[e,Bool.eq_iff_iff,decide_eq_true_eq,decide_eq_true_eq]
      exact⟨fun z=>Option.some.inj z,fun z=>by rw[z]⟩
    rw[e2] at hP
    exact hP
  · rw[decide_eq_false (by rw[e];exact fun z=>(nomatch z))] at hP
    exact hP
abbrev zN:List Str:=["one","other","k"]
abbrev AU (c:Cs) (one other:List Int) (k:Int):D:=.ins c.BarPaper zN [dI one,dI other,.int k]
def cv (c:Cs):DSp:=fun ds P=>∃(one other:List Int) (k:Int),ds=[dI one,dI other,.int k]∧P (AU c one other k)
theorem nN {c:Cs}:br (cv c):=by
  intro xs P P' k h
  unfold cv at h ⊢
  grind
theorem oo {c:Cs}:∀ds P,(cv c) ds P→ds.length=3:=by
  intro ds P h
  obtain ⟨_,_,_,e,_⟩:=h
  rw[e];rfl
theorem pq {c:Cs}:∀ds P,(cv c) ds P→(cv c) ds fun d=>(∃ns dd,d=.ins c.BarPaper ns dd)∧P d:=by
  intro ds P h
  unfold cv at h ⊢
  grind
theorem p6 {c:Cs}{f:Addr}{fd:FuncData} (F:h8 K mg "BarPaper" c.BarPaper "BarPaper.__init__" fV c4 f fd) (A_:Fns K mg c) (T:Txt K mg) (xs:Exs K mg base c):aG P w K mg base CX0 1 f fd c4 (spN K c.BarPaper (cv c)):=by
  refine F.fn.ok qf (fun vs H Q E h=>ki oo h) (fun cdv A outer s H vs Q E hr h=>?_)
  refine⟨_,(ar (bP (K:=K) rfl (pv 0) (cj (bT (K:=K) rfl) (by rfl) T.list_ boot_list (aa (pv 1) ai)) rfl) (ar (bP (K:=K) rfl (pv 0) (cj (bT (K:=K) rfl) (by rfl) T.list_ boot_list (aa (pv 2) ai)) rfl) (av (bP (K:=K) rfl (pv 0) (pv 3) rfl)))),mv (N:=i5) (cA xs.i_BarPaper.cl xs.n_BarPaper_one (aZ gj (ah (ES.er (af 1)) aj)) (cA xs.i_BarPaper.cl xs.n_BarPaper_other (aZ gj (ah (ES.er (af 2)) aj)) (j5 xs.i_BarPaper.cl xs.n_BarPaper_k (ER.bC (ES.er (af 3)))))) (fun ds P hS=>?_) (by decide) (by decide +kernel) (by decide) h⟩
  obtain ⟨one,other,k,rfl,hP⟩:=hS
  rw[show aO (i5.drop 1) [dI one,dI other,.int k]=[some (dI one),some (dI other),some (.int k)] from rfl]
  walk_at "go"
  exact hP
def uD (one other:List Int) (k:Int):Prop:=one.length=other.length∧one.sum=other.sum∧1≤k∧k≤one.length∧Maj.nI other k.toNat<Maj.nI one k.toNat
instance {one other:List Int}{k:Int}:Decidable (uD one other k):=by unfold uD;infer_instance
def bJ (c:Cs):DSp:=fun ds P=>∃(one other:List Int) (k:Int),ds=[AU c one other k]∧one.length<64∧other.length<64∧P (.bl (decide (uD one other k)))
theorem dO {c:Cs}:br (bJ c):=by
  intro xs P P' k h
  unfold bJ at h ⊢
  grind
theorem nJ {c:Cs}:∀ds P,(bJ c) ds P→ds.length=1:=by
  intro ds P h
  obtain ⟨_,_,_,e,_⟩:=h
  rw[e];rfl
theorem gS {c:Cs}{f:Addr}{fd:FuncData} (F:fP K c.BarPaper "holds" "BarPaper.holds" fB cn f fd) (A_:Fns K mg c) (T:Txt K mg) (xs:Exs K mg base c):aG P w K mg base CX0 3 f fd cn (spP K (bJ c)):=by
  obtain ⟨f0,d0,E_heads_of⟩:=A_.h_heads_of
  have G_heads_of:aG P w K mg base CX0 2 f0 d0 ip (spP K gh):=xY E_heads_of A_ T xs
  refine F.fn.ok pb (fun vs H Q E h=>a9 nJ h) (fun cdv A outer s H vs Q E hr h=>?_)
  refine⟨_,(ar (b5 (PW.pt (kN (bD tq (ay (aU (K:=K) rfl) (by rfl) T.len_ PySem.boot_len (aa (az (K:=K) rfl (pv 0) rfl) ai)) (ay (aU (K:=K) rfl) (by rfl) T.len_ PySem.boot_len (aa (az (K:=K) rfl (pv 0) rfl) ai)) (a6 _)) (jN (bD tq (ay (eI (K:=K) rfl rfl) (by rfl) T.sum_ boot_sum (aa (az (K:=K) rfl (pv 0) rfl) ai)) (ay (eI (K:=K) rfl rfl) (by rfl) T.sum_ boot_sum (aa (az (K:=K) rfl (pv 0) rfl) ai)) (a6 _))))) (av (aH dH)) a8) (ar (b5 (cL (xN qD qD ak (az (K:=K) rfl (pv 0) rfl) (ay (aU (K:=K) rfl) (by rfl) T.len_ PySem.boot_len (aa (az (K:=K) rfl (pv 0) rfl) ai)))) (av (aH dH)) a8) (av (aH (cE Cq (aB (ax (K:=K) rfl) (aF G_heads_of (hr.mono (by decide)) rfl E_heads_of.mg E_heads_of.fn.kp E_heads_of.bd .nil aD (aa (az (K:=K) rfl (pv 0) rfl) ai)) (bj jK (az (K:=K) rfl (pv 0) rfl) ak) (fun _ _=>rfl)) (aB (ax (K:=K) rfl) (aF G_heads_of (hr.mono (by decide)) rfl E_heads_of.mg E_heads_of.fn.kp E_heads_of.bd .nil aD (aa (az (K:=K) rfl (pv 0) rfl) ai)) (bj jK (az (K:=K) rfl (pv 0) rfl) ak) (fun _ _=>rfl)) (a6 _)))))),bF (Γn:=[]) (N:=ic) (aA (bV (kQ (bh (EM.er (aE yw (EM.er (aZ cF (ah (ES.er (aK ["one","other","k"] 0 xs.i_BarPaper.cl xs.n_BarPaper_one (af 0))) aj))) (EM.er (aZ cF (ah (ES.er (aK ["one","other","k"] 1 xs.i_BarPaper.cl xs.n_BarPaper_other (af 0))) aj)))))) (bh (EM.er (aE yw (EM.er (aZ ni (ah (ES.er (aK ["one","other","k"] 0 xs.i_BarPaper.cl xs.n_BarPaper_one (af 0))) aj))) (EM.er (aZ ni (ah (ES.er (aK ["one","other","k"] 1 xs.i_BarPaper.cl xs.n_BarPaper_other (af 0))) aj))))))) (aI (M:=[]) dU) aY) (aA (bV (cO (bh (EM.er (jQ lR lR (EM.er ao) (ES.er (aK ["one","other","k"] 2 xs.i_BarPaper.cl xs.n_BarPaper_k (af 0))) (EM.er (aZ cF (ah (ES.er (aK ["one","other","k"] 0 xs.i_BarPaper.cl xs.n_BarPaper_one (af 0))) aj))))))) (aI (M:=[]) dU) aY) (aI (M:=[]) (aE lR (ES.er (aM (EM.es (aL (S:=gh) nc (ah (ES.er (aK ["one","other","k"] 0 xs.i_BarPaper.cl xs.n_BarPaper_one (af 0))) aj))) (EM.er (aE eO (ES.er (aK ["one","other","k"] 2 xs.i_BarPaper.cl xs.n_BarPaper_k (af 0))) (EM.er ao))))) (ES.er (aM (EM.es (aL (S:=gh) nc (ah (ES.er (aK ["one","other","k"] 1 xs.i_BarPaper.cl xs.n_BarPaper_other (af 0))) aj))) (EM.er (aE eO (ES.er (aK ["one","other","k"] 2 xs.i_BarPaper.cl xs.n_BarPaper_k (af 0))) (EM.er ao))))))))) (fun ds P hS=>?_) h⟩
  obtain ⟨one,other,k,rfl,h1,h2,hP⟩:=hS
  rw[show aO ic [AU c one other k]=[some (AU c one other k)] from rfl]
  walk_at "go"
  by_cases e1:one.length=other.length
  · rw[if_neg (fun z=>z (by rw[e1]))]
    by_cases e2:one.sum=other.sum
    · rw[if_neg (fun z=>z e2)]
      by_cases e3:1≤k
      · rw[if_pos e3]
        by_cases e4:k≤(one.length:Int)
        · rw[if_neg (fun z=>z e4)]
          have e5:(k - 1).toNat+1=k.toNat:=by omega
          refine⟨one,rfl,h1,?_⟩
          walk_at "go"
          refine bR (by rw[rl];omega) ?_
          refine⟨other,rfl,h2,?_⟩
          walk_at "go"
          refine bR (by rw[rl];omega) ?_
          rw[ui (by omega),ui (by omega),e5]
          walk_at "go"
          have e6:decide (uD one other k)=decide (Maj.nI other k.toNat<Maj.nI one k.toNat):=by
            rw[Bool.eq_iff_iff,decide_eq_true_eq,decide_eq_true_eq]
            exact⟨fun z=>z.2.2.2.2,fun z=>⟨e1,e2,e3,e4,z⟩⟩
          rw[e6] at hP
          exact hP
        · rw[if_pos e4]
          rw[decide_eq_false (fun z=>e4 z.2.2.2.1)] at hP
          exact hP
      · rw[if_neg e3]
        rw[decide_eq_false (fun z=>e3 z.2.2.1)] at hP
        exact hP
    · rw[if_pos e2]
      rw[decide_eq_false (fun z=>e2 z.2.1)] at hP
      exact hP
  · rw[if_pos (fun z=>e1 (by omega))]
    rw[decide_eq_false (fun z=>e1 z.1)] at hP
    exact hP
def dW (i j k l:Int):D:=.tup [.int i,.int j,.int k,.int l]
def iC:DSp:=fun ds P=>∃(t:List (List Int)) (n m:Nat) (i j k l:Int),ds=[dT t,dW i j k l]∧cM n m t∧1≤n∧P (.bl (decide (gR n m t i j k l)))
theorem ug:br iC:=by
  intro xs P P' k h
  unfold iC at h ⊢
  grind
theorem vT:∀ds P,iC ds P→ds.length=2:=by
  intro ds P h
  obtain ⟨_,_,_,_,_,_,_,e,_⟩:=h
  rw[e];rfl
theorem xw {c:Cs}{f:Addr}{fd:FuncData} (F:FnAt K mg "can_swap" lx ik f fd) (A_:Fns K mg c) (T:Txt K mg) (xs:Exs K mg base c):aG P w K mg base CX0 2 f fd ik (spP K iC):=by
  obtain ⟨f0,d0,E_is_place⟩:=A_.h_is_place
  have G_is_place:aG P w K mg base CX0 1 f0 d0 gm (spP K cK):=qI E_is_place A_ T xs
  refine F.fn.ok mr (fun vs H Q E h=>a9 vT h) (fun cdv A outer s H vs Q E hr h=>?_)
  refine⟨_,(ar (b5 (PW.pt (kN (cL (cB (aF G_is_place (hr.mono (by decide)) rfl E_is_place.mg E_is_place.fn.kp E_is_place.bd .nil aD (aa (aB (bb (K:=K) rfl) (pv 1) ak (fun _ _=>rfl)) (aa (ay (aU (K:=K) rfl) (by rfl) T.len_ PySem.boot_len (aa (pv 0) ai)) ai))))) (jN (cL (cB (aF G_is_place (hr.mono (by decide)) rfl E_is_place.mg E_is_place.fn.kp E_is_place.bd .nil aD (aa (aB (bb (K:=K) rfl) (pv 1) ak (fun _ _=>rfl)) (aa (ay (aU (K:=K) rfl) (by rfl) T.len_ PySem.boot_len (aa (pv 0) ai)) ai)))))))) (av (aH dH)) a8) (ar (bp (i:=2) mr.nd rfl (by first | exact Or.inl rfl | exact Or.inr rfl) (aB (ax (K:=K) rfl) (pv 0) (aB (bb (K:=K) rfl) (pv 1) ak (fun _ _=>rfl)) (fun _ _=>rfl))) (ar (bp (i:=3) mr.nd rfl (by first | exact Or.inl rfl | exact Or.inr rfl) (aB (ax (K:=K) rfl) (pv 0) (aB (bb (K:=K) rfl) (pv 1) ak (fun _ _=>rfl)) (fun _ _=>rfl))) (ar (b5 (PW.pt (kN (cL (cB (aF G_is_place (hr.mono (by decide)) rfl E_is_place.mg E_is_place.fn.kp E_is_place.bd .nil aD (aa (aB (bb (K:=K) rfl) (pv 1) ak (fun _ _=>rfl)) (aa (ay (aU (K:=K) rfl) (by rfl) T.len_ PySem.boot_len (aa (pv 2) ai)) ai))))) (jN (cL (cB (aF G_is_place (hr.mono (by decide)) rfl E_is_place.mg E_is_place.fn.kp E_is_place.bd .nil aD (aa (aB (bb (K:=K) rfl) (pv 1) ak (fun _ _=>rfl)) (aa (ay (aU (K:=K) rfl) (by rfl) T.len_ PySem.boot_len (aa (pv 2) ai)) ai)))))))) (av (aH dH)) a8) (av (aH (ie (ma cY cY (aB (ax (K:=K) rfl) (pv 2) (aB (bb (K:=K) rfl) (pv 1) ak (fun _ _=>rfl)) (fun _ _=>rfl)) (aB (ax (K:=K) rfl) (pv 3) (aB (bb (K:=K) rfl) (pv 1) ak (fun _ _=>rfl)) (fun _ _=>rfl)) ak) (ib (ma cY cY (aB (ax (K:=K) rfl) (pv 2) (aB (bb (K:=K) rfl) (pv 1) ak (fun _ _=>rfl)) (fun _ _=>rfl)) (aB (ax (K:=K) rfl) (pv 3) (aB (bb (K:=K) rfl) (pv 1) ak (fun _ _=>rfl)) (fun _ _=>rfl)) ak))))))))),bF (Γn:=[]) (N:=nD) (aA (bV (kQ (cO (fJ (EM.er (aL (S:=cK) eG (ah (ES.er (bK (af 1) (EM.er ao))) (ah (EM.er (aZ cF (ah (ES.er (af 0)) aj))) aj)))))) (cO (fJ (EM.er (aL (S:=cK) eG (ah (ES.er (bK (af 1) (EM.er ao))) (ah (EM.er (aZ cF (ah (ES.er (af 0)) aj))) aj))))))) (aI (M:=[]) dU) aY) (aA (ST.post (Γn:=[]) (bO 2 (aM (af 0) (ES.er (bK (af 1) (EM.er ao)))))) (aA (ST.post (Γn:=[]) (bO 3 (aM (af 0) (ES.er (bK (af 1) (EM.er ao)))))) (aA (bV (kQ (cO (fJ (EM.er (aL (S:=cK) eG (ah (ES.er (bK (af 1) (EM.er ao))) (ah (EM.er (aZ cF (ah (ES.er (af 2)) aj))) aj)))))) (cO (fJ (EM.er (aL (S:=cK) eG (ah (ES.er (bK (af 1) (EM.er ao))) (ah (EM.er (aZ cF (ah (ES.er (af 2)) aj))) aj))))))) (aI (M:=[]) dU) aY) (aI (M:=[]) (fm (EM.er (jQ gF gF (ES.er (aM (af 2) (ES.er (bK (af 1) (EM.er ao))))) (ES.er (aM (af 3) (ES.er (bK (af 1) (EM.er ao))))) (EM.er ao))) (jQ gF gF (ES.er (aM (af 2) (ES.er (bK (af 1) (EM.er ao))))) (ES.er (aM (af 3) (ES.er (bK (af 1) (EM.er ao))))) (EM.er ao)))))))) (fun ds P hS=>?_) h⟩
  obtain ⟨t,n,m,i,j,k,l,rfl,hR,hn,hP⟩:=hS
  rw[show aO nD [dT t,dW i j k l]=[some (dT t),some (dW i j k l),none,none] from rfl]
  have hlen:=hR.1
  unfold dW
  walk_at "v"
  rw[hlen]
  refine⟨_,_,rfl,?_⟩
  by_cases hi:0≤i∧i<(n:Int)
  · rw[decide_eq_true hi]
    walk_at "v"
    refine⟨_,_,rfl,?_⟩
    by_cases hk:0≤k∧k<(n:Int)
    · rw[decide_eq_true hk]
      walk_at "v"
      have ri:=hR.row (i:=i.toNat) (by omega)
      have rk:=hR.row (i:=k.toNat) (by omega)
      refine eu (by omega) ?_
      walk_at "v"
      refine eu (by omega) ?_
      walk_at "v"
      rw[ri]
      refine⟨_,_,rfl,?_⟩
      by_cases hj:0≤j∧j<(m:Int)
      · rw[decide_eq_true hj]
        walk_at "v"
        refine⟨_,_,rfl,?_⟩
        by_cases hl:0≤l∧l<(m:Int)
        · rw[decide_eq_true hl]
          walk_at "v"
          refine bR (by omega) (bR (by omega) ?_)
          walk_at "v"
          have key:∀b:Bool,(b=true↔cellAt t i.toNat j.toNat=1∧cellAt t i.toNat l.toNat=0∧cellAt t k.toNat j.toNat=0∧cellAt t k.toNat l.toNat=1)→P (.bl b):=fun b hb=>by
            have e:decide (gR n m t i j k l)=b:=by
              rw[Bool.eq_iff_iff,decide_eq_true_eq,hb]
              exact⟨fun z=>z.2.2.2.2,fun z=>⟨hi,hk,hj,hl,z⟩⟩
            rw[e] at hP;exact hP
          split
          · rename_i a1
            by_cases a2:cellAt t k.toNat l.toNat=1
            · rw[if_pos (show (rowAt t k.toNat).getD l.toNat 0=1 from a2)]
              walk_at "v"
              refine bR (by omega) (bR (by omega) ?_)
              walk_at "v"
              split
              · rename_i a3
                refine key _ ?_
                rw[decide_eq_true_eq]
                exact⟨fun z=>⟨Eq.trans a1 a2,Eq.trans a3 z,z,a2⟩,fun z=>z.2.2.1⟩
              · rename_i a3
                refine key _ ⟨fun z=>(nomatch z),fun z=>?_⟩
                exact absurd (Eq.trans z.2.1 z.2.2.1.symm) a3
            · rw[if_neg (show ¬ (rowAt t k.toNat).getD l.toNat 0=1 from a2)]
              walk_at "v"
              exact key _ ⟨fun z=>(nomatch z),fun z=>absurd z.2.2.2 a2⟩
          · rename_i a1
            refine key _ ⟨fun z=>(nomatch z),fun z=>?_⟩
            exact absurd (Eq.trans z.1 z.2.2.2.symm) a1
        · rw[decide_eq_false hl]
          walk_at "v"
          rw[decide_eq_false (fun z=>hl z.2.2.2.1)] at hP;exact hP
      · rw[decide_eq_false hj]
        walk_at "v"
        rw[decide_eq_false (fun z=>hj z.2.2.1)] at hP;exact hP
    · rw[decide_eq_false hk]
      walk_at "v"
      rw[decide_eq_false (fun z=>hk z.2.1)] at hP;exact hP
  · rw[decide_eq_false hi]
    walk_at "v"
    rw[decide_eq_false (fun z=>hi z.1)] at hP;exact hP
def jX (c:Cs):DSX:=fun ds P R=>∃(t:List (List Int)) (n m:Nat) (i j k l:Int),ds=[dT t,dW i j k l]∧cM n m t∧1≤n∧n≤8∧(gR n m t i j k l→P (dT (oE t i.toNat j.toNat k.toNat l.toNat)))∧(¬ gR n m t i j k l→R c.NoSwap)
theorem sD {c:Cs}:ku (jX c):=by
  intro xs P P' R R' k kr h
  obtain ⟨t,n,m,i,j,k',l,e,h1,h2,h3,h4,h5⟩:=h
  exact⟨t,n,m,i,j,k',l,e,h1,h2,h3,fun z=>k _ (h4 z),fun z=>kr _ (h5 z)⟩
theorem ue {c:Cs}:∀ds P R,jX c ds P R→ds.length=2:=by
  intro ds P R h
  obtain ⟨t,n,m,i,j,k',l,e,h1⟩:=h
  rw[e];rfl
theorem wM {c:Cs}{f:Addr}{fd:FuncData} (F:FnAt K mg "swap_made" kh gx f fd) (A_:Fns K mg c) (T:Txt K mg) (xs:Exs K mg base c):aG P w K mg base (CXR P w) 3 f fd gx (spX K (jX c)):=by
  obtain ⟨f0,d0,E_copied_table⟩:=A_.h_copied_table
  have G_copied_table:aG P w K mg base CX0 1 f0 d0 bE (spP K aR):=cJ E_copied_table A_ T xs
  obtain ⟨f1,d1,E_can_swap⟩:=A_.h_can_swap
  have G_can_swap:aG P w K mg base CX0 2 f1 d1 ik (spP K iC):=xw E_can_swap A_ T xs
  refine F.fn.okX oA (fun vs H Q E h=>vj ue h) (fun cdv A outer s H vs Q E hr h=>?_)
  refine⟨_,(ar (b5 (PT.nox (cL (cB (aF G_can_swap (hr.mono (by decide)) rfl E_can_swap.mg E_can_swap.fn.kp E_can_swap.bd .nil aD (aa (pv 0) (aa (pv 1) ai)))))) (av (tj (xs.o_NoSwap.own xs.m_NoSwap) PySem.F.excBase_ValueError rfl rfl vx (aa yx ai))) a8) (PSs.nox (ar (bp (i:=2) oA.nd rfl (by first | exact Or.inl rfl | exact Or.inr rfl) (aF G_copied_table (hr.mono (by decide)) rfl E_copied_table.mg E_copied_table.fn.kp E_copied_table.bd .nil aD (aa (pv 0) ai))) (ar (nQ ak (nj (aB (ax (K:=K) rfl) (pv 2) (aB (bb (K:=K) rfl) (pv 1) ak (fun _ _=>rfl)) (fun _ _=>rfl)) (aB (bb (K:=K) rfl) (pv 1) ak (fun _ _=>rfl)) set_list)) (ar (nQ ak (nj (aB (ax (K:=K) rfl) (pv 2) (aB (bb (K:=K) rfl) (pv 1) ak (fun _ _=>rfl)) (fun _ _=>rfl)) (aB (bb (K:=K) rfl) (pv 1) ak (fun _ _=>rfl)) set_list)) (ar (nQ ak (nj (aB (ax (K:=K) rfl) (pv 2) (aB (bb (K:=K) rfl) (pv 1) ak (fun _ _=>rfl)) (fun _ _=>rfl)) (aB (bb (K:=K) rfl) (pv 1) ak (fun _ _=>rfl)) set_list)) (ar (nQ ak (nj (aB (ax (K:=K) rfl) (pv 2) (aB (bb (K:=K) rfl) (pv 1) ak (fun _ _=>rfl)) (fun _ _=>rfl)) (aB (bb (K:=K) rfl) (pv 1) ak (fun _ _=>rfl)) set_list)) (av (aH (pv 2)))))))))),wD (Γn:=[2]) (N:=lN) (fun R=>(sT (BW (cO (fJ (EM.er (aL (S:=iC) ug (ah (ES.er (af 0)) (ah (ES.er (af 1)) aj)))))) (rV (ah (EM.er yQ) aj)) (ST.sx aY)) (ST.sx (aA (ST.post (Γn:=[2]) (eQ (M:=[]) 2 (aL (S:=aR) bq (ah (ES.er (af 0)) aj)))) (aA (jU 2 ao (ES.er (bK (af 1) (EM.er ao))) (ES.er (bK (af 1) (EM.er ao)))) (aA (jU 2 ao (ES.er (bK (af 1) (EM.er ao))) (ES.er (bK (af 1) (EM.er ao)))) (aA (jU 2 ao (ES.er (bK (af 1) (EM.er ao))) (ES.er (bK (af 1) (EM.er ao)))) (aA (jU 2 ao (ES.er (bK (af 1) (EM.er ao))) (ES.er (bK (af 1) (EM.er ao)))) (aI (M:=[2]) (oj 2)))))))))) (fun ds P R hS=>?_) h⟩
  obtain ⟨t,n,m,i,j,k,l,rfl,hR,hn,hn8,hP,hR'⟩:=hS
  rw[show aO lN [dT t,dW i j k l]=[some (dT t),some (dW i j k l),none] from rfl]
  walk_at "v"
  refine⟨t,n,m,i,j,k,l,rfl,hR,hn,?_⟩
  by_cases h:gR n m t i j k l
  · rw[decide_eq_true h]
    obtain ⟨hi,hk,hj,hl,_⟩:=id h
    have hP:=hP h
    walk_at "go"
    have hlen:=hR.1
    refine⟨t,rfl,by omega,?_⟩
    have hR1:cM n m (setCell t i.toNat j.toNat 0):=hR.setCell (by omega)
    have hR2:cM n m (setCell (setCell t i.toNat j.toNat 0) i.toNat l.toNat 1):=hR1.setCell (by omega)
    have hR3:cM n m (setCell (setCell (setCell t i.toNat j.toNat 0) i.toNat l.toNat 1) k.toNat j.toNat 1):=hR2.setCell (by omega)
    unfold oE at hP
    have r0:=hR.row (i:=i.toNat) (by omega)
    have r1:=hR1.row (i:=i.toNat) (by omega)
    have r2:=hR2.row (i:=k.toNat) (by omega)
    have r3:=hR3.row (i:=k.toNat) (by omega)
    have l1:=hR1.1
    have l2:=hR2.1
    have l3:=hR3.1
    walk_at "v"
    refine gN (t:=t) (a:=i) (b:=j) (v:=0) rfl (fun R h=>h) (fun R h=>?_) (fun R h=>?_) (by omega) (by rw[r0];omega) ?_
    · unfold dW;walk_at "v";exact h
    · unfold dW;walk_at "v";exact h
    walk_at "v"
    refine gN (t:=setCell t i.toNat j.toNat 0) (a:=i) (b:=l) (v:=1) rfl (fun R h=>h) (fun R h=>?_) (fun R h=>?_) (by omega) (by rw[r1];omega) ?_
    · unfold dW;walk_at "v";exact h
    · unfold dW;walk_at "v";exact h
    walk_at "v"
    refine gN (t:=setCell (setCell t i.toNat j.toNat 0) i.toNat l.toNat 1) (a:=k) (b:=j) (v:=1) rfl (fun R h=>h) (fun R h=>?_) (fun R h=>?_) (by omega) (by rw[r2];omega) ?_
    · unfold dW;walk_at "v";exact h
    · unfold dW;walk_at "v";exact h
    walk_at "v"
    refine gN (t:=setCell (setCell (setCell t i.toNat j.toNat 0) i.toNat l.toNat 1) k.toNat j.toNat 1) (a:=k) (b:=l) (v:=0) rfl (fun R h=>h) (fun R h=>?_) (fun R h=>?_) (by omega) (by rw[r3];omega) ?_
    · unfold dW;walk_at "v";exact h
    · unfold dW;walk_at "v";exact h
    walk_at "v"
    exact hP
  · rw[decide_eq_false h]
    walk_at "go"
    exact hR' h
def qB (r:List Int):Prop:=∀v∈r,0≤v∧v≤1
instance {r:List Int}:Decidable (qB r):=by unfold qB;infer_instance
def ng (t:List (List Int)):Prop:=∀r∈t,qB r
instance {t:List (List Int)}:Decidable (ng t):=by unfold ng;infer_instance
def gy:DSp:=fun ds P=>∃(t:List (List Int)) (n m:Nat),ds=[dT t]∧cM n m t∧n≤1000∧1≤m∧P (.bl (decide (ng t)))
theorem pF:br gy:=by
  intro xs P P' k h
  unfold gy at h ⊢
  grind
theorem xX:∀ds P,gy ds P→ds.length=1:=by
  intro ds P h
  obtain ⟨_,_,_,e,_⟩:=h
  rw[e];rfl
theorem sV {c:Cs}{f:Addr}{fd:FuncData} (F:FnAt K mg "is_ones" kE ig f fd) (A_:Fns K mg c) (T:Txt K mg) (xs:Exs K mg base c):aG P w K mg base CX0 1 f fd ig (spP K gy):=by
  refine F.fn.ok yC (fun vs H Q E h=>a9 xX h) (fun cdv A outer s H vs Q E hr h=>?_)
  refine⟨_,(av (aH (ay (kI (K:=K) rfl rfl) (by rfl) T.all_ boot_all (aa (cg (aS.of (sc0:=(au kE)) (tn:=["row"]) (cap:=[]) (idx:=[]) (by decide +kernel) rfl rfl) (bL (K:=K) rfl (pv 0)) (fN.name (by decide)) (fun _ _ _ _ _=>ba (i:=0) (aX (l:=["row"]) (by decide +kernel)) rfl (by first | exact Or.inl rfl | exact Or.inr rfl) (by first | exact .inl rfl | exact .inr rfl)) (fun _ _ _ _ _=>(ie (cE Bi (ay (uJ (K:=K) rfl rfl) (by rfl) T.min_ boot_min (aa (pv 0) ai)) ak (a6 _)) (ib (cE qD (ay (AL (K:=K) rfl rfl) (by rfl) T.max_ boot_max (aa (pv 0) ai)) ak (a6 _)))))) ai)))),bF (Γn:=[]) (N:=pU) (aI (M:=[]) (aZ sX (ah (EM.er (bQ (cD (af 0)) (bc 0) (fm (EM.er (aE lR (EM.er (aZ CK (ah (ES.er (af 0)) aj))) (EM.er ao))) (aE lR (EM.er (aZ Gu (ah (ES.er (af 0)) aj))) (EM.er ao))))) aj))) (fun ds P hS=>?_) h⟩
  obtain ⟨t,n,m,rfl,hR,hn,hm,hP⟩:=hS
  rw[show aO pU [dT t]=[some (dT t)] from rfl]
  walk_at "go"
  refine iy (t:=t) (g:=fun r=>.bl (decide (qB r))) (fun R h=>h) (by have:=hR.1;omega) (fun r hr R h=>?_) ?_
  · walk_at "gb"
    have hl:=hR.2 r hr
    refine⟨by omega,fun M h1 h2=>?_⟩
    split
    · rename_i c1
      refine⟨by omega,fun M2 h3 h4=>?_⟩
      have e:decide (qB r)=decide (M2≤1):=by
        rw[Bool.eq_iff_iff,decide_eq_true_eq,decide_eq_true_eq]
        exact⟨fun z=>(z M2 h3).2,fun z v hv=>⟨Int.le_trans c1 (h2 v hv),Int.le_trans (h4 v hv) z⟩⟩
      rw[e] at h
      exact h
    · rename_i c1
      rw[decide_eq_false (fun z=>c1 (z M h1).1)] at h
      exact h
  rw[show t.map (fun r=>L3.D.bl (decide (qB r)))=(t.map fun r=>decide (qB r)).map L3.D.bl by rw[List.map_map];rfl]
  refine nY.mpr ?_
  have e:((t.map fun r=>decide (qB r)).all id)=decide (ng t):=by
    rw[Bool.eq_iff_iff,decide_eq_true_eq,List.all_map,List.all_eq_true]
    exact⟨fun z r hr=>of_decide_eq_true (z r hr),fun z r hr=>decide_eq_true (z r hr)⟩
  rw[e]
  exact hP
abbrev Q4:=Int × Int × Int × Int
def dS4 (q:Q4):D:=dW q.1 q.2.1 q.2.2.1 q.2.2.2
def goT (n m:Nat):List (List Int)→List Q4→Option (List (List Int))
  | t,[]=>some t
  | t,(i,j,k,l)::r=>if gR n m t i j k l then goT n m (oE t i.toNat j.toNat k.toNat l.toNat) r else none
theorem Gh {n m:Nat}{t:List (List Int)}{i j k l:Int}{r:List Q4} (h:gR n m t i j k l):goT n m t ((i,j,k,l)::r)=goT n m (oE t i.toNat j.toNat k.toNat l.toNat) r:=by rw[goT,if_pos h]
theorem Gk {n m:Nat}{t:List (List Int)}{i j k l:Int}{r:List Q4} (h:¬ gR n m t i j k l):goT n m t ((i,j,k,l)::r)=none:=by rw[goT,if_neg h]
theorem vA {n m:Nat}{t:List (List Int)}{i j k l:Int} (hR:cM n m t) (h:gR n m t i j k l):cM n m (oE t i.toNat j.toNat k.toNat l.toNat):=by
  obtain ⟨hi,hk,hj,hl,_⟩:=h
  exact (((hR.setCell (by omega)).setCell (by omega)).setCell (by omega)).setCell (by omega)
def eV (c:Cs):DSX:=fun ds P R=>∃(t:List (List Int)) (n m:Nat) (ss:List Q4),ds=[dT t,.lst (ss.map dS4)]∧cM n m t∧1≤n∧n≤8∧(∀u,goT n m t ss=some u→P (dT u))∧(goT n m t ss=none→R c.NoSwap)
theorem pE {c:Cs}:ku (eV c):=by
  intro xs P P' R R' k kr h
  obtain ⟨t,n,m,ss,e,a,b,d,h1,h2⟩:=h
  exact⟨t,n,m,ss,e,a,b,d,fun z y=>k _ (h1 z y),fun z=>kr _ (h2 z)⟩
theorem qa {c:Cs}:∀ds P R,eV c ds P R→ds.length=2:=by
  intro ds P R h
  unfold eV at h
  grind
theorem qO {c:Cs}{f:Addr}{fd:FuncData} (F:FnAt K mg "table_behind" gL ee f fd) (A_:Fns K mg c) (T:Txt K mg) (xs:Exs K mg base c):aG P w K mg base (CXR P w) 4 f fd ee (yr K (eV c)):=by
  obtain ⟨f0,d0,E_swap_made⟩:=A_.h_swap_made
  have G_swap_made:aG P w K mg base (CXR P w) 3 f0 d0 gx (spX K (jX c)):=wM E_swap_made A_ T xs
  refine F.fn.okX iY (fun vs H Q E h=>yc qa h) (fun cdv A outer s H vs Q E hr h=>?_)
  refine⟨_,(ar (i6 PassesOwn.leaving rfl (bL (K:=K) rfl (pv 1)) (ba (i:=2) iY.nd rfl (by first | exact Or.inl rfl | exact Or.inr rfl)) (av (bp (i:=0) iY.nd rfl (by first | exact Or.inl rfl | exact Or.inr rfl) (aF G_swap_made (hr.mono (by decide)) rfl E_swap_made.mg E_swap_made.fn.kp E_swap_made.bd .nil Cu (PA.nox (aa (pv 0) (aa (pv 2) ai))))))) (PSs.nox (av (aH (pv 0))))),x9 (Γn:=[]) (N:=jL) (fun R=>(sT (CA (cD (af 1)) (bc 2) (SX.post (Γn:=[]) (Bc 0 sD (ah (ES.er (af 0)) (ah (ES.er (af 2)) aj))))) (ST.sx (wO (ES.er (af 0)))))) (fun ds P R hS=>?_) h⟩
  obtain ⟨t,n,m,ss,rfl,hR,n1,n8,hP,hX⟩:=hS
  rw[show aO jL [dT t,.lst (ss.map dS4)]=[some (dT t),some (.lst (ss.map dS4)),none] from rfl]
  walk_at "go"
  refine jA (as:=ss) (f:=dS4) (fun i δ=>∃(u:List (List Int)) (o2:Option D),δ=[some (dT u),some (.lst (ss.map dS4)),o2]∧cM n m u∧goT n m u (ss.drop i)=goT n m t ss) ⟨t,none,rfl,hR,rfl⟩ ?_ ?_
  · rintro a ⟨i,j,k,l⟩ δ N e ⟨u,o2,rfl,hU,hW⟩ hN
    obtain ⟨h1,h2⟩:=List.getElem?_eq_some_iff.mp e
    rw[List.drop_eq_getElem_cons h1,h2] at hW
    walk_at "go"
    refine⟨u,n,m,i,j,k,l,rfl,hU,n1,n8,fun h=>hN _ ⟨_,_,rfl,vA hU h,by rw[← hW,Gh h]⟩,fun h=>hX (by rw[← hW,Gk h])⟩
  · rintro δ ⟨u,o2,rfl,hU,hW⟩
    rw[List.drop_length] at hW
    walk_at "go"
    exact hP u hW.symm
abbrev zB:List Str:=["one","other","swaps"]
abbrev AG (c:Cs) (one other:List (List Int)) (ss:List Q4):D:=.ins c.SwapPaper zB [dT one,dT other,.lst (ss.map dS4)]
theorem DN {ss:List Q4}:(ss.map dS4).all L3.m3=true:=by
  rw[List.all_map,List.all_eq_true];exact fun _ _=>rfl
def b9 (c:Cs):DSp:=fun ds P=>∃(one other:List (List Int)) (ss:List Q4),ds=[dT one,dT other,.lst (ss.map dS4)]∧one.length≤1000∧other.length≤1000∧P (AG c one other ss)
theorem mO {c:Cs}:br (b9 c):=by
  intro xs P P' k h
  unfold b9 at h ⊢
  grind
theorem nV {c:Cs}:∀ds P,(b9 c) ds P→ds.length=3:=by
  intro ds P h
  obtain ⟨_,_,_,e,_⟩:=h
  rw[e];rfl
theorem nk {c:Cs}:∀ds P,(b9 c) ds P→(b9 c) ds fun d=>(∃ns dd,d=.ins c.SwapPaper ns dd)∧P d:=by
  intro ds P h
  unfold b9 at h ⊢
  grind
theorem pf {c:Cs}{f:Addr}{fd:FuncData} (F:h8 K mg "SwapPaper" c.SwapPaper "SwapPaper.__init__" fj cV f fd) (A_:Fns K mg c) (T:Txt K mg) (xs:Exs K mg base c):aG P w K mg base CX0 2 f fd cV (spN K c.SwapPaper (b9 c)):=by
  obtain ⟨f0,d0,E_copied_table⟩:=A_.h_copied_table
  have G_copied_table:aG P w K mg base CX0 1 f0 d0 bE (spP K aR):=cJ E_copied_table A_ T xs
  refine F.fn.ok ow (fun vs H Q E h=>ki nV h) (fun cdv A outer s H vs Q E hr h=>?_)
  refine⟨_,(ar (bP (K:=K) rfl (pv 0) (aF G_copied_table (hr.mono (by decide)) rfl E_copied_table.mg E_copied_table.fn.kp E_copied_table.bd .nil aD (aa (pv 1) ai)) rfl) (ar (bP (K:=K) rfl (pv 0) (aF G_copied_table (hr.mono (by decide)) rfl E_copied_table.mg E_copied_table.fn.kp E_copied_table.bd .nil aD (aa (pv 2) ai)) rfl) (av (bP (K:=K) rfl (pv 0) (cj (bT (K:=K) rfl) (by rfl) T.list_ boot_list (aa (pv 3) ai)) rfl)))),mv (N:=il) (cA xs.i_SwapPaper.cl xs.n_SwapPaper_one (aL (S:=aR) bq (ah (ES.er (af 1)) aj)) (cA xs.i_SwapPaper.cl xs.n_SwapPaper_other (aL (S:=aR) bq (ah (ES.er (af 2)) aj)) (j5 xs.i_SwapPaper.cl xs.n_SwapPaper_swaps (aZ zI (ah (ES.er (af 3)) aj))))) (fun ds P hS=>?_) (by decide) (by decide +kernel) (by decide) h⟩
  obtain ⟨one,other,ss,rfl,h1,h2,hP⟩:=hS
  rw[show aO (il.drop 1) [dT one,dT other,.lst (ss.map dS4)]=[some (dT one),some (dT other),some (.lst (ss.map dS4))] from rfl]
  walk_at "go"
  refine⟨one,rfl,h1,?_⟩
  walk_at "go"
  refine⟨other,rfl,h2,?_⟩
  walk_at "go"
  exact⟨DN,hP⟩
def Cd (n m:Nat) (one other:List (List Int)) (ss:List Q4):Prop:=ng one∧goT n m one ss=some other
instance {n m:Nat}{one other:List (List Int)}{ss:List Q4}:Decidable (Cd n m one other ss):=by unfold Cd;infer_instance
def bx (c:Cs):DSp:=fun ds P=>∃(one other:List (List Int)) (n m:Nat) (ss:List Q4),ds=[AG c one other ss]∧cM n m one∧1≤n∧n≤8∧1≤m∧P (.bl (decide (Cd n m one other ss)))
theorem du {c:Cs}:br (bx c):=by
  intro xs P P' k h
  unfold bx at h ⊢
  grind
theorem mP {c:Cs}:∀ds P,(bx c) ds P→ds.length=1:=by
  intro ds P h
  obtain ⟨_,_,_,_,_,e,_⟩:=h
  rw[e];rfl
theorem gf {c:Cs}{f:Addr}{fd:FuncData} (F:fP K c.SwapPaper "holds" "SwapPaper.holds" eP bY f fd) (A_:Fns K mg c) (T:Txt K mg) (xs:Exs K mg base c):aG P w K mg base CX0 5 f fd bY (spP K (bx c)):=by
  obtain ⟨f0,d0,E_is_ones⟩:=A_.h_is_ones
  have G_is_ones:aG P w K mg base CX0 1 f0 d0 ig (spP K gy):=sV E_is_ones A_ T xs
  obtain ⟨f1,d1,E_table_behind⟩:=A_.h_table_behind
  have G_table_behind:aG P w K mg base (CXR P w) 4 f1 d1 ee (yr K (eV c)):=qO E_table_behind A_ T xs
  refine F.fn.ok nS (fun vs H Q E h=>a9 mP h) (fun cdv A outer s H vs Q E hr h=>?_)
  refine⟨_,(ar (b5 (cL (cB (aF G_is_ones (hr.mono (by decide)) rfl E_is_ones.mg E_is_ones.fn.kp E_is_ones.bd .nil aD (aa (az (K:=K) rfl (pv 0) rfl) ai)))) (av (aH dH)) a8) (av (wX rfl rfl G_table_behind (hr.mono (by decide)) rfl E_table_behind.mg E_table_behind.fn.kp E_table_behind.bd (aa (az (K:=K) rfl (pv 0) rfl) (aa (az (K:=K) rfl (pv 0) rfl) ai)) (az (K:=K) rfl (pv 0) rfl) (lB hr.units) xs.o_NoSwap xs.o_NoSwap xs.m_NoSwap rfl (by simp) (fun a oe hc=>(av (aH dH))) (a6 _)))),bF (Γn:=[]) (N:=gZ) (aA (bV (cO (fJ (EM.er (aL (S:=gy) pF (ah (ES.er (aK ["one","other","swaps"] 0 xs.i_SwapPaper.cl xs.n_SwapPaper_one (af 0))) aj))))) (aI (M:=[]) dU) aY) (xC pE oy (ah (ES.er (aK ["one","other","swaps"] 0 xs.i_SwapPaper.cl xs.n_SwapPaper_one (af 0))) (ah (ES.er (aK ["one","other","swaps"] 2 xs.i_SwapPaper.cl xs.n_SwapPaper_swaps (af 0))) aj)) (ES.er (aK ["one","other","swaps"] 1 xs.i_SwapPaper.cl xs.n_SwapPaper_other (af 0))) (aI (M:=[]) dU))) (fun ds P hS=>?_) h⟩
  obtain ⟨one,other,n,m,ss,rfl,hR,n1,n8,m1,hP⟩:=hS
  rw[show aO gZ [AG c one other ss]=[some (AG c one other ss)] from rfl]
  walk_at "go"
  refine⟨one,n,m,rfl,hR,by omega,m1,?_⟩
  by_cases h:ng one
  · rw[decide_eq_true h]
    walk_at "go"
    refine⟨one,n,m,ss,rfl,hR,n1,n8,fun u e=>?_,fun e=>⟨rfl,?_⟩⟩
    · refine va ?_
      have e2:decide (Cd n m one other ss)=decide (u=other):=by
        rw[Bool.eq_iff_iff,decide_eq_true_eq,decide_eq_true_eq]
        exact⟨fun z=>Option.some.inj (e.symm.trans z.2),fun z=>⟨h,by rw[e,z]⟩⟩
      rw[e2] at hP
      exact hP
    · rw[decide_eq_false (fun z=>by have:=z.2;rw[e] at this;cases this)] at hP
      exact hP
  · rw[decide_eq_false h]
    walk_at "go"
    rw[decide_eq_false (fun z=>h z.1)] at hP
    exact hP
abbrev zg:List Str:=["rows","columns","table"]
abbrev AW (c:Cs) (rows cols:List Int) (t:List (List Int)):D:=.ins c.SumPaper zg [dI rows,dI cols,dT t]
def cx (c:Cs):DSp:=fun ds P=>∃(rows cols:List Int) (t:List (List Int)),ds=[dI rows,dI cols,dT t]∧t.length≤1000∧P (AW c rows cols t)
theorem oh {c:Cs}:br (cx c):=by
  intro xs P P' k h
  unfold cx at h ⊢
  grind
theorem oU {c:Cs}:∀ds P,(cx c) ds P→ds.length=3:=by
  intro ds P h
  obtain ⟨_,_,_,e,_⟩:=h
  rw[e];rfl
theorem pH {c:Cs}:∀ds P,(cx c) ds P→(cx c) ds fun d=>(∃ns dd,d=.ins c.SumPaper ns dd)∧P d:=by
  intro ds P h
  unfold cx at h ⊢
  grind
theorem qb {c:Cs}{f:Addr}{fd:FuncData} (F:h8 K mg "SumPaper" c.SumPaper "SumPaper.__init__" fW df f fd) (A_:Fns K mg c) (T:Txt K mg) (xs:Exs K mg base c):aG P w K mg base CX0 2 f fd df (spN K c.SumPaper (cx c)):=by
  obtain ⟨f0,d0,E_copied_table⟩:=A_.h_copied_table
  have G_copied_table:aG P w K mg base CX0 1 f0 d0 bE (spP K aR):=cJ E_copied_table A_ T xs
  refine F.fn.ok pV (fun vs H Q E h=>ki oU h) (fun cdv A outer s H vs Q E hr h=>?_)
  refine⟨_,(ar (bP (K:=K) rfl (pv 0) (cj (bT (K:=K) rfl) (by rfl) T.list_ boot_list (aa (pv 1) ai)) rfl) (ar (bP (K:=K) rfl (pv 0) (cj (bT (K:=K) rfl) (by rfl) T.list_ boot_list (aa (pv 2) ai)) rfl) (av (bP (K:=K) rfl (pv 0) (aF G_copied_table (hr.mono (by decide)) rfl E_copied_table.mg E_copied_table.fn.kp E_copied_table.bd .nil aD (aa (pv 3) ai)) rfl)))),mv (N:=i3) (cA xs.i_SumPaper.cl xs.n_SumPaper_rows (aZ gj (ah (ES.er (af 1)) aj)) (cA xs.i_SumPaper.cl xs.n_SumPaper_columns (aZ gj (ah (ES.er (af 2)) aj)) (j5 xs.i_SumPaper.cl xs.n_SumPaper_table (aL (S:=aR) bq (ah (ES.er (af 3)) aj))))) (fun ds P hS=>?_) (by decide) (by decide +kernel) (by decide) h⟩
  obtain ⟨rows,cols,t,rfl,h1,hP⟩:=hS
  rw[show aO (i3.drop 1) [dI rows,dI cols,dT t]=[some (dI rows),some (dI cols),some (dT t)] from rfl]
  walk_at "go"
  refine⟨t,rfl,h1,?_⟩
  walk_at "go"
  exact hP
def bG (c:Cs):DSp:=fun ds P=>∃(rows cols:List Int) (t:List (List Int)) (n m:Nat),ds=[AW c rows cols t]∧cM n m t∧1≤n∧n≤8∧1≤m∧m≤100∧P (.bl (decide (ng t∧t.map List.sum=rows∧(turned m t).map List.sum=cols)))
theorem dN {c:Cs}:br (bG c):=by
  intro xs P P' k h
  unfold bG at h ⊢
  grind
theorem nR {c:Cs}:∀ds P,(bG c) ds P→ds.length=1:=by
  intro ds P h
  obtain ⟨_,_,_,_,_,e,_⟩:=h
  rw[e];rfl
theorem gU {c:Cs}{f:Addr}{fd:FuncData} (F:fP K c.SumPaper "holds" "SumPaper.holds" fF cf f fd) (A_:Fns K mg c) (T:Txt K mg) (xs:Exs K mg base c):aG P w K mg base CX0 4 f fd cf (spP K (bG c)):=by
  obtain ⟨f0,d0,E_is_ones⟩:=A_.h_is_ones
  have G_is_ones:aG P w K mg base CX0 1 f0 d0 ig (spP K gy):=sV E_is_ones A_ T xs
  obtain ⟨f1,d1,E_sums_of_rows⟩:=A_.h_sums_of_rows
  have G_sums_of_rows:aG P w K mg base CX0 1 f1 d1 cG (spP K b6):=i8 E_sums_of_rows A_ T xs
  obtain ⟨f2,d2,E_sums_of_columns⟩:=A_.h_sums_of_columns
  have G_sums_of_columns:aG P w K mg base CX0 3 f2 d2 bX (spP K bu):=gk E_sums_of_columns A_ T xs
  refine F.fn.ok om (fun vs H Q E h=>a9 nR h) (fun cdv A outer s H vs Q E hr h=>?_)
  refine⟨_,(ar (b5 (cL (cB (aF G_is_ones (hr.mono (by decide)) rfl E_is_ones.mg E_is_ones.fn.kp E_is_ones.bd .nil aD (aa (az (K:=K) rfl (pv 0) rfl) ai)))) (av (aH dH)) a8) (av (aH (ie (cE (lB hr.units) (aF G_sums_of_rows (hr.mono (by decide)) rfl E_sums_of_rows.mg E_sums_of_rows.fn.kp E_sums_of_rows.bd .nil aD (aa (az (K:=K) rfl (pv 0) rfl) ai)) (az (K:=K) rfl (pv 0) rfl) (a6 _)) (ib (cE (lB hr.units) (aF G_sums_of_columns (hr.mono (by decide)) rfl E_sums_of_columns.mg E_sums_of_columns.fn.kp E_sums_of_columns.bd .nil aD (aa (az (K:=K) rfl (pv 0) rfl) ai)) (az (K:=K) rfl (pv 0) rfl) (a6 _))))))),bF (Γn:=[]) (N:=iA) (aA (bV (cO (fJ (EM.er (aL (S:=gy) pF (ah (ES.er (aK ["rows","columns","table"] 2 xs.i_SumPaper.cl xs.n_SumPaper_table (af 0))) aj))))) (aI (M:=[]) dU) aY) (aI (M:=[]) (fm (EM.er (aE oy (EM.er (aL (S:=b6) gX (ah (ES.er (aK ["rows","columns","table"] 2 xs.i_SumPaper.cl xs.n_SumPaper_table (af 0))) aj))) (ES.er (aK ["rows","columns","table"] 0 xs.i_SumPaper.cl xs.n_SumPaper_rows (af 0))))) (aE oy (EM.er (aL (S:=bu) eT (ah (ES.er (aK ["rows","columns","table"] 2 xs.i_SumPaper.cl xs.n_SumPaper_table (af 0))) aj))) (ES.er (aK ["rows","columns","table"] 1 xs.i_SumPaper.cl xs.n_SumPaper_columns (af 0))))))) (fun ds P hS=>?_) h⟩
  obtain ⟨rows,cols,t,n,m,rfl,hR,n1,n8,m1,m9,hP⟩:=hS
  rw[show aO iA [AW c rows cols t]=[some (AW c rows cols t)] from rfl]
  walk_at "go"
  refine⟨t,n,m,rfl,hR,by omega,m1,?_⟩
  by_cases h:ng t
  · rw[decide_eq_true h]
    walk_at "go"
    refine⟨t,rfl,by have:=hR.1;omega,?_⟩
    refine jt ?_
    by_cases h2:t.map List.sum=rows
    · rw[decide_eq_true h2]
      walk_at "go"
      refine⟨t,n,m,rfl,hR,n1,by omega,by omega,?_⟩
      refine jt ?_
      have e:decide (ng t∧t.map List.sum=rows∧(turned m t).map List.sum=cols)=decide ((turned m t).map List.sum=cols):=by
        rw[Bool.eq_iff_iff,decide_eq_true_eq,decide_eq_true_eq]
        exact⟨fun z=>z.2.2,fun z=>⟨h,h2,z⟩⟩
      rw[e] at hP
      exact hP
    · rw[decide_eq_false h2]
      walk_at "go"
      rw[decide_eq_false (fun z=>h2 z.2.1)] at hP
      exact hP
  · rw[decide_eq_false h]
    walk_at "go"
    rw[decide_eq_false (fun z=>h z.1)] at hP
    exact hP
theorem G4 {ns:List Int}{x:Int}:inD (.int x) (ns.map L3.D.int)=decide (x∈ns):=by
  have:inD (.int x) (ns.map L3.D.int)=true↔x∈ns:=by
    unfold inD inV
    rw[List.any_eq_true]
    constructor
    · rintro ⟨v,hv,e⟩
      obtain ⟨d,hd,rfl⟩:=List.mem_map.mp hv
      obtain ⟨z,hz,rfl⟩:=List.mem_map.mp hd
      have e':(z == x)=true:=e
      rw[← eq_of_beq e'];exact hz
    · intro h
      exact⟨.int x,List.mem_map.mpr ⟨.int x,List.mem_map.mpr ⟨x,h,rfl⟩,rfl⟩,by show (x == x)=true;exact beq_self_eq_true _⟩
  by_cases h:x∈ns
  · rw[decide_eq_true h];exact this.mpr h
  · rw[decide_eq_false h]
    cases e:inD (.int x) (ns.map L3.D.int) with
    | false=>rfl
    | true=>exact absurd (this.mp e) h
theorem CH {neg:Bool}{x:Int}{ns:List Int}{P:DK} (h:P (.bl (if neg then !decide (x∈ns) else decide (x∈ns)))):vIn neg (.int x) (dI ns) P:=by
  refine⟨rfl,jx,?_⟩
  rw[G4]
  exact h
def Wr (low high:List (List Int)) (sm others:List Int) (m r:Nat):Int:=if (r:Int)∈sm then (((List.range m).filter fun (c:Nat)=>!decide ((c:Int)∈others)).map fun (c:Nat)=>cellAt high r c).sum else -((others.map fun x=>cellAt low r x.toNat).sum)
def yd (cols:List Int) (low high:List (List Int)) (sm others:List Int) (n m:Nat):Int:=(others.map fun x=>cols.getD x.toNat 0).sum+((List.range n).map (Wr low high sm others m)).sum
theorem Dj {f:Nat→Int}{n:Nat}:((List.range (n+1)).map f).sum=((List.range n).map f).sum+f n:=by
  rw[List.range_succ,List.map_append,List.sum_append]
  simp
def eJ:DSp:=fun ds P=>∃(cols:List Int) (low high:List (List Int)) (sm others:List Int) (n m:Nat),ds=[dI cols,dT low,dT high,dI sm,dI others]∧cM n m low∧cM n m high∧cols.length=m∧n≤1000∧m≤1000∧others.length≤1000∧(∀x∈others,0≤x∧x<m)∧P (.int (yd cols low high sm others n m))
theorem ql:br eJ:=by
  intro xs P P' k h
  unfold eJ at h ⊢
  grind
theorem qL:∀ds P,eJ ds P→ds.length=5:=by
  intro ds P h
  obtain ⟨_,_,_,_,_,_,_,e,_⟩:=h
  rw[e];rfl
theorem rP {c:Cs}{f:Addr}{fd:FuncData} (F:FnAt K mg "most_in_cut" dG eB f fd) (A_:Fns K mg c) (T:Txt K mg) (xs:Exs K mg base c):aG P w K mg base CX0 1 f fd eB (spP K eJ):=by
  refine F.fn.ok eY (fun vs H Q E h=>a9 qL h) (fun cdv A outer s H vs Q E hr h=>?_)
  refine⟨_,(ar (bp (i:=5) eY.nd rfl (by first | exact Or.inl rfl | exact Or.inr rfl) (ay (eI (K:=K) rfl rfl) (by rfl) T.sum_ boot_sum (aa (cg (aS.of (sc0:=(au dG)) (tn:=["column"]) (cap:=["columns"]) (idx:=[0]) (by decide +kernel) rfl rfl) (bL (K:=K) rfl (pv 4)) (fN.name (by decide)) (fun _ _ _ _ _=>ba (i:=0) (aX (l:=["column","columns"]) (by decide +kernel)) rfl (by first | exact Or.inl rfl | exact Or.inr rfl) (by first | exact .inl rfl | exact .inr rfl)) (fun _ _ _ _ _=>(aB (ax (K:=K) rfl) (pv 1) (pv 0) (fun _ _=>rfl)))) ai))) (ar (i6 PassesOwn.never rfl (eE rfl T.range_ (aa (ay (aU (K:=K) rfl) (by rfl) T.len_ PySem.boot_len (aa (pv 1) ai)) ai)) (ba (i:=6) eY.nd rfl (by first | exact Or.inl rfl | exact Or.inr rfl)) (av (b5 (bD (Bk (K:=K) rfl) (pv 6) (pv 3) (by with_unfolding_all rfl)) (av (bp (i:=5) eY.nd rfl (by first | exact Or.inl rfl | exact Or.inr rfl) (bj iz (pv 5) (ay (eI (K:=K) rfl rfl) (by rfl) T.sum_ boot_sum (aa (vB rfl (aS.of (sc0:=(au dG)) (tn:=["column"]) (cap:=["high","others","row"]) (idx:=[2,4,6]) (by decide +kernel) rfl rfl) (eE rfl T.range_ (aa (ay (aU (K:=K) rfl) (by rfl) T.len_ PySem.boot_len (aa (pv 0) ai)) ai)) (fN.name (by decide)) (fun _ _ _ _ _=>ba (i:=0) (aX (l:=["column","high","others","row"]) (by decide +kernel)) rfl (by first | exact Or.inl rfl | exact Or.inr rfl) (by first | exact .inl rfl | exact .inr rfl)) (fun _ _ _ _ _=>zX (bD (Ay (K:=K) rfl) (pv 0) (pv 2) (by with_unfolding_all rfl))) (fun _ _ _ _ _=>(aB (ax (K:=K) rfl) (aB (ax (K:=K) rfl) (pv 1) (pv 3) (fun _ _=>rfl)) (pv 0) (fun _ _=>rfl))) (by intro _;rfl)) ai))))) (av (bp (i:=5) eY.nd rfl (by first | exact Or.inl rfl | exact Or.inr rfl) (bj jK (pv 5) (ay (eI (K:=K) rfl rfl) (by rfl) T.sum_ boot_sum (aa (cg (aS.of (sc0:=(au dG)) (tn:=["column"]) (cap:=["low","row"]) (idx:=[1,6]) (by decide +kernel) rfl rfl) (bL (K:=K) rfl (pv 4)) (fN.name (by decide)) (fun _ _ _ _ _=>ba (i:=0) (aX (l:=["column","low","row"]) (by decide +kernel)) rfl (by first | exact Or.inl rfl | exact Or.inr rfl) (by first | exact .inl rfl | exact .inr rfl)) (fun _ _ _ _ _=>(aB (ax (K:=K) rfl) (aB (ax (K:=K) rfl) (pv 1) (pv 2) (fun _ _=>rfl)) (pv 0) (fun _ _=>rfl)))) ai)))))))) (av (aH (pv 5))))),bF (Γn:=[5]) (N:=kq) (aA (ST.post (Γn:=[5]) (eQ (M:=[]) 5 (aZ ni (ah (EM.er (bQ (cD (af 4)) (bc 0) (ER.bC (ES.er (aM (af 1) (ES.er (af 0))))))) aj)))) (aA (nO (iG (ah (EM.er (aZ cF (ah (ES.er (af 1)) aj))) aj)) (bc 6) (bV (bh (EM.er (aE FQ (ES.er (af 6)) (ES.er (af 3))))) (ST.post (Γn:=[5]) (eQ (M:=[]) 5 (aE eO (fM 5) (EM.er (aZ ni (ah (EM.er (vn (iG (ah (EM.er (aZ cF (ah (ES.er (af 0)) aj))) aj)) (bc 0) (bh (EM.er (aE FQ (ES.er (af 0)) (ES.er (af 2))))) (ER.bC (ES.er (aM (aM (af 1) (ES.er (af 3))) (ES.er (af 0))))))) aj)))))) (ST.post (Γn:=[5]) (eQ (M:=[]) 5 (aE eO (fM 5) (EM.er (aZ ni (ah (EM.er (bQ (cD (af 4)) (bc 0) (ER.bC (ES.er (aM (aM (af 1) (ES.er (af 2))) (ES.er (af 0))))))) aj)))))))) (aI (M:=[5]) (oj 5)))) (fun ds P hS=>?_) h⟩
  obtain ⟨cols,low,high,sm,others,n,m,rfl,hL,hH,hc,hn,hm,ho,hx,hP⟩:=hS
  rw[show aO kq [dI cols,dT low,dT high,dI sm,dI others]=[some (dI cols),some (dT low),some (dT high),some (dI sm),some (dI others),none,none] from rfl]
  have l1:=hL.1
  have l2:=hH.1
  walk_at "v"
  refine jq (ns:=others) (g:=fun x=>.int (cols.getD x.toNat 0)) (fun R h=>h) ho (fun x hx' R h=>?_) ?_
  · walk_at "gb"
    have:=hx x hx'
    refine bR (by omega) ?_
    exact⟨rfl,h⟩
  rw[gK]
  walk_at "go"
  rw[l1]
  refine rA (fun i δ=>∃o6:Option D,δ=[some (dI cols),some (dT low),some (dT high),some (dI sm),some (dI others),some (.int ((others.map fun x=>cols.getD x.toNat 0).sum+((List.range i).map (Wr low high sm others m)).sum)),o6]) ⟨none,by rw[List.range_zero,List.map_nil,List.sum_nil,Int.add_zero]⟩ ?_ ?_
  · rintro i δ N hi ⟨o6,rfl⟩ hN
    walk_at "go"
    rw[Int.zero_add]
    refine CH ?_
    simp only[Bool.false_eq_true,if_false]
    walk_at "go"
    have fin:∀z:Int,z=Wr low high sm others m i→N [some (dI cols),some (dT low),some (dT high),some (dI sm),some (dI others),some (.int ((others.map fun x=>cols.getD x.toNat 0).sum+((List.range i).map (Wr low high sm others m)).sum+z)),some (.int (i:Int))]:=fun z hz=>hN _ ⟨some (.int (i:Int)),by rw[Dj,hz,Int.add_assoc]⟩
    by_cases hin:(i:Int)∈sm
    · rw[if_pos hin]
      refine uK (lo:=0) (n:=m) (p:=fun (c:Nat)=>!decide ((c:Int)∈others)) (g:=fun (c:Nat)=>.int (cellAt high i c)) (fun R h=>?_) hm (fun c hc' R h=>?_) ?_
      · walk_at "v"
        rw[hc]
        exact⟨by omega,h⟩
      · walk_at "gb"
        rw[Int.zero_add]
        refine CH ?_
        simp only[if_true]
        walk_at "gb"
        by_cases hno:(c:Int)∈others
        · rw[if_neg (by simp [hno])]
          simpa [hno] using h
        · rw[if_pos (by simp [hno])]
          refine xk hH (by omega) (by omega) ?_
          rw[Int.toNat_natCast,Int.toNat_natCast]
          have h':R [.int (cellAt high i c)]:=by simpa [hno] using h
          first | exact⟨rfl,h'⟩ | exact h'
      · rw[gK]
        walk_at "v"
        refine fin _ ?_
        rw[Wr,if_pos hin]
    · rw[if_neg hin]
      refine jq (ns:=others) (g:=fun x=>.int (cellAt low i x.toNat)) (fun R h=>h) ho (fun x hx' R h=>?_) ?_
      · walk_at "gb"
        have:=hx x hx'
        refine xk hL (by omega) (by omega) ?_
        rw[Int.toNat_natCast]
        first | exact⟨rfl,h⟩ | exact h
      · rw[gK]
        walk_at "v"
        have:=fin (-((others.map fun x=>cellAt low i x.toNat).sum)) (by rw[Wr,if_neg hin])
        rw[← Int.sub_eq_add_neg] at this
        exact this
  · rintro δ ⟨o6,rfl⟩
    walk_at "v"
    exact hP
abbrev shp (t:List (List Int)) (n m:Nat):Bool:=decide (t.length=n) && decide ((rowAt t 0).length=m)
def eS:DSp:=fun ds P=>∃(t:List (List Int)) (r c:List Int),ds=[dT t,dI r,dI c]∧1≤t.length∧P (.bl (shp t r.length c.length))
theorem lX:br eS:=by
  intro xs P P' k h
  unfold eS at h ⊢
  grind
theorem tF:∀ds P,eS ds P→ds.length=3:=by
  intro ds P h
  obtain ⟨_,_,_,e,_⟩:=h
  rw[e];rfl
theorem vD {c:Cs}{f:Addr}{fd:FuncData} (F:FnAt K mg "has_shape" j8 gw f fd) (A_:Fns K mg c) (T:Txt K mg) (xs:Exs K mg base c):aG P w K mg base CX0 1 f fd gw (spP K eS):=by
  refine F.fn.ok vi (fun vs H Q E h=>a9 tF h) (fun cdv A outer s H vs Q E hr h=>?_)
  refine⟨_,(av (aH (ie (cE cY (ay (aU (K:=K) rfl) (by rfl) T.len_ PySem.boot_len (aa (pv 0) ai)) (ay (aU (K:=K) rfl) (by rfl) T.len_ PySem.boot_len (aa (pv 1) ai)) (a6 _)) (ib (cE cY (ay (aU (K:=K) rfl) (by rfl) T.len_ PySem.boot_len (aa (aB (ax (K:=K) rfl) (pv 0) ak (fun _ _=>rfl)) ai)) (ay (aU (K:=K) rfl) (by rfl) T.len_ PySem.boot_len (aa (pv 2) ai)) (a6 _)))))),bF (Γn:=[]) (N:=lP) (aI (M:=[]) (fm (EM.er (aE gF (EM.er (aZ cF (ah (ES.er (af 0)) aj))) (EM.er (aZ cF (ah (ES.er (af 1)) aj))))) (aE gF (EM.er (aZ cF (ah (ES.er (aM (af 0) (EM.er ao))) aj))) (EM.er (aZ cF (ah (ES.er (af 2)) aj)))))) (fun ds P hS=>?_) h⟩
  obtain ⟨t,r,c,rfl,h1,hP⟩:=hS
  rw[show aO lP [dT t,dI r,dI c]=[some (dT t),some (dI r),some (dI c)] from rfl]
  walk_at "v"
  by_cases e:t.length=r.length
  · rw[if_pos (by omega)]
    refine eu (by omega) ?_
    walk_at "v"
    rw[show shp t r.length c.length=decide (((rowAt t 0).length:Int)=c.length) by rw[shp,decide_eq_true e,Bool.true_and];exact decide_eq_decide.mpr (by omega)] at hP
    exact hP
  · rw[if_neg (by omega)]
    rw[show shp t r.length c.length=false by rw[shp,decide_eq_false e,Bool.false_and]] at hP
    exact hP
def ris (ns:List Int) (n:Nat):Bool:=decide (ns=((List.range n).filter fun (i:Nat)=>decide ((i:Int)∈ns)).map fun (i:Nat)=>(i:Int))
def eg:DSp:=fun ds P=>∃(ns:List Int) (n:Nat),ds=[dI ns,.int n]∧n≤1000∧P (.bl (ris ns n))
theorem lG:br eg:=by
  intro xs P P' k h
  unfold eg at h ⊢
  grind
theorem sj:∀ds P,eg ds P→ds.length=2:=by
  intro ds P h
  obtain ⟨_,_,e,_⟩:=h
  rw[e];rfl
theorem tV {c:Cs}{f:Addr}{fd:FuncData} (F:FnAt K mg "are_places" gP fC f fd) (A_:Fns K mg c) (T:Txt K mg) (xs:Exs K mg base c):aG P w K mg base CX0 1 f fd fC (spP K eg):=by
  refine F.fn.ok uf (fun vs H Q E h=>a9 sj h) (fun cdv A outer s H vs Q E hr h=>?_)
  refine⟨_,(av (aH (cE (lB hr.units) (pv 0) (vB rfl (aS.of (sc0:=(au gP)) (tn:=["place"]) (cap:=["numbers"]) (idx:=[0]) (by decide +kernel) rfl rfl) (eE rfl T.range_ (aa (pv 1) ai)) (fN.name (by decide)) (fun _ _ _ _ _=>ba (i:=0) (aX (l:=["place","numbers"]) (by decide +kernel)) rfl (by first | exact Or.inl rfl | exact Or.inr rfl) (by first | exact .inl rfl | exact .inr rfl)) (fun _ _ _ _ _=>zX (bD (Bk (K:=K) rfl) (pv 0) (pv 1) (by with_unfolding_all rfl))) (fun _ _ _ _ _=>(pv 0)) (by intro _;rfl)) (a6 _)))),bF (Γn:=[]) (N:=lr) (aI (M:=[]) (aE oy (ES.er (af 0)) (EM.er (vn (iG (ah (ES.er (af 1)) aj)) (bc 0) (bh (EM.er (aE FQ (ES.er (af 0)) (ES.er (af 1))))) (ER.bC (ES.er (af 0))))))) (fun ds P hS=>?_) h⟩
  obtain ⟨ns,n,rfl,hn,hP⟩:=hS
  rw[show aO lr [dI ns,.int n]=[some (dI ns),some (.int n)] from rfl]
  walk_at "v"
  refine uK (lo:=0) (n:=n) (p:=fun (c:Nat)=>decide ((c:Int)∈ns)) (g:=fun (c:Nat)=>.int (c:Int)) (fun R h=>?_) hn (fun c hc' R h=>?_) ?_
  · walk_at "v"
    exact⟨by omega,h⟩
  · walk_at "gb"
    rw[Int.zero_add]
    refine CH ?_
    simp only[Bool.false_eq_true,if_false]
    walk_at "gb"
    by_cases hno:(c:Int)∈ns
    · rw[if_pos (by simpa using hno)]
      have h':R [.int (c:Int)]:=by simpa [hno] using h
      first | exact⟨rfl,h'⟩ | exact h'
    · rw[if_neg (by simpa using hno)]
      simpa [hno] using h
  · rw[gK]
    refine jt ?_
    simp only[Bool.false_eq_true,if_false]
    exact hP
abbrev zl:List Str:=["rows","columns","low","high","some","others"]
abbrev cutD (c:Cs) (rows cols:List Int) (low high:List (List Int)) (sm others:List Int):D:=.ins c.CutPaper zl [dI rows,dI cols,dT low,dT high,dI sm,dI others]
def cw (c:Cs):DSp:=fun ds P=>∃(rows cols:List Int) (low high:List (List Int)) (sm others:List Int),ds=[dI rows,dI cols,dT low,dT high,dI sm,dI others]∧low.length≤1000∧high.length≤1000∧P (cutD c rows cols low high sm others)
theorem nu {c:Cs}:br (cw c):=by
  intro xs P P' k h
  unfold cw at h ⊢
  grind
theorem oF {c:Cs}:∀ds P,(cw c) ds P→ds.length=6:=by
  intro ds P h
  obtain ⟨_,_,_,_,_,_,e,_⟩:=h
  rw[e];rfl
theorem o7 {c:Cs}:∀ds P,(cw c) ds P→(cw c) ds fun d=>(∃ns dd,d=.ins c.CutPaper ns dd)∧P d:=by
  intro ds P h
  unfold cw at h ⊢
  grind
theorem qm {c:Cs}{f:Addr}{fd:FuncData} (F:h8 K mg "CutPaper" c.CutPaper "CutPaper.__init__" fU c7 f fd) (A_:Fns K mg c) (T:Txt K mg) (xs:Exs K mg base c):aG P w K mg base CX0 2 f fd c7 (spN K c.CutPaper (cw c)):=by
  obtain ⟨f0,d0,E_copied_table⟩:=A_.h_copied_table
  have G_copied_table:aG P w K mg base CX0 1 f0 d0 bE (spP K aR):=cJ E_copied_table A_ T xs
  refine F.fn.ok qg (fun vs H Q E h=>ki oF h) (fun cdv A outer s H vs Q E hr h=>?_)
  refine⟨_,(ar (bP (K:=K) rfl (pv 0) (cj (bT (K:=K) rfl) (by rfl) T.list_ boot_list (aa (pv 1) ai)) rfl) (ar (bP (K:=K) rfl (pv 0) (cj (bT (K:=K) rfl) (by rfl) T.list_ boot_list (aa (pv 2) ai)) rfl) (ar (bP (K:=K) rfl (pv 0) (aF G_copied_table (hr.mono (by decide)) rfl E_copied_table.mg E_copied_table.fn.kp E_copied_table.bd .nil aD (aa (pv 3) ai)) rfl) (ar (bP (K:=K) rfl (pv 0) (aF G_copied_table (hr.mono (by decide)) rfl E_copied_table.mg E_copied_table.fn.kp E_copied_table.bd .nil aD (aa (pv 4) ai)) rfl) (ar (bP (K:=K) rfl (pv 0) (cj (bT (K:=K) rfl) (by rfl) T.list_ boot_list (aa (pv 5) ai)) rfl) (av (bP (K:=K) rfl (pv 0) (cj (bT (K:=K) rfl) (by rfl) T.list_ boot_list (aa (pv 6) ai)) rfl))))))),mv (N:=iW) (cA xs.i_CutPaper.cl xs.n_CutPaper_rows (aZ gj (ah (ES.er (af 1)) aj)) (cA xs.i_CutPaper.cl xs.n_CutPaper_columns (aZ gj (ah (ES.er (af 2)) aj)) (cA xs.i_CutPaper.cl xs.n_CutPaper_low (aL (S:=aR) bq (ah (ES.er (af 3)) aj)) (cA xs.i_CutPaper.cl xs.n_CutPaper_high (aL (S:=aR) bq (ah (ES.er (af 4)) aj)) (cA xs.i_CutPaper.cl xs.n_CutPaper_some (aZ gj (ah (ES.er (af 5)) aj)) (j5 xs.i_CutPaper.cl xs.n_CutPaper_others (aZ gj (ah (ES.er (af 6)) aj)))))))) (fun ds P hS=>?_) (by decide) (by decide +kernel) (by decide) h⟩
  obtain ⟨rows,cols,low,high,sm,others,rfl,h1,h2,hP⟩:=hS
  rw[show aO (iW.drop 1) [dI rows,dI cols,dT low,dT high,dI sm,dI others]=[some (dI rows),some (dI cols),some (dT low),some (dT high),some (dI sm),some (dI others)] from rfl]
  walk_at "go"
  refine⟨low,rfl,h1,?_⟩
  walk_at "go"
  refine⟨high,rfl,h2,?_⟩
  walk_at "go"
  exact hP
def tZ (rows cols:List Int) (low high:List (List Int)) (sm others:List Int):Bool:=shp low rows.length cols.length && shp high rows.length cols.length && ris sm rows.length && ris others cols.length && decide (yd cols low high sm others rows.length cols.length<(sm.map fun x=>rows.getD x.toNat 0).sum)
def bI (c:Cs):DSp:=fun ds P=>∃(rows cols:List Int) (low high:List (List Int)) (sm others:List Int) (n1 m1 n2 m2:Nat),ds=[cutD c rows cols low high sm others]∧cM n1 m1 low∧cM n2 m2 high∧1≤n1∧n1≤100∧1≤n2∧n2≤100∧rows.length≤100∧cols.length≤100∧P (.bl (tZ rows cols low high sm others))
theorem A9 {ns:List Int}{n:Nat} (h:ris ns n=true):∀x∈ns,0≤x∧x<n:=fun x hx=>by
  have e:=of_decide_eq_true h
  rw[e] at hx
  obtain ⟨i,hi,rfl⟩:=List.mem_map.mp hx
  have:=List.mem_range.mp (List.mem_filter.mp hi).1
  omega
theorem z5 {ns:List Int}{n:Nat} (h:ris ns n=true):ns.length≤n:=by
  have e:=of_decide_eq_true h
  rw[e,List.length_map]
  exact Nat.le_trans (List.length_filter_le ..) (by rw[List.length_range];omega)
theorem dJ {c:Cs}:br (bI c):=by
  intro xs P P' k h
  unfold bI at h ⊢
  grind
theorem n0 {c:Cs}:∀ds P,(bI c) ds P→ds.length=1:=by
  intro ds P h
  obtain ⟨_,_,_,_,_,_,_,_,_,_,e,_⟩:=h
  rw[e];rfl
theorem gO {c:Cs}{f:Addr}{fd:FuncData} (F:fP K c.CutPaper "holds" "CutPaper.holds" dY cq f fd) (A_:Fns K mg c) (T:Txt K mg) (xs:Exs K mg base c):aG P w K mg base CX0 2 f fd cq (spP K (bI c)):=by
  obtain ⟨f0,d0,E_most_in_cut⟩:=A_.h_most_in_cut
  have G_most_in_cut:aG P w K mg base CX0 1 f0 d0 eB (spP K eJ):=rP E_most_in_cut A_ T xs
  obtain ⟨f1,d1,E_has_shape⟩:=A_.h_has_shape
  have G_has_shape:aG P w K mg base CX0 1 f1 d1 gw (spP K eS):=vD E_has_shape A_ T xs
  obtain ⟨f2,d2,E_are_places⟩:=A_.h_are_places
  have G_are_places:aG P w K mg base CX0 1 f2 d2 fC (spP K eg):=tV E_are_places A_ T xs
  refine F.fn.ok kj (fun vs H Q E h=>a9 n0 h) (fun cdv A outer s H vs Q E hr h=>?_)
  refine⟨_,(ar (b5 (PW.pt (kN (cL (cB (aF G_has_shape (hr.mono (by decide)) rfl E_has_shape.mg E_has_shape.fn.kp E_has_shape.bd .nil aD (aa (az (K:=K) rfl (pv 0) rfl) (aa (az (K:=K) rfl (pv 0) rfl) (aa (az (K:=K) rfl (pv 0) rfl) ai)))))) (jN (cL (cB (aF G_has_shape (hr.mono (by decide)) rfl E_has_shape.mg E_has_shape.fn.kp E_has_shape.bd .nil aD (aa (az (K:=K) rfl (pv 0) rfl) (aa (az (K:=K) rfl (pv 0) rfl) (aa (az (K:=K) rfl (pv 0) rfl) ai))))))))) (av (aH dH)) a8) (ar (b5 (PW.pt (kN (cL (cB (aF G_are_places (hr.mono (by decide)) rfl E_are_places.mg E_are_places.fn.kp E_are_places.bd .nil aD (aa (az (K:=K) rfl (pv 0) rfl) (aa (ay (aU (K:=K) rfl) (by rfl) T.len_ PySem.boot_len (aa (az (K:=K) rfl (pv 0) rfl) ai)) ai))))) (jN (cL (cB (aF G_are_places (hr.mono (by decide)) rfl E_are_places.mg E_are_places.fn.kp E_are_places.bd .nil aD (aa (az (K:=K) rfl (pv 0) rfl) (aa (ay (aU (K:=K) rfl) (by rfl) T.len_ PySem.boot_len (aa (az (K:=K) rfl (pv 0) rfl) ai)) ai)))))))) (av (aH dH)) a8) (ar (bp (i:=1) kj.nd rfl (by first | exact Or.inl rfl | exact Or.inr rfl) (aF G_most_in_cut (hr.mono (by decide)) rfl E_most_in_cut.mg E_most_in_cut.fn.kp E_most_in_cut.bd .nil aD (aa (az (K:=K) rfl (pv 0) rfl) (aa (az (K:=K) rfl (pv 0) rfl) (aa (az (K:=K) rfl (pv 0) rfl) (aa (az (K:=K) rfl (pv 0) rfl) (aa (az (K:=K) rfl (pv 0) rfl) ai))))))) (av (aH (cE Cq (ay (eI (K:=K) rfl rfl) (by rfl) T.sum_ boot_sum (aa (cg (aS.of (sc0:=(au dY)) (tn:=["row"]) (cap:=["self"]) (idx:=[0]) (by decide +kernel) rfl rfl) (bL (K:=K) rfl (az (K:=K) rfl (pv 0) rfl)) (fN.name (by decide)) (fun _ _ _ _ _=>ba (i:=0) (aX (l:=["row","self"]) (by decide +kernel)) rfl (by first | exact Or.inl rfl | exact Or.inr rfl) (by first | exact .inl rfl | exact .inr rfl)) (fun _ _ _ _ _=>(aB (ax (K:=K) rfl) (az (K:=K) rfl (pv 1) rfl) (pv 0) (fun _ _=>rfl)))) ai)) (pv 1) (a6 _))))))),bF (Γn:=[]) (N:=iw) (aA (bV (kQ (cO (fJ (EM.er (aL (S:=eS) lX (ah (ES.er (aK ["rows","columns","low","high","some","others"] 2 xs.i_CutPaper.cl xs.n_CutPaper_low (af 0))) (ah (ES.er (aK ["rows","columns","low","high","some","others"] 0 xs.i_CutPaper.cl xs.n_CutPaper_rows (af 0))) (ah (ES.er (aK ["rows","columns","low","high","some","others"] 1 xs.i_CutPaper.cl xs.n_CutPaper_columns (af 0))) aj))))))) (cO (fJ (EM.er (aL (S:=eS) lX (ah (ES.er (aK ["rows","columns","low","high","some","others"] 3 xs.i_CutPaper.cl xs.n_CutPaper_high (af 0))) (ah (ES.er (aK ["rows","columns","low","high","some","others"] 0 xs.i_CutPaper.cl xs.n_CutPaper_rows (af 0))) (ah (ES.er (aK ["rows","columns","low","high","some","others"] 1 xs.i_CutPaper.cl xs.n_CutPaper_columns (af 0))) aj)))))))) (aI (M:=[]) dU) aY) (aA (bV (kQ (cO (fJ (EM.er (aL (S:=eg) lG (ah (ES.er (aK ["rows","columns","low","high","some","others"] 4 xs.i_CutPaper.cl xs.n_CutPaper_some (af 0))) (ah (EM.er (aZ cF (ah (ES.er (aK ["rows","columns","low","high","some","others"] 0 xs.i_CutPaper.cl xs.n_CutPaper_rows (af 0))) aj))) aj)))))) (cO (fJ (EM.er (aL (S:=eg) lG (ah (ES.er (aK ["rows","columns","low","high","some","others"] 5 xs.i_CutPaper.cl xs.n_CutPaper_others (af 0))) (ah (EM.er (aZ cF (ah (ES.er (aK ["rows","columns","low","high","some","others"] 1 xs.i_CutPaper.cl xs.n_CutPaper_columns (af 0))) aj))) aj))))))) (aI (M:=[]) dU) aY) (aA (ST.post (Γn:=[]) (bO 1 (EM.es (aL (S:=eJ) ql (ah (ES.er (aK ["rows","columns","low","high","some","others"] 1 xs.i_CutPaper.cl xs.n_CutPaper_columns (af 0))) (ah (ES.er (aK ["rows","columns","low","high","some","others"] 2 xs.i_CutPaper.cl xs.n_CutPaper_low (af 0))) (ah (ES.er (aK ["rows","columns","low","high","some","others"] 3 xs.i_CutPaper.cl xs.n_CutPaper_high (af 0))) (ah (ES.er (aK ["rows","columns","low","high","some","others"] 4 xs.i_CutPaper.cl xs.n_CutPaper_some (af 0))) (ah (ES.er (aK ["rows","columns","low","high","some","others"] 5 xs.i_CutPaper.cl xs.n_CutPaper_others (af 0))) aj))))))))) (aI (M:=[]) (aE lR (EM.er (aZ ni (ah (EM.er (bQ (cD (aK ["rows","columns","low","high","some","others"] 4 xs.i_CutPaper.cl xs.n_CutPaper_some (af 0))) (bc 0) (ER.bC (ES.er (aM (aK ["rows","columns","low","high","some","others"] 0 xs.i_CutPaper.cl xs.n_CutPaper_rows (af 1)) (ES.er (af 0))))))) aj))) (ES.er (af 1))))))) (fun ds P hS=>?_) h⟩
  obtain ⟨rows,cols,low,high,sm,others,n1,m1,n2,m2,rfl,hL,hH,a1,a2,b1,b2,r1,c1,hP⟩:=hS
  have l1:=hL.1
  have l2:=hH.1
  have l3:=hL.row (i:=0) (by omega)
  have l4:=hH.row (i:=0) (by omega)
  rw[show aO iw [cutD c rows cols low high sm others]=[some (cutD c rows cols low high sm others),none] from rfl]
  have fal:tZ rows cols low high sm others=false→P (.bl false):=fun e=>by rw[e] at hP;exact hP
  walk_at "go"
  refine⟨low,rows,cols,rfl,by omega,?_⟩
  walk_at "v"
  by_cases s1:shp low rows.length cols.length=false
  · rw[if_pos s1];exact fal (by unfold tZ;rw[s1];simp only[Bool.false_and])
  rw[if_neg s1,Bool.not_eq_false] at *
  refine⟨high,rows,cols,rfl,by omega,?_⟩
  walk_at "v"
  by_cases s2:shp high rows.length cols.length=false
  · rw[if_pos s2];exact fal (by unfold tZ;rw[s2];simp only[Bool.false_and,Bool.and_false])
  rw[if_neg s2]
  refine⟨sm,rows.length,rfl,by omega,?_⟩
  walk_at "v"
  by_cases s3:ris sm rows.length=false
  · rw[if_pos s3];exact fal (by unfold tZ;rw[s3];simp only[Bool.false_and,Bool.and_false])
  rw[if_neg s3]
  refine⟨others,cols.length,rfl,by omega,?_⟩
  walk_at "v"
  by_cases s4:ris others cols.length=false
  · rw[if_pos s4];exact fal (by unfold tZ;rw[s4];simp only[Bool.false_and,Bool.and_false])
  rw[if_neg s4]
  simp only[Bool.not_eq_false] at s1 s2 s3 s4
  have t1:=(Bool.and_eq_true _ _).mp s1
  have t2:=(Bool.and_eq_true _ _).mp s2
  have e1:=of_decide_eq_true t1.1
  have e2:=of_decide_eq_true t1.2
  have e3:=of_decide_eq_true t2.1
  have e4:=of_decide_eq_true t2.2
  obtain rfl:n1=rows.length:=by omega
  obtain rfl:n2=rows.length:=by omega
  obtain rfl:m1=cols.length:=by omega
  obtain rfl:m2=cols.length:=by omega
  refine⟨cols,low,high,sm,others,rows.length,cols.length,rfl,hL,hH,rfl,by omega,by omega,by have:=z5 s4;omega,A9 s4,?_⟩
  refine jq (ns:=sm) (g:=fun x=>.int (rows.getD x.toNat 0)) (fun R h=>?_) (by have:=z5 s3;omega) (fun x hx R h=>?_) ?_
  · walk_at "v";exact h
  · walk_at "gb"
    have:=A9 s3 x hx
    refine bR (by omega) ?_
    first | exact⟨rfl,h⟩ | exact h
  rw[gK]
  walk_at "v"
  rw[show tZ rows cols low high sm others=decide (yd cols low high sm others rows.length cols.length<(sm.map fun x=>rows.getD x.toNat 0).sum) by unfold tZ;rw[s1,s2,s3,s4];simp only[Bool.true_and]] at hP
  exact hP
abbrev wid (t:List (List Int)):List (List Int):=t.map fun r=>r++[-r.sum]
def mX (m:Nat) (t:List (List Int)):List (List Int):=wid t++[((turned (m+1) (wid t)).map List.sum).map fun x=>-x]
theorem rC {n m:Nat}{t:List (List Int)} (h:cM n m t):cM n (m+1) (wid t):=⟨by rw[List.length_map];exact h.1,fun r hr=>by
  obtain ⟨r0,h0,rfl⟩:=List.mem_map.mp hr
  rw[List.length_append,h.2 r0 h0];rfl⟩
theorem uP {n m:Nat}{t:List (List Int)} (h:cM n m t):cM (n+1) (m+1) (mX m t):=⟨by rw[mX,List.length_append,(rC h).1];rfl,fun r hr=>by
  rcases List.mem_append.mp hr with z | z
  · exact (rC h).2 r z
  · rw[List.mem_singleton.mp z,List.length_map,List.length_map];unfold turned;rw[List.length_map,List.length_range]⟩
def cC:DSp:=fun ds P=>∃(t:List (List Int)) (n m:Nat),ds=[dT t]∧cM n m t∧1≤n∧n≤900∧m≤900∧P (dT (mX m t))
theorem i9:br cC:=by
  intro xs P P' k h
  unfold cC at h ⊢
  grind
theorem nX:∀ds P,cC ds P→ds.length=1:=by
  intro ds P h
  obtain ⟨_,_,_,e,_⟩:=h
  rw[e];rfl
theorem oZ {c:Cs}{f:Addr}{fd:FuncData} (F:FnAt K mg "bordered_table" cR cW f fd) (A_:Fns K mg c) (T:Txt K mg) (xs:Exs K mg base c):aG P w K mg base CX0 4 f fd cW (spR K cC):=by
  obtain ⟨f0,d0,E_sums_of_columns⟩:=A_.h_sums_of_columns
  have G_sums_of_columns:aG P w K mg base CX0 3 f0 d0 bX (spP K bu):=gk E_sums_of_columns A_ T xs
  refine F.fn.ok kg (fun vs H Q E h=>EE nX h) (fun cdv A outer s H vs Q E hr h=>?_)
  refine⟨_,(ar (rH (i:=1) (aS.of (sc0:=(au cR)) (tn:=["row"]) (cap:=[]) (idx:=[]) (by decide +kernel) rfl rfl) kg.nd rfl (by first | exact Or.inl rfl | exact Or.inr rfl) (bL (K:=K) rfl (pv 0)) (fN.name (by decide)) (fun _ _ _ _ _=>ba (i:=0) (aX (l:=["row"]) (by decide +kernel)) rfl (by first | exact Or.inl rfl | exact Or.inr rfl) (by first | exact .inl rfl | exact .inr rfl)) (fun _ _ _ _ _=>(bj lT (pv 0) (aT (aa (Ff Bq (ay (eI (K:=K) rfl rfl) (by rfl) T.sum_ boot_sum (aa (pv 0) ai))) ai))))) (av (aH (bj lT (pv 1) (aT (aa (cg (aS.of (sc0:=(au cR)) (tn:=["number"]) (cap:=[]) (idx:=[]) (by decide +kernel) rfl rfl) (bL (K:=K) rfl (aF G_sums_of_columns (hr.mono (by decide)) rfl E_sums_of_columns.mg E_sums_of_columns.fn.kp E_sums_of_columns.bd .nil aD (aa (pv 1) ai))) (fN.name (by decide)) (fun _ _ _ _ _=>ba (i:=0) (aX (l:=["number"]) (by decide +kernel)) rfl (by first | exact Or.inl rfl | exact Or.inr rfl) (by first | exact .inl rfl | exact .inr rfl)) (fun _ _ _ _ _=>(Ff Bq (pv 0)))) ai)))))),Ek (Γn:=[]) (N:=iB) (aA (ST.post (Γn:=[]) (bO 1 (EM.es (bQ (cD (af 0)) (bc 0) (aE rh (ES.er (af 0)) (EM.er (aV (aq (EN EW (EM.er (aZ ni (ah (ES.er (af 0)) aj)))) aQ)))))))) (wO (G6 FH (ES.er (af 1)) (F0 (ah (EM.er (bQ (cD (EM.es (aL (S:=bu) eT (ah (ES.er (af 1)) aj)))) (bc 0) (EN EW (ES.er (af 0))))) aj))))) (fun ds P hS=>?_) h⟩
  obtain ⟨t,n,m,rfl,hR,n1,n9,m9,hP⟩:=hS
  have hl:=hR.1
  rw[show aO iB [dT t]=[some (dT t),none] from rfl]
  walk_at "v"
  refine iy (t:=t) (g:=fun r=>dI (r++[-r.sum])) (fun R h=>h) (by omega) (fun r hr R h=>?_) ?_
  · have:=hR.2 r hr
    walk_at "gb"
    refine⟨⟨jx,rfl,by omega⟩,?_⟩
    rw[zY]
    exact h
  rw[show (t.map fun r=>dI (r++[-r.sum]))=(wid t).map dI by rw[List.map_map];rfl]
  have hW:=rC hR
  have hlw:=hW.1
  walk_at "go"
  refine jq (ns:=(turned (m+1) (wid t)).map List.sum) (g:=fun x=>.int (-x)) (fun R h=>?_) (by unfold turned;rw[List.length_map,List.length_map,List.length_range];omega) (fun x hx R h=>?_) ?_
  · walk_at "v"
    exact⟨wid t,n,m+1,rfl,hW,n1,by omega,by omega,h⟩
  · walk_at "gb"
    exact h
  rw[gK]
  walk_at "go"
  rw[show (wid t).map dI++[dI (((turned (m+1) (wid t)).map List.sum).map fun x=>-x)]=(mX m t).map dI by unfold mX;rw[List.map_append];rfl]
  first | exact hP | exact⟨by omega,hP⟩
def zo (b g w:Int):Bool:=decide ((if w*b - g<0 then -(w*b - g) else w*b - g)<b)
def uu (gs:List Int) (b:Int) (ws:List Int):Bool:=(List.range gs.length).all fun i=>zo b (gs.getD i 0) (ws.getD i 0)
def jm:DSp:=fun ds P=>∃(gs ws:List Int) (b:Int),ds=[dI gs,.int b,dI ws]∧gs.length=ws.length∧gs.length≤1000∧b.natAbs<2 ^ 200∧(∀x∈ws,x.natAbs<2 ^ 200)∧P (.bl (uu gs b ws))
theorem wF:br jm:=by
  intro xs P P' k h
  unfold jm at h ⊢
  grind
theorem xM:∀ds P,jm ds P→ds.length=3:=by
  intro ds P h
  obtain ⟨_,_,_,e,_⟩:=h
  rw[e];rfl
theorem yP {c:Cs}{f:Addr}{fd:FuncData} (F:FnAt K mg "is_near" kC js f fd) (A_:Fns K mg c) (T:Txt K mg) (xs:Exs K mg base c):aG P w K mg base CX0 1 f fd js (spP K jm):=by
  refine F.fn.ok yJ (fun vs H Q E h=>a9 xM h) (fun cdv A outer s H vs Q E hr h=>?_)
  refine⟨_,(av (aH (ay (kI (K:=K) rfl rfl) (by rfl) T.all_ boot_all (aa (cg (aS.of (sc0:=(au kC)) (tn:=["place"]) (cap:=["goals","bottom","wholes"]) (idx:=[0,1,2]) (by decide +kernel) rfl rfl) (eE rfl T.range_ (aa (ay (aU (K:=K) rfl) (by rfl) T.len_ PySem.boot_len (aa (pv 0) ai)) ai)) (fN.name (by decide)) (fun _ _ _ _ _=>ba (i:=0) (aX (l:=["place","goals","bottom","wholes"]) (by decide +kernel)) rfl (by first | exact Or.inl rfl | exact Or.inr rfl) (by first | exact .inl rfl | exact .inr rfl)) (fun _ _ _ _ _=>(cE BR (ay B6 (by rfl) T.abs_ boot_abs (aa (bj jK (bj kX (aB (ax (K:=K) rfl) (pv 3) (pv 0) (fun _ _=>rfl)) (pv 2)) (aB (ax (K:=K) rfl) (pv 1) (pv 0) (fun _ _=>rfl))) ai)) (pv 2) (a6 _)))) ai)))),bF (Γn:=[]) (N:=qk) (aI (M:=[]) (aZ sX (ah (EM.er (bQ (iG (ah (EM.er (aZ cF (ah (ES.er (af 0)) aj))) aj)) (bc 0) (aE lR (EM.er (aZ GZ (ah (EM.er (aE eO (EM.er (aE cN (ES.er (aM (af 3) (ES.er (af 0)))) (ES.er (af 2)))) (ES.er (aM (af 1) (ES.er (af 0)))))) aj))) (ES.er (af 2))))) aj))) (fun ds P hS=>?_) h⟩
  obtain ⟨gs,ws,b,rfl,hl,h1,hb,hw,hP⟩:=hS
  rw[show aO qk [dI gs,.int b,dI ws]=[some (dI gs),some (.int b),some (dI ws)] from rfl]
  walk_at "v"
  refine kF (lo:=0) (n:=gs.length) (g:=fun (i:Nat)=>.bl (zo b (gs.getD i 0) (ws.getD i 0))) (fun R h=>?_) h1 (fun i hi R h=>?_) ?_
  · walk_at "v"
    exact⟨by omega,h⟩
  · walk_at "gb"
    rw[Int.zero_add]
    refine bR (by omega) ?_
    walk_at "gb"
    refine⟨mulC ⟨200,200,hw _ (by rw[List.getD_eq_getElem?_getD,List.getElem?_eq_getElem (by omega),Option.getD_some];exact List.getElem_mem _),hb,by decide⟩,?_⟩
    refine bR (by omega) ?_
    walk_at "gb"
    exact h
  rw[vM]
  walk_at "v"
  rw[List.all_map]
  exact hP
def tP (n m n2 m2:Nat) (t:List (List Int)) (b:Int) (w:List (List Int)):Bool:=decide (n2=n) && decide (m2=m) && (List.range (n+1)).all fun i=>uu (rowAt (mX m t) i) b (rowAt (mX m w) i)
def fi:DSp:=fun ds P=>∃(t w:List (List Int)) (b:Int) (n m n2 m2:Nat),ds=[dT t,.int b,dT w]∧cM n m t∧cM n2 m2 w∧1≤n∧n≤100∧m≤100∧1≤n2∧n2≤100∧m2≤100∧b.natAbs<2 ^ 200∧(∀r∈mX m2 w,∀x∈r,x.natAbs<2 ^ 200)∧P (.bl (tP n m n2 m2 t b w))
theorem qT:br fi:=by
  intro xs P P' k h
  unfold fi at h ⊢
  grind
theorem rE:∀ds P,fi ds P→ds.length=3:=by
  intro ds P h
  obtain ⟨_,_,_,_,_,_,_,e,_⟩:=h
  rw[e];rfl
theorem tH {c:Cs}{f:Addr}{fd:FuncData} (F:FnAt K mg "is_rounded" gT fG f fd) (A_:Fns K mg c) (T:Txt K mg) (xs:Exs K mg base c):aG P w K mg base CX0 5 f fd fG (spP K fi):=by
  obtain ⟨f0,d0,E_bordered_table⟩:=A_.h_bordered_table
  have G_bordered_table:aG P w K mg base CX0 4 f0 d0 cW (spR K cC):=oZ E_bordered_table A_ T xs
  obtain ⟨f1,d1,E_is_near⟩:=A_.h_is_near
  have G_is_near:aG P w K mg base CX0 1 f1 d1 js (spP K jm):=yP E_is_near A_ T xs
  refine F.fn.ok kB (fun vs H Q E h=>a9 rE h) (fun cdv A outer s H vs Q E hr h=>?_)
  refine⟨_,(ar (b5 (PW.pt (kN (bD tq (ay (aU (K:=K) rfl) (by rfl) T.len_ PySem.boot_len (aa (pv 2) ai)) (ay (aU (K:=K) rfl) (by rfl) T.len_ PySem.boot_len (aa (pv 0) ai)) (a6 _)) (jN (bD tq (ay (aU (K:=K) rfl) (by rfl) T.len_ PySem.boot_len (aa (aB (ax (K:=K) rfl) (pv 2) ak (fun _ _=>rfl)) ai)) (ay (aU (K:=K) rfl) (by rfl) T.len_ PySem.boot_len (aa (aB (ax (K:=K) rfl) (pv 0) ak (fun _ _=>rfl)) ai)) (a6 _))))) (av (aH dH)) a8) (ar (bp (i:=3) kB.nd rfl (by first | exact Or.inl rfl | exact Or.inr rfl) (aF G_bordered_table (hr.mono (by decide)) rfl E_bordered_table.mg E_bordered_table.fn.kp E_bordered_table.bd .nil aD (aa (pv 0) ai))) (ar (bp (i:=4) kB.nd rfl (by first | exact Or.inl rfl | exact Or.inr rfl) (aF G_bordered_table (hr.mono (by decide)) rfl E_bordered_table.mg E_bordered_table.fn.kp E_bordered_table.bd .nil aD (aa (pv 2) ai))) (av (aH (ay (kI (K:=K) rfl rfl) (by rfl) T.all_ boot_all (aa (cg (aS.of (sc0:=(au gT)) (tn:=["place"]) (cap:=["bottom","goals","wholes"]) (idx:=[1,3,4]) (by decide +kernel) rfl rfl) (eE rfl T.range_ (aa (ay (aU (K:=K) rfl) (by rfl) T.len_ PySem.boot_len (aa (pv 3) ai)) ai)) (fN.name (by decide)) (fun _ _ _ _ _=>ba (i:=0) (aX (l:=["place","bottom","goals","wholes"]) (by decide +kernel)) rfl (by first | exact Or.inl rfl | exact Or.inr rfl) (by first | exact .inl rfl | exact .inr rfl)) (fun _ _ _ _ _=>(aF G_is_near (hr.mono (by decide)) rfl E_is_near.mg E_is_near.fn.kp E_is_near.bd .nil aD (aa (aB (ax (K:=K) rfl) (pv 2) (pv 0) (fun _ _=>rfl)) (aa (pv 1) (aa (aB (ax (K:=K) rfl) (pv 3) (pv 0) (fun _ _=>rfl)) ai)))))) ai))))))),bF (Γn:=[]) (N:=ll) (aA (bV (kQ (bh (EM.er (aE yw (EM.er (aZ cF (ah (ES.er (af 2)) aj))) (EM.er (aZ cF (ah (ES.er (af 0)) aj)))))) (bh (EM.er (aE yw (EM.er (aZ cF (ah (ES.er (aM (af 2) (EM.er ao))) aj))) (EM.er (aZ cF (ah (ES.er (aM (af 0) (EM.er ao))) aj))))))) (aI (M:=[]) dU) aY) (aA (ST.post (Γn:=[]) (bO 3 (ER.es0 (Ah (S:=cC) i9 (ah (ES.er (af 0)) aj))))) (aA (ST.post (Γn:=[]) (bO 4 (ER.es0 (Ah (S:=cC) i9 (ah (ES.er (af 2)) aj))))) (aI (M:=[]) (aZ sX (ah (EM.er (bQ (iG (ah (EM.er (aZ cF (ah (ES.er (af 3)) aj))) aj)) (bc 0) (aL (S:=jm) wF (ah (ES.er (aM (af 2) (ES.er (af 0)))) (ah (ES.er (af 1)) (ah (ES.er (aM (af 3) (ES.er (af 0)))) aj)))))) aj)))))) (fun ds P hS=>?_) h⟩
  obtain ⟨t,w,b,n,m,n2,m2,rfl,hR,hW,n1,n9,m9,a1,a2,a3,hb,hc,hP⟩:=hS
  have l1:=hR.1
  have l2:=hW.1
  have l3:=hR.row (i:=0) (by omega)
  have l4:=hW.row (i:=0) (by omega)
  rw[show aO ll [dT t,.int b,dT w]=[some (dT t),some (.int b),some (dT w),none,none] from rfl]
  have fal:tP n m n2 m2 t b w=false→P (.bl false):=fun e=>by rw[e] at hP;exact hP
  walk_at "v"
  rw[l1,l2]
  by_cases en:n2=n
  case neg =>
    rw[if_pos (by omega)]
    exact fal (by unfold tP;rw[decide_eq_false en];simp only[Bool.false_and])
  rw[if_neg (by omega)]
  refine eu (by omega) ?_
  walk_at "v"
  refine eu (by omega) ?_
  walk_at "v"
  rw[l3,l4]
  by_cases em:m2=m
  case neg =>
    rw[if_pos (by omega)]
    exact fal (by unfold tP;rw[decide_eq_false em];simp only[Bool.false_and,Bool.and_false])
  rw[if_neg (by omega)]
  subst en
  subst em
  refine⟨t,n2,m2,rfl,hR,n1,by omega,by omega,?_⟩
  refine⟨w,n2,m2,rfl,hW,n1,by omega,by omega,?_⟩
  have b1:=uP hR
  have b2:=uP hW
  have c1:=b1.1
  have c2:=b2.1
  refine kF (lo:=0) (n:=n2+1) (g:=fun (i:Nat)=>.bl (uu (rowAt (mX m2 t) i) b (rowAt (mX m2 w) i))) (fun R h=>?_) (by omega) (fun i hi R h=>?_) ?_
  · walk_at "v"
    rw[c1]
    exact⟨by omega,h⟩
  · walk_at "gb"
    rw[Int.zero_add]
    refine eu (by omega) ?_
    rw[Int.toNat_natCast]
    walk_at "gb"
    refine eu (by omega) ?_
    rw[Int.toNat_natCast]
    have d1:=b1.row hi
    have d2:=b2.row hi
    exact⟨_,_,b,rfl,by omega,by omega,hb,hc _ (mF (by omega)),h⟩
  rw[vM]
  walk_at "v"
  rw[List.all_map]
  rw[show tP n2 m2 n2 m2 t b w=(List.range (n2+1)).all fun i=>uu (rowAt (mX m2 t) i) b (rowAt (mX m2 w) i) by unfold tP;rw[decide_eq_true rfl,decide_eq_true rfl];simp only[Bool.true_and]] at hP
  exact hP
abbrev Aa:List Str:=["table","bottom","whole"]
abbrev AE (c:Cs) (t:List (List Int)) (b:Int) (w:List (List Int)):D:=.ins c.RoundPaper Aa [dT t,.int b,dT w]
def bZ (c:Cs):DSp:=fun ds P=>∃(t w:List (List Int)) (b:Int),ds=[dT t,.int b,dT w]∧t.length≤1000∧w.length≤1000∧P (AE c t b w)
theorem mm {c:Cs}:br (bZ c):=by
  intro xs P P' k h
  unfold bZ at h ⊢
  grind
theorem mM {c:Cs}:∀ds P,(bZ c) ds P→ds.length=3:=by
  intro ds P h
  obtain ⟨_,_,_,e,_⟩:=h
  rw[e];rfl
theorem mQ {c:Cs}:∀ds P,(bZ c) ds P→(bZ c) ds fun d=>(∃ns dd,d=.ins c.RoundPaper ns dd)∧P d:=by
  intro ds P h
  unfold bZ at h ⊢
  grind
theorem nK {c:Cs}{f:Addr}{fd:FuncData} (F:h8 K mg "RoundPaper" c.RoundPaper "RoundPaper.__init__" eR cH f fd) (A_:Fns K mg c) (T:Txt K mg) (xs:Exs K mg base c):aG P w K mg base CX0 2 f fd cH (spN K c.RoundPaper (bZ c)):=by
  obtain ⟨f0,d0,E_copied_table⟩:=A_.h_copied_table
  have G_copied_table:aG P w K mg base CX0 1 f0 d0 bE (spP K aR):=cJ E_copied_table A_ T xs
  refine F.fn.ok n4 (fun vs H Q E h=>ki mM h) (fun cdv A outer s H vs Q E hr h=>?_)
  refine⟨_,(ar (bP (K:=K) rfl (pv 0) (aF G_copied_table (hr.mono (by decide)) rfl E_copied_table.mg E_copied_table.fn.kp E_copied_table.bd .nil aD (aa (pv 1) ai)) rfl) (ar (bP (K:=K) rfl (pv 0) (pv 2) rfl) (av (bP (K:=K) rfl (pv 0) (aF G_copied_table (hr.mono (by decide)) rfl E_copied_table.mg E_copied_table.fn.kp E_copied_table.bd .nil aD (aa (pv 3) ai)) rfl)))),mv (N:=gY) (cA xs.i_RoundPaper.cl xs.n_RoundPaper_table (aL (S:=aR) bq (ah (ES.er (af 1)) aj)) (cA xs.i_RoundPaper.cl xs.n_RoundPaper_bottom (ER.bC (ES.er (af 2))) (j5 xs.i_RoundPaper.cl xs.n_RoundPaper_whole (aL (S:=aR) bq (ah (ES.er (af 3)) aj))))) (fun ds P hS=>?_) (by decide) (by decide +kernel) (by decide) h⟩
  obtain ⟨t,w,b,rfl,h1,h2,hP⟩:=hS
  rw[show aO (gY.drop 1) [dT t,.int b,dT w]=[some (dT t),some (.int b),some (dT w)] from rfl]
  walk_at "go"
  refine⟨t,rfl,h1,?_⟩
  walk_at "go"
  refine⟨w,rfl,h2,?_⟩
  walk_at "go"
  exact hP
def bo (c:Cs):DSp:=fun ds P=>∃(t w:List (List Int)) (b:Int) (n m n2 m2:Nat),ds=[AE c t b w]∧cM n m t∧cM n2 m2 w∧1≤n∧n≤100∧m≤100∧1≤n2∧n2≤100∧m2≤100∧b.natAbs<2 ^ 200∧(∀r∈mX m2 w,∀x∈r,x.natAbs<2 ^ 200)∧P (.bl (tP n m n2 m2 t b w))
theorem cX {c:Cs}:br (bo c):=by
  intro xs P P' k h
  unfold bo at h ⊢
  grind
theorem lS {c:Cs}:∀ds P,(bo c) ds P→ds.length=1:=by
  intro ds P h
  obtain ⟨_,_,_,_,_,_,_,e,_⟩:=h
  rw[e];rfl
theorem fK {c:Cs}{f:Addr}{fd:FuncData} (F:fP K c.RoundPaper "holds" "RoundPaper.holds" eh bS f fd) (A_:Fns K mg c) (T:Txt K mg) (xs:Exs K mg base c):aG P w K mg base CX0 6 f fd bS (spP K (bo c)):=by
  obtain ⟨f0,d0,E_is_rounded⟩:=A_.h_is_rounded
  have G_is_rounded:aG P w K mg base CX0 5 f0 d0 fG (spP K fi):=tH E_is_rounded A_ T xs
  refine F.fn.ok mZ (fun vs H Q E h=>a9 lS h) (fun cdv A outer s H vs Q E hr h=>?_)
  refine⟨_,(av (aH (aF G_is_rounded (hr.mono (by decide)) rfl E_is_rounded.mg E_is_rounded.fn.kp E_is_rounded.bd .nil aD (aa (az (K:=K) rfl (pv 0) rfl) (aa (az (K:=K) rfl (pv 0) rfl) (aa (az (K:=K) rfl (pv 0) rfl) ai)))))),bF (Γn:=[]) (N:=gg) (aI (M:=[]) (aL (S:=fi) qT (ah (ES.er (aK ["table","bottom","whole"] 0 xs.i_RoundPaper.cl xs.n_RoundPaper_table (af 0))) (ah (ES.er (aK ["table","bottom","whole"] 1 xs.i_RoundPaper.cl xs.n_RoundPaper_bottom (af 0))) (ah (ES.er (aK ["table","bottom","whole"] 2 xs.i_RoundPaper.cl xs.n_RoundPaper_whole (af 0))) aj))))) (fun ds P hS=>?_) h⟩
  obtain ⟨t,w,b,n,m,n2,m2,rfl,hR,hW,n1,n9,m9,a1,a2,a3,hb,hc,hP⟩:=hS
  rw[show aO gg [AE c t b w]=[some (AE c t b w)] from rfl]
  walk_at "go"
  exact⟨t,w,b,n,m,n2,m2,rfl,hR,hW,n1,n9,m9,a1,a2,a3,hb,hc,hP⟩
def cu (c:Cs):DSp:=fun ds P=>∃(dd:List D),ds=[.ins c.Paper [] dd]∧P (.bl true)
theorem fI {c:Cs}:br (cu c):=by
  intro xs P P' k h
  unfold cu at h ⊢
  grind
theorem qP {c:Cs}:∀ds P,(cu c) ds P→ds.length=1:=by
  intro ds P h
  obtain ⟨_,e,_⟩:=h
  rw[e];rfl
theorem jE {c:Cs}{f:Addr}{fd:FuncData} (F:fP K c.Paper "holds" "Paper.holds" iL cQ f fd) (A_:Fns K mg c) (T:Txt K mg) (xs:Exs K mg base c):aG P w K mg base CX0 1 f fd cQ (spP K (cu c)):=by
  refine F.fn.ok sL (fun vs H Q E h=>a9 qP h) (fun cdv A outer s H vs Q E hr h=>?_)
  refine⟨_,(av (aH dH)),bF (Γn:=[]) (N:=ko) (aI (M:=[]) dU) (fun ds P hS=>?_) h⟩
  obtain ⟨dd,rfl,hP⟩:=hS
  rw[show aO ko [.ins c.Paper [] dd]=[some (.ins c.Paper [] dd)] from rfl]
  walk_at "go"
  exact hP
theorem pj {c:Cs}{f:Addr}{fd:FuncData} (F:h8 K mg "PairPaper" c.PairPaper "PairPaper.__init__" fD cT f fd) (A_:Fns K mg c) (T:Txt K mg) (xs:Exs K mg base c):aG P w K mg base CX0 1 f fd cT (B2 K c.PairPaper "first" "second" ):=by
  refine F.fn.ok pk (fun vs H Q E h=>Bn h) (fun cdv A outer s H vs Q E hr h=>?_)
  exact⟨_,(ar (bP (K:=K) rfl (pv 0) (pv 1) rfl) (av (bP (K:=K) rfl (pv 0) (pv 2) rfl))),Gw xs.i_PairPaper.cl xs.n_PairPaper_first xs.n_PairPaper_second (by decide) h⟩
def w8 (c:Cs) (d:D) (v:Bool):Prop:=(isI c.Paper [] d∧∀P:DK,P (.bl v)→cu c [d] P)∨(isI c.MixPaper zA d∧∀P:DK,P (.bl v)→bH c [d] P)∨(isI c.StepPaper zU d∧∀P:DK,P (.bl v)→bw c [d] P)∨(isI c.BarPaper zN d∧∀P:DK,P (.bl v)→bJ c [d] P)∨(isI c.LeadPaper Ad d∧∀P:DK,P (.bl v)→bz c [d] P)∨(isI c.SumPaper zg d∧∀P:DK,P (.bl v)→bG c [d] P)∨(isI c.CutPaper zl d∧∀P:DK,P (.bl v)→bI c [d] P)∨(isI c.SwapPaper zB d∧∀P:DK,P (.bl v)→bx c [d] P)∨(isI c.RoundPaper Aa d∧∀P:DK,P (.bl v)→bo c [d] P)
abbrev sC:List Str:=["first","second"]
def ke (c:Cs):Nat→D→Bool→Prop
  | 0,d,v=>w8 c d v
  | n+1,d,v=>w8 c d v∨∃d1 d2 v1 v2,d=.ins c.PairPaper sC [d1,d2]∧ke c n d1 v1∧ke c n d2 v2∧v=(v1 && v2)
def bA (c:Cs):Nat→DSp
  | 0=>fun _ _=>False
  | n+1=>fun ds P=>∃(d1 d2:D) (v1 v2:Bool),ds=[.ins c.PairPaper sC [d1,d2]]∧ke c n d1 v1∧ke c n d2 v2∧P (.bl (v1 && v2))
theorem uA {c:Cs}{d:D}{v:Bool}{Z:Prop}{P:DK} (h:w8 c d v) (hP:P (.bl v)):(isI c.Paper [] d∧cu c [d] P)∨(isI c.MixPaper zA d∧bH c [d] P)∨(isI c.StepPaper zU d∧bw c [d] P)∨(isI c.BarPaper zN d∧bJ c [d] P)∨(isI c.LeadPaper Ad d∧bz c [d] P)∨(isI c.SumPaper zg d∧bG c [d] P)∨(isI c.CutPaper zl d∧bI c [d] P)∨(isI c.SwapPaper zB d∧bx c [d] P)∨(isI c.RoundPaper Aa d∧bo c [d] P)∨Z:=by
  rcases h with ⟨h1,h2⟩ | ⟨h1,h2⟩ | ⟨h1,h2⟩ | ⟨h1,h2⟩ | ⟨h1,h2⟩ | ⟨h1,h2⟩ | ⟨h1,h2⟩ | ⟨h1,h2⟩ | ⟨h1,h2⟩
  · exact .inl ⟨h1,h2 P hP⟩
  · exact .inr (.inl ⟨h1,h2 P hP⟩)
  · exact .inr (.inr (.inl ⟨h1,h2 P hP⟩))
  · exact .inr (.inr (.inr (.inl ⟨h1,h2 P hP⟩)))
  · exact .inr (.inr (.inr (.inr (.inl ⟨h1,h2 P hP⟩))))
  · exact .inr (.inr (.inr (.inr (.inr (.inl ⟨h1,h2 P hP⟩)))))
  · exact .inr (.inr (.inr (.inr (.inr (.inr (.inl ⟨h1,h2 P hP⟩))))))
  · exact .inr (.inr (.inr (.inr (.inr (.inr (.inr (.inl ⟨h1,h2 P hP⟩)))))))
  · exact .inr (.inr (.inr (.inr (.inr (.inr (.inr (.inr (.inl ⟨h1,h2 P hP⟩))))))))
theorem oR {c:Cs}{n:Nat}{d:D}{v:Bool}{P:DK} (h:ke c n d v) (hP:P (.bl v)):(isI c.Paper [] d∧cu c [d] P)∨(isI c.MixPaper zA d∧bH c [d] P)∨(isI c.StepPaper zU d∧bw c [d] P)∨(isI c.BarPaper zN d∧bJ c [d] P)∨(isI c.LeadPaper Ad d∧bz c [d] P)∨(isI c.SumPaper zg d∧bG c [d] P)∨(isI c.CutPaper zl d∧bI c [d] P)∨(isI c.SwapPaper zB d∧bx c [d] P)∨(isI c.RoundPaper Aa d∧bo c [d] P)∨(isI c.PairPaper sC d∧bA c n [d] P):=by
  cases n with
  | zero=>exact uA h hP
  | succ n =>
    rcases h with h | ⟨d1,d2,v1,v2,rfl,h1,h2,rfl⟩
    · exact uA h hP
    · exact .inr (.inr (.inr (.inr (.inr (.inr (.inr (.inr (.inr (⟨⟨rfl,rfl⟩,d1,d2,v1,v2,rfl,h1,h2,hP⟩)))))))))
theorem lJ {c:Cs}{K:PySem.W.Frag}{vs:List V}{H:Hp}{Q:VK}{E:XK} (h:spP K (bA c 0) vs H Q E):False:=by
  obtain ⟨ds,_,z⟩:=h
  exact z
theorem dw {c:Cs}{n:Nat}:br (bA c n):=by
  intro xs P P' k h
  cases n with
  | zero=>exact h
  | succ n =>
    obtain ⟨d1,d2,v1,v2,e,h1,h2,z⟩:=h
    exact⟨d1,d2,v1,v2,e,h1,h2,k _ z⟩
theorem ja {c:Cs}{n:Nat}:∀ds P,bA c n ds P→ds.length=1:=by
  intro ds P h
  cases n with
  | zero=>exact h.elim
  | succ n =>
    obtain ⟨_,_,_,_,e,_⟩:=h
    rw[e];rfl
theorem aw {c:Cs}{n k:Nat}{f:Addr}{fd:FuncData} (F:fP K c.PairPaper "holds" "PairPaper.holds" dq bg f fd) (A_:Fns K mg c) (T:Txt K mg) (xs:Exs K mg base c) (hk:6≤k) (G_PairPaper_holds:aG P w K mg base CX0 k f fd bg (spP K (bA c n))):aG P w K mg base CX0 (k+1) f fd bg (spP K (bA c (n+1))):=by
  obtain ⟨f0,d0,E_Paper_holds⟩:=A_.h_Paper_holds
  have G_Paper_holds:aG P w K mg base CX0 1 f0 d0 cQ (spP K (cu c)):=jE E_Paper_holds A_ T xs
  obtain ⟨f1,d1,E_MixPaper_holds⟩:=A_.h_MixPaper_holds
  have G_MixPaper_holds:aG P w K mg base CX0 4 f1 d1 cm (spP K (bH c)):=gW E_MixPaper_holds A_ T xs
  obtain ⟨f2,d2,E_StepPaper_holds⟩:=A_.h_StepPaper_holds
  have G_StepPaper_holds:aG P w K mg base CX0 5 f2 d2 b4 (spP K (bw c)):=fZ E_StepPaper_holds A_ T xs
  obtain ⟨f3,d3,E_BarPaper_holds⟩:=A_.h_BarPaper_holds
  have G_BarPaper_holds:aG P w K mg base CX0 3 f3 d3 cn (spP K (bJ c)):=gS E_BarPaper_holds A_ T xs
  obtain ⟨f4,d4,E_LeadPaper_holds⟩:=A_.h_LeadPaper_holds
  have G_LeadPaper_holds:aG P w K mg base CX0 5 f4 d4 b3 (spP K (bz c)):=gi E_LeadPaper_holds A_ T xs
  obtain ⟨f5,d5,E_SumPaper_holds⟩:=A_.h_SumPaper_holds
  have G_SumPaper_holds:aG P w K mg base CX0 4 f5 d5 cf (spP K (bG c)):=gU E_SumPaper_holds A_ T xs
  obtain ⟨f6,d6,E_CutPaper_holds⟩:=A_.h_CutPaper_holds
  have G_CutPaper_holds:aG P w K mg base CX0 2 f6 d6 cq (spP K (bI c)):=gO E_CutPaper_holds A_ T xs
  obtain ⟨f7,d7,E_SwapPaper_holds⟩:=A_.h_SwapPaper_holds
  have G_SwapPaper_holds:aG P w K mg base CX0 5 f7 d7 bY (spP K (bx c)):=gf E_SwapPaper_holds A_ T xs
  obtain ⟨f8,d8,E_RoundPaper_holds⟩:=A_.h_RoundPaper_holds
  have G_RoundPaper_holds:aG P w K mg base CX0 6 f8 d8 bS (spP K (bo c)):=fK E_RoundPaper_holds A_ T xs
  have E_PairPaper_holds:=F
  refine F.fn.ok nE (fun vs H Q E h=>a9 ja h) (fun cdv A outer s H vs Q E hr h=>?_)
  refine⟨_,(av (aH (ie (bM (aW (az (K:=K) rfl (pv 0) rfl) xs.i_Paper.cl E_Paper_holds.mt G_Paper_holds (hr.mono (by omega)) E_Paper_holds.bd .nil aD) (bM (aW (az (K:=K) rfl (pv 0) rfl) xs.i_MixPaper.cl E_MixPaper_holds.mt G_MixPaper_holds (hr.mono (by omega)) E_MixPaper_holds.bd .nil aD) (bM (aW (az (K:=K) rfl (pv 0) rfl) xs.i_StepPaper.cl E_StepPaper_holds.mt G_StepPaper_holds (hr.mono (by omega)) E_StepPaper_holds.bd .nil aD) (bM (aW (az (K:=K) rfl (pv 0) rfl) xs.i_BarPaper.cl E_BarPaper_holds.mt G_BarPaper_holds (hr.mono (by omega)) E_BarPaper_holds.bd .nil aD) (bM (aW (az (K:=K) rfl (pv 0) rfl) xs.i_LeadPaper.cl E_LeadPaper_holds.mt G_LeadPaper_holds (hr.mono (by omega)) E_LeadPaper_holds.bd .nil aD) (bM (aW (az (K:=K) rfl (pv 0) rfl) xs.i_SumPaper.cl E_SumPaper_holds.mt G_SumPaper_holds (hr.mono (by omega)) E_SumPaper_holds.bd .nil aD) (bM (aW (az (K:=K) rfl (pv 0) rfl) xs.i_CutPaper.cl E_CutPaper_holds.mt G_CutPaper_holds (hr.mono (by omega)) E_CutPaper_holds.bd .nil aD) (bM (aW (az (K:=K) rfl (pv 0) rfl) xs.i_SwapPaper.cl E_SwapPaper_holds.mt G_SwapPaper_holds (hr.mono (by omega)) E_SwapPaper_holds.bd .nil aD) (bM (aW (az (K:=K) rfl (pv 0) rfl) xs.i_RoundPaper.cl E_RoundPaper_holds.mt G_RoundPaper_holds (hr.mono (by omega)) E_RoundPaper_holds.bd .nil aD) (aW (az (K:=K) rfl (pv 0) rfl) xs.i_PairPaper.cl E_PairPaper_holds.mt G_PairPaper_holds (hr.mono (by omega)) E_PairPaper_holds.bd .nil aD)))))))))) (ib (bM (aW (az (K:=K) rfl (pv 0) rfl) xs.i_Paper.cl E_Paper_holds.mt G_Paper_holds (hr.mono (by omega)) E_Paper_holds.bd .nil aD) (bM (aW (az (K:=K) rfl (pv 0) rfl) xs.i_MixPaper.cl E_MixPaper_holds.mt G_MixPaper_holds (hr.mono (by omega)) E_MixPaper_holds.bd .nil aD) (bM (aW (az (K:=K) rfl (pv 0) rfl) xs.i_StepPaper.cl E_StepPaper_holds.mt G_StepPaper_holds (hr.mono (by omega)) E_StepPaper_holds.bd .nil aD) (bM (aW (az (K:=K) rfl (pv 0) rfl) xs.i_BarPaper.cl E_BarPaper_holds.mt G_BarPaper_holds (hr.mono (by omega)) E_BarPaper_holds.bd .nil aD) (bM (aW (az (K:=K) rfl (pv 0) rfl) xs.i_LeadPaper.cl E_LeadPaper_holds.mt G_LeadPaper_holds (hr.mono (by omega)) E_LeadPaper_holds.bd .nil aD) (bM (aW (az (K:=K) rfl (pv 0) rfl) xs.i_SumPaper.cl E_SumPaper_holds.mt G_SumPaper_holds (hr.mono (by omega)) E_SumPaper_holds.bd .nil aD) (bM (aW (az (K:=K) rfl (pv 0) rfl) xs.i_CutPaper.cl E_CutPaper_holds.mt G_CutPaper_holds (hr.mono (by omega)) E_CutPaper_holds.bd .nil aD) (bM (aW (az (K:=K) rfl (pv 0) rfl) xs.i_SwapPaper.cl E_SwapPaper_holds.mt G_SwapPaper_holds (hr.mono (by omega)) E_SwapPaper_holds.bd .nil aD) (bM (aW (az (K:=K) rfl (pv 0) rfl) xs.i_RoundPaper.cl E_RoundPaper_holds.mt G_RoundPaper_holds (hr.mono (by omega)) E_RoundPaper_holds.bd .nil aD) (aW (az (K:=K) rfl (pv 0) rfl) xs.i_PairPaper.cl E_PairPaper_holds.mt G_PairPaper_holds (hr.mono (by omega)) E_PairPaper_holds.bd .nil aD)))))))))))))),bF (Γn:=[]) (N:=gH) (aI (M:=[]) (fm (EM.er (bN (a7 (C:=c.Paper) [] fI (ES.er (aK ["first","second"] 0 xs.i_PairPaper.cl xs.n_PairPaper_first (af 0))) aj) (bN (a7 (C:=c.MixPaper) ["table","pairs"] dP (ES.er (aK ["first","second"] 0 xs.i_PairPaper.cl xs.n_PairPaper_first (af 0))) aj) (bN (a7 (C:=c.StepPaper) ["one","other","steps"] dD (ES.er (aK ["first","second"] 0 xs.i_PairPaper.cl xs.n_PairPaper_first (af 0))) aj) (bN (a7 (C:=c.BarPaper) ["one","other","k"] dO (ES.er (aK ["first","second"] 0 xs.i_PairPaper.cl xs.n_PairPaper_first (af 0))) aj) (bN (a7 (C:=c.LeadPaper) ["one","other","table"] dy (ES.er (aK ["first","second"] 0 xs.i_PairPaper.cl xs.n_PairPaper_first (af 0))) aj) (bN (a7 (C:=c.SumPaper) ["rows","columns","table"] dN (ES.er (aK ["first","second"] 0 xs.i_PairPaper.cl xs.n_PairPaper_first (af 0))) aj) (bN (a7 (C:=c.CutPaper) ["rows","columns","low","high","some","others"] dJ (ES.er (aK ["first","second"] 0 xs.i_PairPaper.cl xs.n_PairPaper_first (af 0))) aj) (bN (a7 (C:=c.SwapPaper) ["one","other","swaps"] du (ES.er (aK ["first","second"] 0 xs.i_PairPaper.cl xs.n_PairPaper_first (af 0))) aj) (bN (a7 (C:=c.RoundPaper) ["table","bottom","whole"] cX (ES.er (aK ["first","second"] 0 xs.i_PairPaper.cl xs.n_PairPaper_first (af 0))) aj) (a7 (C:=c.PairPaper) ["first","second"] dw (ES.er (aK ["first","second"] 0 xs.i_PairPaper.cl xs.n_PairPaper_first (af 0))) aj))))))))))) (bN (a7 (C:=c.Paper) [] fI (ES.er (aK ["first","second"] 1 xs.i_PairPaper.cl xs.n_PairPaper_second (af 0))) aj) (bN (a7 (C:=c.MixPaper) ["table","pairs"] dP (ES.er (aK ["first","second"] 1 xs.i_PairPaper.cl xs.n_PairPaper_second (af 0))) aj) (bN (a7 (C:=c.StepPaper) ["one","other","steps"] dD (ES.er (aK ["first","second"] 1 xs.i_PairPaper.cl xs.n_PairPaper_second (af 0))) aj) (bN (a7 (C:=c.BarPaper) ["one","other","k"] dO (ES.er (aK ["first","second"] 1 xs.i_PairPaper.cl xs.n_PairPaper_second (af 0))) aj) (bN (a7 (C:=c.LeadPaper) ["one","other","table"] dy (ES.er (aK ["first","second"] 1 xs.i_PairPaper.cl xs.n_PairPaper_second (af 0))) aj) (bN (a7 (C:=c.SumPaper) ["rows","columns","table"] dN (ES.er (aK ["first","second"] 1 xs.i_PairPaper.cl xs.n_PairPaper_second (af 0))) aj) (bN (a7 (C:=c.CutPaper) ["rows","columns","low","high","some","others"] dJ (ES.er (aK ["first","second"] 1 xs.i_PairPaper.cl xs.n_PairPaper_second (af 0))) aj) (bN (a7 (C:=c.SwapPaper) ["one","other","swaps"] du (ES.er (aK ["first","second"] 1 xs.i_PairPaper.cl xs.n_PairPaper_second (af 0))) aj) (bN (a7 (C:=c.RoundPaper) ["table","bottom","whole"] cX (ES.er (aK ["first","second"] 1 xs.i_PairPaper.cl xs.n_PairPaper_second (af 0))) aj) (a7 (C:=c.PairPaper) ["first","second"] dw (ES.er (aK ["first","second"] 1 xs.i_PairPaper.cl xs.n_PairPaper_second (af 0))) aj)))))))))))) (fun ds P hS=>?_) h⟩
  obtain ⟨d1,d2,v1,v2,rfl,h1,h2,hP⟩:=hS
  rw[show aO gH [.ins c.PairPaper sC [d1,d2]]=[some (.ins c.PairPaper sC [d1,d2])] from rfl]
  walk_at "go"
  refine oR h1 ?_
  walk_at "go"
  cases v1
  · exact hP
  · exact oR h2 hP
theorem jD {c:Cs}{f:Addr}{fd:FuncData} (F:fP K c.PairPaper "holds" "PairPaper.holds" dq bg f fd) (A_:Fns K mg c) (T:Txt K mg) (xs:Exs K mg base c):aG P w K mg base CX0 34 f fd bg (spP K (bA c 28)):=by
  have G0:aG P w K mg base CX0 6 f fd bg (spP K (bA c 0)):=⟨fun vs H Q E h=>a9 ja h,fun A outer s H args us vs Q E hr e0 hb r h=>(lJ h).elim⟩
  exact (aw F A_ T xs (by decide) (aw F A_ T xs (by decide) (aw F A_ T xs (by decide) (aw F A_ T xs (by decide) (aw F A_ T xs (by decide) (aw F A_ T xs (by decide) (aw F A_ T xs (by decide) (aw F A_ T xs (by decide) (aw F A_ T xs (by decide) (aw F A_ T xs (by decide) (aw F A_ T xs (by decide) (aw F A_ T xs (by decide) (aw F A_ T xs (by decide) (aw F A_ T xs (by decide) (aw F A_ T xs (by decide) (aw F A_ T xs (by decide) (aw F A_ T xs (by decide) (aw F A_ T xs (by decide) (aw F A_ T xs (by decide) (aw F A_ T xs (by decide) (aw F A_ T xs (by decide) (aw F A_ T xs (by decide) (aw F A_ T xs (by decide) (aw F A_ T xs (by decide) (aw F A_ T xs (by decide) (aw F A_ T xs (by decide) (aw F A_ T xs (by decide) (aw F A_ T xs (by decide) G0))))))))))))))))))))))))))))
def due (x:Int):Bool:=decide (x % 9=8) || decide (x / 9 % 2=0)
def ed:DSp:=fun ds P=>∃x:Int,ds=[.int x]∧P (.bl (due x))
theorem gM:br ed:=by
  intro xs P P' k h
  unfold ed at h ⊢
  grind
theorem yb:∀ds P,ed ds P→ds.length=1:=by
  intro ds P h
  obtain ⟨_,e,_⟩:=h
  rw[e];rfl
theorem tf {c:Cs}{f:Addr}{fd:FuncData} (F:FnAt K mg "_law_due" mD iq f fd) (A_:Fns K mg c) (T:Txt K mg) (xs:Exs K mg base c):aG P w K mg base CX0 1 f fd iq (spP K ed):=by
  refine F.fn.ok yu (fun vs H Q E h=>a9 yb h) (fun cdv A outer s H vs Q E hr h=>?_)
  refine⟨_,(av (aH (G3 (cE cY (bj jR (pv 0) ak) ak (a6 _)) (ib (cE cY (bj jR (bj pD (pv 0) ak) ak) ak (a6 _)))))),bF (Γn:=[]) (N:=pL) (aI (M:=[]) (FT (EM.er (aE gF (EM.er (aE cN (ES.er (af 0)) (EM.er ao))) (EM.er ao))) (aE gF (EM.er (aE cN (EM.er (aE cN (ES.er (af 0)) (EM.er ao))) (EM.er ao))) (EM.er ao)))) (fun ds P hS=>?_) h⟩
  obtain ⟨x,rfl,hP⟩:=hS
  rw[show aO pL [.int x]=[some (.int x)] from rfl]
  walk_at "go"
  by_cases h:x % 9=8
  · rw[if_pos h]
    rw[show due x=true by simp [due,h]] at hP
    exact hP
  · rw[if_neg h]
    refine⟨by walk_at "cd",?_⟩
    rw[show due x=decide (x / 9 % 2=0) by simp [due,h]] at hP
    exact hP
def upx (x:Int):Int:=x / 9 % 2
def byx (x:Int):Int:=1+x / 18 % 1000000000
def cz (x:Int):List D :=
  if x % 9=0 then [dT [[byx x,0],[0,byx x+upx x]],.lst ([(byx x,[0,1])].map dPr)]
  else if x % 9=1 then [dI [byx x+upx x,byx x],dI [0,2*byx x],.lst ([(1,0,byx x)].map dS3)]
  else if x % 9=2 then [dI [byx x,0 - byx x],dI [byx x - 1+upx x,1 - byx x - upx x],.int 1]
  else if x % 9=3 then [dI [byx x,byx x+2*upx x],dI [2*byx x,0],dT [[1,1],[1,1]]]
  else if x % 9=4 then [dI [1,1+upx x],dI [1,1],dT [[1,0],[0,1]]]
  else if x % 9=5 then [dI [byx x+1 - upx x],dI [byx x],dT [[0]],dT [[byx x]],dI [0],dI [0]]
  else if x % 9=6 then [dT [[1,0],[0,1]],dT [[upx x,1],[1,0]],.lst ([((0:Int),(0:Int),(1:Int),(1:Int))].map dS4)]
  else [dT [[byx x]],.int (byx x+1),dT [[1+upx x*7]]]
theorem wj {x:Int} (k:x % 9=0):cz x=[dT [[byx x,0],[0,byx x+upx x]],.lst ([(byx x,[0,1])].map dPr)]:=by unfold cz;rw[k];rfl
theorem wH {x:Int} (k:x % 9=1):cz x=[dI [byx x+upx x,byx x],dI [0,2*byx x],.lst ([(1,0,byx x)].map dS3)]:=by unfold cz;rw[k];rfl
theorem wk {x:Int} (k:x % 9=2):cz x=[dI [byx x,0 - byx x],dI [byx x - 1+upx x,1 - byx x - upx x],.int 1]:=by unfold cz;rw[k];rfl
theorem vq {x:Int} (k:x % 9=3):cz x=[dI [byx x,byx x+2*upx x],dI [2*byx x,0],dT [[1,1],[1,1]]]:=by unfold cz;rw[k];rfl
theorem vK {x:Int} (k:x % 9=4):cz x=[dI [1,1+upx x],dI [1,1],dT [[1,0],[0,1]]]:=by unfold cz;rw[k];rfl
theorem wy {x:Int} (k:x % 9=5):cz x=[dI [byx x+1 - upx x],dI [byx x],dT [[0]],dT [[byx x]],dI [0],dI [0]]:=by unfold cz;rw[k];rfl
theorem wU {x:Int} (k:x % 9=6):cz x=[dT [[1,0],[0,1]],dT [[upx x,1],[1,0]],.lst ([((0:Int),(0:Int),(1:Int),(1:Int))].map dS4)]:=by unfold cz;rw[k];rfl
theorem vF {x:Int} (k:x % 9=7):cz x=[dT [[byx x]],.int (byx x+1),dT [[1+upx x*7]]]:=by unfold cz;rw[k];rfl
theorem wt {x:Int} (k:x % 9=8):cz x=[dT [[byx x]],.int (byx x+1),dT [[1+upx x*7]]]:=by unfold cz;rw[k];rfl
theorem kinds (x:Int):x % 9=0∨x % 9=1∨x % 9=2∨x % 9=3∨x % 9=4∨x % 9=5∨x % 9=6∨x % 9=7∨x % 9=8:=by omega
theorem hb_ {x:Int} (h0:0≤x):1≤byx x∧byx x≤1000000000:=by unfold byx;omega
theorem hu_ {x:Int} (h0:0≤x):upx x=0∨upx x=1:=by unfold upx;omega
def gu:DSp:=fun ds P=>∃x:Int,ds=[.int x]∧0≤x∧x<10 ^ 12∧P (.lst (cz x))
theorem sG:br gu:=by
  intro xs P P' k h
  unfold gu at h ⊢
  grind
theorem tD:∀ds P,gu ds P→ds.length=1:=by
  intro ds P h
  obtain ⟨_,e,_⟩:=h
  rw[e];rfl
theorem wR {c:Cs}{f:Addr}{fd:FuncData} (F:FnAt K mg "_law_parts" kd gv f fd) (A_:Fns K mg c) (T:Txt K mg) (xs:Exs K mg base c):aG P w K mg base CX0 1 f fd gv (spP K gu):=by
  refine F.fn.ok jh (fun vs H Q E h=>a9 tD h) (fun cdv A outer s H vs Q E hr h=>?_)
  refine⟨_,(ar (bp (i:=1) jh.nd rfl (by first | exact Or.inl rfl | exact Or.inr rfl) (bj jR (bj pD (pv 0) ak) ak)) (ar (bp (i:=2) jh.nd rfl (by first | exact Or.inl rfl | exact Or.inr rfl) (bj iz ak (bj jR (bj pD (pv 0) ak) (bj B5 ak ak)))) (ar (bp (i:=3) jh.nd rfl (by first | exact Or.inl rfl | exact Or.inr rfl) (bj jR (pv 0) ak)) (ar (b5 (bD cY (pv 3) ak (a6 _)) (av (aH (aT (aa (aT (aa (aT (aa (pv 2) (aa ak ai))) (aa (aT (aa ak (aa (bj iz (pv 2) (pv 1)) ai))) ai))) (aa (aT (aa (wu (aa (pv 2) (aa (aT (aa ak (aa ak ai))) ai))) ai)) ai))))) a8) (ar (b5 (bD cY (pv 3) ak (a6 _)) (av (aH (aT (aa (aT (aa (bj iz (pv 2) (pv 1)) (aa (pv 2) ai))) (aa (aT (aa ak (aa (bj kX ak (pv 2)) ai))) (aa (aT (aa (wu (aa ak (aa ak (aa (pv 2) ai)))) ai)) ai)))))) a8) (ar (b5 (bD cY (pv 3) ak (a6 _)) (av (aH (aT (aa (aT (aa (pv 2) (aa (bj jK ak (pv 2)) ai))) (aa (aT (aa (bj iz (bj jK (pv 2) ak) (pv 1)) (aa (bj jK (bj jK ak (pv 2)) (pv 1)) ai))) (aa ak ai)))))) a8) (ar (b5 (bD cY (pv 3) ak (a6 _)) (av (aH (aT (aa (aT (aa (pv 2) (aa (bj iz (pv 2) (bj kX ak (pv 1))) ai))) (aa (aT (aa (bj kX ak (pv 2)) (aa ak ai))) (aa (aT (aa (aT (aa ak (aa ak ai))) (aa (aT (aa ak (aa ak ai))) ai))) ai)))))) a8) (ar (b5 (bD cY (pv 3) ak (a6 _)) (av (aH (aT (aa (aT (aa ak (aa (bj iz ak (pv 1)) ai))) (aa (aT (aa ak (aa ak ai))) (aa (aT (aa (aT (aa ak (aa ak ai))) (aa (aT (aa ak (aa ak ai))) ai))) ai)))))) a8) (ar (b5 (bD cY (pv 3) ak (a6 _)) (av (aH (aT (aa (aT (aa (bj jK (bj iz (pv 2) ak) (pv 1)) ai)) (aa (aT (aa (pv 2) ai)) (aa (aT (aa (aT (aa ak ai)) ai)) (aa (aT (aa (aT (aa (pv 2) ai)) ai)) (aa (aT (aa ak ai)) (aa (aT (aa ak ai)) ai))))))))) a8) (ar (b5 (bD cY (pv 3) ak (a6 _)) (av (aH (aT (aa (aT (aa (aT (aa ak (aa ak ai))) (aa (aT (aa ak (aa ak ai))) ai))) (aa (aT (aa (aT (aa (pv 1) (aa ak ai))) (aa (aT (aa ak (aa ak ai))) ai))) (aa (aT (aa (wu (aa ak (aa ak (aa ak (aa ak ai))))) ai)) ai)))))) a8) (av (aH (aT (aa (aT (aa (aT (aa (pv 2) ai)) ai)) (aa (bj iz (pv 2) ak) (aa (aT (aa (aT (aa (bj iz ak (bj kX (pv 1) ak)) ai)) ai)) ai)))))))))))))))),bF (Γn:=[]) (N:=lK) (aA (ST.post (Γn:=[]) (bO 1 (EM.es (aE cN (EM.er (aE cN (ES.er (af 0)) (EM.er ao))) (EM.er ao))))) (aA (ST.post (Γn:=[]) (bO 2 (EM.es (aE eO (EM.er ao) (EM.er (aE cN (EM.er (aE cN (ES.er (af 0)) (EM.er ao))) (EM.er (aE cN (EM.er ao) (EM.er ao))))))))) (aA (ST.post (Γn:=[]) (bO 3 (EM.es (aE cN (ES.er (af 0)) (EM.er ao))))) (aA (bV (bh (EM.er (aE gF (ES.er (af 3)) (EM.er ao)))) (aI (M:=[]) (aV (aq (aV (aq (aV (aq (ER.bC (ES.er (af 2))) (aq ao aQ))) (aq (aV (aq ao (aq (aE eO (ES.er (af 2)) (ES.er (af 1))) aQ))) aQ))) (aq (aV (aq (vJ (aq (ER.bC (ES.er (af 2))) (aq (aV (aq ao (aq ao aQ))) aQ))) aQ)) aQ)))) aY) (aA (bV (bh (EM.er (aE gF (ES.er (af 3)) (EM.er ao)))) (aI (M:=[]) (aV (aq (aV (aq (aE eO (ES.er (af 2)) (ES.er (af 1))) (aq (ER.bC (ES.er (af 2))) aQ))) (aq (aV (aq ao (aq (aE cN (EM.er ao) (ES.er (af 2))) aQ))) (aq (aV (aq (vJ (aq ao (aq ao (aq (ER.bC (ES.er (af 2))) aQ)))) aQ)) aQ))))) aY) (aA (bV (bh (EM.er (aE gF (ES.er (af 3)) (EM.er ao)))) (aI (M:=[]) (aV (aq (aV (aq (ER.bC (ES.er (af 2))) (aq (aE eO (EM.er ao) (ES.er (af 2))) aQ))) (aq (aV (aq (aE eO (EM.er (aE eO (ES.er (af 2)) (EM.er ao))) (ES.er (af 1))) (aq (aE eO (EM.er (aE eO (EM.er ao) (ES.er (af 2)))) (ES.er (af 1))) aQ))) (aq ao aQ))))) aY) (aA (bV (bh (EM.er (aE gF (ES.er (af 3)) (EM.er ao)))) (aI (M:=[]) (aV (aq (aV (aq (ER.bC (ES.er (af 2))) (aq (aE eO (ES.er (af 2)) (EM.er (aE cN (EM.er ao) (ES.er (af 1))))) aQ))) (aq (aV (aq (aE cN (EM.er ao) (ES.er (af 2))) (aq ao aQ))) (aq (aV (aq (aV (aq ao (aq ao aQ))) (aq (aV (aq ao (aq ao aQ))) aQ))) aQ))))) aY) (aA (bV (bh (EM.er (aE gF (ES.er (af 3)) (EM.er ao)))) (aI (M:=[]) (aV (aq (aV (aq ao (aq (aE eO (EM.er ao) (ES.er (af 1))) aQ))) (aq (aV (aq ao (aq ao aQ))) (aq (aV (aq (aV (aq ao (aq ao aQ))) (aq (aV (aq ao (aq ao aQ))) aQ))) aQ))))) aY) (aA (bV (bh (EM.er (aE gF (ES.er (af 3)) (EM.er ao)))) (aI (M:=[]) (aV (aq (aV (aq (aE eO (EM.er (aE eO (ES.er (af 2)) (EM.er ao))) (ES.er (af 1))) aQ)) (aq (aV (aq (ER.bC (ES.er (af 2))) aQ)) (aq (aV (aq (aV (aq ao aQ)) aQ)) (aq (aV (aq (aV (aq (ER.bC (ES.er (af 2))) aQ)) aQ)) (aq (aV (aq ao aQ)) (aq (aV (aq ao aQ)) aQ)))))))) aY) (aA (bV (bh (EM.er (aE gF (ES.er (af 3)) (EM.er ao)))) (aI (M:=[]) (aV (aq (aV (aq (aV (aq ao (aq ao aQ))) (aq (aV (aq ao (aq ao aQ))) aQ))) (aq (aV (aq (aV (aq (ER.bC (ES.er (af 1))) (aq ao aQ))) (aq (aV (aq ao (aq ao aQ))) aQ))) (aq (aV (aq (vJ (aq ao (aq ao (aq ao (aq ao aQ))))) aQ)) aQ))))) aY) (aI (M:=[]) (aV (aq (aV (aq (aV (aq (ER.bC (ES.er (af 2))) aQ)) aQ)) (aq (aE eO (ES.er (af 2)) (EM.er ao)) (aq (aV (aq (aV (aq (aE eO (EM.er ao) (EM.er (aE cN (ES.er (af 1)) (EM.er ao)))) aQ)) aQ)) aQ))))))))))))))) (fun ds P hS=>?_) h⟩
  obtain ⟨x,rfl,h0,h1,hP⟩:=hS
  rw[show aO lK [.int x]=[some (.int x),none,none,none] from rfl]
  walk_at "go"
  rcases kinds x with k | k | k | k | k | k | k | k | k
  · rw[wj k] at hP
    rw[if_pos k]
    walk_at "go"
    exact hP
  · rw[wH k] at hP
    rw[if_neg (by omega),if_pos k]
    walk_at "go"
    exact hP
  · rw[wk k] at hP
    rw[if_neg (by omega),if_neg (by omega),if_pos k]
    walk_at "go"
    exact hP
  · rw[vq k] at hP
    rw[if_neg (by omega),if_neg (by omega),if_neg (by omega),if_pos k]
    walk_at "go"
    exact hP
  · rw[vK k] at hP
    rw[if_neg (by omega),if_neg (by omega),if_neg (by omega),if_neg (by omega),if_pos k]
    walk_at "go"
    exact hP
  · rw[wy k] at hP
    rw[if_neg (by omega),if_neg (by omega),if_neg (by omega),if_neg (by omega),if_neg (by omega),if_pos k]
    walk_at "go"
    exact hP
  · rw[wU k] at hP
    rw[if_neg (by omega),if_neg (by omega),if_neg (by omega),if_neg (by omega),if_neg (by omega),if_neg (by omega),if_pos k]
    walk_at "go"
    exact hP
  · rw[vF k] at hP
    rw[if_neg (by omega),if_neg (by omega),if_neg (by omega),if_neg (by omega),if_neg (by omega),if_neg (by omega),if_neg (by omega)]
    walk_at "go"
    exact hP
  · rw[wt k] at hP
    rw[if_neg (by omega),if_neg (by omega),if_neg (by omega),if_neg (by omega),if_neg (by omega),if_neg (by omega),if_neg (by omega)]
    walk_at "go"
    exact hP
def ef (c:Cs) (x:Int):D :=
  if x % 9=0 then AA c [[byx x,0],[0,byx x+upx x]] [(byx x,[0,1])]
  else if x % 9=1 then AD c [byx x+upx x,byx x] [0,2*byx x] [(1,0,byx x)]
  else if x % 9=2 then AU c [byx x,0 - byx x] [byx x - 1+upx x,1 - byx x - upx x] 1
  else if x % 9=3 then Ap c [byx x,byx x+2*upx x] [2*byx x,0] [[1,1],[1,1]]
  else if x % 9=4 then AW c [1,1+upx x] [1,1] [[1,0],[0,1]]
  else if x % 9=5 then cutD c [byx x+1 - upx x] [byx x] [[0]] [[byx x]] [0] [0]
  else if x % 9=6 then AG c [[1,0],[0,1]] [[upx x,1],[1,0]] [(0,0,1,1)]
  else if x % 9=7 then AE c [[byx x]] (byx x+1) [[1+upx x*7]]
  else .ins c.Paper [] []
theorem BA {c:Cs}{x:Int} (k:x % 9=0):ef c x=AA c [[byx x,0],[0,byx x+upx x]] [(byx x,[0,1])]:=by unfold ef;rw[k];rfl
theorem Cb {c:Cs}{x:Int} (k:x % 9=1):ef c x=AD c [byx x+upx x,byx x] [0,2*byx x] [(1,0,byx x)]:=by unfold ef;rw[k];rfl
theorem C7 {c:Cs}{x:Int} (k:x % 9=2):ef c x=AU c [byx x,0 - byx x] [byx x - 1+upx x,1 - byx x - upx x] 1:=by unfold ef;rw[k];rfl
theorem CZ {c:Cs}{x:Int} (k:x % 9=3):ef c x=Ap c [byx x,byx x+2*upx x] [2*byx x,0] [[1,1],[1,1]]:=by unfold ef;rw[k];rfl
theorem CF {c:Cs}{x:Int} (k:x % 9=4):ef c x=AW c [1,1+upx x] [1,1] [[1,0],[0,1]]:=by unfold ef;rw[k];rfl
theorem BD {c:Cs}{x:Int} (k:x % 9=5):ef c x=cutD c [byx x+1 - upx x] [byx x] [[0]] [[byx x]] [0] [0]:=by unfold ef;rw[k];rfl
theorem CJ {c:Cs}{x:Int} (k:x % 9=6):ef c x=AG c [[1,0],[0,1]] [[upx x,1],[1,0]] [(0,0,1,1)]:=by unfold ef;rw[k];rfl
theorem Dq {c:Cs}{x:Int} (k:x % 9=7):ef c x=AE c [[byx x]] (byx x+1) [[1+upx x*7]]:=by unfold ef;rw[k];rfl
theorem BO {c:Cs}{x:Int} (k:x % 9=8):ef c x=.ins c.Paper [] []:=by unfold ef;rw[k];rfl
def gA (c:Cs):DSp:=fun ds P=>∃x:Int,ds=[.int x,.lst (cz x)]∧P (ef c x)
theorem rR {c:Cs}:br (gA c):=by
  intro xs P P' k h
  unfold gA at h ⊢
  grind
theorem uh {c:Cs}:∀ds P,(gA c) ds P→ds.length=2:=by
  intro ds P h
  obtain ⟨_,e,_⟩:=h
  rw[e];rfl
theorem vW {c:Cs}{f:Addr}{fd:FuncData} (F:FnAt K mg "_law_paper" jY gD f fd) (A_:Fns K mg c) (T:Txt K mg) (xs:Exs K mg base c):aG P w K mg base CX0 4 f fd gD (spP K (gA c)):=by
  obtain ⟨f0,d0,E_MixPaper_init⟩:=A_.h_MixPaper_init
  have G_MixPaper_init:aG P w K mg base CX0 2 f0 d0 dm (spN K c.MixPaper (cy c)):=pX E_MixPaper_init A_ T xs
  obtain ⟨f1,d1,E_StepPaper_init⟩:=A_.h_StepPaper_init
  have G_StepPaper_init:aG P w K mg base CX0 1 f1 d1 cS (spN K c.StepPaper (ck c)):=oV E_StepPaper_init A_ T xs
  obtain ⟨f2,d2,E_BarPaper_init⟩:=A_.h_BarPaper_init
  have G_BarPaper_init:aG P w K mg base CX0 1 f2 d2 c4 (spN K c.BarPaper (cv c)):=p6 E_BarPaper_init A_ T xs
  obtain ⟨f3,d3,E_LeadPaper_init⟩:=A_.h_LeadPaper_init
  have G_LeadPaper_init:aG P w K mg base CX0 2 f3 d3 cU (spN K c.LeadPaper (cc c)):=o9 E_LeadPaper_init A_ T xs
  obtain ⟨f4,d4,E_SumPaper_init⟩:=A_.h_SumPaper_init
  have G_SumPaper_init:aG P w K mg base CX0 2 f4 d4 df (spN K c.SumPaper (cx c)):=qb E_SumPaper_init A_ T xs
  obtain ⟨f5,d5,E_CutPaper_init⟩:=A_.h_CutPaper_init
  have G_CutPaper_init:aG P w K mg base CX0 2 f5 d5 c7 (spN K c.CutPaper (cw c)):=qm E_CutPaper_init A_ T xs
  obtain ⟨f6,d6,E_SwapPaper_init⟩:=A_.h_SwapPaper_init
  have G_SwapPaper_init:aG P w K mg base CX0 2 f6 d6 cV (spN K c.SwapPaper (b9 c)):=pf E_SwapPaper_init A_ T xs
  obtain ⟨f7,d7,E_RoundPaper_init⟩:=A_.h_RoundPaper_init
  have G_RoundPaper_init:aG P w K mg base CX0 2 f7 d7 cH (spN K c.RoundPaper (bZ c)):=nK E_RoundPaper_init A_ T xs
  refine F.fn.ok oY (fun vs H Q E h=>a9 uh h) (fun cdv A outer s H vs Q E hr h=>?_)
  refine⟨_,(ar (bp (i:=2) oY.nd rfl (by first | exact Or.inl rfl | exact Or.inr rfl) (bj jR (pv 0) ak)) (ar (b5 (bD cY (pv 2) ak (a6 _)) (av (aH (iO E_MixPaper_init.mkk G_MixPaper_init (hr.mono (by decide)) rfl E_MixPaper_init.mg E_MixPaper_init.bd .nil aD (aa (aB (ax (K:=K) rfl) (pv 1) ak (fun _ _=>rfl)) (aa (aB (ax (K:=K) rfl) (pv 1) ak (fun _ _=>rfl)) ai))))) a8) (ar (b5 (bD cY (pv 2) ak (a6 _)) (av (aH (iO E_StepPaper_init.mkk G_StepPaper_init (hr.mono (by decide)) rfl E_StepPaper_init.mg E_StepPaper_init.bd .nil aD (aa (aB (ax (K:=K) rfl) (pv 1) ak (fun _ _=>rfl)) (aa (aB (ax (K:=K) rfl) (pv 1) ak (fun _ _=>rfl)) (aa (aB (ax (K:=K) rfl) (pv 1) ak (fun _ _=>rfl)) ai)))))) a8) (ar (b5 (bD cY (pv 2) ak (a6 _)) (av (aH (iO E_BarPaper_init.mkk G_BarPaper_init (hr.mono (by decide)) rfl E_BarPaper_init.mg E_BarPaper_init.bd .nil aD (aa (aB (ax (K:=K) rfl) (pv 1) ak (fun _ _=>rfl)) (aa (aB (ax (K:=K) rfl) (pv 1) ak (fun _ _=>rfl)) (aa (aB (ax (K:=K) rfl) (pv 1) ak (fun _ _=>rfl)) ai)))))) a8) (ar (b5 (bD cY (pv 2) ak (a6 _)) (av (aH (iO E_LeadPaper_init.mkk G_LeadPaper_init (hr.mono (by decide)) rfl E_LeadPaper_init.mg E_LeadPaper_init.bd .nil aD (aa (aB (ax (K:=K) rfl) (pv 1) ak (fun _ _=>rfl)) (aa (aB (ax (K:=K) rfl) (pv 1) ak (fun _ _=>rfl)) (aa (aB (ax (K:=K) rfl) (pv 1) ak (fun _ _=>rfl)) ai)))))) a8) (ar (b5 (bD cY (pv 2) ak (a6 _)) (av (aH (iO E_SumPaper_init.mkk G_SumPaper_init (hr.mono (by decide)) rfl E_SumPaper_init.mg E_SumPaper_init.bd .nil aD (aa (aB (ax (K:=K) rfl) (pv 1) ak (fun _ _=>rfl)) (aa (aB (ax (K:=K) rfl) (pv 1) ak (fun _ _=>rfl)) (aa (aB (ax (K:=K) rfl) (pv 1) ak (fun _ _=>rfl)) ai)))))) a8) (ar (b5 (bD cY (pv 2) ak (a6 _)) (av (aH (iO E_CutPaper_init.mkk G_CutPaper_init (hr.mono (by decide)) rfl E_CutPaper_init.mg E_CutPaper_init.bd .nil aD (aa (aB (ax (K:=K) rfl) (pv 1) ak (fun _ _=>rfl)) (aa (aB (ax (K:=K) rfl) (pv 1) ak (fun _ _=>rfl)) (aa (aB (ax (K:=K) rfl) (pv 1) ak (fun _ _=>rfl)) (aa (aB (ax (K:=K) rfl) (pv 1) ak (fun _ _=>rfl)) (aa (aB (ax (K:=K) rfl) (pv 1) ak (fun _ _=>rfl)) (aa (aB (ax (K:=K) rfl) (pv 1) ak (fun _ _=>rfl)) ai))))))))) a8) (ar (b5 (bD cY (pv 2) ak (a6 _)) (av (aH (iO E_SwapPaper_init.mkk G_SwapPaper_init (hr.mono (by decide)) rfl E_SwapPaper_init.mg E_SwapPaper_init.bd .nil aD (aa (aB (ax (K:=K) rfl) (pv 1) ak (fun _ _=>rfl)) (aa (aB (ax (K:=K) rfl) (pv 1) ak (fun _ _=>rfl)) (aa (aB (ax (K:=K) rfl) (pv 1) ak (fun _ _=>rfl)) ai)))))) a8) (ar (b5 (bD cY (pv 2) ak (a6 _)) (av (aH (iO E_RoundPaper_init.mkk G_RoundPaper_init (hr.mono (by decide)) rfl E_RoundPaper_init.mg E_RoundPaper_init.bd .nil aD (aa (aB (ax (K:=K) rfl) (pv 1) ak (fun _ _=>rfl)) (aa (aB (ax (K:=K) rfl) (pv 1) ak (fun _ _=>rfl)) (aa (aB (ax (K:=K) rfl) (pv 1) ak (fun _ _=>rfl)) ai)))))) a8) (av (aH (Gm xs.m0_Paper rfl xs.m_Paper)))))))))))),bF (Γn:=[]) (N:=mj) (aA (ST.post (Γn:=[]) (bO 2 (EM.es (aE cN (ES.er (af 0)) (EM.er ao))))) (aA (bV (bh (EM.er (aE gF (ES.er (af 2)) (EM.er ao)))) (aI (M:=[]) (j4 nz oC (ah (ES.er (aM (af 1) (EM.er ao))) (ah (ES.er (aM (af 1) (EM.er ao))) aj)))) aY) (aA (bV (bh (EM.er (aE gF (ES.er (af 2)) (EM.er ao)))) (aI (M:=[]) (j4 mY nW (ah (ES.er (aM (af 1) (EM.er ao))) (ah (ES.er (aM (af 1) (EM.er ao))) (ah (ES.er (aM (af 1) (EM.er ao))) aj))))) aY) (aA (bV (bh (EM.er (aE gF (ES.er (af 2)) (EM.er ao)))) (aI (M:=[]) (j4 nN pq (ah (ES.er (aM (af 1) (EM.er ao))) (ah (ES.er (aM (af 1) (EM.er ao))) (ah (ES.er (aM (af 1) (EM.er ao))) aj))))) aY) (aA (bV (bh (EM.er (aE gF (ES.er (af 2)) (EM.er ao)))) (aI (M:=[]) (j4 mR nH (ah (ES.er (aM (af 1) (EM.er ao))) (ah (ES.er (aM (af 1) (EM.er ao))) (ah (ES.er (aM (af 1) (EM.er ao))) aj))))) aY) (aA (bV (bh (EM.er (aE gF (ES.er (af 2)) (EM.er ao)))) (aI (M:=[]) (j4 oh pH (ah (ES.er (aM (af 1) (EM.er ao))) (ah (ES.er (aM (af 1) (EM.er ao))) (ah (ES.er (aM (af 1) (EM.er ao))) aj))))) aY) (aA (bV (bh (EM.er (aE gF (ES.er (af 2)) (EM.er ao)))) (aI (M:=[]) (j4 nu o7 (ah (ES.er (aM (af 1) (EM.er ao))) (ah (ES.er (aM (af 1) (EM.er ao))) (ah (ES.er (aM (af 1) (EM.er ao))) (ah (ES.er (aM (af 1) (EM.er ao))) (ah (ES.er (aM (af 1) (EM.er ao))) (ah (ES.er (aM (af 1) (EM.er ao))) aj)))))))) aY) (aA (bV (bh (EM.er (aE gF (ES.er (af 2)) (EM.er ao)))) (aI (M:=[]) (j4 mO nk (ah (ES.er (aM (af 1) (EM.er ao))) (ah (ES.er (aM (af 1) (EM.er ao))) (ah (ES.er (aM (af 1) (EM.er ao))) aj))))) aY) (aA (bV (bh (EM.er (aE gF (ES.er (af 2)) (EM.er ao)))) (aI (M:=[]) (j4 mm mQ (ah (ES.er (aM (af 1) (EM.er ao))) (ah (ES.er (aM (af 1) (EM.er ao))) (ah (ES.er (aM (af 1) (EM.er ao))) aj))))) aY) (aI (M:=[]) FA)))))))))) (fun ds P hS=>?_) h⟩
  obtain ⟨x,rfl,hP⟩:=hS
  rw[show aO mj [.int x,.lst (cz x)]=[some (.int x),some (.lst (cz x)),none] from rfl]
  walk_at "go"
  rcases kinds x with k | k | k | k | k | k | k | k | k
  · rw[BA k] at hP
    rw[k,wj k]
    exact⟨_,_,rfl,by simp,by simp,hP⟩
  · rw[Cb k] at hP
    rw[k,wH k]
    exact⟨_,_,_,rfl,hP⟩
  · rw[C7 k] at hP
    rw[k,wk k]
    exact⟨_,_,_,rfl,hP⟩
  · rw[CZ k] at hP
    rw[k,vq k]
    exact⟨_,_,_,rfl,by simp,hP⟩
  · rw[CF k] at hP
    rw[k,vK k]
    exact⟨_,_,_,rfl,by simp,hP⟩
  · rw[BD k] at hP
    rw[k,wy k]
    exact⟨_,_,_,_,_,_,rfl,by simp,by simp,hP⟩
  · rw[CJ k] at hP
    rw[k,wU k]
    exact⟨_,_,_,rfl,by simp,by simp,hP⟩
  · rw[Dq k] at hP
    rw[k,vF k]
    exact⟨_,_,_,rfl,by simp,by simp,hP⟩
  · rw[BO k] at hP
    rw[k,wt k]
    exact hP
def A4 (c:Cs) (k:Nat):Addr:=[c.MixPaper,c.StepPaper,c.BarPaper,c.LeadPaper,c.SumPaper,c.CutPaper,c.SwapPaper,c.RoundPaper,c.Paper,c.PairPaper].getD k 0
def E8 (k:Nat):D:=.lst [.bl (decide (k=0)),.bl (decide (k=1)),.bl (decide (k=2)),.bl (decide (k=3)),.bl (decide (k=4)),.bl (decide (k=5)),.bl (decide (k=6)),.bl (decide (k=7)),.bl (decide (k=9))]
def cP (c:Cs):DSp:=fun ds P=>∃(k:Nat) (ns:List Str) (dd:List D),ds=[.ins (A4 c k) ns dd]∧k<10∧P (E8 k)
theorem kG {c:Cs}:br (cP c):=by
  intro xs P P' k h
  unfold cP at h ⊢
  grind
theorem qU {c:Cs}:∀ds P,(cP c) ds P→ds.length=1:=by
  intro ds P h
  obtain ⟨_,_,_,e,_⟩:=h
  rw[e];rfl
theorem lM {c:Cs}{f:Addr}{fd:FuncData} (F:FnAt K mg "_law_classes" iH dE f fd) (A_:Fns K mg c) (T:Txt K mg) (xs:Exs K mg base c):aG P w K mg base CX0 1 f fd dE (spP K (cP c)):=by
  refine F.fn.ok gI (fun vs H Q E h=>a9 qU h) (fun cdv A outer s H vs Q E hr h=>?_)
  refine⟨_,(ar (bp (i:=1) gI.nd rfl (by first | exact Or.inl rfl | exact Or.inr rfl) (aT (aa (ay (fc (K:=K) (P:=c.MixPaper) rfl) (by rfl) T.isinstance_ boot_isinstance (aa (pv 0) (aa (fX (v:=.ref c.MixPaper) rfl xs.m_MixPaper rfl) ai))) (aa (ay (fc (K:=K) (P:=c.StepPaper) rfl) (by rfl) T.isinstance_ boot_isinstance (aa (pv 0) (aa (fX (v:=.ref c.StepPaper) rfl xs.m_StepPaper rfl) ai))) (aa (ay (fc (K:=K) (P:=c.BarPaper) rfl) (by rfl) T.isinstance_ boot_isinstance (aa (pv 0) (aa (fX (v:=.ref c.BarPaper) rfl xs.m_BarPaper rfl) ai))) ai))))) (ar (bp (i:=1) gI.nd rfl (by first | exact Or.inl rfl | exact Or.inr rfl) (bj lT (pv 1) (aT (aa (ay (fc (K:=K) (P:=c.LeadPaper) rfl) (by rfl) T.isinstance_ boot_isinstance (aa (pv 0) (aa (fX (v:=.ref c.LeadPaper) rfl xs.m_LeadPaper rfl) ai))) (aa (ay (fc (K:=K) (P:=c.SumPaper) rfl) (by rfl) T.isinstance_ boot_isinstance (aa (pv 0) (aa (fX (v:=.ref c.SumPaper) rfl xs.m_SumPaper rfl) ai))) (aa (ay (fc (K:=K) (P:=c.CutPaper) rfl) (by rfl) T.isinstance_ boot_isinstance (aa (pv 0) (aa (fX (v:=.ref c.CutPaper) rfl xs.m_CutPaper rfl) ai))) ai)))))) (ar (bp (i:=1) gI.nd rfl (by first | exact Or.inl rfl | exact Or.inr rfl) (bj lT (pv 1) (aT (aa (ay (fc (K:=K) (P:=c.SwapPaper) rfl) (by rfl) T.isinstance_ boot_isinstance (aa (pv 0) (aa (fX (v:=.ref c.SwapPaper) rfl xs.m_SwapPaper rfl) ai))) (aa (ay (fc (K:=K) (P:=c.RoundPaper) rfl) (by rfl) T.isinstance_ boot_isinstance (aa (pv 0) (aa (fX (v:=.ref c.RoundPaper) rfl xs.m_RoundPaper rfl) ai))) (aa (ay (fc (K:=K) (P:=c.PairPaper) rfl) (by rfl) T.isinstance_ boot_isinstance (aa (pv 0) (aa (fX (v:=.ref c.PairPaper) rfl xs.m_PairPaper rfl) ai))) ai)))))) (av (aH (pv 1)))))),bF (Γn:=[1]) (N:=kA) (aA (ST.post (Γn:=[1]) (eQ (M:=[]) 1 (aV (aq (k8 (qF c) (wB xs) (ES.er (af 0))) (aq (k8 (oM c) (t5 xs) (ES.er (af 0))) (aq (k8 (qq c) (v7 xs) (ES.er (af 0))) aQ)))))) (aA (ST.post (Γn:=[1]) (eQ (M:=[]) 1 (aE rh (fM 1) (EM.er (aV (aq (k8 (oX c) (t9 xs) (ES.er (af 0))) (aq (k8 (qx c) (wI xs) (ES.er (af 0))) (aq (k8 (qy c) (vp xs) (ES.er (af 0))) aQ)))))))) (aA (ST.post (Γn:=[1]) (eQ (M:=[]) 1 (aE rh (fM 1) (EM.er (aV (aq (k8 (pB c) (tY xs) (ES.er (af 0))) (aq (k8 (m6 c) (rm xs) (ES.er (af 0))) (aq (k8 (oS c) (tQ xs) (ES.er (af 0))) aQ)))))))) (aI (M:=[1]) (oj 1))))) (fun ds P hS=>?_) h⟩
  obtain ⟨k,ns,dd,rfl,hk,hP⟩:=hS
  rw[show aO kA [.ins (A4 c k) ns dd]=[some (.ins (A4 c k) ns dd),none] from rfl]
  walk_at "go"
  rcases (show k=0∨k=1∨k=2∨k=3∨k=4∨k=5∨k=6∨k=7∨k=8∨k=9 by omega) with rfl | rfl | rfl | rfl | rfl | rfl | rfl | rfl | rfl | rfl
  · repeat (first | refine⟨1,_,_,_,_,rfl,rfl,?_⟩ | refine⟨by decide,?_⟩)
    exact hP
  · repeat (first | refine⟨2,_,_,_,_,rfl,rfl,?_⟩ | refine⟨by decide,?_⟩)
    exact hP
  · repeat (first | refine⟨3,_,_,_,_,rfl,rfl,?_⟩ | refine⟨by decide,?_⟩)
    exact hP
  · repeat (first | refine⟨4,_,_,_,_,rfl,rfl,?_⟩ | refine⟨by decide,?_⟩)
    exact hP
  · repeat (first | refine⟨5,_,_,_,_,rfl,rfl,?_⟩ | refine⟨by decide,?_⟩)
    exact hP
  · repeat (first | refine⟨6,_,_,_,_,rfl,rfl,?_⟩ | refine⟨by decide,?_⟩)
    exact hP
  · repeat (first | refine⟨7,_,_,_,_,rfl,rfl,?_⟩ | refine⟨by decide,?_⟩)
    exact hP
  · repeat (first | refine⟨8,_,_,_,_,rfl,rfl,?_⟩ | refine⟨by decide,?_⟩)
    exact hP
  · repeat (first | refine⟨0,_,_,_,_,rfl,rfl,?_⟩ | refine⟨by decide,?_⟩)
    exact hP
  · repeat (first | refine⟨9,_,_,_,_,rfl,rfl,?_⟩ | refine⟨by decide,?_⟩)
    exact hP
def Part (p:D):Prop:=(∃ns:List Int,p=dI ns∧ns.length≤9)∨(m3 p=true∧((∃z:Int,p=.int z)∨(∃a b c:Int,p=.tup [.int a,.int b,.int c])∨∃a b c d:Int,p=.tup [.int a,.int b,.int c,.int d]))∨∃(q:Int) (ns:List Int),p=.tup [.int q,dI ns]∧ns.length≤9
def Thing (d:D):Prop:=(∃z:Int,d=.int z)∨∃ps:List D,d=.lst ps∧ps.length≤9∧∀p∈ps,Part p
theorem drp {qs:List D}{k:Nat}{x y:D}:((qs.set k x).set k y).drop (k+1)=qs.drop (k+1):=by
  refine List.ext_getElem? fun i=>?_
  rw[List.getElem?_drop,List.getElem?_drop,List.getElem?_set_ne (by omega),List.getElem?_set_ne (by omega)]
theorem pT {qs:List D}{k:Nat}{x:D} (h:k<qs.length):(qs.set k x)[k]?=some x:=List.getElem?_set_self h
theorem D9:¬ isB "list" "tuple" = true:=by decide
theorem Ef:¬ isB "tuple" "list" = true:=by decide
def eC:DSI:=fun ds P=>∃es:List D,ds=[.lst es]∧(∀d∈es,Thing d)∧∀d',P .non d'
theorem pW:v8 eC:=by
  intro xs P P' k h
  unfold eC at h ⊢
  grind
theorem lF:∀ds P,eC ds P→ds.length=1:=by
  intro ds P h
  unfold eC at h
  grind
theorem sr {c:Cs}{f:Addr}{fd:FuncData} (F:FnAt K mg "_law_changed" iM eF f fd) (A_:Fns K mg c) (T:Txt K mg) (xs:Exs K mg base c):aG P w K mg base CX0 1 f fd eF (spI K 0 eC):=by
  refine F.fn.ok jH (fun vs H Q E h=>zr lF h) (fun cdv A outer s H vs Q E hr h=>?_)
  refine⟨_,(av (i6 PassesOwn.never rfl (bL (K:=K) rfl (pv 0)) (ba (i:=1) jH.nd rfl (by first | exact Or.inl rfl | exact Or.inr rfl)) (av (b5 (cB (ay (fE (K:=K) rfl) (by rfl) T.isinstance_ boot_isinstance (aa (pv 1) (aa (mC (v:=.ty "list") rfl T.list_ boot_list rfl) ai)))) (ar (i6 PassesOwn.never rfl (bL (K:=K) rfl (pv 1)) (ba (i:=2) jH.nd rfl (by first | exact Or.inl rfl | exact Or.inr rfl)) (ar (b5 (cB (ay (fE (K:=K) rfl) (by rfl) T.isinstance_ boot_isinstance (aa (pv 2) (aa (mC (v:=.ty "list") rfl T.list_ boot_list rfl) ai)))) (av (kf (uq PySem.F.plainAttrs_list PySem.F.slot_list_append PySem.F.type_list_append kP (pv 2) (aa ak ai)))) a8) (av (b5 (PW.pt (C5 (cB (ay (fE (K:=K) rfl) (by rfl) T.isinstance_ boot_isinstance (aa (pv 2) (aa (mC (v:=.ty "tuple") rfl T.tuple_ boot_tuple rfl) ai)))) (Ae (cB (ay (fE (K:=K) rfl) (by rfl) T.isinstance_ boot_isinstance (aa (aB (bb (K:=K) rfl) (pv 2) ak (fun _ _=>rfl)) (aa (mC (v:=.ty "list") rfl T.list_ boot_list rfl) ai))))))) (av (kf (uq PySem.F.plainAttrs_list PySem.F.slot_list_append PySem.F.type_list_append kP (aB (bb (K:=K) rfl) (pv 2) ak (fun _ _=>rfl)) (aa ak ai)))) a8)))) (ar (kf (uq PySem.F.plainAttrs_list PySem.F.slot_list_append PySem.F.type_list_append kP (pv 1) (aa (aT (aa ak ai)) ai))) (av (kf (uq PySem.F.plainAttrs_list PySem.F.slot_list_insert PySem.F.type_list_insert Aw (pv 1) (aa ak (aa (aT (aa ak ai)) ai))))))) a8)))),zx (Γn:=[0]) (N:=kn) (p:=0) (wL 0 1 (bV (fJ (EM.er (c9 jC (vy 1)))) (aA (wL 1 2 (aA (bV (fJ (EM.er (c9 jC (vy 2)))) (sk 2 (BE 2 (EM.er ao))) aY) (bV (wc (fJ (EM.er (c9 kit_tuple (vy 2)))) EH) j9 aY)) (aA (bV (fJ (EM.er (c9 jC (ES.er (af 2))))) j9 aY) (bV (wc (fJ (EM.er (c9 kit_tuple (ES.er (af 2))))) (fJ (EM.er (c9 jC (ES.er (bK (af 2) (EM.er ao))))))) j9 aY)) (aA (bV (fJ (EM.er (c9 jC (ES.er (af 2))))) j9 aY) (bV (wc (fJ (EM.er (c9 kit_tuple (ES.er (af 2))))) (fJ (EM.er (c9 jC (EF 1 2))))) (A1 1 2) aY))) (aA (sk 1 (ST.GR (ST.post (Γn:=[1,0]) (qd (M:=[]) 1 (aV (aq ao aQ)))))) (sk 1 (Dk 1 (aV (aq ao aQ)))))) aY) (bV (fJ (EM.er (c9 jC (ES.er (af 1))))) j9 aY) j9) (fun ds P a x hS hx=>?_) (by decide) (fun ds P h=>by have:=lF ds P h;omega) h⟩
  obtain ⟨es,rfl,hT,hP⟩:=hS
  cases hx
  simp only[List.set_cons_zero,List.set_cons_succ]
  rw[show aO kn [.pin a (.lst es)]=[some (.pin a (.lst es)),none,none] from rfl]
  refine⟨a,es.length,fun m δ=>∃(ds:List D) (o1 o2:Option D),δ=[some (.pin a (.lst ds)),o1,o2]∧ds.length=es.length∧∀d∈ds.drop m,Thing d,⟨es,none,none,rfl,rfl,by simpa using hT⟩,?_⟩
  rintro m δ ⟨ds,o1,o2,rfl,hl,hd⟩
  refine⟨ds,rfl,hl,by simp,?_⟩
  by_cases hm:m<es.length
  · rw[if_pos hm]
    have hm':m<ds.length:=by omega
    have e:ds[m]?=some ds[m]:=List.getElem?_eq_getElem hm'
    rw[List.drop_eq_getElem_cons hm'] at hd
    have hr:∀d∈ds.drop (m+1),Thing d:=fun d h=>hd d (List.mem_cons_of_mem _ h)
    rcases hd ds[m] List.mem_cons_self with ⟨z,ez⟩ | ⟨ps,ep,lp,hp⟩
    · refine .inr (.inl ⟨.int z,by rw[e,ez],rfl,?_⟩)
      walk_at "go"
      exact⟨ds,none,o2,rfl,hl,hr⟩
    · refine .inl ⟨ps,by rw[e,ep],fun b=>?_⟩
      walk_at "go"
      refine⟨b,ps.length,fun k δ=>∃(qs:List D) (o2:Option D),δ=[some (.pin a (.lst (ds.set m (.raw (.ref b))))),some (.pin b (.lst qs)),o2]∧qs.length=ps.length∧∀p∈qs.drop k,Part p,⟨ps,o2,rfl,rfl,by simpa using hp⟩,?_⟩
      rintro k δ ⟨qs,o3,rfl,hl2,hd2⟩
      refine⟨qs,rfl,hl2,by simp,?_⟩
      by_cases hk:k<ps.length
      · rw[if_pos hk]
        have hk':k<qs.length:=by omega
        have e2:qs[k]?=some qs[k]:=List.getElem?_eq_getElem hk'
        rw[List.drop_eq_getElem_cons hk'] at hd2
        have hr2:∀p∈qs.drop (k+1),Part p:=fun d h=>hd2 d (List.mem_cons_of_mem _ h)
        rcases hd2 qs[k] List.mem_cons_self with ⟨ns,en,ln⟩ | ⟨fl,en⟩ | ⟨q,ns,en,ln⟩
        · refine .inl ⟨ns.map .int,by rw[e2,en],fun b2=>?_⟩
          walk_at "go"
          refine⟨⟨by rw[List.all_map,List.all_eq_true];exact fun _ _=>rfl,rfl,by omega⟩,?_⟩
          rw[if_neg D9]
          exact⟨_,_,rfl,rfl,pT hk',_,none,rfl,by rw[List.length_set,List.length_set];exact hl2,by rw[drp];exact hr2⟩
        · refine .inr (.inl ⟨qs[k],e2,fl,?_⟩)
          rcases en with ⟨z,en⟩ | ⟨x1,x2,x3,en⟩ | ⟨x1,x2,x3,x4,en⟩
          · rw[en]
            walk_at "go"
            exact⟨qs,none,rfl,hl2,hr2⟩
          · rw[en]
            walk_at "go"
            exact⟨qs,none,rfl,hl2,hr2⟩
          · rw[en]
            walk_at "go"
            exact⟨qs,none,rfl,hl2,hr2⟩
        · refine .inr (.inr ⟨.int q,ns.map .int,by rw[e2,en],rfl,fun b2=>?_⟩)
          walk_at "go"
          rw[if_neg Ef]
          walk_at "go"
          refine⟨b,_,k,_,_,b2,_,rfl,rfl,pT hk',?_⟩
          walk_at "go"
          refine⟨b,_,k,_,_,b2,ns,rfl,rfl,pT hk',rfl,by omega,?_⟩
          exact⟨_,_,_,rfl,pT (by rw[List.length_set];exact hk'),_,none,rfl,by rw[List.length_set,List.length_set,List.length_set];exact hl2,by rw[drp,List.drop_set_of_lt (Nat.lt_succ_self k)];exact hr2⟩
      · rw[if_neg hk]
        walk_at "go"
        unfold EO
        walk_at "go"
        refine⟨by rw[List.length_append];simp;omega,?_⟩
        exact⟨_,_,rfl,rfl,pT hm',_,none,o3,rfl,by rw[List.length_set,List.length_set];exact hl,by rw[drp];exact hr⟩
  · rw[if_neg hm]
    walk_at "go"
    exact hP _
theorem Hr {b u:Int} (hb:1≤b):(∃n,Mix n [(b,[0,1])]∧Tab n [(b,[0,1])] [[b,0],[0,b+u]])↔u=0:=by
  constructor
  · rintro ⟨n,hm,hr,hc⟩
    obtain rfl:2=n:=hr.1
    have e:=hc 1 1 (by omega) (by omega)
    simp [cellAt,rowAt] at e
    omega
  · rintro rfl
    refine⟨2,⟨by decide,by decide,by simp,by simp,?_⟩,⟨rfl,?_⟩,?_⟩
    · intro q hq
      obtain rfl:=List.mem_singleton.mp hq
      exact⟨hb,List.Perm.refl _⟩
    · intro r hr
      simp only[List.mem_cons,List.not_mem_nil,or_false] at hr
      rcases hr with rfl | rfl<;>rfl
    · intro k j hk hj
      have h1:k=0∨k=1:=by omega
      have h2:j=0∨j=1:=by omega
      rcases h1 with rfl | rfl<;>rcases h2 with rfl | rfl<;>simp [cellAt,rowAt]
theorem GU {b u:Int} (hb:1≤b):goL [0,2*b] [(1,0,b)]=some [b+u,b]↔u=0:=by
  rw[CY ⟨by decide,by simp,by decide,by simp,hb,by simp;omega⟩]
  simp [goL,Maj.qW]
  omega
theorem Hl {b u:Int} (hb:1≤b) (hu:u=0∨u=1):uD [b,0 - b] [b - 1+u,1 - b - u] 1↔u=0:=by
  have e1:[b,0 - b]=tW [b,0 - b]:=vV (List.Perm.refl _) (by simp;omega)
  have e2:[b - 1+u,1 - b - u]=tW [b - 1+u,1 - b - u]:=vV (List.Perm.refl _) (by simp;omega)
  unfold uD Maj.nI
  rw[← e1,← e2]
  simp
  omega
theorem GP {b u:Int}:Dz 2 2 [b,b+2*u] [2*b,0] [[1,1],[1,1]]↔u=0:=by
  have h:BF 2 2 [[1,1],[1,1]]:=⟨rfl,by decide,by decide,by decide,by decide⟩
  have hd:dot [1,1] [2*b,0]=2*b:=by
    show ((List.range 2).map fun (j:Nat)=>([1,1]:List Int).getD j 0*([2*b,0]:List Int).getD j 0).sum=2*b
    simp [List.range_succ]
  unfold Dz
  simp [h,hd,rowAt,List.range_succ]
  omega
theorem GF {u:Int} (hu:u=0∨u=1):(ng [[1,0],[0,1]]∧[[1,0],[0,1]].map List.sum=[1,1+u]∧(turned 2 [[1,0],[0,1]]).map List.sum=[1,1])↔u=0:=by
  rcases hu with rfl | rfl<;>decide
theorem GB {b u:Int} (hb:1≤b) (hu:u=0∨u=1):tZ [b+1 - u] [b] [[0]] [[b]] [0] [0]=decide (u=0):=by
  have h1:ris [0] 1=true:=by decide
  have h2:yd [b] [[0]] [[b]] [0] [0] 1 1=b:=by simp [yd,Wr,List.range_succ]
  unfold tZ
  simp only[List.length_cons,List.length_nil,Nat.zero_add,h1,h2]
  rcases hu with rfl | rfl
  · simp [shp];omega
  · simp [shp]
theorem GN {u:Int} (hu:u=0∨u=1):Cd 2 2 [[1,0],[0,1]] [[u,1],[1,0]] [(0,0,1,1)]↔u=0:=by
  rcases hu with rfl | rfl<;>decide
theorem Hd {b u:Int} (hb:1≤b) (hu:u=0∨u=1):tP 1 1 1 1 [[b]] (b+1) [[1+u*7]]=decide (u=0):=by
  rcases hu with rfl | rfl
  · simp [tP,uu,zo,mX,wid,turned,pI,rowAt,List.range_succ]
    omega
  · simp [tP,uu,zo,mX,wid,turned,pI,rowAt,List.range_succ]
    omega
theorem qE {x:Int} (h:x % 9≠8):due x=decide (upx x=0):=by unfold due upx;simp [h]
theorem md {c:Cs}{x:Int} (h0:0≤x):w8 c (ef c x) (due x):=by
  have hb:=hb_ h0
  have hu:=hu_ h0
  rcases kinds x with k | k | k | k | k | k | k | k | k
  · rw[BA k,qE (by omega)]
    refine .inr (.inl ⟨⟨rfl,rfl⟩,fun P hP=>⟨_,_,rfl,by simp,by simp,fun b hb2=>?_⟩⟩)
    rwa [show b=decide (upx x=0) from Bool.eq_iff_iff.mpr (hb2.trans ((Hr hb.1).trans (by simp)))]
  · rw[Cb k,qE (by omega)]
    refine .inr (.inr (.inl ⟨⟨rfl,rfl⟩,fun P hP=>⟨_,_,_,rfl,?_⟩⟩))
    rwa [show decide (goL [0,2*byx x] [(1,0,byx x)]=some [byx x+upx x,byx x])=decide (upx x=0) from decide_eq_decide.mpr (GU hb.1)]
  · rw[C7 k,qE (by omega)]
    refine .inr (.inr (.inr (.inl ⟨⟨rfl,rfl⟩,fun P hP=>⟨_,_,_,rfl,by simp,by simp,?_⟩⟩)))
    rwa [decide_eq_decide.mpr (Hl hb.1 hu)]
  · rw[CZ k,qE (by omega)]
    refine .inr (.inr (.inr (.inr (.inl ⟨⟨rfl,rfl⟩,fun P hP=>⟨_,_,_,2,2,rfl,⟨rfl,fun r hr=>by simp only[List.mem_cons,List.not_mem_nil,or_false] at hr;rcases hr with rfl | rfl<;>rfl⟩,by decide,by decide,by decide,by decide,?_,?_,?_,by simp,fun b hb2=>?_⟩⟩))))
    · intro y hy
      simp only[List.mem_cons,List.not_mem_nil,or_false] at hy
      rcases hy with rfl | rfl<;>omega
    · intro y hy
      simp only[List.mem_cons,List.not_mem_nil,or_false] at hy
      rcases hy with rfl | rfl<;>omega
    · intro r hr y hy
      simp only[List.mem_cons,List.not_mem_nil,or_false] at hr
      rcases hr with rfl | rfl<;>(simp only[List.mem_cons,List.not_mem_nil,or_false] at hy;rcases hy with rfl | rfl<;>decide)
    · rwa [show b=decide (upx x=0) from Bool.eq_iff_iff.mpr (hb2.trans (GP.trans (by simp)))]
  · rw[CF k,qE (by omega)]
    refine .inr (.inr (.inr (.inr (.inr (.inl ⟨⟨rfl,rfl⟩,fun P hP=>⟨_,_,_,2,2,rfl,⟨rfl,fun r hr=>by simp only[List.mem_cons,List.not_mem_nil,or_false] at hr;rcases hr with rfl | rfl<;>rfl⟩,by decide,by decide,by decide,by decide,?_⟩⟩)))))
    rwa [decide_eq_decide.mpr (GF hu)]
  · rw[BD k,qE (by omega)]
    refine .inr (.inr (.inr (.inr (.inr (.inr (.inl ⟨⟨rfl,rfl⟩,fun P hP=>⟨_,_,_,_,_,_,1,1,1,1,rfl,⟨rfl,fun r hr=>by obtain rfl:=List.mem_singleton.mp hr;rfl⟩,⟨rfl,fun r hr=>by obtain rfl:=List.mem_singleton.mp hr;rfl⟩,by decide,by decide,by decide,by decide,by simp,by simp,?_⟩⟩))))))
    rwa [GB hb.1 hu]
  · rw[CJ k,qE (by omega)]
    refine .inr (.inr (.inr (.inr (.inr (.inr (.inr (.inl ⟨⟨rfl,rfl⟩,fun P hP=>⟨_,_,2,2,_,rfl,⟨rfl,fun r hr=>by simp only[List.mem_cons,List.not_mem_nil,or_false] at hr;rcases hr with rfl | rfl<;>rfl⟩,by decide,by decide,by decide,?_⟩⟩)))))))
    rwa [decide_eq_decide.mpr (GN hu)]
  · rw[Dq k,qE (by omega)]
    refine .inr (.inr (.inr (.inr (.inr (.inr (.inr (.inr (⟨⟨rfl,rfl⟩,fun P hP=>⟨_,_,_,1,1,1,1,rfl,⟨rfl,fun r hr=>by obtain rfl:=List.mem_singleton.mp hr;rfl⟩,⟨rfl,fun r hr=>by obtain rfl:=List.mem_singleton.mp hr;rfl⟩,by decide,by decide,by decide,by decide,by decide,by decide,by omega,?_,?_⟩⟩))))))))
    · intro r hr y hy
      rcases hu with e | e<;>rw[e] at hr<;>simp [mX,wid,turned,pI,List.range_succ] at hr<;>rcases hr with rfl | rfl<;>simp at hy<;>rcases hy with rfl | rfl<;>decide
    · rwa [Hd hb.1 hu]
  · rw[BO k,show due x=true by simp [due,k]]
    exact .inl ⟨⟨rfl,rfl⟩,fun P hP=>⟨_,rfl,hP⟩⟩
theorem vY {c:Cs}{x:Int}:∃(k:Nat) (ns:List Str) (dd:List D),ef c x=.ins (A4 c k) ns dd∧k<9∧(k:Int)=x % 9:=by
  rcases kinds x with k | k | k | k | k | k | k | k | k
  · exact⟨0,_,_,BA k,by decide,k.symm⟩
  · exact⟨1,_,_,Cb k,by decide,k.symm⟩
  · exact⟨2,_,_,C7 k,by decide,k.symm⟩
  · exact⟨3,_,_,CZ k,by decide,k.symm⟩
  · exact⟨4,_,_,CF k,by decide,k.symm⟩
  · exact⟨5,_,_,BD k,by decide,k.symm⟩
  · exact⟨6,_,_,CJ k,by decide,k.symm⟩
  · exact⟨7,_,_,Dq k,by decide,k.symm⟩
  · exact⟨8,_,_,BO k,by decide,k.symm⟩
theorem BY {c:Cs}{k:Nat} (h:k<10):A4 c k∈[c.Paper,c.MixPaper,c.StepPaper,c.BarPaper,c.LeadPaper,c.SumPaper,c.CutPaper,c.SwapPaper,c.RoundPaper,c.PairPaper]:=by
  rcases (show k=0∨k=1∨k=2∨k=3∨k=4∨k=5∨k=6∨k=7∨k=8∨k=9 by omega) with rfl | rfl | rfl | rfl | rfl | rfl | rfl | rfl | rfl | rfl<;>simp [A4]
theorem xU {xs:List Int}{f g:Int→D}:(((xs.map f).zip (xs.map g)).map fun p=>L3.D.tup [p.1,p.2])=xs.map fun x=>L3.D.tup [f x,g x]:=by rw[List.zip_map',List.map_map];rfl
def ff (c:Cs):DSp:=fun ds P=>∃xs:List Int,ds=[.lst (xs.map (ef c)),dI xs]∧(∀x∈xs,0≤x∧x<10 ^ 12)∧P (.bl true)
theorem ml {c:Cs}:br (ff c):=by
  intro xs P P' k h
  unfold ff at h ⊢
  grind
theorem tS {c:Cs}:∀ds P,(ff c) ds P→ds.length=2:=by
  intro ds P h
  obtain ⟨_,e,_⟩:=h
  rw[e];rfl
theorem wG {c:Cs}{f:Addr}{fd:FuncData} (F:FnAt K mg "_law_asked" j7 gp f fd) (A_:Fns K mg c) (T:Txt K mg) (xs:Exs K mg base c):aG P w K mg base CX0 35 f fd gp (spP K (ff c)):=by
  obtain ⟨f0,d0,E_Paper_holds⟩:=A_.h_Paper_holds
  have G_Paper_holds:aG P w K mg base CX0 1 f0 d0 cQ (spP K (cu c)):=jE E_Paper_holds A_ T xs
  obtain ⟨f1,d1,E_MixPaper_holds⟩:=A_.h_MixPaper_holds
  have G_MixPaper_holds:aG P w K mg base CX0 4 f1 d1 cm (spP K (bH c)):=gW E_MixPaper_holds A_ T xs
  obtain ⟨f2,d2,E_StepPaper_holds⟩:=A_.h_StepPaper_holds
  have G_StepPaper_holds:aG P w K mg base CX0 5 f2 d2 b4 (spP K (bw c)):=fZ E_StepPaper_holds A_ T xs
  obtain ⟨f3,d3,E_BarPaper_holds⟩:=A_.h_BarPaper_holds
  have G_BarPaper_holds:aG P w K mg base CX0 3 f3 d3 cn (spP K (bJ c)):=gS E_BarPaper_holds A_ T xs
  obtain ⟨f4,d4,E_LeadPaper_holds⟩:=A_.h_LeadPaper_holds
  have G_LeadPaper_holds:aG P w K mg base CX0 5 f4 d4 b3 (spP K (bz c)):=gi E_LeadPaper_holds A_ T xs
  obtain ⟨f5,d5,E_SumPaper_holds⟩:=A_.h_SumPaper_holds
  have G_SumPaper_holds:aG P w K mg base CX0 4 f5 d5 cf (spP K (bG c)):=gU E_SumPaper_holds A_ T xs
  obtain ⟨f6,d6,E_CutPaper_holds⟩:=A_.h_CutPaper_holds
  have G_CutPaper_holds:aG P w K mg base CX0 2 f6 d6 cq (spP K (bI c)):=gO E_CutPaper_holds A_ T xs
  obtain ⟨f7,d7,E_SwapPaper_holds⟩:=A_.h_SwapPaper_holds
  have G_SwapPaper_holds:aG P w K mg base CX0 5 f7 d7 bY (spP K (bx c)):=gf E_SwapPaper_holds A_ T xs
  obtain ⟨f8,d8,E_RoundPaper_holds⟩:=A_.h_RoundPaper_holds
  have G_RoundPaper_holds:aG P w K mg base CX0 6 f8 d8 bS (spP K (bo c)):=fK E_RoundPaper_holds A_ T xs
  obtain ⟨f9,d9,E_PairPaper_holds⟩:=A_.h_PairPaper_holds
  have G_PairPaper_holds:aG P w K mg base CX0 34 f9 d9 bg (spP K (bA c 28)):=jD E_PairPaper_holds A_ T xs
  obtain ⟨f10,d10,E_law_due⟩:=A_.h_law_due
  have G_law_due:aG P w K mg base CX0 1 f10 d10 iq (spP K ed):=tf E_law_due A_ T xs
  refine F.fn.ok jj (fun vs H Q E h=>a9 tS h) (fun cdv A outer s H vs Q E hr h=>?_)
  refine⟨_,(ar (i6 PassesOwn.never rfl (zw (K:=K) rfl rfl T.zip_ (aa (pv 0) (aa (pv 1) ai))) (zz (K:=K) rfl rfl (oG (ba (i:=2) jj.nd rfl (by first | exact Or.inl rfl | exact Or.inr rfl)) (oG (ba (i:=3) jj.nd rfl (by first | exact Or.inl rfl | exact Or.inr rfl)) zj))) (ar (bp (i:=4) jj.nd rfl (by first | exact Or.inl rfl | exact Or.inr rfl) (bM (aW (pv 2) xs.i_Paper.cl E_Paper_holds.mt G_Paper_holds (hr.mono (by decide)) E_Paper_holds.bd .nil aD) (bM (aW (pv 2) xs.i_MixPaper.cl E_MixPaper_holds.mt G_MixPaper_holds (hr.mono (by decide)) E_MixPaper_holds.bd .nil aD) (bM (aW (pv 2) xs.i_StepPaper.cl E_StepPaper_holds.mt G_StepPaper_holds (hr.mono (by decide)) E_StepPaper_holds.bd .nil aD) (bM (aW (pv 2) xs.i_BarPaper.cl E_BarPaper_holds.mt G_BarPaper_holds (hr.mono (by decide)) E_BarPaper_holds.bd .nil aD) (bM (aW (pv 2) xs.i_LeadPaper.cl E_LeadPaper_holds.mt G_LeadPaper_holds (hr.mono (by decide)) E_LeadPaper_holds.bd .nil aD) (bM (aW (pv 2) xs.i_SumPaper.cl E_SumPaper_holds.mt G_SumPaper_holds (hr.mono (by decide)) E_SumPaper_holds.bd .nil aD) (bM (aW (pv 2) xs.i_CutPaper.cl E_CutPaper_holds.mt G_CutPaper_holds (hr.mono (by decide)) E_CutPaper_holds.bd .nil aD) (bM (aW (pv 2) xs.i_SwapPaper.cl E_SwapPaper_holds.mt G_SwapPaper_holds (hr.mono (by decide)) E_SwapPaper_holds.bd .nil aD) (bM (aW (pv 2) xs.i_RoundPaper.cl E_RoundPaper_holds.mt G_RoundPaper_holds (hr.mono (by decide)) E_RoundPaper_holds.bd .nil aD) (aW (pv 2) xs.i_PairPaper.cl E_PairPaper_holds.mt G_PairPaper_holds (hr.mono (by decide)) E_PairPaper_holds.bd .nil aD))))))))))) (av (b5 (PW.pt (kN (cL (cB (ay (fE (K:=K) rfl) (by rfl) T.isinstance_ boot_isinstance (aa (pv 4) (aa (mC (v:=.ty "bool") rfl T.bool_ boot_bool rfl) ai))))) (kN (bD tq (pv 4) (aF G_law_due (hr.mono (by decide)) rfl E_law_due.mg E_law_due.fn.kp E_law_due.bd .nil aD (aa (pv 3) ai)) (a6 _)) (jN (cL (cB (ay (fc (K:=K) (P:=c.Paper) rfl) (by rfl) T.isinstance_ boot_isinstance (aa (pv 2) (aa (fX (v:=.ref c.Paper) rfl xs.m_Paper rfl) ai))))))))) (av (aH dH)) a8)))) (av (aH dH))),bF (Γn:=[]) (N:=lL) (aA (nO (Bs (af 0) (af 1)) (CU (pw (bc 2) (pw (bc 3) Am))) (aA (ST.post (Γn:=[]) (bO 4 (EM.es (bN (a7 (C:=c.Paper) [] fI (ES.er (af 2)) aj) (bN (a7 (C:=c.MixPaper) ["table","pairs"] dP (ES.er (af 2)) aj) (bN (a7 (C:=c.StepPaper) ["one","other","steps"] dD (ES.er (af 2)) aj) (bN (a7 (C:=c.BarPaper) ["one","other","k"] dO (ES.er (af 2)) aj) (bN (a7 (C:=c.LeadPaper) ["one","other","table"] dy (ES.er (af 2)) aj) (bN (a7 (C:=c.SumPaper) ["rows","columns","table"] dN (ES.er (af 2)) aj) (bN (a7 (C:=c.CutPaper) ["rows","columns","low","high","some","others"] dJ (ES.er (af 2)) aj) (bN (a7 (C:=c.SwapPaper) ["one","other","swaps"] du (ES.er (af 2)) aj) (bN (a7 (C:=c.RoundPaper) ["table","bottom","whole"] cX (ES.er (af 2)) aj) (a7 (C:=c.PairPaper) ["first","second"] dw (ES.er (af 2)) aj))))))))))))) (bV (kQ (cO (fJ (EM.er (c9 xg (ES.er (af 4)))))) (kQ (bh (EM.er (aE yw (ES.er (af 4)) (EM.er (aL (S:=ed) gM (ah (ES.er (af 3)) aj)))))) (cO (fJ (EM.er (BP _ (isP xs) (ES.er (af 2)))))))) (aI (M:=[]) dU) aY))) (aI (M:=[]) dU)) (fun ds P hS=>?_) h⟩
  obtain ⟨xs_,rfl,hx,hP⟩:=hS
  rw[show aO lL [.lst (xs_.map (ef c)),dI xs_]=[some (.lst (xs_.map (ef c))),some (dI xs_),none,none,none] from rfl]
  walk_at "go"
  unfold FP
  walk_at "go"
  rw[xU]
  refine jA (as:=xs_) (f:=fun x=>.tup [ef c x,.int x]) (fun i δ=>∃o2 o3 o4:Option D,δ=[some (.lst (xs_.map (ef c))),some (dI xs_),o2,o3,o4]) ⟨none,none,none,rfl⟩ ?_ ?_
  · rintro i x δ N e ⟨o2,o3,o4,rfl⟩ hN
    have hm:=hx x (List.mem_of_getElem? e)
    walk_at "go"
    refine oR (n:=28) (v:=due x) (.inl (md hm.1)) ?_
    walk_at "go"
    refine⟨x,rfl,?_⟩
    walk_at "go"
    obtain ⟨k,ns,dd,e1,k9,_⟩:=vY (c:=c) (x:=x)
    try simp only[bne_self_eq_false,decide_true,Bool.not_true,Bool.false_eq_true,if_false,ne_eq,not_true_eq_false,decide_false]
    exact⟨⟨_,_,_,e1,BY (by omega)⟩,hN _ ⟨_,_,_,rfl⟩⟩
  · rintro δ ⟨o2,o3,o4,rfl⟩
    walk_at "go"
    exact hP
theorem oO {c:Cs}{d:D}{v:Bool} (h:w8 c d v):∀n,ke c n d v
  | 0=>h
  | n+1=>.inl h
theorem wg {c:Cs}:∀{n:Nat}{d:D}{v:Bool},ke c n d v→ke c (n+1) d v
  | 0,d,v,h=>.inl h
  | n+1,d,v,h=>by
    rcases h with h | ⟨d1,d2,v1,v2,e,h1,h2,ev⟩
    · exact .inl h
    · exact .inr ⟨d1,d2,v1,v2,e,wg h1,wg h2,ev⟩
theorem jZ {c:Cs}{m n:Nat}{d:D}{v:Bool} (h:ke c m d v) (l:m≤n):ke c n d v:=by
  induction l with
  | refl=>exact h
  | step _ ih=>exact wg ih
theorem vk {xs:List Int}{f:Int→D}{i:Int} (h0:0≤i) (h:i<xs.length):atI (xs.map f) i=some (f (xs.getD i.toNat 0)):=by
  unfold atI ixN
  rw[if_pos h0,List.length_map,if_pos h]
  show (xs.map f)[i.toNat]?=_
  rw[List.getElem?_map,List.getD_eq_getElem?_getD]
  have:i.toNat<xs.length:=by omega
  rw[List.getElem?_eq_getElem this];rfl
theorem mem_getD {xs:List Int}{i:Nat} (h:i<xs.length):xs.getD i 0∈xs:=by
  rw[List.getD_eq_getElem?_getD,List.getElem?_eq_getElem h];exact List.getElem_mem h
def ei (c:Cs):DSp:=fun ds P=>∃xs:List Int,ds=[.lst (xs.map (ef c)),dI xs]∧(∀x∈xs,0≤x∧x<10 ^ 12)∧1≤xs.length∧xs.length≤60∧P (.bl true)
theorem lH {c:Cs}:br (ei c):=by
  intro xs P P' k h
  unfold ei at h ⊢
  grind
theorem rp {c:Cs}:∀ds P,(ei c) ds P→ds.length=2:=by
  intro ds P h
  obtain ⟨_,e,_⟩:=h
  rw[e];rfl
theorem uc {c:Cs}{f:Addr}{fd:FuncData} (F:FnAt K mg "_law_paired" jb fH f fd) (A_:Fns K mg c) (T:Txt K mg) (xs:Exs K mg base c):aG P w K mg base CX0 35 f fd fH (spP K (ei c)):=by
  obtain ⟨f0,d0,E_law_due⟩:=A_.h_law_due
  have G_law_due:aG P w K mg base CX0 1 f0 d0 iq (spP K ed):=tf E_law_due A_ T xs
  obtain ⟨f1,d1,E_Paper_holds⟩:=A_.h_Paper_holds
  have G_Paper_holds:aG P w K mg base CX0 1 f1 d1 cQ (spP K (cu c)):=jE E_Paper_holds A_ T xs
  obtain ⟨f2,d2,E_MixPaper_holds⟩:=A_.h_MixPaper_holds
  have G_MixPaper_holds:aG P w K mg base CX0 4 f2 d2 cm (spP K (bH c)):=gW E_MixPaper_holds A_ T xs
  obtain ⟨f3,d3,E_StepPaper_holds⟩:=A_.h_StepPaper_holds
  have G_StepPaper_holds:aG P w K mg base CX0 5 f3 d3 b4 (spP K (bw c)):=fZ E_StepPaper_holds A_ T xs
  obtain ⟨f4,d4,E_BarPaper_holds⟩:=A_.h_BarPaper_holds
  have G_BarPaper_holds:aG P w K mg base CX0 3 f4 d4 cn (spP K (bJ c)):=gS E_BarPaper_holds A_ T xs
  obtain ⟨f5,d5,E_LeadPaper_holds⟩:=A_.h_LeadPaper_holds
  have G_LeadPaper_holds:aG P w K mg base CX0 5 f5 d5 b3 (spP K (bz c)):=gi E_LeadPaper_holds A_ T xs
  obtain ⟨f6,d6,E_SumPaper_holds⟩:=A_.h_SumPaper_holds
  have G_SumPaper_holds:aG P w K mg base CX0 4 f6 d6 cf (spP K (bG c)):=gU E_SumPaper_holds A_ T xs
  obtain ⟨f7,d7,E_CutPaper_holds⟩:=A_.h_CutPaper_holds
  have G_CutPaper_holds:aG P w K mg base CX0 2 f7 d7 cq (spP K (bI c)):=gO E_CutPaper_holds A_ T xs
  obtain ⟨f8,d8,E_SwapPaper_holds⟩:=A_.h_SwapPaper_holds
  have G_SwapPaper_holds:aG P w K mg base CX0 5 f8 d8 bY (spP K (bx c)):=gf E_SwapPaper_holds A_ T xs
  obtain ⟨f9,d9,E_RoundPaper_holds⟩:=A_.h_RoundPaper_holds
  have G_RoundPaper_holds:aG P w K mg base CX0 6 f9 d9 bS (spP K (bo c)):=fK E_RoundPaper_holds A_ T xs
  obtain ⟨f10,d10,E_PairPaper_holds⟩:=A_.h_PairPaper_holds
  have G_PairPaper_holds:aG P w K mg base CX0 34 f10 d10 bg (spP K (bA c 28)):=jD E_PairPaper_holds A_ T xs
  obtain ⟨f11,d11,E_PairPaper_init⟩:=A_.h_PairPaper_init
  have G_PairPaper_init:aG P w K mg base CX0 1 f11 d11 cT (B2 K c.PairPaper "first" "second" ):=pj E_PairPaper_init A_ T xs
  obtain ⟨f12,d12,E_law_classes⟩:=A_.h_law_classes
  have G_law_classes:aG P w K mg base CX0 1 f12 d12 dE (spP K (cP c)):=lM E_law_classes A_ T xs
  refine F.fn.ok b7 (fun vs H Q E h=>a9 rp h) (fun cdv A outer s H vs Q E hr h=>?_)
  refine⟨_,(ar (bp (i:=2) b7.nd rfl (by first | exact Or.inl rfl | exact Or.inr rfl) (aB (ax (K:=K) rfl) (pv 0) ak (fun _ _=>rfl))) (ar (bp (i:=3) b7.nd rfl (by first | exact Or.inl rfl | exact Or.inr rfl) (aF G_law_due (hr.mono (by decide)) rfl E_law_due.mg E_law_due.fn.kp E_law_due.bd .nil aD (aa (aB (ax (K:=K) rfl) (pv 1) ak (fun _ _=>rfl)) ai))) (ar (i6 PassesOwn.never rfl (AJ rfl T.range_ (aa ak (aa (ay (aU (K:=K) rfl) (by rfl) T.len_ PySem.boot_len (aa (pv 0) ai)) ai))) (ba (i:=4) b7.nd rfl (by first | exact Or.inl rfl | exact Or.inr rfl)) (ar (b5 (bD cY (bj jR (pv 4) ak) ak (a6 _)) (ar (bp (i:=2) b7.nd rfl (by first | exact Or.inl rfl | exact Or.inr rfl) (aB (ax (K:=K) rfl) (pv 0) (pv 4) (fun _ _=>rfl))) (av (bp (i:=3) b7.nd rfl (by first | exact Or.inl rfl | exact Or.inr rfl) (aF G_law_due (hr.mono (by decide)) rfl E_law_due.mg E_law_due.fn.kp E_law_due.bd .nil aD (aa (aB (ax (K:=K) rfl) (pv 1) (pv 4) (fun _ _=>rfl)) ai))))) (av (b5 (bD cY (bj jR (bj pD (aB (ax (K:=K) rfl) (pv 1) (pv 4) (fun _ _=>rfl)) ak) ak) ak (a6 _)) (ar (bp (i:=2) b7.nd rfl (by first | exact Or.inl rfl | exact Or.inr rfl) (iO E_PairPaper_init.mkk G_PairPaper_init (hr.mono (by decide)) rfl E_PairPaper_init.mg E_PairPaper_init.bd .nil aD (aa (pv 2) (aa (aB (ax (K:=K) rfl) (pv 0) (pv 4) (fun _ _=>rfl)) ai)))) (av (bp (i:=3) b7.nd rfl (by first | exact Or.inl rfl | exact Or.inr rfl) (ie (pv 3) (ib (aF G_law_due (hr.mono (by decide)) rfl E_law_due.mg E_law_due.fn.kp E_law_due.bd .nil aD (aa (aB (ax (K:=K) rfl) (pv 1) (pv 4) (fun _ _=>rfl)) ai))))))) (ar (bp (i:=2) b7.nd rfl (by first | exact Or.inl rfl | exact Or.inr rfl) (iO E_PairPaper_init.mkk G_PairPaper_init (hr.mono (by decide)) rfl E_PairPaper_init.mg E_PairPaper_init.bd .nil aD (aa (aB (ax (K:=K) rfl) (pv 0) (pv 4) (fun _ _=>rfl)) (aa (pv 2) ai)))) (av (bp (i:=3) b7.nd rfl (by first | exact Or.inl rfl | exact Or.inr rfl) (ie (pv 3) (ib (aF G_law_due (hr.mono (by decide)) rfl E_law_due.mg E_law_due.fn.kp E_law_due.bd .nil aD (aa (aB (ax (K:=K) rfl) (pv 1) (pv 4) (fun _ _=>rfl)) ai)))))))))) (ar (bp (i:=5) b7.nd rfl (by first | exact Or.inl rfl | exact Or.inr rfl) (bM (aW (pv 2) xs.i_Paper.cl E_Paper_holds.mt G_Paper_holds (hr.mono (by decide)) E_Paper_holds.bd .nil aD) (bM (aW (pv 2) xs.i_MixPaper.cl E_MixPaper_holds.mt G_MixPaper_holds (hr.mono (by decide)) E_MixPaper_holds.bd .nil aD) (bM (aW (pv 2) xs.i_StepPaper.cl E_StepPaper_holds.mt G_StepPaper_holds (hr.mono (by decide)) E_StepPaper_holds.bd .nil aD) (bM (aW (pv 2) xs.i_BarPaper.cl E_BarPaper_holds.mt G_BarPaper_holds (hr.mono (by decide)) E_BarPaper_holds.bd .nil aD) (bM (aW (pv 2) xs.i_LeadPaper.cl E_LeadPaper_holds.mt G_LeadPaper_holds (hr.mono (by decide)) E_LeadPaper_holds.bd .nil aD) (bM (aW (pv 2) xs.i_SumPaper.cl E_SumPaper_holds.mt G_SumPaper_holds (hr.mono (by decide)) E_SumPaper_holds.bd .nil aD) (bM (aW (pv 2) xs.i_CutPaper.cl E_CutPaper_holds.mt G_CutPaper_holds (hr.mono (by decide)) E_CutPaper_holds.bd .nil aD) (bM (aW (pv 2) xs.i_SwapPaper.cl E_SwapPaper_holds.mt G_SwapPaper_holds (hr.mono (by decide)) E_SwapPaper_holds.bd .nil aD) (bM (aW (pv 2) xs.i_RoundPaper.cl E_RoundPaper_holds.mt G_RoundPaper_holds (hr.mono (by decide)) E_RoundPaper_holds.bd .nil aD) (aW (pv 2) xs.i_PairPaper.cl E_PairPaper_holds.mt G_PairPaper_holds (hr.mono (by decide)) E_PairPaper_holds.bd .nil aD))))))))))) (ar (b5 (PW.pt (kN (cL (cB (ay (fE (K:=K) rfl) (by rfl) T.isinstance_ boot_isinstance (aa (pv 5) (aa (mC (v:=.ty "bool") rfl T.bool_ boot_bool rfl) ai))))) (kN (bD tq (pv 5) (pv 3) (a6 _)) (jN (cL (cB (ay (fc (K:=K) (P:=c.Paper) rfl) (by rfl) T.isinstance_ boot_isinstance (aa (pv 2) (aa (fX (v:=.ref c.Paper) rfl xs.m_Paper rfl) ai))))))))) (av (aH dH)) a8) (av (b5 (PW.pt (C5 (bD Cq (bj jR (pv 4) ak) ak (a6 _)) (Ae (bD (Cr hr.units) (aF G_law_classes (hr.mono (by decide)) rfl E_law_classes.mg E_law_classes.fn.kp E_law_classes.bd .nil aD (aa (pv 2) ai)) (bj lT (bj BX (aT (aa dH ai)) ak) (aT (aa dH ai))) (a6 _))))) (av (aH dH)) a8)))))) (av (aH dH))))),bF (Γn:=[]) (N:=kS) (aA (ST.post (Γn:=[]) (bO 2 (aM (af 0) (EM.er ao)))) (aA (ST.post (Γn:=[]) (bO 3 (EM.es (aL (S:=ed) gM (ah (ES.er (aM (af 1) (EM.er ao))) aj))))) (aA (nO (Du (ah (EM.er ao) (ah (EM.er (aZ cF (ah (ES.er (af 0)) aj))) aj))) (bc 4) (aA (bV (bh (EM.er (aE gF (EM.er (aE cN (ES.er (af 4)) (EM.er ao))) (EM.er ao)))) (aA (ST.post (Γn:=[]) (bO 2 (aM (af 0) (ES.er (af 4))))) (ST.post (Γn:=[]) (bO 3 (EM.es (aL (S:=ed) gM (ah (ES.er (aM (af 1) (ES.er (af 4)))) aj)))))) (bV (bh (EM.er (aE gF (EM.er (aE cN (EM.er (aE cN (ES.er (aM (af 1) (ES.er (af 4)))) (EM.er ao))) (EM.er ao))) (EM.er ao)))) (aA (ST.post (Γn:=[]) (bO 2 (ER.es0 (xp (ES.er (af 2)) (ES.er (aM (af 0) (ES.er (af 4)))))))) (ST.post (Γn:=[]) (bO 3 (EM.es (fm (ES.er (af 3)) (aL (S:=ed) gM (ah (ES.er (aM (af 1) (ES.er (af 4)))) aj))))))) (aA (ST.post (Γn:=[]) (bO 2 (ER.es0 (xp (ES.er (aM (af 0) (ES.er (af 4)))) (ES.er (af 2)))))) (ST.post (Γn:=[]) (bO 3 (EM.es (fm (ES.er (af 3)) (aL (S:=ed) gM (ah (ES.er (aM (af 1) (ES.er (af 4)))) aj))))))))) (aA (ST.post (Γn:=[]) (bO 5 (EM.es (bN (a7 (C:=c.Paper) [] fI (ES.er (af 2)) aj) (bN (a7 (C:=c.MixPaper) ["table","pairs"] dP (ES.er (af 2)) aj) (bN (a7 (C:=c.StepPaper) ["one","other","steps"] dD (ES.er (af 2)) aj) (bN (a7 (C:=c.BarPaper) ["one","other","k"] dO (ES.er (af 2)) aj) (bN (a7 (C:=c.LeadPaper) ["one","other","table"] dy (ES.er (af 2)) aj) (bN (a7 (C:=c.SumPaper) ["rows","columns","table"] dN (ES.er (af 2)) aj) (bN (a7 (C:=c.CutPaper) ["rows","columns","low","high","some","others"] dJ (ES.er (af 2)) aj) (bN (a7 (C:=c.SwapPaper) ["one","other","swaps"] du (ES.er (af 2)) aj) (bN (a7 (C:=c.RoundPaper) ["table","bottom","whole"] cX (ES.er (af 2)) aj) (a7 (C:=c.PairPaper) ["first","second"] dw (ES.er (af 2)) aj))))))))))))) (aA (bV (kQ (cO (fJ (EM.er (c9 xg (ES.er (af 5)))))) (kQ (bh (EM.er (aE yw (ES.er (af 5)) (ES.er (af 3))))) (cO (fJ (EM.er (BP _ (isP xs) (ES.er (af 2)))))))) (aI (M:=[]) dU) aY) (bV (wc (bh (EM.er (aE lR (EM.er (aE cN (ES.er (af 4)) (EM.er ao))) (EM.er ao)))) (bh (EM.er (aE EY (EM.er (aL (S:=cP c) kG (ah (ES.er (af 2)) aj))) (EM.er (aE rh (EM.er (aE E9 (EM.er (aV (aq dU aQ))) (EM.er ao))) (EM.er (aV (aq dU aQ))))))))) (aI (M:=[]) dU) aY))))) (aI (M:=[]) dU)))) (fun ds P hS=>?_) h⟩
  obtain ⟨xs_,rfl,hx,l1,l2,hP⟩:=hS
  rw[show aO kS [.lst (xs_.map (ef c)),dI xs_]=[some (.lst (xs_.map (ef c))),some (dI xs_),none,none,none,none] from rfl]
  walk_at "go"
  rw[vk (by decide) (by omega)]
  walk_at "go"
  rw[vk (by decide) (by omega)]
  walk_at "go"
  refine⟨_,rfl,?_⟩
  walk_at "go"
  try rw[show ((xs_.length:Int) - 1).toNat=xs_.length - 1 by omega]
  refine rA (lo:=1) (n:=xs_.length - 1) (fun i δ=>∃(d:D) (v:Bool) (o4 o5:Option D),δ=[some (.lst (xs_.map (ef c))),some (dI xs_),some d,some (.bl v),o4,o5]∧ke c (i % 29) d v) ⟨_,_,none,none,rfl,oO (md (hx _ (mem_getD (i:=0) (by omega))).1) _⟩ ?_ ?_
  · rintro i δ N hi ⟨d,v,o4,o5,rfl,hd⟩ hN
    have hxm:=hx _ (mem_getD (xs:=xs_) (i:=1+i) (by omega))
    have at1:atI (xs_.map (ef c)) (1+(i:Int))=some (ef c (xs_.getD (1+i) 0)):=by
      rw[vk (by omega) (by omega),show (1+(i:Int)).toNat=1+i by omega]
    have at2:atI (xs_.map L3.D.int) (1+(i:Int))=some (.int (xs_.getD (1+i) 0)):=by
      rw[vk (by omega) (by omega),show (1+(i:Int)).toNat=1+i by omega]
    generalize hxe:xs_.getD (1+i) 0=x at *
    walk_at "go"
    by_cases h29:(1+(i:Int)) % 29=0
    · rw[if_pos h29,at1,at2]
      walk_at "go"
      refine⟨x,rfl,?_⟩
      refine oR (n:=28) (v:=due x) (oO (md hxm.1) _) ?_
      walk_at "go"
      obtain ⟨k,ns,dd,e1,k9,_⟩:=vY (c:=c) (x:=x)
      refine⟨⟨_,_,_,e1,BY (by omega)⟩,?_⟩
      rw[if_neg (by omega)]
      exact hN _ ⟨_,_,_,_,rfl,oO (md hxm.1) _⟩
    · rw[if_neg h29,at2]
      walk_at "go"
      have e29:(i+1) % 29=i % 29+1:=by omega
      have le27:i % 29≤27:=by omega
      have hp:ke c (i % 29) (ef c x) (due x):=oO (md hxm.1) _
      have hA:ke c ((i+1) % 29) (.ins c.PairPaper sC [d,ef c x]) (v && due x):=by rw[e29];exact .inr ⟨_,_,_,_,rfl,hd,hp,rfl⟩
      have hB:ke c ((i+1) % 29) (.ins c.PairPaper sC [ef c x,d]) (v && due x):=by rw[e29,Bool.and_comm];exact .inr ⟨_,_,_,_,rfl,hp,hd,rfl⟩
      by_cases h64:x / 64 % 2=0
      · rw[if_pos h64,at1]
        walk_at "go"
        cases v
        · walk_at "go"
          refine .inr (.inr (.inr (.inr (.inr (.inr (.inr (.inr (.inr (⟨_,_,_,_,rfl,jZ hd le27,jZ hp le27,?_⟩))))))))) 
          simp only[Bool.false_and,Bool.true_and,Bool.and_false,Bool.and_true]
          walk_at "go"
          refine⟨⟨_,_,_,rfl,by simp⟩,?_⟩
          rw[if_pos (by omega)]
          refine⟨9,_,_,rfl,by decide,by decide,⟨rfl,by decide⟩,by decide,⟨rfl,rfl,by decide⟩,?_⟩
          refine⟨[false,false,false,false,false,false,false,false,true],rfl,rfl,?_⟩
          walk_at "go"
          exact hN _ ⟨_,_,_,_,rfl,hA⟩
        · walk_at "go"
          refine⟨x,rfl,?_⟩
          refine .inr (.inr (.inr (.inr (.inr (.inr (.inr (.inr (.inr (⟨_,_,_,_,rfl,jZ hd le27,jZ hp le27,?_⟩))))))))) 
          simp only[Bool.false_and,Bool.true_and,Bool.and_false,Bool.and_true]
          walk_at "go"
          refine⟨⟨_,_,_,rfl,by simp⟩,?_⟩
          rw[if_pos (by omega)]
          refine⟨9,_,_,rfl,by decide,by decide,⟨rfl,by decide⟩,by decide,⟨rfl,rfl,by decide⟩,?_⟩
          refine⟨[false,false,false,false,false,false,false,false,true],rfl,rfl,?_⟩
          walk_at "go"
          exact hN _ ⟨_,_,_,_,rfl,hA⟩
      · rw[if_neg h64,at1]
        walk_at "go"
        cases v
        · walk_at "go"
          refine .inr (.inr (.inr (.inr (.inr (.inr (.inr (.inr (.inr (⟨_,_,_,_,rfl,jZ hp le27,jZ hd le27,?_⟩))))))))) 
          simp only[Bool.false_and,Bool.true_and,Bool.and_false,Bool.and_true]
          walk_at "go"
          refine⟨⟨_,_,_,rfl,by simp⟩,?_⟩
          rw[if_pos (by omega)]
          refine⟨9,_,_,rfl,by decide,by decide,⟨rfl,by decide⟩,by decide,⟨rfl,rfl,by decide⟩,?_⟩
          refine⟨[false,false,false,false,false,false,false,false,true],rfl,rfl,?_⟩
          walk_at "go"
          exact hN _ ⟨_,_,_,_,rfl,hB⟩
        · walk_at "go"
          refine⟨x,rfl,?_⟩
          refine .inr (.inr (.inr (.inr (.inr (.inr (.inr (.inr (.inr (⟨_,_,_,_,rfl,jZ hp le27,jZ hd le27,?_⟩))))))))) 
          simp only[Bool.false_and,Bool.true_and,Bool.and_false,Bool.and_true]
          walk_at "go"
          refine⟨⟨_,_,_,rfl,by simp⟩,?_⟩
          rw[if_pos (by omega)]
          refine⟨9,_,_,rfl,by decide,by decide,⟨rfl,by decide⟩,by decide,⟨rfl,rfl,by decide⟩,?_⟩
          refine⟨[false,false,false,false,false,false,false,false,true],rfl,rfl,?_⟩
          walk_at "go"
          exact hN _ ⟨_,_,_,_,rfl,hB⟩
  · rintro δ ⟨d,v,o4,o5,rfl,hd⟩
    walk_at "go"
    exact hP
theorem je {ns:List Int} (h:ns.length≤9):Thing (dI ns):=.inr ⟨_,rfl,by rw[List.length_map];exact h,fun p hp=>by
  obtain ⟨z,_,rfl⟩:=List.mem_map.mp hp
  exact .inr (.inl ⟨rfl,.inl ⟨_,rfl⟩⟩)⟩
theorem jg {t:List (List Int)} (h:t.length≤9) (h2:∀r∈t,r.length≤9):Thing (dT t):=.inr ⟨_,rfl,by rw[List.length_map];exact h,fun p hp=>by
  obtain ⟨r,hr,rfl⟩:=List.mem_map.mp hp
  exact .inl ⟨r,rfl,h2 r hr⟩⟩
theorem bU {p:D} (h:Part p):Thing (.lst [p]):=.inr ⟨_,rfl,by simp,fun q hq=>by
  obtain rfl:=List.mem_singleton.mp hq
  exact h⟩
theorem xW {x:Int}:∀d∈cz x,Thing d:=by
  intro d hd
  rcases kinds x with k | k | k | k | k | k | k | k | k
  · rw[wj k] at hd
    simp only[List.mem_cons,List.not_mem_nil,or_false] at hd
    rcases hd with rfl | rfl<;>first | exact .inl ⟨_,rfl⟩ | exact je (by simp) | exact jg (by simp) (by simp) | exact bU (.inr (.inr ⟨_,_,rfl,by simp⟩)) | exact bU (.inr (.inl ⟨rfl,.inr (.inl ⟨_,_,_,rfl⟩)⟩)) | exact bU (.inr (.inl ⟨rfl,.inr (.inr ⟨_,_,_,_,rfl⟩)⟩))
  · rw[wH k] at hd
    simp only[List.mem_cons,List.not_mem_nil,or_false] at hd
    rcases hd with rfl | rfl | rfl<;>first | exact .inl ⟨_,rfl⟩ | exact je (by simp) | exact jg (by simp) (by simp) | exact bU (.inr (.inr ⟨_,_,rfl,by simp⟩)) | exact bU (.inr (.inl ⟨rfl,.inr (.inl ⟨_,_,_,rfl⟩)⟩)) | exact bU (.inr (.inl ⟨rfl,.inr (.inr ⟨_,_,_,_,rfl⟩)⟩))
  · rw[wk k] at hd
    simp only[List.mem_cons,List.not_mem_nil,or_false] at hd
    rcases hd with rfl | rfl | rfl<;>first | exact .inl ⟨_,rfl⟩ | exact je (by simp) | exact jg (by simp) (by simp) | exact bU (.inr (.inr ⟨_,_,rfl,by simp⟩)) | exact bU (.inr (.inl ⟨rfl,.inr (.inl ⟨_,_,_,rfl⟩)⟩)) | exact bU (.inr (.inl ⟨rfl,.inr (.inr ⟨_,_,_,_,rfl⟩)⟩))
  · rw[vq k] at hd
    simp only[List.mem_cons,List.not_mem_nil,or_false] at hd
    rcases hd with rfl | rfl | rfl<;>first | exact .inl ⟨_,rfl⟩ | exact je (by simp) | exact jg (by simp) (by simp) | exact bU (.inr (.inr ⟨_,_,rfl,by simp⟩)) | exact bU (.inr (.inl ⟨rfl,.inr (.inl ⟨_,_,_,rfl⟩)⟩)) | exact bU (.inr (.inl ⟨rfl,.inr (.inr ⟨_,_,_,_,rfl⟩)⟩))
  · rw[vK k] at hd
    simp only[List.mem_cons,List.not_mem_nil,or_false] at hd
    rcases hd with rfl | rfl | rfl<;>first | exact .inl ⟨_,rfl⟩ | exact je (by simp) | exact jg (by simp) (by simp) | exact bU (.inr (.inr ⟨_,_,rfl,by simp⟩)) | exact bU (.inr (.inl ⟨rfl,.inr (.inl ⟨_,_,_,rfl⟩)⟩)) | exact bU (.inr (.inl ⟨rfl,.inr (.inr ⟨_,_,_,_,rfl⟩)⟩))
  · rw[wy k] at hd
    simp only[List.mem_cons,List.not_mem_nil,or_false] at hd
    rcases hd with rfl | rfl | rfl | rfl | rfl | rfl<;>first | exact .inl ⟨_,rfl⟩ | exact je (by simp) | exact jg (by simp) (by simp) | exact bU (.inr (.inr ⟨_,_,rfl,by simp⟩)) | exact bU (.inr (.inl ⟨rfl,.inr (.inl ⟨_,_,_,rfl⟩)⟩)) | exact bU (.inr (.inl ⟨rfl,.inr (.inr ⟨_,_,_,_,rfl⟩)⟩))
  · rw[wU k] at hd
    simp only[List.mem_cons,List.not_mem_nil,or_false] at hd
    rcases hd with rfl | rfl | rfl<;>first | exact .inl ⟨_,rfl⟩ | exact je (by simp) | exact jg (by simp) (by simp) | exact bU (.inr (.inr ⟨_,_,rfl,by simp⟩)) | exact bU (.inr (.inl ⟨rfl,.inr (.inl ⟨_,_,_,rfl⟩)⟩)) | exact bU (.inr (.inl ⟨rfl,.inr (.inr ⟨_,_,_,_,rfl⟩)⟩))
  · rw[vF k] at hd
    simp only[List.mem_cons,List.not_mem_nil,or_false] at hd
    rcases hd with rfl | rfl | rfl<;>first | exact .inl ⟨_,rfl⟩ | exact je (by simp) | exact jg (by simp) (by simp) | exact bU (.inr (.inr ⟨_,_,rfl,by simp⟩)) | exact bU (.inr (.inl ⟨rfl,.inr (.inl ⟨_,_,_,rfl⟩)⟩)) | exact bU (.inr (.inl ⟨rfl,.inr (.inr ⟨_,_,_,_,rfl⟩)⟩))
  · rw[wt k] at hd
    simp only[List.mem_cons,List.not_mem_nil,or_false] at hd
    rcases hd with rfl | rfl | rfl<;>first | exact .inl ⟨_,rfl⟩ | exact je (by simp) | exact jg (by simp) (by simp) | exact bU (.inr (.inr ⟨_,_,rfl,by simp⟩)) | exact bU (.inr (.inl ⟨rfl,.inr (.inl ⟨_,_,_,rfl⟩)⟩)) | exact bU (.inr (.inl ⟨rfl,.inr (.inr ⟨_,_,_,_,rfl⟩)⟩))
theorem DR {k:Nat}{x:Int} (h:k<9) (e:(k:Int)=x % 9):E8 k=.lst (((List.range 8).map (fun (i:Nat)=>decide ((0+(i:Int))=x % 9))++[false]).map L3.D.bl):=by
  rw[← e]
  rcases (show k=0∨k=1∨k=2∨k=3∨k=4∨k=5∨k=6∨k=7∨k=8 by omega) with rfl | rfl | rfl | rfl | rfl | rfl | rfl | rfl | rfl<;>rfl
def cellsOf (ns:List Int):List Int:=4::8::(ns.take 58).map fun x=>x % 1000000000000
theorem Dg {ns:List Int}:∀x∈cellsOf ns,0≤x∧x<10 ^ 12:=by
  intro x hx
  simp only[cellsOf,List.mem_cons] at hx
  rcases hx with rfl | rfl | hx
  · decide
  · decide
  · obtain ⟨y,_,rfl⟩:=List.mem_map.mp hx
    omega
theorem A6 {ns:List Int}:1≤(cellsOf ns).length∧(cellsOf ns).length≤60:=by
  simp only[cellsOf,List.length_cons,List.length_map,List.length_take];omega
def qp:DSp:=fun ds P=>∃ns,ds=[.scr ns]∧ns.length≤63∧P (.bl true)
theorem Ck {ns:List Int}{P:DK} (hl:ns.length≤63) (h:P (.bl true)):qp [.scr ns] P:=⟨ns,rfl,hl,h⟩
theorem Ha:br qp:=by
  intro xs P P' k h
  unfold qp at h ⊢
  grind
theorem Ec:∀ds P,qp ds P→ds.length=1:=by
  intro ds P h
  obtain ⟨_,e,_⟩:=h
  rw[e];rfl
theorem Fm {c:Cs}{f:Addr}{fd:FuncData} (F:FnAt K mg "law" ka sZ f fd) (A_:Fns K mg c) (T:Txt K mg) (xs:Exs K mg base c):aG P w K mg base CX0 36 f fd sZ (spP K qp):=by
  obtain ⟨f0,d0,E_law_parts⟩:=A_.h_law_parts
  have G_law_parts:aG P w K mg base CX0 1 f0 d0 gv (spP K gu):=wR E_law_parts A_ T xs
  obtain ⟨f1,d1,E_law_paper⟩:=A_.h_law_paper
  have G_law_paper:aG P w K mg base CX0 4 f1 d1 gD (spP K (gA c)):=vW E_law_paper A_ T xs
  obtain ⟨f2,d2,E_law_changed⟩:=A_.h_law_changed
  have G_law_changed:aG P w K mg base CX0 1 f2 d2 eF (spI K 0 eC):=sr E_law_changed A_ T xs
  obtain ⟨f3,d3,E_law_asked⟩:=A_.h_law_asked
  have G_law_asked:aG P w K mg base CX0 35 f3 d3 gp (spP K (ff c)):=wG E_law_asked A_ T xs
  obtain ⟨f4,d4,E_law_paired⟩:=A_.h_law_paired
  have G_law_paired:aG P w K mg base CX0 35 f4 d4 fH (spP K (ei c)):=uc E_law_paired A_ T xs
  obtain ⟨f5,d5,E_law_classes⟩:=A_.h_law_classes
  have G_law_classes:aG P w K mg base CX0 1 f5 d5 dE (spP K (cP c)):=lM E_law_classes A_ T xs
  refine F.fn.ok mf (fun vs H Q E h=>a9 Ec h) (fun cdv A outer s H vs Q E hr h=>?_)
  refine⟨_,(ar (bp (i:=1) mf.nd rfl (by first | exact Or.inl rfl | exact Or.inr rfl) (bj lT (aT (aa ak (aa ak ai))) (cg (aS.of (sc0:=(au ka)) (tn:=["_law_cell"]) (cap:=[]) (idx:=[]) (by decide +kernel) rfl rfl) (bL (K:=K) rfl (Bt (Dm (K:=K) rfl) (pv 0) DU (DV ak))) (fN.name (by decide)) (fun _ _ _ _ _=>ba (i:=0) (aX (l:=["_law_cell"]) (by decide +kernel)) rfl (by first | exact Or.inl rfl | exact Or.inr rfl) (by first | exact .inl rfl | exact .inr rfl)) (fun _ _ _ _ _=>(bj jR (pv 0) (bj B5 ak ak)))))) (ar (rH (i:=2) (aS.of (sc0:=(au ka)) (tn:=["_law_cell"]) (cap:=[]) (idx:=[]) (by decide +kernel) rfl rfl) mf.nd rfl (by first | exact Or.inl rfl | exact Or.inr rfl) (bL (K:=K) rfl (pv 1)) (fN.name (by decide)) (fun _ _ _ _ _=>ba (i:=0) (aX (l:=["_law_cell"]) (by decide +kernel)) rfl (by first | exact Or.inl rfl | exact Or.inr rfl) (by first | exact .inl rfl | exact .inr rfl)) (fun _ _ _ _ _=>(aF G_law_parts (hr.mono (by decide)) rfl E_law_parts.mg E_law_parts.fn.kp E_law_parts.bd .nil aD (aa (pv 0) ai)))) (ar (bp (i:=3) mf.nd rfl (by first | exact Or.inl rfl | exact Or.inr rfl) (aT ai)) (ar (i6 PassesOwn.never rfl (zw (K:=K) rfl rfl T.zip_ (aa (pv 1) (aa (pv 2) ai))) (zz (K:=K) rfl rfl (oG (ba (i:=4) mf.nd rfl (by first | exact Or.inl rfl | exact Or.inr rfl)) (oG (ba (i:=5) mf.nd rfl (by first | exact Or.inl rfl | exact Or.inr rfl)) zj))) (ar (bp (i:=6) mf.nd rfl (by first | exact Or.inl rfl | exact Or.inr rfl) (aF G_law_paper (hr.mono (by decide)) rfl E_law_paper.mg E_law_paper.fn.kp E_law_paper.bd .nil aD (aa (pv 4) (aa (pv 5) ai)))) (ar (b5 (bD (Cr hr.units) (aF G_law_classes (hr.mono (by decide)) rfl E_law_classes.mg E_law_classes.fn.kp E_law_classes.bd .nil aD (aa (pv 6) ai)) (bj lT (cg (aS.of (sc0:=(au ka)) (tn:=["_law_k"]) (cap:=["_law_cell"]) (idx:=[4]) (by decide +kernel) rfl rfl) (eE rfl T.range_ (aa ak ai)) (fN.name (by decide)) (fun _ _ _ _ _=>ba (i:=0) (aX (l:=["_law_k","_law_cell"]) (by decide +kernel)) rfl (by first | exact Or.inl rfl | exact Or.inr rfl) (by first | exact .inl rfl | exact .inr rfl)) (fun _ _ _ _ _=>(cE cY (pv 0) (bj jR (pv 1) ak) (a6 _)))) (aT (aa dH ai))) (a6 _)) (av (aH dH)) a8) (av (kf (uq PySem.F.plainAttrs_list PySem.F.slot_list_append PySem.F.type_list_append kP (pv 3) (aa (pv 6) ai))))))) (ar (b5 (PW.pt (kN (cL (cB (aF G_law_asked (hr.mono (by decide)) rfl E_law_asked.mg E_law_asked.fn.kp E_law_asked.bd .nil aD (aa (pv 3) (aa (pv 1) ai))))) (jN (cL (cB (aF G_law_paired (hr.mono (by decide)) rfl E_law_paired.mg E_law_paired.fn.kp E_law_paired.bd .nil aD (aa (pv 3) (aa (pv 1) ai)))))))) (av (aH dH)) a8) (ar (i6 PassesOwn.never rfl (bL (K:=K) rfl (pv 2)) (ba (i:=5) mf.nd rfl (by first | exact Or.inl rfl | exact Or.inr rfl)) (av (kf (aF G_law_changed (hr.mono (by decide)) rfl E_law_changed.mg E_law_changed.fn.kp E_law_changed.bd .nil aD (aa (pv 5) ai))))) (av (aH (ie (aF G_law_asked (hr.mono (by decide)) rfl E_law_asked.mg E_law_asked.fn.kp E_law_asked.bd .nil aD (aa (pv 3) (aa (pv 1) ai))) (ib (aF G_law_paired (hr.mono (by decide)) rfl E_law_paired.mg E_law_paired.fn.kp E_law_paired.bd .nil aD (aa (pv 3) (aa (pv 1) ai))))))))))))),bF (Γn:=[3,2,1]) (N:=CG) (aA (ST.post (Γn:=[1]) (eQ (M:=[]) 1 (aE rh (EM.er (aV (aq ao (aq ao aQ)))) (EM.er (bQ (cD (EM.es (Hn (ES.er (af 0)) or_none (or_some (EM.er ao))))) (bc 0) (aE cN (ES.er (af 0)) (EM.er (aE cN (EM.er ao) (EM.er ao))))))))) (aA (ST.post (Γn:=[2,1]) (eQ (M:=[]) 2 (bQ (cD (af 1)) (bc 0) (aL (S:=gu) sG (ah (ES.er (af 0)) aj))))) (aA (ST.post (Γn:=[3,2,1]) (eQ (M:=[]) 3 (aV aQ))) (aA (wm 1 (wm 2 (Dr 1 (Dr 2 (Br 7 1 2 [0,4,5,6] (nO (Bs (zq 1) (zq 2)) (CU (pw (bc 4) (pw (bc 5) Am))) (aA (ST.post (Γn:=[6,3]) (eQ (M:=[]) 6 (aL (S:=gA c) rR (ah (ES.er (af 4)) (ah (ES.er (af 5)) aj))))) (aA (bV (bh (EM.er (aE EY (EM.er (aL (S:=cP c) kG (ah (fM 6) aj))) (EM.er (aE rh (EM.er (bQ (iG (ah (EM.er ao) aj)) (bc 0) (aE gF (ES.er (af 0)) (EM.er (aE cN (ES.er (af 1)) (EM.er ao)))))) (EM.er (aV (aq dU aQ)))))))) (aI (M:=[]) dU) aY) (ST.post (Γn:=[3]) (qd (M:=[6]) 3 (oj 6))))))))))) (aA (bV (kQ (cO (fJ (EM.er (aL (S:=ff c) ml (ah (fM 3) (ah (fM 1) aj)))))) (cO (fJ (EM.er (aL (S:=ei c) lH (ah (fM 3) (ah (fM 1) aj))))))) (aI (M:=[]) dU) aY) (aA (wm 2 (wL 2 5 (sk 5 (u5 5 0 pW (zy 5 BS))) j9 j9)) (aI (M:=[]) (fm (EM.er (aL (S:=ff c) ml (ah (fM 3) (ah (fM 1) aj)))) (aL (S:=ei c) lH (ah (fM 3) (ah (fM 1) aj))))))))))) (fun ds P hS=>?_) h⟩
  obtain ⟨ns,rfl,hz,hP⟩:=hS
  rw[show aO CG [.scr ns]=[some (.scr ns),none,none,none,none,none,none] from rfl]
  walk_at "go"
  refine kH (as:=ns.take 58) (f:=L3.D.int) (g:=fun x=>.int (x % 1000000000000)) (fun R h=>by walk_at "go";rw[DM (by decide),← List.map_take];exact h) (by simp;omega) (fun a ha R hR=>by walk_at "gb";exact hR) ?_
  walk_at "go"
  refine⟨⟨rfl,by rw[List.all_map,List.all_eq_true];exact fun _ _=>rfl,by rw[List.length_take];omega⟩,?_⟩
  rw[show ([L3.D.int 4,L3.D.int 8]++List.map (fun x=>L3.D.int (x % 1000000000000)) (List.take 58 ns))=(cellsOf ns).map L3.D.int by simp only[cellsOf,List.map_cons,List.map_map];rfl]
  have hc:=Dg (ns:=ns)
  have hl:=A6 (ns:=ns)
  generalize cellsOf ns=cells at *
  refine kH (as:=cells) (f:=L3.D.int) (g:=fun x=>.lst (cz x)) (fun R h=>by walk_at "go";exact h) (by omega) (fun a ha R hR=>by walk_at "gb";exact⟨a,rfl,(hc a ha).1,(hc a ha).2,hR⟩) ?_
  walk_at "go"
  refine⟨_,rfl,rfl,fun a1=>⟨_,rfl,rfl,fun a2=>?_⟩⟩
  refine⟨a1,a2,_,_,rfl,rfl,rfl,?_⟩
  generalize hE:b8.mk _ _ _ _=E3
  walk_at "go"
  unfold FP
  walk_at "go"
  rw[xU]
  refine jA (as:=cells) (f:=fun x=>.tup [.int x,.lst (cz x)]) (fun i δ=>∃o4 o5 o6:Option D,δ=[some (.scr ns),some (.pin a1 (dI cells)),some (.pin a2 (.lst (cells.map fun x=>.lst (cz x)))),some (.lst ((cells.take i).map (ef c))),o4,o5,o6]) ⟨none,none,none,rfl⟩ ?_ ?_
  · rintro i x δ N e ⟨o4,o5,o6,rfl⟩ hN
    walk_at "go"
    refine⟨x,rfl,?_⟩
    walk_at "go"
    obtain ⟨k,ns',dd,e1,k9,ek⟩:=vY (c:=c) (x:=x)
    refine⟨k,ns',dd,by rw[e1],by omega,?_⟩
    walk_at "go"
    refine kF (lo:=0) (n:=8) (g:=fun (i:Nat)=>.bl (decide (0+(i:Int)=x % 9))) (fun R h=>by walk_at "go";exact h) (by decide) (fun i hi R hR=>by walk_at "gb";exact hR) ?_
    walk_at "go"
    refine⟨⟨by rw[List.all_map,List.all_eq_true];exact fun _ _=>rfl,rfl,by simp⟩,?_⟩
    refine⟨_,DR k9 ek,by rw[List.map_append,List.map_map];rfl,?_⟩
    walk_at "go"
    refine⟨by rw[List.length_take];omega,?_⟩
    rw[show List.map (ef c) (List.take i cells)++[ef c x]=(List.take (i+1) cells).map (ef c) by rw[List.take_succ,e];simp]
    exact hN _ ⟨_,_,_,rfl⟩
  · rintro δ ⟨o4,o5,o6,rfl⟩
    subst hE
    rw[List.take_length]
    refine⟨rfl,rfl,rfl,?_⟩
    walk_at "go"
    refine⟨cells,rfl,hc,?_⟩
    walk_at "go"
    refine⟨cells,rfl,hc,hl.1,hl.2,?_⟩
    walk_at "go"
    refine⟨_,rfl,rfl,fun a3=>?_⟩
    refine⟨a3,cells.length,fun m δ=>∃(ds:List D) (o5:Option D),δ=[none,some (dI cells),some (.pin a3 (.lst ds)),some (.lst (cells.map (ef c))),none,o5,none]∧ds.length=cells.length∧∀d∈ds.drop m,∃x,d=.lst (cz x),⟨_,none,rfl,by rw[List.length_map],fun d hd=>?_⟩,?_⟩
    · rw[List.drop_zero] at hd
      obtain ⟨x,_,rfl⟩:=List.mem_map.mp hd
      exact⟨x,rfl⟩
    rintro m δ ⟨ds,o5,rfl,hds,hd⟩
    refine⟨ds,rfl,hds,by simp,?_⟩
    by_cases hm:m<cells.length
    · rw[if_pos hm]
      have hm':m<ds.length:=by omega
      rw[List.drop_eq_getElem_cons hm'] at hd
      obtain ⟨x,ex⟩:=hd ds[m] List.mem_cons_self
      refine .inl ⟨cz x,by rw[List.getElem?_eq_getElem hm',ex],fun b=>?_⟩
      walk_at "go"
      refine⟨_,rfl,xW,fun d'=>?_⟩
      exact⟨_,_,rfl,rfl,pT hm',_,none,rfl,by rw[List.length_set,List.length_set];exact hds,by rw[drp];exact fun d h=>hd d (List.mem_cons_of_mem _ h)⟩
    · rw[if_neg hm]
      walk_at "go"
      refine⟨cells,rfl,hc,?_⟩
      walk_at "go"
      refine⟨cells,rfl,hc,hl.1,hl.2,?_⟩
      walk_at "go"
      exact hP
end
end Mine
set_option maxHeartbeats 16000000
namespace Mine
open PySem L2 PyProof.Rows
theorem all_mk {l:PySem.W.OpenLaw}{w:World}{K:PySem.W.Frag}{h:Heap}{mg:Str→Option Value}{fa f54:Addr} (X:K.In h) (G:h.Ns mainGlobals mg) (hfa:mg "law" = some (.ref fa))
    {od54 an54:Option Addr}{sl54:Array (Option Value)}{oc54 kV54 dc54 pm54 cd54 ct54:Value}
    {C_MixError C_NoStep C_NoMix C_NoSwap C_Paper C_MixPaper C_StepPaper C_BarPaper C_LeadPaper C_SumPaper C_CutPaper C_SwapPaper C_RoundPaper C_PairPaper:Addr}
    (q0:∃f fd,FnAt K mg "falling" my jl f fd)
    (q1:∃f fd,FnAt K mg "heads_of" kY ip f fd)
    (q2:∃f fd,FnAt K mg "is_place" lj gm f fd)
    (q3:∃f fd,FnAt K mg "copied_table" fh bE f fd)
    (q4:∃f fd,FnAt K mg "sums_of_rows" eW cG f fd)
    (q5:∃f fd,FnAt K mg "sums_of_columns" eL bX f fd)
    (q6:∃f fd,FnAt K mg "turned_table" eZ dZ f fd)
    (q7:∃f fd,FnAt K mg "column_of" iR gC f fd)
    (q8:∃f fd,FnAt K mg "times_row" iT gB f fd)
    (q9:∃f fd,FnAt K mg "product_of" h7 fw f fd)
    (q10:∃f fd,FnAt K mg "most_in_cut" dG eB f fd)
    (q11:∃f fd,FnAt K mg "is_even" jk jn f fd)
    (q12:∃f fd,FnAt K mg "is_mixture" hZ el f fd)
    (q13:∃f fd,FnAt K mg "is_pair" mz jy f fd)
    (q14:∃f fd,FnAt K mg "told_by" kJ jv f fd)
    (q15:∃f fd,FnAt K mg "add_dealing" iI eH f fd)
    (q16:∃f fd,FnAt K mg "is_ones" kE ig f fd)
    (q17:∃f fd,FnAt K mg "bordered_table" cR cW f fd)
    (q18:∃f fd,FnAt K mg "is_rounded" gT fG f fd)
    (q19:∃f fd,FnAt K mg "is_near" kC js f fd)
    (q20:∃f fd,FnAt K mg "can_step" kZ iE f fd)
    (q21:∃f fd,FnAt K mg "step_made" jV gn f fd)
    (q22:∃f fd,FnAt K mg "row_behind" jc fk f fd)
    (q23:∃f fd,FnAt K mg "can_swap" lx ik f fd)
    (q24:∃f fd,FnAt K mg "swap_made" kh gx f fd)
    (q25:∃f fd,FnAt K mg "table_behind" gL ee f fd)
    (q26:∃f fd,fP K C_Paper "holds" "Paper.holds" iL cQ f fd)
    (q27:∃f fd,h8 K mg "MixPaper" C_MixPaper "MixPaper.__init__" eA dm f fd)
    (q28:∃f fd,fP K C_MixPaper "holds" "MixPaper.holds" fo cm f fd)
    (q29:∃f fd,h8 K mg "StepPaper" C_StepPaper "StepPaper.__init__" fA cS f fd)
    (q30:∃f fd,fP K C_StepPaper "holds" "StepPaper.holds" eM b4 f fd)
    (q31:∃f fd,h8 K mg "BarPaper" C_BarPaper "BarPaper.__init__" fV c4 f fd)
    (q32:∃f fd,fP K C_BarPaper "holds" "BarPaper.holds" fB cn f fd)
    (q33:∃f fd,h8 K mg "LeadPaper" C_LeadPaper "LeadPaper.__init__" ft cU f fd)
    (q34:∃f fd,fP K C_LeadPaper "holds" "LeadPaper.holds" dA b3 f fd)
    (q35:∃f fd,h8 K mg "SumPaper" C_SumPaper "SumPaper.__init__" fW df f fd)
    (q36:∃f fd,fP K C_SumPaper "holds" "SumPaper.holds" fF cf f fd)
    (q37:∃f fd,h8 K mg "CutPaper" C_CutPaper "CutPaper.__init__" fU c7 f fd)
    (q38:∃f fd,fP K C_CutPaper "holds" "CutPaper.holds" dY cq f fd)
    (q39:∃f fd,FnAt K mg "has_shape" j8 gw f fd)
    (q40:∃f fd,FnAt K mg "are_places" gP fC f fd)
    (q41:∃f fd,h8 K mg "SwapPaper" C_SwapPaper "SwapPaper.__init__" fj cV f fd)
    (q42:∃f fd,fP K C_SwapPaper "holds" "SwapPaper.holds" eP bY f fd)
    (q43:∃f fd,h8 K mg "RoundPaper" C_RoundPaper "RoundPaper.__init__" eR cH f fd)
    (q44:∃f fd,fP K C_RoundPaper "holds" "RoundPaper.holds" eh bS f fd)
    (q45:∃f fd,h8 K mg "PairPaper" C_PairPaper "PairPaper.__init__" fD cT f fd)
    (q46:∃f fd,fP K C_PairPaper "holds" "PairPaper.holds" dq bg f fd)
    (q47:∃f fd,FnAt K mg "_law_parts" kd gv f fd)
    (q48:∃f fd,FnAt K mg "_law_paper" jY gD f fd)
    (q49:∃f fd,FnAt K mg "_law_classes" iH dE f fd)
    (q50:∃f fd,FnAt K mg "_law_due" mD iq f fd)
    (q51:∃f fd,FnAt K mg "_law_changed" iM eF f fd)
    (q52:∃f fd,FnAt K mg "_law_asked" j7 gp f fd)
    (q53:∃f fd,FnAt K mg "_law_paired" jb fH f fd)
    (a54:PySem.W.nsIn K mainGlobals "law" = some (some (.ref f54))) (l54:K.lookup f54=some ⟨oc54,od54,.func (PySem.W.fnOf "law" "law" (iN ka) (fY ka) (au ka) .none kV54 dc54 pm54 an54 cd54 ct54),sl54⟩) (c54:PySem.W.codeIn K cd54 "law" = true) (k54:PySem.W.keepIn K (.ref f54)=true)
    (e_MixError:PySem.W.nsIn K mainGlobals "MixError" = some (some (.ref C_MixError)))
    (e_NoStep:PySem.W.nsIn K mainGlobals "NoStep" = some (some (.ref C_NoStep)))
    (e_NoMix:PySem.W.nsIn K mainGlobals "NoMix" = some (some (.ref C_NoMix)))
    (e_NoSwap:PySem.W.nsIn K mainGlobals "NoSwap" = some (some (.ref C_NoSwap)))
    (e_Paper:PySem.W.nsIn K mainGlobals "Paper" = some (some (.ref C_Paper)))
    (e_MixPaper:PySem.W.nsIn K mainGlobals "MixPaper" = some (some (.ref C_MixPaper)))
    (e_StepPaper:PySem.W.nsIn K mainGlobals "StepPaper" = some (some (.ref C_StepPaper)))
    (e_BarPaper:PySem.W.nsIn K mainGlobals "BarPaper" = some (some (.ref C_BarPaper)))
    (e_LeadPaper:PySem.W.nsIn K mainGlobals "LeadPaper" = some (some (.ref C_LeadPaper)))
    (e_SumPaper:PySem.W.nsIn K mainGlobals "SumPaper" = some (some (.ref C_SumPaper)))
    (e_CutPaper:PySem.W.nsIn K mainGlobals "CutPaper" = some (some (.ref C_CutPaper)))
    (e_SwapPaper:PySem.W.nsIn K mainGlobals "SwapPaper" = some (some (.ref C_SwapPaper)))
    (e_RoundPaper:PySem.W.nsIn K mainGlobals "RoundPaper" = some (some (.ref C_RoundPaper)))
    (e_PairPaper:PySem.W.nsIn K mainGlobals "PairPaper" = some (some (.ref C_PairPaper)))
    (i_Paper:fR K C_Paper) (ko_Paper:PySem.W.kitOne K (.ref C_Paper) (.ref C_Paper)=some true)
    (i_MixPaper:fR K C_MixPaper) (ko_MixPaper:PySem.W.kitOne K (.ref C_MixPaper) (.ref C_Paper)=some true)
    (na_MixPaper_table:PySem.W.findIn K (.ref C_MixPaper) "table" = some none)
    (na_MixPaper_pairs:PySem.W.findIn K (.ref C_MixPaper) "pairs" = some none)
    (i_StepPaper:fR K C_StepPaper) (ko_StepPaper:PySem.W.kitOne K (.ref C_StepPaper) (.ref C_Paper)=some true)
    (na_StepPaper_one:PySem.W.findIn K (.ref C_StepPaper) "one" = some none)
    (na_StepPaper_other:PySem.W.findIn K (.ref C_StepPaper) "other" = some none)
    (na_StepPaper_steps:PySem.W.findIn K (.ref C_StepPaper) "steps" = some none)
    (i_BarPaper:fR K C_BarPaper) (ko_BarPaper:PySem.W.kitOne K (.ref C_BarPaper) (.ref C_Paper)=some true)
    (na_BarPaper_one:PySem.W.findIn K (.ref C_BarPaper) "one" = some none)
    (na_BarPaper_other:PySem.W.findIn K (.ref C_BarPaper) "other" = some none)
    (na_BarPaper_k:PySem.W.findIn K (.ref C_BarPaper) "k" = some none)
    (i_LeadPaper:fR K C_LeadPaper) (ko_LeadPaper:PySem.W.kitOne K (.ref C_LeadPaper) (.ref C_Paper)=some true)
    (na_LeadPaper_one:PySem.W.findIn K (.ref C_LeadPaper) "one" = some none)
    (na_LeadPaper_other:PySem.W.findIn K (.ref C_LeadPaper) "other" = some none)
    (na_LeadPaper_table:PySem.W.findIn K (.ref C_LeadPaper) "table" = some none)
    (i_SumPaper:fR K C_SumPaper) (ko_SumPaper:PySem.W.kitOne K (.ref C_SumPaper) (.ref C_Paper)=some true)
    (na_SumPaper_rows:PySem.W.findIn K (.ref C_SumPaper) "rows" = some none)
    (na_SumPaper_columns:PySem.W.findIn K (.ref C_SumPaper) "columns" = some none)
    (na_SumPaper_table:PySem.W.findIn K (.ref C_SumPaper) "table" = some none)
    (i_CutPaper:fR K C_CutPaper) (ko_CutPaper:PySem.W.kitOne K (.ref C_CutPaper) (.ref C_Paper)=some true)
    (na_CutPaper_rows:PySem.W.findIn K (.ref C_CutPaper) "rows" = some none)
    (na_CutPaper_columns:PySem.W.findIn K (.ref C_CutPaper) "columns" = some none)
    (na_CutPaper_low:PySem.W.findIn K (.ref C_CutPaper) "low" = some none)
    (na_CutPaper_high:PySem.W.findIn K (.ref C_CutPaper) "high" = some none)
    (na_CutPaper_some:PySem.W.findIn K (.ref C_CutPaper) "some" = some none)
    (na_CutPaper_others:PySem.W.findIn K (.ref C_CutPaper) "others" = some none)
    (i_SwapPaper:fR K C_SwapPaper) (ko_SwapPaper:PySem.W.kitOne K (.ref C_SwapPaper) (.ref C_Paper)=some true)
    (na_SwapPaper_one:PySem.W.findIn K (.ref C_SwapPaper) "one" = some none)
    (na_SwapPaper_other:PySem.W.findIn K (.ref C_SwapPaper) "other" = some none)
    (na_SwapPaper_swaps:PySem.W.findIn K (.ref C_SwapPaper) "swaps" = some none)
    (i_RoundPaper:fR K C_RoundPaper) (ko_RoundPaper:PySem.W.kitOne K (.ref C_RoundPaper) (.ref C_Paper)=some true)
    (na_RoundPaper_table:PySem.W.findIn K (.ref C_RoundPaper) "table" = some none)
    (na_RoundPaper_bottom:PySem.W.findIn K (.ref C_RoundPaper) "bottom" = some none)
    (na_RoundPaper_whole:PySem.W.findIn K (.ref C_RoundPaper) "whole" = some none)
    (i_PairPaper:fR K C_PairPaper) (ko_PairPaper:PySem.W.kitOne K (.ref C_PairPaper) (.ref C_Paper)=some true)
    (na_PairPaper_first:PySem.W.findIn K (.ref C_PairPaper) "first" = some none)
    (na_PairPaper_second:PySem.W.findIn K (.ref C_PairPaper) "second" = some none)
    (x_MixError:∀base,K.In base→dX base C_MixError [])
    (x_NoMix:L3.XC K C_NoMix C_MixError)
    (x_NoStep:L3.XC K C_NoStep C_MixError)
    (x_NoSwap:L3.XC K C_NoSwap C_MixError)
    (ky_Paper_MixPaper:PySem.W.kitOne K (.ref C_Paper) (.ref C_MixPaper)=some false)
    (ky_MixPaper_MixPaper:PySem.W.kitOne K (.ref C_MixPaper) (.ref C_MixPaper)=some true)
    (ky_StepPaper_MixPaper:PySem.W.kitOne K (.ref C_StepPaper) (.ref C_MixPaper)=some false)
    (ky_BarPaper_MixPaper:PySem.W.kitOne K (.ref C_BarPaper) (.ref C_MixPaper)=some false)
    (ky_LeadPaper_MixPaper:PySem.W.kitOne K (.ref C_LeadPaper) (.ref C_MixPaper)=some false)
    (ky_SumPaper_MixPaper:PySem.W.kitOne K (.ref C_SumPaper) (.ref C_MixPaper)=some false)
    (ky_CutPaper_MixPaper:PySem.W.kitOne K (.ref C_CutPaper) (.ref C_MixPaper)=some false)
    (ky_SwapPaper_MixPaper:PySem.W.kitOne K (.ref C_SwapPaper) (.ref C_MixPaper)=some false)
    (ky_RoundPaper_MixPaper:PySem.W.kitOne K (.ref C_RoundPaper) (.ref C_MixPaper)=some false)
    (ky_PairPaper_MixPaper:PySem.W.kitOne K (.ref C_PairPaper) (.ref C_MixPaper)=some false)
    (ky_Paper_StepPaper:PySem.W.kitOne K (.ref C_Paper) (.ref C_StepPaper)=some false)
    (ky_MixPaper_StepPaper:PySem.W.kitOne K (.ref C_MixPaper) (.ref C_StepPaper)=some false)
    (ky_StepPaper_StepPaper:PySem.W.kitOne K (.ref C_StepPaper) (.ref C_StepPaper)=some true)
    (ky_BarPaper_StepPaper:PySem.W.kitOne K (.ref C_BarPaper) (.ref C_StepPaper)=some false)
    (ky_LeadPaper_StepPaper:PySem.W.kitOne K (.ref C_LeadPaper) (.ref C_StepPaper)=some false)
    (ky_SumPaper_StepPaper:PySem.W.kitOne K (.ref C_SumPaper) (.ref C_StepPaper)=some false)
    (ky_CutPaper_StepPaper:PySem.W.kitOne K (.ref C_CutPaper) (.ref C_StepPaper)=some false)
    (ky_SwapPaper_StepPaper:PySem.W.kitOne K (.ref C_SwapPaper) (.ref C_StepPaper)=some false)
    (ky_RoundPaper_StepPaper:PySem.W.kitOne K (.ref C_RoundPaper) (.ref C_StepPaper)=some false)
    (ky_PairPaper_StepPaper:PySem.W.kitOne K (.ref C_PairPaper) (.ref C_StepPaper)=some false)
    (ky_Paper_BarPaper:PySem.W.kitOne K (.ref C_Paper) (.ref C_BarPaper)=some false)
    (ky_MixPaper_BarPaper:PySem.W.kitOne K (.ref C_MixPaper) (.ref C_BarPaper)=some false)
    (ky_StepPaper_BarPaper:PySem.W.kitOne K (.ref C_StepPaper) (.ref C_BarPaper)=some false)
    (ky_BarPaper_BarPaper:PySem.W.kitOne K (.ref C_BarPaper) (.ref C_BarPaper)=some true)
    (ky_LeadPaper_BarPaper:PySem.W.kitOne K (.ref C_LeadPaper) (.ref C_BarPaper)=some false)
    (ky_SumPaper_BarPaper:PySem.W.kitOne K (.ref C_SumPaper) (.ref C_BarPaper)=some false)
    (ky_CutPaper_BarPaper:PySem.W.kitOne K (.ref C_CutPaper) (.ref C_BarPaper)=some false)
    (ky_SwapPaper_BarPaper:PySem.W.kitOne K (.ref C_SwapPaper) (.ref C_BarPaper)=some false)
    (ky_RoundPaper_BarPaper:PySem.W.kitOne K (.ref C_RoundPaper) (.ref C_BarPaper)=some false)
    (ky_PairPaper_BarPaper:PySem.W.kitOne K (.ref C_PairPaper) (.ref C_BarPaper)=some false)
    (ky_Paper_LeadPaper:PySem.W.kitOne K (.ref C_Paper) (.ref C_LeadPaper)=some false)
    (ky_MixPaper_LeadPaper:PySem.W.kitOne K (.ref C_MixPaper) (.ref C_LeadPaper)=some false)
    (ky_StepPaper_LeadPaper:PySem.W.kitOne K (.ref C_StepPaper) (.ref C_LeadPaper)=some false)
    (ky_BarPaper_LeadPaper:PySem.W.kitOne K (.ref C_BarPaper) (.ref C_LeadPaper)=some false)
    (ky_LeadPaper_LeadPaper:PySem.W.kitOne K (.ref C_LeadPaper) (.ref C_LeadPaper)=some true)
    (ky_SumPaper_LeadPaper:PySem.W.kitOne K (.ref C_SumPaper) (.ref C_LeadPaper)=some false)
    (ky_CutPaper_LeadPaper:PySem.W.kitOne K (.ref C_CutPaper) (.ref C_LeadPaper)=some false)
    (ky_SwapPaper_LeadPaper:PySem.W.kitOne K (.ref C_SwapPaper) (.ref C_LeadPaper)=some false)
    (ky_RoundPaper_LeadPaper:PySem.W.kitOne K (.ref C_RoundPaper) (.ref C_LeadPaper)=some false)
    (ky_PairPaper_LeadPaper:PySem.W.kitOne K (.ref C_PairPaper) (.ref C_LeadPaper)=some false)
    (ky_Paper_SumPaper:PySem.W.kitOne K (.ref C_Paper) (.ref C_SumPaper)=some false)
    (ky_MixPaper_SumPaper:PySem.W.kitOne K (.ref C_MixPaper) (.ref C_SumPaper)=some false)
    (ky_StepPaper_SumPaper:PySem.W.kitOne K (.ref C_StepPaper) (.ref C_SumPaper)=some false)
    (ky_BarPaper_SumPaper:PySem.W.kitOne K (.ref C_BarPaper) (.ref C_SumPaper)=some false)
    (ky_LeadPaper_SumPaper:PySem.W.kitOne K (.ref C_LeadPaper) (.ref C_SumPaper)=some false)
    (ky_SumPaper_SumPaper:PySem.W.kitOne K (.ref C_SumPaper) (.ref C_SumPaper)=some true)
    (ky_CutPaper_SumPaper:PySem.W.kitOne K (.ref C_CutPaper) (.ref C_SumPaper)=some false)
    (ky_SwapPaper_SumPaper:PySem.W.kitOne K (.ref C_SwapPaper) (.ref C_SumPaper)=some false)
    (ky_RoundPaper_SumPaper:PySem.W.kitOne K (.ref C_RoundPaper) (.ref C_SumPaper)=some false)
    (ky_PairPaper_SumPaper:PySem.W.kitOne K (.ref C_PairPaper) (.ref C_SumPaper)=some false)
    (ky_Paper_CutPaper:PySem.W.kitOne K (.ref C_Paper) (.ref C_CutPaper)=some false)
    (ky_MixPaper_CutPaper:PySem.W.kitOne K (.ref C_MixPaper) (.ref C_CutPaper)=some false)
    (ky_StepPaper_CutPaper:PySem.W.kitOne K (.ref C_StepPaper) (.ref C_CutPaper)=some false)
    (ky_BarPaper_CutPaper:PySem.W.kitOne K (.ref C_BarPaper) (.ref C_CutPaper)=some false)
    (ky_LeadPaper_CutPaper:PySem.W.kitOne K (.ref C_LeadPaper) (.ref C_CutPaper)=some false)
    (ky_SumPaper_CutPaper:PySem.W.kitOne K (.ref C_SumPaper) (.ref C_CutPaper)=some false)
    (ky_CutPaper_CutPaper:PySem.W.kitOne K (.ref C_CutPaper) (.ref C_CutPaper)=some true)
    (ky_SwapPaper_CutPaper:PySem.W.kitOne K (.ref C_SwapPaper) (.ref C_CutPaper)=some false)
    (ky_RoundPaper_CutPaper:PySem.W.kitOne K (.ref C_RoundPaper) (.ref C_CutPaper)=some false)
    (ky_PairPaper_CutPaper:PySem.W.kitOne K (.ref C_PairPaper) (.ref C_CutPaper)=some false)
    (ky_Paper_SwapPaper:PySem.W.kitOne K (.ref C_Paper) (.ref C_SwapPaper)=some false)
    (ky_MixPaper_SwapPaper:PySem.W.kitOne K (.ref C_MixPaper) (.ref C_SwapPaper)=some false)
    (ky_StepPaper_SwapPaper:PySem.W.kitOne K (.ref C_StepPaper) (.ref C_SwapPaper)=some false)
    (ky_BarPaper_SwapPaper:PySem.W.kitOne K (.ref C_BarPaper) (.ref C_SwapPaper)=some false)
    (ky_LeadPaper_SwapPaper:PySem.W.kitOne K (.ref C_LeadPaper) (.ref C_SwapPaper)=some false)
    (ky_SumPaper_SwapPaper:PySem.W.kitOne K (.ref C_SumPaper) (.ref C_SwapPaper)=some false)
    (ky_CutPaper_SwapPaper:PySem.W.kitOne K (.ref C_CutPaper) (.ref C_SwapPaper)=some false)
    (ky_SwapPaper_SwapPaper:PySem.W.kitOne K (.ref C_SwapPaper) (.ref C_SwapPaper)=some true)
    (ky_RoundPaper_SwapPaper:PySem.W.kitOne K (.ref C_RoundPaper) (.ref C_SwapPaper)=some false)
    (ky_PairPaper_SwapPaper:PySem.W.kitOne K (.ref C_PairPaper) (.ref C_SwapPaper)=some false)
    (ky_Paper_RoundPaper:PySem.W.kitOne K (.ref C_Paper) (.ref C_RoundPaper)=some false)
    (ky_MixPaper_RoundPaper:PySem.W.kitOne K (.ref C_MixPaper) (.ref C_RoundPaper)=some false)
    (ky_StepPaper_RoundPaper:PySem.W.kitOne K (.ref C_StepPaper) (.ref C_RoundPaper)=some false)
    (ky_BarPaper_RoundPaper:PySem.W.kitOne K (.ref C_BarPaper) (.ref C_RoundPaper)=some false)
    (ky_LeadPaper_RoundPaper:PySem.W.kitOne K (.ref C_LeadPaper) (.ref C_RoundPaper)=some false)
    (ky_SumPaper_RoundPaper:PySem.W.kitOne K (.ref C_SumPaper) (.ref C_RoundPaper)=some false)
    (ky_CutPaper_RoundPaper:PySem.W.kitOne K (.ref C_CutPaper) (.ref C_RoundPaper)=some false)
    (ky_SwapPaper_RoundPaper:PySem.W.kitOne K (.ref C_SwapPaper) (.ref C_RoundPaper)=some false)
    (ky_RoundPaper_RoundPaper:PySem.W.kitOne K (.ref C_RoundPaper) (.ref C_RoundPaper)=some true)
    (ky_PairPaper_RoundPaper:PySem.W.kitOne K (.ref C_PairPaper) (.ref C_RoundPaper)=some false)
    (ky_Paper_PairPaper:PySem.W.kitOne K (.ref C_Paper) (.ref C_PairPaper)=some false)
    (ky_MixPaper_PairPaper:PySem.W.kitOne K (.ref C_MixPaper) (.ref C_PairPaper)=some false)
    (ky_StepPaper_PairPaper:PySem.W.kitOne K (.ref C_StepPaper) (.ref C_PairPaper)=some false)
    (ky_BarPaper_PairPaper:PySem.W.kitOne K (.ref C_BarPaper) (.ref C_PairPaper)=some false)
    (ky_LeadPaper_PairPaper:PySem.W.kitOne K (.ref C_LeadPaper) (.ref C_PairPaper)=some false)
    (ky_SumPaper_PairPaper:PySem.W.kitOne K (.ref C_SumPaper) (.ref C_PairPaper)=some false)
    (ky_CutPaper_PairPaper:PySem.W.kitOne K (.ref C_CutPaper) (.ref C_PairPaper)=some false)
    (ky_SwapPaper_PairPaper:PySem.W.kitOne K (.ref C_SwapPaper) (.ref C_PairPaper)=some false)
    (ky_RoundPaper_PairPaper:PySem.W.kitOne K (.ref C_RoundPaper) (.ref C_PairPaper)=some false)
    (ky_PairPaper_PairPaper:PySem.W.kitOne K (.ref C_PairPaper) (.ref C_PairPaper)=some true)
    (mz_Paper:L2.Mk0 K C_Paper)
    {tk_MOST:Tok} (g_MOST:PySem.W.nsIn K mainGlobals "MOST" = some (some (Value.int 8 tk_MOST)))
    (z_len:PySem.W.nsIn K mainGlobals "len" = some none) (z_isinstance:PySem.W.nsIn K mainGlobals "isinstance" = some none) (z_int:PySem.W.nsIn K mainGlobals "int" = some none) (z_bool:PySem.W.nsIn K mainGlobals "bool" = some none) (z_list:PySem.W.nsIn K mainGlobals "list" = some none) (z_tuple:PySem.W.nsIn K mainGlobals "tuple" = some none) (z_range:PySem.W.nsIn K mainGlobals "range" = some none) (z_sum:PySem.W.nsIn K mainGlobals "sum" = some none) (z_sorted:PySem.W.nsIn K mainGlobals "sorted" = some none) (z_min:PySem.W.nsIn K mainGlobals "min" = some none) (z_max:PySem.W.nsIn K mainGlobals "max" = some none) (z_abs:PySem.W.nsIn K mainGlobals "abs" = some none) (z_any:PySem.W.nsIn K mainGlobals "any" = some none) (z_all:PySem.W.nsIn K mainGlobals "all" = some none) (z_zip:PySem.W.nsIn K mainGlobals "zip" = some none) (z_ValueError:PySem.W.nsIn K mainGlobals "ValueError" = some none) :
    ∃fd:FuncData,(∀(s:Shared) (v:Value),BindsTo s fd ⟨[v],[]⟩ [("_law_script",v)])∧∀base:Heap,K.In base→base.Ns mainGlobals mg→aG l.prog w K mg base CX0 36 fa fd sZ (L3.spP K qp):=by
  have e:=hfa.symm.trans (PySem.W.mg_of X G a54)
  cases e
  have T:Txt K mg:=⟨PySem.W.mg_none_of X G z_len,PySem.W.mg_none_of X G z_isinstance,PySem.W.mg_none_of X G z_int,PySem.W.mg_none_of X G z_bool,PySem.W.mg_none_of X G z_list,PySem.W.mg_none_of X G z_tuple,PySem.W.mg_none_of X G z_range,PySem.W.mg_none_of X G z_sum,PySem.W.mg_none_of X G z_sorted,PySem.W.mg_none_of X G z_min,PySem.W.mg_none_of X G z_max,PySem.W.mg_none_of X G z_abs,PySem.W.mg_none_of X G z_any,PySem.W.mg_none_of X G z_all,PySem.W.mg_none_of X G z_zip,PySem.W.mg_none_of X G z_ValueError,⟨_,PySem.W.mg_of X G g_MOST⟩⟩
  have F54:=nG (st:=ka) l54 c54 k54
  have E54:FnAt K mg "law" ka sZ fa _:=⟨F54,PySem.W.mg_of X G a54,F54.binds (ps:=sZ) fun _ _ _ _ _ _ us hl=>match us,hl with | [_],_=>rfl⟩
  have A_:Fns K mg ⟨C_MixError,C_NoStep,C_NoMix,C_NoSwap,C_Paper,C_MixPaper,C_StepPaper,C_BarPaper,C_LeadPaper,C_SumPaper,C_CutPaper,C_SwapPaper,C_RoundPaper,C_PairPaper⟩:=⟨q0,q1,q2,q3,q4,q5,q6,q7,q8,q9,q10,q11,q12,q13,q14,q15,q16,q17,q18,q19,q20,q21,q22,q23,q24,q25,q26,q27,q28,q29,q30,q31,q32,q33,q34,q35,q36,q37,q38,q39,q40,q41,q42,q43,q44,q45,q46,q47,q48,q49,q50,q51,q52,q53,⟨_,_,E54⟩⟩
  exact⟨PySem.W.fnOf "law" "law" (iN ka) (fY ka) (au ka) .none kV54 dc54 pm54 an54 cd54 ct54,fun s v=>.of_eq rfl,fun base hb _=>Fm E54 A_ T (c:=⟨C_MixError,C_NoStep,C_NoMix,C_NoSwap,C_Paper,C_MixPaper,C_StepPaper,C_BarPaper,C_LeadPaper,C_SumPaper,C_CutPaper,C_SwapPaper,C_RoundPaper,C_PairPaper⟩) ⟨PySem.W.mg_of X G e_MixError,PySem.W.mg_of X G e_NoStep,PySem.W.mg_of X G e_NoMix,PySem.W.mg_of X G e_NoSwap,PySem.W.mg_of X G e_Paper,PySem.W.mg_of X G e_MixPaper,PySem.W.mg_of X G e_StepPaper,PySem.W.mg_of X G e_BarPaper,PySem.W.mg_of X G e_LeadPaper,PySem.W.mg_of X G e_SumPaper,PySem.W.mg_of X G e_CutPaper,PySem.W.mg_of X G e_SwapPaper,PySem.W.mg_of X G e_RoundPaper,PySem.W.mg_of X G e_PairPaper,i_Paper,ko_Paper,i_MixPaper,ko_MixPaper,na_MixPaper_table,na_MixPaper_pairs,i_StepPaper,ko_StepPaper,na_StepPaper_one,na_StepPaper_other,na_StepPaper_steps,i_BarPaper,ko_BarPaper,na_BarPaper_one,na_BarPaper_other,na_BarPaper_k,i_LeadPaper,ko_LeadPaper,na_LeadPaper_one,na_LeadPaper_other,na_LeadPaper_table,i_SumPaper,ko_SumPaper,na_SumPaper_rows,na_SumPaper_columns,na_SumPaper_table,i_CutPaper,ko_CutPaper,na_CutPaper_rows,na_CutPaper_columns,na_CutPaper_low,na_CutPaper_high,na_CutPaper_some,na_CutPaper_others,i_SwapPaper,ko_SwapPaper,na_SwapPaper_one,na_SwapPaper_other,na_SwapPaper_swaps,i_RoundPaper,ko_RoundPaper,na_RoundPaper_table,na_RoundPaper_bottom,na_RoundPaper_whole,i_PairPaper,ko_PairPaper,na_PairPaper_first,na_PairPaper_second,x_MixError base hb,x_NoMix.obj base hb,x_NoMix.exk,x_NoStep.obj base hb,x_NoStep.exk,x_NoSwap.obj base hb,x_NoSwap.exk,ky_Paper_MixPaper,ky_MixPaper_MixPaper,ky_StepPaper_MixPaper,ky_BarPaper_MixPaper,ky_LeadPaper_MixPaper,ky_SumPaper_MixPaper,ky_CutPaper_MixPaper,ky_SwapPaper_MixPaper,ky_RoundPaper_MixPaper,ky_PairPaper_MixPaper,ky_Paper_StepPaper,ky_MixPaper_StepPaper,ky_StepPaper_StepPaper,ky_BarPaper_StepPaper,ky_LeadPaper_StepPaper,ky_SumPaper_StepPaper,ky_CutPaper_StepPaper,ky_SwapPaper_StepPaper,ky_RoundPaper_StepPaper,ky_PairPaper_StepPaper,ky_Paper_BarPaper,ky_MixPaper_BarPaper,ky_StepPaper_BarPaper,ky_BarPaper_BarPaper,ky_LeadPaper_BarPaper,ky_SumPaper_BarPaper,ky_CutPaper_BarPaper,ky_SwapPaper_BarPaper,ky_RoundPaper_BarPaper,ky_PairPaper_BarPaper,ky_Paper_LeadPaper,ky_MixPaper_LeadPaper,ky_StepPaper_LeadPaper,ky_BarPaper_LeadPaper,ky_LeadPaper_LeadPaper,ky_SumPaper_LeadPaper,ky_CutPaper_LeadPaper,ky_SwapPaper_LeadPaper,ky_RoundPaper_LeadPaper,ky_PairPaper_LeadPaper,ky_Paper_SumPaper,ky_MixPaper_SumPaper,ky_StepPaper_SumPaper,ky_BarPaper_SumPaper,ky_LeadPaper_SumPaper,ky_SumPaper_SumPaper,ky_CutPaper_SumPaper,ky_SwapPaper_SumPaper,ky_RoundPaper_SumPaper,ky_PairPaper_SumPaper,ky_Paper_CutPaper,ky_MixPaper_CutPaper,ky_StepPaper_CutPaper,ky_BarPaper_CutPaper,ky_LeadPaper_CutPaper,ky_SumPaper_CutPaper,ky_CutPaper_CutPaper,ky_SwapPaper_CutPaper,ky_RoundPaper_CutPaper,ky_PairPaper_CutPaper,ky_Paper_SwapPaper,ky_MixPaper_SwapPaper,ky_StepPaper_SwapPaper,ky_BarPaper_SwapPaper,ky_LeadPaper_SwapPaper,ky_SumPaper_SwapPaper,ky_CutPaper_SwapPaper,ky_SwapPaper_SwapPaper,ky_RoundPaper_SwapPaper,ky_PairPaper_SwapPaper,ky_Paper_RoundPaper,ky_MixPaper_RoundPaper,ky_StepPaper_RoundPaper,ky_BarPaper_RoundPaper,ky_LeadPaper_RoundPaper,ky_SumPaper_RoundPaper,ky_CutPaper_RoundPaper,ky_SwapPaper_RoundPaper,ky_RoundPaper_RoundPaper,ky_PairPaper_RoundPaper,ky_Paper_PairPaper,ky_MixPaper_PairPaper,ky_StepPaper_PairPaper,ky_BarPaper_PairPaper,ky_LeadPaper_PairPaper,ky_SumPaper_PairPaper,ky_CutPaper_PairPaper,ky_SwapPaper_PairPaper,ky_RoundPaper_PairPaper,ky_PairPaper_PairPaper,mz_Paper⟩⟩
theorem walk {l:PySem.W.OpenLaw}{q:Program}{loose:List Str}{XP:(Str→Option Value)→Heap→Prop}{YP:World→Heap→Prop}{d:DefRec}{K:Params→PySem.W.Frag} (hn:l.most=some 63) (hdf:d.params.defaults=[])
    (hY:∀(w:World) (h:Heap),YP w h→(K w.params).In h)
    (F:∀(w:World) (mg:Str→Option Value) (fa:Addr) (h:Heap),(K w.params).In h→h.Ns mainGlobals mg→mg d.name=some (.ref fa) →
      ∃fd:FuncData,(∀(s:Shared) (u:Value),BindsTo s fd ⟨[u],[]⟩ [("_law_script",u)])∧∀base:Heap,(K w.params).In base→base.Ns mainGlobals mg→aG l.prog w (K w.params) mg base CX0 36 fa fd ["_law_script"] (L3.spP (K w.params) qp)) :
    PySem.W.WalkO q loose XP YP l.row.toRowW d [] (fun f vs=>PySem.call f vs) :=
  L2.zS (n:=63) (k:=36) (x:="_law_script") (CX:=fun _=>CX0) (sp:=fun w=>L3.spP (K w.params) qp) hn (by decide) hdf ⟨rfl,by decide,by decide⟩ hY F (fun w H a ns hl hO hS=>⟨[.scr ns],⟨[],_,_,[],[],rfl,rfl,⟨a,rfl,L3.GI hO hS,rfl⟩,rfl,rfl⟩,Ck hl (fun v H' fp s r n=>r.1)⟩) fun _ _ _ _ _ z=>z
end Mine
open PySem PySem.W PyProof.Rows
local macro_rules | `(tactic| walk_at "b") => `(tactic| (intro _ _ _ _ _ _ us hl; rcases us with _ | ⟨_,_ | ⟨_,_ | ⟨_,_ | ⟨_,_ | ⟨_,_ | ⟨_,_ | ⟨_,_ | ⟨_,_⟩⟩⟩⟩⟩⟩⟩⟩ <;> first | exact rfl | exact (nomatch hl)))
local macro_rules | `(tactic| walk_at "f") => `(tactic| (refine' L3.fnA (by assumption) (by assumption) ?a ?l ?c ?k (by walk_at "b"); (case a => k_is); (case l => k_is); (case c => k_is); (case k => k_is)))
local macro_rules | `(tactic| walk_at "m") => `(tactic| (refine' L3.mtA ?a ?i ?l ?c ?k (by walk_at "b"); (case a => k_is); (case i => k_is); (case l => k_is); (case c => k_is); (case k => k_is)))
local macro_rules | `(tactic| walk_at "i") => `(tactic| (refine' L3.mkA (by assumption) (by assumption) ?e ?m ?a ?i ?d ?l ?c ?k (by walk_at "b"); (case e => k_is); (case m => k_is); (case a => k_is); (case i => k_is); (case d => k_is); (case l => k_is); (case c => k_is); (case k => k_is)))
local macro_rules | `(tactic| walk_at "c") => `(tactic| exact ⟨⟨by k_is,by k_is,by k_is,by k_is⟩,by k_is,by k_is,by k_is,by k_is⟩)
local macro_rules | `(tactic| walk_at "y") => `(tactic| (refine' L3.xoA ?a ?b; (case a => k_is); (case b => k_exc)))
local macro_rules | `(tactic| walk_at "x") => `(tactic| (refine' L3.xcA ?a ?b ?c ?d ?e ?f ?g; (case a => k_is); (case b => k_exc); (case c => k_is); (case d => k_is); (case e => k_is); (case f => k_is); (case g => k_is)))
namespace PySem.W.Fast
def tw8777986662090868564:=0
def tw7331399867987855933:=0
def tw9509660504759983043:=0
def tw11230666293585842577:=0
def tw12672850881023860209:=0
def tw7049442577373640806:=0
def tw8930628886728474380:=0
def tw14617366247396531617:=0
def tw4327796116792218122:=0
def tw16649312916875104391:=0
def tw12162326851388916965:=0
def tw12335185656571452961:=0
def tw9137473176150161332:=0
def tw335318099910962244:=0
def tw9125336773121440685:=0
def tw4666959911556535132:=0
def tw17067434429911465861:=0
def tw11856338744484848167:=0
def tw12229504369013131285:=0
def tw15408020681875612598:=0
def tw14418315670491447082:=0
def tw16400723426296693194:=0
def tw15241321646345391466:=0
def tw12443338699565027985:=0
def tw14545332362778317065:=0
def tw13439621622485985940:=0
def tw10942796234184424726:=0
def tw12404109928577479038:=0
def tw16586109616174454866:=0
def tw11729144896646610577:=0
def tw1208159198041451751:=0
def tw12867788012567790893:=0
def tw2427127883551750363:=0
def tw10980660851682926098:=0
def tw1005315826398061763:=0
def tw6179518796842903905:=0
def tw7268714795860129698:=0
def tw15492903695535843995:=0
def tw13963461949244500478:=0
def tw4657474753606756895:=0
def tw4271272928082579042:=0
def tw11605351891623131059:=0
def tw1444029304795476339:=0
def tw6984614268290156659:=0
def tw8532510031981805978:=0
def tw7017112979787551682:=0
def tw9365802497766967238:=0
def tw17426643594682454606:=0
def tw15600938046144615430:=0
def tw3813768941334534970:=0
def tw13696431084174865065:=0
def tw6970460838651259508:=0
def tw2918629655298286758:=0
def tw11185333134508738887:=0
def tw4147288296794949686:=0
def tw23888394138474160:=0
def tw8818738584548170291:=0
def tw1197147976296183637:=0
def tw4972424289679698090:=0
def tw16541302918214258604:=0
def tw265029054532387514:=0
def tw15674832913875076329:=0
def tw13076711871985290636:=0
def tw4609928693347169053:=0
def tw16165033907819768046:=0
def tw9463522414507477526:=0
def tw1172030266561587719:=0
def tw3087585177260769906:=0
def tw13453935764450343978:=0
def tw14231493611855432691:=0
def tw17983554473791051327:=0
def tw2400795069356432960:=0
def tw10260370148053045669:=0
def tw6208849696524869267:=0
def tw6200417430064138655:=0
def tw12034951886882592584:=0
def tw10549617537598374468:=0
def tw11463726077983665955:=0
def tw11798789858317512362:=0
def tw9206962701369135972:=0
def tw2216839806743159434:=0
def tw18060393371465406023:=0
def tw2886807590911149163:=0
def tw755994782955964702:=0
def tw7234101650062863582:=0
def tw16225160523018725681:=0
def tw6351015739284054091:=0
def tw358128250405402194:=0
def tw1044943873132353639:=0
def tw9373180573222115503:=0
def tw14939582873061271255:=0
def tw3453431077661754121:=0
def tw12782569485751465879:=0
def tw10289021622577864859:=0
def tw13722230519790934830:=0
def tw14547637524389775946:=0
def tw8259128246067265043:=0
def tw12927233018038911574:=0
def tw5236579950643031583:=0
def tw16773095801200674521:=0
def tw1564679413407497450:=0
def tw7356629945626745799:=0
def tw1758427164067779982:=0
def tw9146564780394008375:=0
def tw16714782355814869035:=0
def tw16857478082600619170:=0
def tw6679043214988809549:=0
def tw17820094200840365818:=0
def tw6287680028670180978:=0
def tw17509957902054922588:=0
def tw17827886023450655171:=0
def tw12845673497133322777:=0
def tw9424605730277741884:=0
def tw1992616075568648665:=0
def tw14597383504480836281:=0
def tw1577874380142633161:=0
def tw9148469839070436675:=0
def tw7245209548584753366:=0
def tw14885001976040973988:=0
def tw16097518354957514950:=0
def tw10738232149882102972:=0
def tw17259291466869916105:=0
def tw7810685530032247649:=0
def tw16665067734267095186:=0
def tw548700902143295516:=0
def tw5132033855462318028:=0
def tw9712319075881675398:=0
def tw8707047276762902680:=0
def tw11851786155993910425:=0
def tw7362853574119098067:=0
def tw5747410088631255268:=0
def tw4895719901157277941:=0
def tw10474627238852483067:=0
def tw10995433314744960167:=0
def tw10142367150294810000:=0
def tw8081255958812582710:=0
def tw13325532349620935579:=0
def tw6256073032308479568:=0
def tw8142454556313032874:=0
def tw13236384759013123112:=0
def tw8291489270394569398:=0
def tw11962485031588594115:=0
def tw2779846339020138958:=0
def tw10951521069379119535:=0
def tw16843134243821942854:=0
def tw14908235812839518215:=0
def tw4531208669954235244:=0
def tw7774528125195861785:=0
def tw10971848055855090655:=0
def tw9189337160531096766:=0
def tw2259376267572928296:=0
def tw10920779077123280781:=0
def tw15633731754050514744:=0
def tw8255813154256022513:=0
def tw16250764723339581096:=0
def tw16869193400593057430:=0
def tw16340077968635641030:=0
def tw5335989402614835985:=0
def tw4762817221250571903:=0
def tw7380959618035629249:=0
def tw6966461087017239920:=0
def tw16360847388829719818:=0
def tw4335108618575848624:=0
def tw15544666178135533188:=0
def tw11864833941557458113:=0
def tw1295984215275995577:=0
def tw3732872732762981520:=0
def tw2017920948001357593:=0
def tw4889279901061020079:=0
def tw18045925197115037591:=0
def tw16206959169591676761:=0
def tw18312598908559870735:=0
def tw6526424808374781709:=0
def tw9446254219678028778:=0
def tw5013508945979952285:=0
def tw12668723681271019775:=0
def tw322591900157046260:=0
def tw14437075981767527731:=0
def tw15949778176718219129:=0
def tw2508199908683539372:=0
def tw9306280118279722580:=0
def tw1440012685434495997:=0
def tw4563761982958317694:=0
def tw8284921160489437609:=0
def tw8816605878443687973:=0
def tw15420073233885709075:=0
def tw14559927965893134010:=0
def tw4893371701851258551:=0
def tw3355470830934435152:=0
def tw1326422057189350464:=0
def tw8265652002819446630:=0
def tw7342821965965501258:=0
def tw80793473987764425:=0
def tw15122771480372987310:=0
def tw5292297194760783304:=0
def tw10234384733200814656:=0
def tw15101064186691842660:=0
def tw11308040255148877438:=0
def tw7247723137402951543:=0
def tw4537882865470535314:=0
def tw4104722996690290416:=0
def tw15766304516200905351:=0
def tw9185315523366916995:=0
def tw6112352954860065668:=0
def tw15245994699384651486:=0
def tw15494731643714391236:=0
def tw10970847963144823463:=0
def tw712643811665542065:=0
def tw9360837698032678255:=0
def tw8899424588147020575:=0
def tw17221441553345915340:=0
def tw3236627143372653354:=0
def tw11171703342080175966:=0
def tw12714949502414676915:=0
def tw132886815188432871:=0
def tw14414911152745939711:=0
def tw17661884555819102464:=0
def tw16968135373009252635:=0
def tw13872659570850693385:=0
def tw8634050177238102385:=0
def tw17434377896581040815:=0
def tw9059071660607828177:=0
def tw3277521596347587934:=0
def tw758105178971306372:=0
def tw11826433874314293189:=0
def tw10655433022767850073:=0
def tw11940822480544160203:=0
def tw13522226234724907215:=0
def tw9944057535724252172:=0
def tw5607915194733859749:=0
def tw16145394838060241316:=0
def tw14220280573645795505:=0
def tw6593841758819758170:=0
def tw6806459605911874973:=0
def tw17985025752537355874:=0
def tw13100359237230705275:=0
def tw10244291968167660685:=0
def tw15614578523725291720:=0
def tw10357880085876220277:=0
def tw17086879853438408929:=0
def tw15880121947172731804:=0
def tw1096792417964724572:=0
def tw18081699010050167524:=0
def tw18002307411752609132:=0
def tw2459105367921706195:=0
def tw12899837252662863195:=0
def tw4199689662501230697:=0
def tw9495639195066914711:=0
def tw13902823332207125544:=0
def tw15050264109272762783:=0
def tw17893830934299859943:=0
def tw14060804358460632059:=0
def tw5119666104093627066:=0
def tw11813013335525194520:=0
def tw13887143591714147522:=0
def tw4358510486419438805:=0
def tw14198688727009876272:=0
def tw1429152763630460853:=0
def tw13133000059838620098:=0
def tw8590459324528310791:=0
def tw15019717245763987830:=0
def tw13396564504168433822:=0
def tw10059434500213283886:=0
def tw11602754437669122670:=0
def tw12275425453113171101:=0
def tw8420517318509915226:=0
def tw14984642568117122756:=0
def tw272180774349517847:=0
def tw9133722497651675675:=0
def tw3910050387153266270:=0
def tw4721334605447382473:=0
def tw780011890848131515:=0
def tw16459160346709836158:=0
def tw13066431086887037527:=0
def tw5627277539310824909:=0
def tw12769286859395307842:=0
def tw10437713713002408093:=0
def tw9027622422356464643:=0
def tw10352393469189767774:=0
def tw4298134168194768953:=0
def tw17966177208063875622:=0
def tw9181875555080673140:=0
def tw8526064788225753652:=0
def tw12834458406052344796:=0
def tw2064407623911954103:=0
def tw1004143945234467303:=0
def tw6895781086782139318:=0
def tw1216343811542908313:=0
def tw10397496080876997399:=0
def tw3054625828436753090:=0
def tw3928075269072872916:=0
def tw12087419374890210207:=0
def tw12270840951907419774:=0
def tw5819064495836318952:=0
def tw11243846013468715181:=0
def tw755598480899805805:=0
def tw17916056018245340064:=0
def tw2209221130841507162:=0
def tw17325740985020813142:=0
def tw6039170117517486287:=0
def tw10048426276832060957:=0
def tw11268261206234509231:=0
def tw16662631485574746852:=0
def tw2509130763992611438:=0
def tw12473002002728851390:=0
def tw9270754128092769396:=0
def tw3593768746299716370:=0
def tw3141866507131874151:=0
def tw43103520329246000:=0
def tw5727926967235459571:=0
def tw11247656550198541109:=0
def tw5445539865407439826:=0
def tw3469814698885497013:=0
def tw16143339479305468991:=0
def tw5785577677915112793:=0
def tw2830320127422538333:=0
def tw15939276177604317233:=0
def tw17691172970202213074:=0
def tw10786578519461112740:=0
def tw827597896871041580:=0
def tw7553712122561486112:=0
def tw2319881198075349043:=0
def tw8168186385992478232:=0
def tw11708138759673371609:=0
def tw11879583260616331161:=0
def tw9649133667591400815:=0
def tw7357029068634086351:=0
def tw16483091531563201002:=0
def tw16209950874613191130:=0
def tw3895400198909369164:=0
def tw14921432444604158229:=0
def tw7561460216196412761:=0
def tw6358952790659836609:=0
def tw3073520987982049707:=0
def tw14228849153504921812:=0
def tw5054004161498903872:=0
def tw11295187993443810614:=0
def tw4993040804001844245:=0
def tw15058297496385969049:=0
def tw2670349426633866637:=0
def tw1575709494145957159:=0
def tw4280553980177181698:=0
def tw2461259485484349140:=0
def tw1674359399668931568:=0
def tw1623610447660243117:=0
def tw10725791957084030515:=0
def tw10227948082595967008:=0
def tw8632919032247722942:=0
def tw6981567888091636174:=0
def tw11012642594712900920:=0
def tw5203908274576649654:=0
def tw9156180296890945480:=0
def tw12837180446715724364:=0
def tw4491897586039564597:=0
def tw12396162990916049285:=0
def tw12441593632786905048:=0
def tw17591621632980192184:=0
def tw6422852717128328546:=0
def tw6922274921325689062:=0
def tw8490614415046879506:=0
def tw12990626459631365205:=0
def tw11416874643331167220:=0
def tw17072427856683422509:=0
def tw5467657902186167241:=0
def tw13231215174974597242:=0
def tw17872812181041790469:=0
def tw13413062578072460015:=0
def tw5204048516812257406:=0
def tw15923605460007720223:=0
def tw17762262936542963396:=0
def tw17010994439973459214:=0
def tw14018791658795216407:=0
def tw1238808664988254628:=0
def tw4836390807299854977:=0
def tw1727292495523113044:=0
def tw15506049007140053104:=0
def tw7263766941912342573:=0
def tw6958756926350358346:=0
def tw6565495675559133224:=0
def tw7858420170413541903:=0
def tw10335360607106679950:=0
def tw1822997667493031925:=0
def tw11645756995831033431:=0
def tw15971860993692033207:=0
def tw5795520716826435183:=0
def tw7888192276113962959:=0
def tw8248403486273814989:=0
def tw14519558815672979214:=0
def tw3458175713614716130:=0
def tw1582646155645424123:=0
def tw16196120841201467201:=0
def tw8483906255384785697:=0
def tw12895295243786508751:=0
def tw907061061470672735:=0
def tw12160268429437050271:=0
def tw747930479366611447:=0
def tw14454950939268233434:=0
def tw6036529635828275713:=0
def tw2714913223088128841:=0
def tw4975058911117233598:=0
def tw17569016796740724398:=0
def tw9391450253776101562:=0
def tw6621841482963575790:=0
def tw4558974157869801618:=0
def tw9099388251498892154:=0
def tw2109737657586674842:=0
def tw517452421377583475:=0
def tw6655510650161755500:=0
def tw6178265774652019756:=0
def tw1188508484969707471:=0
def tw8981550829206505422:=0
def tw7832258250263293479:=0
def tw17563606876540445567:=0
def tw5922402606558953300:=0
def tw9295401184957957430:=0
def tw10414541593033289464:=0
def tw1607470523009456619:=0
def tw16822180434186044287:=0
def tw16433762462166532106:=0
def tw1558191725273293882:=0
def tw18256263955458651089:=0
def tw3250666304576850993:=0
def tw947345725662810251:=0
def tw12181508411667945741:=0
def tw7666344292237430376:=0
def tw11612608375832242612:=0
def tw4058884229016055930:=0
def tw1851840236662191359:=0
def tw17208824921333134169:=0
def tw6022645715382124472:=0
def tw2493613820872405577:=0
def tw11598389754787461258:=0
def tw4400016111704995218:=0
def tw10684881289389014569:=0
def tw8660333496137109725:=0
def tw1228749551960808665:=0
def tw12297162979192910955:=0
def tw327720098361820206:=0
def tw1364185159386011071:=0
def tw5962272184921315217:=0
def tw10911456868121025563:=0
def tw16275607350924818886:=0
def tw13045863678096002237:=0
def tw1919463750975699243:=0
def tw6735726050283736074:=0
def tw7943808938028251592:=0
def tw8588905843326356933:=0
def tw3391872947875309048:=0
def tw9340643157801964412:=0
def tw2176721525318279886:=0
def tw12883031733457343805:=0
def tw16874065345293441870:=0
def tw3429141199175971596:=0
def tw4503208390941426346:=0
def tw11993540914059117742:=0
def tw3862800864951113173:=0
def tw9855638580935873226:=0
def tw1997288377389644267:=0
def tw16157914518926645187:=0
def tw5201705625621724193:=0
def tw3427175117467308349:=0
def tw16346332311877571788:=0
def tw17715311037934771085:=0
def tw7442632663530390764:=0
def tw9235597818357788700:=0
def tw5421441772982206763:=0
def tw6685438956404010391:=0
def tw798179173723726898:=0
def tw17478022495926978314:=0
def tw7519948317404211201:=0
def tw454177926751875891:=0
def tw3957147561166842024:=0
def tw251541437969942790:=0
def tw3965776075804824318:=0
def tw14139666946338956439:=0
def tw4230379432751170452:=0
def tw6384359735851735104:=0
def tw1294409292093459464:=0
def tw6959642560070252383:=0
def tw3088992384588191415:=0
def tw10523640952681234135:=0
def tw2366893038619111647:=0
def tw5178271569641484604:=0
def tw15611727420230084792:=0
def tw15118433874529217414:=0
def tw6100130103605201568:=0
def tw16129827537556459250:=0
def tw14440255516483410064:=0
def tw14678252695207577993:=0
def tw1022263952749415481:=0
def tw103116907500410214:=0
def tw18233624239120910774:=0
def tw11369311202140717864:=0
def tw6756395809457219147:=0
def tw8929744452960379083:=0
def tw11461614357408548167:=0
def tw10401698045822992443:=0
def tw4061694075112773428:=0
def tw378126170649512428:=0
def tw7376469838155370817:=0
def tw18006281863378390480:=0
def tw17131878718710948161:=0
def tw12613893617016088730:=0
def tw17735105793546460000:=0
def tw2331578679222503699:=0
def tw8947553480151371716:=0
def tw2996743377856035272:=0
def tw11084714891580610616:=0
def tw6844566458836075697:=0
def tw2266244876581757471:=0
def tw4859857344586501540:=0
def tw4973183925783167344:=0
def tw9467937401088974135:=0
def tw13941042719928476631:=0
def tw17539836759108616842:=0
def tw17868206578068086874:=0
def tw9468500558365968365:=0
def tw13174550309943397801:=0
def tw177542100985244223:=0
def tw4601666353958367102:=0
def tw3714691446291849315:=0
def tw10581316211264191850:=0
def tw5101733563994022576:=0
end PySem.W.Fast
set_option maxRecDepth 100000 in
set_option maxHeartbeats 0 in
theorem PySem.Challenge.cw_evenmix_k68_pairs_and_copies_holds : PySem.Challenge.rw_evenmix_k68_pairs_and_copies.Holds := by
  w_on;o_law;k_head;(case hw=>w_witness2)
  k_fill
  refine Mine.walk (l:=PySem.Challenge.rw_evenmix_k68_pairs_and_copies) rfl rfl (fun w h Y=>PySem.W.kIn_of Y) ?F
  case F =>
    intro w mg fa h KX G hmg
    refine' Mine.all_mk KX G hmg ?q0 ?q1 ?q2 ?q3 ?q4 ?q5 ?q6 ?q7 ?q8 ?q9 ?q10 ?q11 ?q12 ?q13 ?q14 ?q15 ?q16 ?q17 ?q18 ?q19 ?q20 ?q21 ?q22 ?q23 ?q24 ?q25 ?q26 ?q27 ?q28 ?q29 ?q30 ?q31 ?q32 ?q33 ?q34 ?q35 ?q36 ?q37 ?q38 ?q39 ?q40 ?q41 ?q42 ?q43 ?q44 ?q45 ?q46 ?q47 ?q48 ?q49 ?q50 ?q51 ?q52 ?q53 ?a54 ?l54 ?c54 ?k54 ?e_MixError ?e_NoStep ?e_NoMix ?e_NoSwap ?e_Paper ?e_MixPaper ?e_StepPaper ?e_BarPaper ?e_LeadPaper ?e_SumPaper ?e_CutPaper ?e_SwapPaper ?e_RoundPaper ?e_PairPaper ?i_Paper ?ko_Paper ?i_MixPaper ?ko_MixPaper ?na_MixPaper_table ?na_MixPaper_pairs ?i_StepPaper ?ko_StepPaper ?na_StepPaper_one ?na_StepPaper_other ?na_StepPaper_steps ?i_BarPaper ?ko_BarPaper ?na_BarPaper_one ?na_BarPaper_other ?na_BarPaper_k ?i_LeadPaper ?ko_LeadPaper ?na_LeadPaper_one ?na_LeadPaper_other ?na_LeadPaper_table ?i_SumPaper ?ko_SumPaper ?na_SumPaper_rows ?na_SumPaper_columns ?na_SumPaper_table ?i_CutPaper ?ko_CutPaper ?na_CutPaper_rows ?na_CutPaper_columns ?na_CutPaper_low ?na_CutPaper_high ?na_CutPaper_some ?na_CutPaper_others ?i_SwapPaper ?ko_SwapPaper ?na_SwapPaper_one ?na_SwapPaper_other ?na_SwapPaper_swaps ?i_RoundPaper ?ko_RoundPaper ?na_RoundPaper_table ?na_RoundPaper_bottom ?na_RoundPaper_whole ?i_PairPaper ?ko_PairPaper ?na_PairPaper_first ?na_PairPaper_second ?x_MixError ?x_NoMix ?x_NoStep ?x_NoSwap ?ky_Paper_MixPaper ?ky_MixPaper_MixPaper ?ky_StepPaper_MixPaper ?ky_BarPaper_MixPaper ?ky_LeadPaper_MixPaper ?ky_SumPaper_MixPaper ?ky_CutPaper_MixPaper ?ky_SwapPaper_MixPaper ?ky_RoundPaper_MixPaper ?ky_PairPaper_MixPaper ?ky_Paper_StepPaper ?ky_MixPaper_StepPaper ?ky_StepPaper_StepPaper ?ky_BarPaper_StepPaper ?ky_LeadPaper_StepPaper ?ky_SumPaper_StepPaper ?ky_CutPaper_StepPaper ?ky_SwapPaper_StepPaper ?ky_RoundPaper_StepPaper ?ky_PairPaper_StepPaper ?ky_Paper_BarPaper ?ky_MixPaper_BarPaper ?ky_StepPaper_BarPaper ?ky_BarPaper_BarPaper ?ky_LeadPaper_BarPaper ?ky_SumPaper_BarPaper ?ky_CutPaper_BarPaper ?ky_SwapPaper_BarPaper ?ky_RoundPaper_BarPaper ?ky_PairPaper_BarPaper ?ky_Paper_LeadPaper ?ky_MixPaper_LeadPaper ?ky_StepPaper_LeadPaper ?ky_BarPaper_LeadPaper ?ky_LeadPaper_LeadPaper ?ky_SumPaper_LeadPaper ?ky_CutPaper_LeadPaper ?ky_SwapPaper_LeadPaper ?ky_RoundPaper_LeadPaper ?ky_PairPaper_LeadPaper ?ky_Paper_SumPaper ?ky_MixPaper_SumPaper ?ky_StepPaper_SumPaper ?ky_BarPaper_SumPaper ?ky_LeadPaper_SumPaper ?ky_SumPaper_SumPaper ?ky_CutPaper_SumPaper ?ky_SwapPaper_SumPaper ?ky_RoundPaper_SumPaper ?ky_PairPaper_SumPaper ?ky_Paper_CutPaper ?ky_MixPaper_CutPaper ?ky_StepPaper_CutPaper ?ky_BarPaper_CutPaper ?ky_LeadPaper_CutPaper ?ky_SumPaper_CutPaper ?ky_CutPaper_CutPaper ?ky_SwapPaper_CutPaper ?ky_RoundPaper_CutPaper ?ky_PairPaper_CutPaper ?ky_Paper_SwapPaper ?ky_MixPaper_SwapPaper ?ky_StepPaper_SwapPaper ?ky_BarPaper_SwapPaper ?ky_LeadPaper_SwapPaper ?ky_SumPaper_SwapPaper ?ky_CutPaper_SwapPaper ?ky_SwapPaper_SwapPaper ?ky_RoundPaper_SwapPaper ?ky_PairPaper_SwapPaper ?ky_Paper_RoundPaper ?ky_MixPaper_RoundPaper ?ky_StepPaper_RoundPaper ?ky_BarPaper_RoundPaper ?ky_LeadPaper_RoundPaper ?ky_SumPaper_RoundPaper ?ky_CutPaper_RoundPaper ?ky_SwapPaper_RoundPaper ?ky_RoundPaper_RoundPaper ?ky_PairPaper_RoundPaper ?ky_Paper_PairPaper ?ky_MixPaper_PairPaper ?ky_StepPaper_PairPaper ?ky_BarPaper_PairPaper ?ky_LeadPaper_PairPaper ?ky_SumPaper_PairPaper ?ky_CutPaper_PairPaper ?ky_SwapPaper_PairPaper ?ky_RoundPaper_PairPaper ?ky_PairPaper_PairPaper ?mz_Paper ?g_MOST ?z_len ?z_isinstance ?z_int ?z_bool ?z_list ?z_tuple ?z_range ?z_sum ?z_sorted ?z_min ?z_max ?z_abs ?z_any ?z_all ?z_zip ?z_ValueError
    (case e_MixError=>k_is)
    (case e_NoStep=>k_is)
    (case e_NoMix=>k_is)
    (case e_NoSwap=>k_is)
    (case e_Paper=>k_is)
    (case e_MixPaper=>k_is)
    (case e_StepPaper=>k_is)
    (case e_BarPaper=>k_is)
    (case e_LeadPaper=>k_is)
    (case e_SumPaper=>k_is)
    (case e_CutPaper=>k_is)
    (case e_SwapPaper=>k_is)
    (case e_RoundPaper=>k_is)
    (case e_PairPaper=>k_is)
    (case q0=>walk_at "f")
    (case q1=>walk_at "f")
    (case q2=>walk_at "f")
    (case q3=>walk_at "f")
    (case q4=>walk_at "f")
    (case q5=>walk_at "f")
    (case q6=>walk_at "f")
    (case q7=>walk_at "f")
    (case q8=>walk_at "f")
    (case q9=>walk_at "f")
    (case q10=>walk_at "f")
    (case q11=>walk_at "f")
    (case q12=>walk_at "f")
    (case q13=>walk_at "f")
    (case q14=>walk_at "f")
    (case q15=>walk_at "f")
    (case q16=>walk_at "f")
    (case q17=>walk_at "f")
    (case q18=>walk_at "f")
    (case q19=>walk_at "f")
    (case q20=>walk_at "f")
    (case q21=>walk_at "f")
    (case q22=>walk_at "f")
    (case q23=>walk_at "f")
    (case q24=>walk_at "f")
    (case q25=>walk_at "f")
    (case q26=>walk_at "m")
    (case q27=>walk_at "i")
    (case q28=>walk_at "m")
    (case q29=>walk_at "i")
    (case q30=>walk_at "m")
    (case q31=>walk_at "i")
    (case q32=>walk_at "m")
    (case q33=>walk_at "i")
    (case q34=>walk_at "m")
    (case q35=>walk_at "i")
    (case q36=>walk_at "m")
    (case q37=>walk_at "i")
    (case q38=>walk_at "m")
    (case q39=>walk_at "f")
    (case q40=>walk_at "f")
    (case q41=>walk_at "i")
    (case q42=>walk_at "m")
    (case q43=>walk_at "i")
    (case q44=>walk_at "m")
    (case q45=>walk_at "i")
    (case q46=>walk_at "m")
    (case q47=>walk_at "f")
    (case q48=>walk_at "f")
    (case q49=>walk_at "f")
    (case q50=>walk_at "f")
    (case q51=>walk_at "f")
    (case q52=>walk_at "f")
    (case q53=>walk_at "f")
    (case a54=>k_is)
    (case l54=>k_is)
    (case c54=>k_is)
    (case k54=>k_is)
    (case i_Paper=>walk_at "c")
    (case ko_Paper=>kit_is)
    (case i_MixPaper=>walk_at "c")
    (case ko_MixPaper=>kit_is)
    (case na_MixPaper_table=>k_is)
    (case na_MixPaper_pairs=>k_is)
    (case i_StepPaper=>walk_at "c")
    (case ko_StepPaper=>kit_is)
    (case na_StepPaper_one=>k_is)
    (case na_StepPaper_other=>k_is)
    (case na_StepPaper_steps=>k_is)
    (case i_BarPaper=>walk_at "c")
    (case ko_BarPaper=>kit_is)
    (case na_BarPaper_one=>k_is)
    (case na_BarPaper_other=>k_is)
    (case na_BarPaper_k=>k_is)
    (case i_LeadPaper=>walk_at "c")
    (case ko_LeadPaper=>kit_is)
    (case na_LeadPaper_one=>k_is)
    (case na_LeadPaper_other=>k_is)
    (case na_LeadPaper_table=>k_is)
    (case i_SumPaper=>walk_at "c")
    (case ko_SumPaper=>kit_is)
    (case na_SumPaper_rows=>k_is)
    (case na_SumPaper_columns=>k_is)
    (case na_SumPaper_table=>k_is)
    (case i_CutPaper=>walk_at "c")
    (case ko_CutPaper=>kit_is)
    (case na_CutPaper_rows=>k_is)
    (case na_CutPaper_columns=>k_is)
    (case na_CutPaper_low=>k_is)
    (case na_CutPaper_high=>k_is)
    (case na_CutPaper_some=>k_is)
    (case na_CutPaper_others=>k_is)
    (case i_SwapPaper=>walk_at "c")
    (case ko_SwapPaper=>kit_is)
    (case na_SwapPaper_one=>k_is)
    (case na_SwapPaper_other=>k_is)
    (case na_SwapPaper_swaps=>k_is)
    (case i_RoundPaper=>walk_at "c")
    (case ko_RoundPaper=>kit_is)
    (case na_RoundPaper_table=>k_is)
    (case na_RoundPaper_bottom=>k_is)
    (case na_RoundPaper_whole=>k_is)
    (case i_PairPaper=>walk_at "c")
    (case ko_PairPaper=>kit_is)
    (case na_PairPaper_first=>k_is)
    (case na_PairPaper_second=>k_is)
    (case x_MixError=>walk_at "y")
    (case x_NoMix=>walk_at "x")
    (case x_NoStep=>walk_at "x")
    (case x_NoSwap=>walk_at "x")
    (case ky_Paper_MixPaper=>kit_is)
    (case ky_MixPaper_MixPaper=>kit_is)
    (case ky_StepPaper_MixPaper=>kit_is)
    (case ky_BarPaper_MixPaper=>kit_is)
    (case ky_LeadPaper_MixPaper=>kit_is)
    (case ky_SumPaper_MixPaper=>kit_is)
    (case ky_CutPaper_MixPaper=>kit_is)
    (case ky_SwapPaper_MixPaper=>kit_is)
    (case ky_RoundPaper_MixPaper=>kit_is)
    (case ky_PairPaper_MixPaper=>kit_is)
    (case ky_Paper_StepPaper=>kit_is)
    (case ky_MixPaper_StepPaper=>kit_is)
    (case ky_StepPaper_StepPaper=>kit_is)
    (case ky_BarPaper_StepPaper=>kit_is)
    (case ky_LeadPaper_StepPaper=>kit_is)
    (case ky_SumPaper_StepPaper=>kit_is)
    (case ky_CutPaper_StepPaper=>kit_is)
    (case ky_SwapPaper_StepPaper=>kit_is)
    (case ky_RoundPaper_StepPaper=>kit_is)
    (case ky_PairPaper_StepPaper=>kit_is)
    (case ky_Paper_BarPaper=>kit_is)
    (case ky_MixPaper_BarPaper=>kit_is)
    (case ky_StepPaper_BarPaper=>kit_is)
    (case ky_BarPaper_BarPaper=>kit_is)
    (case ky_LeadPaper_BarPaper=>kit_is)
    (case ky_SumPaper_BarPaper=>kit_is)
    (case ky_CutPaper_BarPaper=>kit_is)
    (case ky_SwapPaper_BarPaper=>kit_is)
    (case ky_RoundPaper_BarPaper=>kit_is)
    (case ky_PairPaper_BarPaper=>kit_is)
    (case ky_Paper_LeadPaper=>kit_is)
    (case ky_MixPaper_LeadPaper=>kit_is)
    (case ky_StepPaper_LeadPaper=>kit_is)
    (case ky_BarPaper_LeadPaper=>kit_is)
    (case ky_LeadPaper_LeadPaper=>kit_is)
    (case ky_SumPaper_LeadPaper=>kit_is)
    (case ky_CutPaper_LeadPaper=>kit_is)
    (case ky_SwapPaper_LeadPaper=>kit_is)
    (case ky_RoundPaper_LeadPaper=>kit_is)
    (case ky_PairPaper_LeadPaper=>kit_is)
    (case ky_Paper_SumPaper=>kit_is)
    (case ky_MixPaper_SumPaper=>kit_is)
    (case ky_StepPaper_SumPaper=>kit_is)
    (case ky_BarPaper_SumPaper=>kit_is)
    (case ky_LeadPaper_SumPaper=>kit_is)
    (case ky_SumPaper_SumPaper=>kit_is)
    (case ky_CutPaper_SumPaper=>kit_is)
    (case ky_SwapPaper_SumPaper=>kit_is)
    (case ky_RoundPaper_SumPaper=>kit_is)
    (case ky_PairPaper_SumPaper=>kit_is)
    (case ky_Paper_CutPaper=>kit_is)
    (case ky_MixPaper_CutPaper=>kit_is)
    (case ky_StepPaper_CutPaper=>kit_is)
    (case ky_BarPaper_CutPaper=>kit_is)
    (case ky_LeadPaper_CutPaper=>kit_is)
    (case ky_SumPaper_CutPaper=>kit_is)
    (case ky_CutPaper_CutPaper=>kit_is)
    (case ky_SwapPaper_CutPaper=>kit_is)
    (case ky_RoundPaper_CutPaper=>kit_is)
    (case ky_PairPaper_CutPaper=>kit_is)
    (case ky_Paper_SwapPaper=>kit_is)
    (case ky_MixPaper_SwapPaper=>kit_is)
    (case ky_StepPaper_SwapPaper=>kit_is)
    (case ky_BarPaper_SwapPaper=>kit_is)
    (case ky_LeadPaper_SwapPaper=>kit_is)
    (case ky_SumPaper_SwapPaper=>kit_is)
    (case ky_CutPaper_SwapPaper=>kit_is)
    (case ky_SwapPaper_SwapPaper=>kit_is)
    (case ky_RoundPaper_SwapPaper=>kit_is)
    (case ky_PairPaper_SwapPaper=>kit_is)
    (case ky_Paper_RoundPaper=>kit_is)
    (case ky_MixPaper_RoundPaper=>kit_is)
    (case ky_StepPaper_RoundPaper=>kit_is)
    (case ky_BarPaper_RoundPaper=>kit_is)
    (case ky_LeadPaper_RoundPaper=>kit_is)
    (case ky_SumPaper_RoundPaper=>kit_is)
    (case ky_CutPaper_RoundPaper=>kit_is)
    (case ky_SwapPaper_RoundPaper=>kit_is)
    (case ky_RoundPaper_RoundPaper=>kit_is)
    (case ky_PairPaper_RoundPaper=>kit_is)
    (case ky_Paper_PairPaper=>kit_is)
    (case ky_MixPaper_PairPaper=>kit_is)
    (case ky_StepPaper_PairPaper=>kit_is)
    (case ky_BarPaper_PairPaper=>kit_is)
    (case ky_LeadPaper_PairPaper=>kit_is)
    (case ky_SumPaper_PairPaper=>kit_is)
    (case ky_CutPaper_PairPaper=>kit_is)
    (case ky_SwapPaper_PairPaper=>kit_is)
    (case ky_RoundPaper_PairPaper=>kit_is)
    (case ky_PairPaper_PairPaper=>kit_is)
    (case mz_Paper=>exact⟨by k_is,by k_is,by k_is⟩)
    (case g_MOST=>k_is)
    (case z_len=>k_is)
    (case z_isinstance=>k_is)
    (case z_int=>k_is)
    (case z_bool=>k_is)
    (case z_list=>k_is)
    (case z_tuple=>k_is)
    (case z_range=>k_is)
    (case z_sum=>k_is)
    (case z_sorted=>k_is)
    (case z_min=>k_is)
    (case z_max=>k_is)
    (case z_abs=>k_is)
    (case z_any=>k_is)
    (case z_all=>k_is)
    (case z_zip=>k_is)
    (case z_ValueError=>k_is)
