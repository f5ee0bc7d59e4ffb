import PyProof.Rows.All
import Wide.All
import OpenK.AllK
import Wide.FinOn
import Lean
import PyProof.EqAt
import PyProof.EqKinds
import PyProof.TupleCall
import PyProof.DictRoadsH
import PyProof.TupleKey
import PyProof.NeKinds
import PyProof.ZipIter
import KE.KRevIter
import PyProof.ListRange
import KE.LcSums
import PyProof.Rows.MinMaxN
import KE.KSortKey
import KE.KLam
import KE.KNestM
import KE.KTryDeep
import PyProof.ExcArgsOwn
import PyProof.ExcAttrAll.ValueError
import KE.KIntText
import PyProof.JoinWalk
import PyProof.StrCalls
import KE.KIsAll
import KE.RegKIsAll
import PySem.Challenge.RW_evenmix_k69_long_fractions_shown
set_option linter.all false
set_option maxRecDepth 100000
namespace L2
open PySem
abbrev qq:=Int × List Int
section
variable {prog:Program}{w:World}
abbrev inner (prog:Program) (w:World):=PySem.intKind prog w
def iD (h:Heap) (k:qq) (a:Addr):Prop :=
  ∃o n t b,h.get? a=some o∧o.cls=.type "tuple"∧o.data=.seq #[.int k.1 t,.ref b] n∧IsTupleKey (inner prog w) h k.2 b
def tq (prog:Program) (w:World) (k:qq):Int:=reduceHash (Builtin.Tuple.tupleHashOf [hashInt k.1,tupleKeyHash (inner prog w) k.2])
theorem iD.ty {s:Shared}{k:qq}{a:Addr} (x:iD (prog:=prog) (w:=w) s.heap k a):s.TypeIs (.ref a) "tuple":=by
  obtain ⟨o,n,t,b,e,c,_⟩:=x
  exact⟨o,e,c⟩
theorem iD.uniq {h:Heap}{a:Addr}{x y:qq} (hx:iD (prog:=prog) (w:=w) h x a) (hy:iD (prog:=prog) (w:=w) h y a):x=y:=by
  obtain ⟨o,n,t,b,e,c,d,i⟩:=hx
  obtain ⟨o',n',t',b',e',c',d',i'⟩:=hy
  rw[e] at e'
  cases e'
  rw[d] at d'
  injection d' with q1 _
  have q2:=congrArg Array.toList q1
  injection q2 with q3 q4
  injection q3 with q5 _
  injection q4 with q6 _
  injection q6 with q7
  subst q7
  exact Prod.ext q5 (i.inj i')
theorem iD.stays {h h':Heap}{k:qq}{a d:Addr}{o:Obj}{es ep} (x:iD (prog:=prog) (w:=w) h k a) (ho:h.get? d=some o) (hd:o.data=.dict es ep) (hs:Heap.SameBut d h h'):iD (prog:=prog) (w:=w) h' k a:=by
  obtain ⟨o',n,t,b,e,c,q,i⟩:=x
  have ne:a≠d:=fun z=>by
    rw[z,ho] at e
    cases e
    rw[hd] at q
    exact nomatch q
  exact⟨o',n,t,b,(hs.2 a ne).trans e,c,q,i.keeps ho hd hs⟩
theorem zE {p1 p2:Program}{w1 w2:World}{ks:List Int}{vs:List Value} (h:ItemsAre (intKind p1 w1) ks vs):ItemsAre (intKind p2 w2) ks vs:=by
  induction h with
  | nil=>exact .nil
  | cons a _ ih=>exact .cons a ih
theorem xS {p1 p2:Program}{w1 w2:World}{h:Heap}{ks:List Int}{a:Addr} (x:IsTupleKey (intKind p1 w1) h ks a):IsTupleKey (intKind p2 w2) h ks a:=by
  obtain ⟨o,it,n,e1,e2,e3,e4⟩:=x
  exact⟨o,it,n,e1,e2,e3,zE e4⟩
variable {A:Around}{E:Value→Shared→Prop}{s:Shared}
theorem Ci {k:qq}{a:Addr}{Q:Int→Shared→Prop} (hu:A.units+2<cLine) (hk:iD (prog:=prog) (w:=w) s.heap k a) (h:Q (tq prog w k) { s with toks:=s.toks+(k.2.length+3) }):wpAny (model prog w) A (pyHash (.ref a)) Q E s:=by
  have ty:=hk.ty
  obtain ⟨o,n,t,b,ho,_,hd,hi⟩:=hk
  unfold pyHash
  first | unfold pyHashByItsType | skip
  first | refine wpAny_bind (wpAny_cRoomFor_or (.inr (by omega)) ?_) | skip
  refine (wpAny_bind (wpAny_specialOf ty F.slot_tuple_hash.lookup ?_))
  show wpAny (model prog w) A (if (some (Value.builtin "tuple.__hash__") == some Value.none)=true then _ else _) Q E s
  rw[if_neg (fun z=>by rw[beq_builtin_none] at z;cases z)]
  refine (wpAny_bind (wpAny_specialOf ty F.slot_tuple_hash.lookup ?_))
  show wpAny (model prog w) A (callSpecialIfBoundUnlessNone? (.ref a) "__hash__" _ >>= _) Q E s
  refine wpAny_bind (wpAny_callSpecialIfBoundUnlessNone?_slot ty F.slot_tuple_hash (wpAny_call_entry F.slot_tuple_hash ty F.entry_tuple_hash ?_ (F.args_tuple_hash_1 _)))
  show wpAny (model prog w) _ (Builtin.Tuple.tupleItemsOf (.ref a) >>= _) _ _ s
  refine wpAny_bind (wpAny_tupleItemsOf ho hd (wpAny_bind ?_))
  rw[← Array.forIn_toList]
  refine wpAny_forIn_list _ (fun rest (z:Array Int) s'=>(rest=[.int k.1 t,.ref b]∧z.toList=[]∧s'=s)∨(rest=[.ref b]∧z.toList=[hashInt k.1]∧s'={ s with toks:=s.toks+1 })∨(rest=[]∧z.toList=[hashInt k.1,tupleKeyHash (inner prog w) k.2]∧s'={ s with toks:=s.toks+1+(k.2.length+1) })) _ ?_ ?_ _ _ (.inl ⟨rfl,rfl,rfl⟩)
  · rintro x rest z s' (⟨e1,e2,rfl⟩ | ⟨e1,e2,rfl⟩ | ⟨e1,_⟩)
    · cases e1
      refine wpAny_bind ((inner prog w).pyHash (k:=k.1) (by simp [inner,intKind,Value.isInt]) ?_)
      first
        | exact wpAny_pure (.inr (.inl ⟨rfl,by simp [e2];rfl,rfl⟩))
        | exact wpAny_bind (wpAny_pure (wpAny_pure (.inr (.inl ⟨rfl,by simp [e2];rfl,rfl⟩))))
    · cases e1
      refine wpAny_bind (wpAny_pyHash_tuple (knd:=inner prog w) (ks:=k.2) (by first | omega | (show A.in1.units<cLine;show A.units+1<cLine;omega)) hi ?_)
      first
        | exact wpAny_pure (.inr (.inr ⟨rfl,by simp [e2],rfl⟩))
        | exact wpAny_bind (wpAny_pure (wpAny_pure (.inr (.inr ⟨rfl,by simp [e2],rfl⟩))))
    · cases e1
  · rintro z s' (⟨e1,_⟩ | ⟨e1,_⟩ | ⟨_,e2,rfl⟩)
    · cases e1
    · cases e1
    show wpAny (model prog w) _ (retInt (Builtin.Tuple.tupleHashOf z.toList)) _ _ _
    rw[e2]
    refine wpAny_ret_mkInt ?_
    unfold tq reduceHash at h
    generalize Builtin.Tuple.tupleHashOf [hashInt k.1,tupleKeyHash (inner prog w) k.2]=m at h ⊢
    rw[show s.toks+(k.2.length+3)=s.toks+1+(k.2.length+1)+1 by omega] at h
    show wpAny (model prog w) A (if (decide (-(2:Int) ^ 63≤m) && decide (m<2 ^ 63))=true then _ else _) Q E _
    by_cases hr:(decide (-(2:Int) ^ 63≤m) && decide (m<2 ^ 63))=true
    · rw[if_pos hr] at h ⊢
      exact wpAny_pure h
    · rw[if_neg hr] at h ⊢
      exact wpAny_bind (wpAny_rule (wpAny_pure h))
theorem Gh {x y:qq}{a b:Addr} (hu:A.units+2<cLine) (hx:iD (prog:=prog) (w:=w) s.heap x a) (hy:iD (prog:=prog) (w:=w) s.heap y b):SeqAt.EqAt A s (.ref a) (.ref b) (decide (x=y)):=by
  by_cases hab:a=b
  · subst hab
    rw[hx.uniq hy,decide_eq_true rfl]
    exact SeqAt.EqAt.same _
  · obtain ⟨o1,n1,t1,b1,g1,c1,d1,i1⟩:=hx
    obtain ⟨o2,n2,t2,b2,g2,c2,d2,i2⟩:=hy
    have r1:s.heap.IsTuple a #[.int x.1 t1,.ref b1]:=⟨o1,g1,c1,n1,d1⟩
    have r2:s.heap.IsTuple b #[.int y.1 t2,.ref b2]:=⟨o2,g2,c2,n2,d2⟩
    have inn:SeqAt.EqAt A.in1 s (.ref b1) (.ref b2) (decide (x.2=y.2)):=fun prog' w' E' Q' q=>by
      have:=wpAny_eqBool_tuple (prog:=prog') (w:=w') (knd:=intKind prog' w') (A:=A.in1) (E:=E') (s:=s) (x:=x.2) (y:=y.2) (a:=b1) (b:=b2) (Q:=Q') (by show A.units+1<cLine;omega) (xS i1) (xS i2) q
      exact this
    have key:=SeqAt.RcAt.tuples (A:=A) (e:=fun j=>if j=0 then decide (x.1=y.1) else decide (x.2=y.2)) r1 r2 (by omega) (fun j h1 h2=>by
      have hj:j=0∨j=1:=by simp at h1;omega
      rcases hj with rfl | rfl
      · have:=SeqAt.EqAt.int_int (A:=A.in1) (s:=s) x.1 t1 y.1 t2
        rw[show (x.1 == y.1)=decide (x.1=y.1) from rfl] at this
        exact this
      · exact inn)
    refine SeqAt.EqAt.of_refs hab ?_
    have e:decide (x=y)=((List.range (min (#[Value.int x.1 t1,Value.ref b1]:Array Value).size (#[Value.int y.1 t2,Value.ref b2]:Array Value).size)).all (fun j=>if j=0 then decide (x.1=y.1) else decide (x.2=y.2)) && (#[Value.int x.1 t1,Value.ref b1]:Array Value).size == (#[Value.int y.1 t2,Value.ref b2]:Array Value).size):=by
      rw[show (List.range (min (#[Value.int x.1 t1,Value.ref b1]:Array Value).size (#[Value.int y.1 t2,Value.ref b2]:Array Value).size))=[0,1] from rfl]
      rw[Bool.eq_iff_iff]
      simp [Prod.ext_iff]
    rw[e]
    exact key
theorem zQ {ks:List Int}{a:Addr}{n:Nat}{Q:Bool→Shared→Prop} (hk:IsTupleKey (inner prog w) s.heap ks a) (h:Q true s):wpAny (model prog w) A (eqIsQuiet (n+1) (.ref a)) Q E s:=by
  have ty:=hk.typeIs
  obtain ⟨o,it,m,ho,_,hd,hi⟩:=hk
  unfold eqIsQuiet
  refine (wpAny_bind (wpAny_specialOf ty F.slot_tuple_eq.lookup ?_))
  show wpAny (model prog w) A (isInstance (.ref a) (.type "tuple") >>= _) Q E s
  refine (wpAny_bind (wpAny_isInstance ty isSubtype_tuple_tuple ?_))
  simp only[Bool.not_true,Bool.false_eq_true,if_false]
  refine (wpAny_bind (wpAny_seqItems ho hd (wpAny_bind ?_)))
  show wpAny (model prog w) A (forIn it _ _) _ E s
  rw[← Array.forIn_toList]
  refine wpAny_forIn_list _ (fun rest r s'=>(r.1=none∧s'=s)∧∀v∈rest,carriedByValue v=true) _ ?_ ?_ _ _ ⟨⟨rfl,rfl⟩,hi.byValue⟩
  · rintro v rest r s' ⟨⟨hr,rfl⟩,hall⟩
    rw[eqIsQuiet_byValue _ (hall v List.mem_cons_self)]
    refine wpAny_bind (wpAny_pure ?_)
    simp only[Bool.not_true,Bool.false_eq_true,if_false]
    exact wpAny_pure ⟨⟨rfl,rfl⟩,fun u hu=>hall u (List.mem_cons_of_mem _ hu)⟩
  · rintro ⟨r1,r2⟩ s' ⟨⟨hr,rfl⟩,_⟩
    simp only at hr
    subst hr
    exact wpAny_pure h
theorem zw {k:qq}{a:Addr}{Q:Bool→Shared→Prop} (hk:iD (prog:=prog) (w:=w) s.heap k a) (h:Q true s):wpAny (model prog w) A (eqIsQuiet 8 (.ref a)) Q E s:=by
  have ty:=hk.ty
  obtain ⟨o,n,t,b,ho,_,hd,hi⟩:=hk
  unfold eqIsQuiet
  refine (wpAny_bind (wpAny_specialOf ty F.slot_tuple_eq.lookup ?_))
  show wpAny (model prog w) A (isInstance (.ref a) (.type "tuple") >>= _) Q E s
  refine (wpAny_bind (wpAny_isInstance ty isSubtype_tuple_tuple ?_))
  simp only[Bool.not_true,Bool.false_eq_true,if_false]
  refine (wpAny_bind (wpAny_seqItems ho hd (wpAny_bind ?_)))
  show wpAny (model prog w) A (forIn (#[Value.int k.1 t,Value.ref b]:Array Value) _ _) _ E s
  rw[← Array.forIn_toList]
  refine wpAny_forIn_list _ (fun rest r s'=>(r.1=none∧s'=s)∧∀v∈rest,v=.int k.1 t∨v=.ref b) _ ?_ ?_ _ _ ⟨⟨rfl,rfl⟩,fun v hv=>by simpa using hv⟩
  · rintro v rest r s' ⟨⟨hr,rfl⟩,hall⟩
    rcases hall v List.mem_cons_self with rfl | rfl
    · rw[eqIsQuiet_byValue _ rfl]
      refine wpAny_bind (wpAny_pure ?_)
      simp only[Bool.not_true,Bool.false_eq_true,if_false]
      exact wpAny_pure ⟨⟨rfl,rfl⟩,fun u hu=>hall u (List.mem_cons_of_mem _ hu)⟩
    · refine wpAny_bind (zQ hi ?_)
      simp only[Bool.not_true,Bool.false_eq_true,if_false]
      exact wpAny_pure ⟨⟨rfl,rfl⟩,fun u hu=>hall u (List.mem_cons_of_mem _ hu)⟩
  · rintro ⟨r1,r2⟩ s' ⟨⟨hr,rfl⟩,_⟩
    simp only at hr
    subst hr
    exact wpAny_pure h
end
def Fn (prog:Program) (w:World):HeapKind prog w qq where
  is:=iD (prog:=prog) (w:=w)
  hash:=tq prog w
  draws:=fun k=>k.2.length+3
  room:=fun A=>A.units+2<cLine
  inj:=fun hx hy=>hx.uniq hy
  keeps:=fun x ho hd hs=>x.stays ho hd hs
  pyHash:=fun hu hk h=>Ci hu hk h
  eqBool:=fun hu hx hy h=>Gh hu hx hy _ _ _ _ h
  quiet:=fun hk h=>zw hk h
end L2
set_option Elab.async false
namespace L2
open PySem PySem.Spec PyProof.Rows
abbrev Key:=Sum Int Str
def G4:Key→Value→Bool
  | .inl k,v=>Value.isInt k v
  | .inr x,v=>Value.isStrOf x v
def JS (w:World):Key→Int
  | .inl k=>hashInt k
  | .inr x=>hashStr w x
theorem dE:∀{k:Key}{v:Value},G4 k v=true→(∃i t,k=Sum.inl i∧v=Value.int i t)∨(∃x t,k=Sum.inr x∧v=Value.str x t)
  | .inl i,v,h=>by
    obtain ⟨t,e⟩:=Value.isInt_shape (k:=i) (v:=v) h
    exact .inl ⟨i,t,rfl,e⟩
  | .inr x,v,h=>by
    obtain ⟨t,e⟩:=Value.isStrOf_shape (x:=x) (v:=v) h
    exact .inr ⟨x,t,rfl,e⟩
theorem Hj (a b:Int):decide ((Sum.inl a:Key)=Sum.inl b)=(a == b):=by
  by_cases e:a=b
  · subst e;simp
  · have h:¬ (Sum.inl a:Key)=Sum.inl b:=fun q=>e (Sum.inl.inj q)
    rw[decide_eq_false h]
    exact (beq_eq_false_iff_ne.mpr e).symm
theorem HF (a b:Str):decide ((Sum.inr a:Key)=Sum.inr b)=decide (a=b):=by
  by_cases e:a=b
  · subst e;simp
  · have h:¬ (Sum.inr a:Key)=Sum.inr b:=fun q=>e (Sum.inr.inj q)
    rw[decide_eq_false h,decide_eq_false e]
theorem Iw (a:Int) (b:Str):decide ((Sum.inl a:Key)=Sum.inr b)=false:=decide_eq_false (fun q=>nomatch q)
theorem HG (a:Str) (b:Int):decide ((Sum.inr a:Key)=Sum.inl b)=false:=decide_eq_false (fun q=>nomatch q)
def Bl (prog:Program) (w:World):PySem.KeyKind prog w Key where
  is:=G4
  hash:=JS w
  inj:=fun v a b ha hb=>by
    rcases dE ha with ⟨i,t,rfl,rfl⟩ | ⟨x,t,rfl,rfl⟩
    · rcases dE hb with ⟨j,u,rfl,e⟩ | ⟨y,u,rfl,e⟩
      · injection e with e1 _;rw[e1]
      · exact nomatch e
    · rcases dE hb with ⟨j,u,rfl,e⟩ | ⟨y,u,rfl,e⟩
      · exact nomatch e
      · injection e with e1 _;rw[e1]
  byValue:=fun k v h=>by
    rcases dE h with ⟨i,t,rfl,rfl⟩ | ⟨x,t,rfl,rfl⟩<;>rfl
  pyHash:=fun hv h=>by
    rcases dE hv with ⟨i,t,rfl,rfl⟩ | ⟨x,t,rfl,rfl⟩
    · exact wpAny_pyHash_int h
    · exact wpAny_pyHash_str h
  eqBool:=fun hu hv h=>by
    rcases dE hu with ⟨i,t,rfl,rfl⟩ | ⟨x,t,rfl,rfl⟩
    · rcases dE hv with ⟨j,u,rfl,rfl⟩ | ⟨y,u,rfl,rfl⟩
      · rw[Hj] at h;exact wpAny_eqBool_int h
      · rw[Iw] at h;exact SeqAt.EqAt.int_str i t y u _ _ _ _ h
    · rcases dE hv with ⟨j,u,rfl,rfl⟩ | ⟨y,u,rfl,rfl⟩
      · rw[HG] at h;exact SeqAt.EqAt.str_int x t j u _ _ _ _ h
      · rw[HF] at h;exact wpAny_eqBool_str h
  «strs»:=fun k x t v h=>by
    rcases dE h with ⟨i,u,rfl,e⟩ | ⟨y,u,rfl,e⟩
    · exact nomatch e
    · injection e with e1 _
      subst e1
      cases v<;>rfl
end L2
namespace L2
open PySem PySem.Spec PyProof.Rows
inductive V where
  | non | bl (b:Bool) | int (i:Int) | str (x:Str) | byt (b:Array UInt8) | flt (b:UInt64) | ref (a:Addr) | ty (n:String)
  deriving DecidableEq
def RelV:V→Value→Prop
  | .non,u=>u=Value.none
  | .bl b,u=>u=Value.bool b
  | .int i,u=>∃t,u=Value.int i t
  | .str x,u=>∃t,u=Value.str x t
  | .byt b,u=>∃t,u=Value.bytes b t
  | .flt b,u=>∃t,u=Value.float b t
  | .ref a,u=>u=Value.ref a
  | .ty n,u=>u=Value.type n
abbrev Vals:List V→List Value→Prop:=Paired RelV
theorem Vals.length {xs:List V}{us:List Value} (r:Vals xs us):xs.length=us.length:=Paired.length r
theorem Vals.get:∀{xs:List V}{us:List Value}{i:Nat}{x:V},Vals xs us→xs[i]?=some x→∃u,us[i]?=some u∧RelV x u
  | _,_,_,_,.nil,e=>by simp at e
  | _,_,0,_,.cons r _,e=>by simp at e;subst e;exact⟨_,rfl,r⟩
  | _,_,i+1,x,.cons _ t,e=>by
    obtain ⟨u,h1,h2⟩:=Vals.get (i:=i) (x:=x) t (by simpa using e)
    exact⟨u,by simpa using h1,h2⟩
theorem Vals.set {x:V}{u:Value} (r:RelV x u):∀{xs:List V}{us:List Value} (i:Nat),Vals xs us→Vals (xs.set i x) (us.set i u)
  | _,_,_,.nil=>.nil
  | _,_,0,.cons _ t=>.cons r t
  | _,_,i+1,.cons q t=>.cons q (Vals.set r i t)
theorem Vals.append:∀{xs ys:List V}{us ws:List Value},Vals xs us→Vals ys ws→Vals (xs++ys) (us++ws)
  | _,_,_,_,.nil,s=>s
  | _,_,_,_,.cons r t,s=>.cons r (Vals.append t s)
theorem Vals.take:∀{xs:List V}{us:List Value} (n:Nat),Vals xs us→Vals (xs.take n) (us.take n)
  | _,_,0,_=>.nil
  | _,_,_+1,.nil=>.nil
  | _,_,n+1,.cons r t=>.cons r (Vals.take n t)
theorem Vals.drop:∀{xs:List V}{us:List Value} (n:Nat),Vals xs us→Vals (xs.drop n) (us.drop n)
  | _,_,0,r=>r
  | _,_,_+1,.nil=>.nil
  | _,_,n+1,.cons _ t=>Vals.drop n t
def HL:Option V→Option Value→Prop
  | some v,some u=>RelV v u
  | none,none=>True
  | _,_=>False
def KV {κ:Type}:List (κ × V)→List (κ × Value)→Prop:=Paired fun (p:κ × V) (q:κ × Value)=>p.1=q.1∧RelV p.2 q.2
def kV:Key→V
  | .inl i=>.int i
  | .inr x=>.str x
inductive HO where
    | lst (xs:List V)
    | tup (xs:List V)
    | dK (kvs:List (Key × V)) | dT (kvs:List (List Key × V))
    | set (S:Int→Bool) (n:Nat)
    | ins (C dx:Addr) (fs:List (Str × V))
    | own (x:Addr)
    | xd (fs:List (Str × V))
    | met (f x:Addr)
    | rng (lo hi:Int)
    | frz (o:Obj) (u:HO)
    | tbl (ps:Array Value)
    | ext (φ:Heap→Prop)
  | memo (φ:Int→List Int→Int→Prop) (ks:List qq)
abbrev Hp:=Addr→Option HO
def upd (H:Hp) (a:Addr) (o:HO):Hp:=fun b=>if b=a then some o else H b
theorem aH {H:Hp}{a:Addr}{o:HO}:upd H a o a=some o:=by unfold upd;rw[if_pos rfl]
theorem aP {H:Hp}{a b:Addr}{o:HO} (h:b≠a):upd H a o b=H b:=by unfold upd;rw[if_neg h]
theorem aY {H:Hp}{a b:Addr}{o:HO} (h:H a=some o) (h':H b=none):a≠b:=by
  intro e;subst e;rw[h] at h';cases h'
def JU (k:qq):Bool:=decide (0≤k.1) && decide (k.1<8) && decide (k.2.length≤5) && k.2.all fun e=>decide (0≤e) && decide (e<7)
def HN (H:Hp) (φ:Int→List Int→Int→Prop) (x:qq × Addr × Value):Prop:=∃b n t,H x.2.1=some (.tup [.int x.1.1,.ref b])∧H b=some (.tup (x.1.2.map V.int))∧x.2.2=.int n t∧φ x.1.1 x.1.2 n∧JU x.1=true
section
variable (P:Program) (w:World)
def eX (H:Hp) (h:Heap) (a:Addr):HO→Prop
  | .lst xs=>xs.length≤sizeLine∧∃(its:List Value) (n:Nat),Vals xs its∧h.get? a=some { cls:=.type "list",data:=.seq its.toArray n }
  | .tup xs=>xs.length≤sizeLine∧∃its:List Value,Vals xs its∧IsTup h a its.toArray
  | .dK kvs=>kvs.length≤sizeLine∧(a == sysModules)=false∧∃vs,KV kvs vs∧h.DictOf (Bl P w) a vs
  | .dT kvs=>kvs.length≤sizeLine∧(a == sysModules)=false∧∃xs:List (List Key × Addr × Value),
      Paired (fun (p:List Key × V) (q:List Key × Addr × Value)=>p.1=q.1∧H q.2.1=some (.tup (p.1.map kV))∧RelV p.2 q.2.2) kvs xs ∧
      ∃o es ep,h.get? a=some o∧o.ExactDict∧o.data=.dict es ep∧es.toList=xs.map (entryOfKey (tupleKind (Bl P w)))∧(xs.map (·.1)).Nodup
  | .set S n=>h.SetOf (intKind P w) a S n
  | .ins C dx fs=>H dx=some (.own a)∧fs.length≤1000∧dx≠a∧h.get? a=some (PySem.W.instObj C dx) ∧
      ∃mA,h.Ns1 dx mA∧(∀f,HL (fs.lookup f) (mA f))∧PySem.Within mA (fs.map (·.1))
  | .own _=>∃o,h.get? a=some o
  | .xd fs=>∃mA,h.Ns1 a mA∧∀f,HL (fs.lookup f) (mA f)
  | .rng lo hi=>∃t u v,h.get? a=some { cls:=.type "range",data:=.fields #[.int lo t,.int hi u,.int 1 v] }
  | .frz o u=>h.get? a=some o∧eX H h a u
  | .tbl ps=>h.get? a=some { cls:=.none,data:=.fields ps }
  | .met f x=>h.get? a=some (PySem.W.methodObj (.ref f) (.ref x))
  | .memo φ ks=>(a == sysModules)=false∧∃xs:List (qq × Addr × Value),(∀x∈xs,HN H φ x)∧(∀k∈ks,k∈xs.map (·.1)) ∧
      ∃o es ep,h.get? a=some o∧o.ExactDict∧o.data=.dict es ep∧es.toList=xs.map (entryOfKey (Fn P w))∧(xs.map (·.1)).Nodup
  | .ext φ=>φ h∧(∃o,h.get? a=some o)∧∀h1 h2:Heap,φ h1→(∀o,h1.get? a=some o→h2.get? a=some o)→φ h2
def HOk (H:Hp) (h:Heap):Prop:=∀a o,H a=some o→eX P w H h a o
end
section
variable {P:Program}{w:World}{H H':Hp}{h h':Heap}{a:Addr}{o:HO}
theorem eX.lt (x:eX P w H h a o):a<h.objs.size:=by
  cases o with
  | lst xs=>obtain ⟨_,_,_,_,e⟩:=x;exact Heap.lt_size e
  | tup xs=>obtain ⟨_,_,_,p⟩:=x;exact p.lt
  | dK kvs=>obtain ⟨_,_,_,_,o,_,_,e,_⟩:=x;exact Heap.lt_size e
  | dT kvs=>obtain ⟨_,_,_,_,o,_,_,e,_⟩:=x;exact Heap.lt_size e
  | set S n=>obtain ⟨o,_,_,_,e,_⟩:=x;exact Heap.lt_size e
  | ins C dx fs=>obtain ⟨_,_,_,e,_⟩:=x;exact Heap.lt_size e
  | own y=>obtain ⟨_,e⟩:=x;exact Heap.lt_size e
  | xd fs=>obtain ⟨_,⟨_,_,_,e,_⟩,_⟩:=x;exact Heap.lt_size e
  | rng lo hi=>obtain ⟨_,_,_,e⟩:=x;exact Heap.lt_size e
  | frz ob u=>obtain ⟨e,_⟩:=x;exact Heap.lt_size e
  | tbl ps=>exact Heap.lt_size (show h.get? a=some _ from x)
  | met f y=>exact Heap.lt_size (show h.get? a=some _ from x)
  | ext φ=>obtain ⟨_,⟨_,e⟩,_⟩:=x;exact Heap.lt_size e
  | memo φ ks=>obtain ⟨_,_,_,_,_,_,_,e,_⟩:=x;exact Heap.lt_size e
theorem Paired.JC {α β:Type}{F G:α→β→Prop}:∀{l₁:List α}{l₂:List β},Paired F l₁ l₂→(∀a b,F a b→G a b)→Paired G l₁ l₂
  | _,_,.nil,_=>.nil
  | _,_,.cons r t,f=>.cons (f _ _ r) (Paired.JC t f)
theorem eX.pT (x:eX P w H h a o) (k:∀b u,(b=a∨H b=some (.own a))→h.get? b=some u→h'.get? b=some u)
    (ho:∀b,H b=some (.own a)→H' b=some (.own a)) (ht:∀b xs,H b=some (.tup xs)→H' b=some (.tup xs)):eX P w H' h' a o:=by
  induction o with
  | lst xs=>obtain ⟨z,its,n,r,e⟩:=x;exact⟨z,its,n,r,k _ _ (.inl rfl) e⟩
  | tup xs=>obtain ⟨z,its,r,ob,e,c⟩:=x;exact⟨z,its,r,ob,k _ _ (.inl rfl) e,c⟩
  | dK kvs=>obtain ⟨z,y,vs,r,ob,es,ep,e,c⟩:=x;exact⟨z,y,vs,r,ob,es,ep,k _ _ (.inl rfl) e,c⟩
  | dT kvs =>
    obtain ⟨z,y,xs,r,ob,es,ep,e,c⟩:=x
    exact⟨z,y,xs,Paired.JC r fun p q z=>⟨z.1,ht _ _ z.2.1,z.2.2⟩,ob,es,ep,k _ _ (.inl rfl) e,c⟩
  | set S n=>obtain ⟨ob,es,ep,t,e,c⟩:=x;exact⟨ob,es,ep,t,k _ _ (.inl rfl) e,c⟩
  | ins C dx fs =>
    obtain ⟨d,z,ne,e,mA,⟨od,es,ep,e2,c⟩,r⟩:=x
    exact⟨ho _ d,z,ne,k _ _ (.inl rfl) e,mA,⟨od,es,ep,k _ _ (.inr d) e2,c⟩,r⟩
  | own y=>obtain ⟨ob,e⟩:=x;exact⟨ob,k _ _ (.inl rfl) e⟩
  | xd fs=>obtain ⟨mA,⟨od,es,ep,e,c⟩,r⟩:=x;exact⟨mA,⟨od,es,ep,k _ _ (.inl rfl) e,c⟩,r⟩
  | rng lo hi=>obtain ⟨t,u,v,e⟩:=x;exact⟨t,u,v,k _ _ (.inl rfl) e⟩
  | frz ob u ih=>obtain ⟨e,q⟩:=x;exact⟨k _ _ (.inl rfl) e,ih q⟩
  | tbl ps =>
    have e:h.get? a=some { cls:=.none,data:=.fields ps }:=x
    show h'.get? a=some { cls:=.none,data:=.fields ps }
    exact k a _ (.inl rfl) e
  | met f y =>
    have e:h.get? a=some (PySem.W.methodObj (.ref f) (.ref y)):=x
    show h'.get? a=some (PySem.W.methodObj (.ref f) (.ref y))
    exact k a _ (.inl rfl) e
  | memo φ ks =>
    obtain ⟨y,xs,hx,hk,ob,es,ep,e,c⟩:=x
    exact⟨y,xs,fun z hz=>let ⟨b,n,t,q1,q2,q3⟩:=hx z hz;⟨b,n,t,ht _ _ q1,ht _ _ q2,q3⟩,hk,ob,es,ep,k _ _ (.inl rfl) e,c⟩
  | ext φ=>obtain ⟨p,⟨o,e⟩,st⟩:=x;exact⟨st _ _ p fun o q=>k _ _ (.inl rfl) q,⟨o,k _ _ (.inl rfl) e⟩,st⟩
theorem HOk.lt (x:HOk P w H h) (e:H a=some o):a<h.objs.size:=(x a o e).lt
theorem HOk.fresh (x:HOk P w H h) (e:h.objs.size≤a):H a=none:=by
  cases q:H a with
  | none=>rfl
  | some u=>exact absurd (Nat.lt_of_lt_of_le (x.lt q) e) (Nat.lt_irrefl _)
theorem HOk.kept (x:HOk P w H h) (k:∀b u,h.get? b=some u→h'.get? b=some u):HOk P w H h':=fun a o e =>
  (x a o e).pT (fun b u _ q=>k b u q) (fun _ q=>q) fun _ _ q=>q
theorem HOk.laid (x:HOk P w H h) (k:∀b u,h.get? b=some u→h'.get? b=some u) (hp:h.objs.size≤a) (new:eX P w (upd H a o) h' a o):HOk P w (upd H a o) h':=fun b u e=>by
  have hn:=x.fresh hp
  by_cases hb:b=a
  · subst hb;rw[aH] at e;cases e;exact new
  · rw[aP hb] at e
    exact (x b u e).pT (fun c v _ q=>k c v q) (fun c q=>by rw[aP (aY q hn)];exact q) fun c xs q=>by rw[aP (aY q hn)];exact q
end
def Rd (H:Hp) (a:Addr) (u:HO):Prop:=H a=some u∨∃o,H a=some (.frz o u)
theorem Rd.ok {P:Program}{w:World}{H:Hp}{h:Heap}{a:Addr}{u:HO} (r:Rd H a u) (x:HOk P w H h):eX P w H h a u:=by
  rcases r with r | ⟨o,r⟩
  · exact x a u r
  · obtain ⟨_,q⟩:=x a _ r
    exact q
def Mut:Option HO→Prop
  | some (.lst _)=>True
  | some (.dK _)=>True
  | some (.dT _)=>True
  | some (.set _ _)=>True
  | some (.ins _ _ _)=>True
  | some (.ext _)=>True
  | some (.memo _ _)=>True
  | _=>False
section
variable {P:Program}{w:World}{H:Hp}{h h':Heap}{x e:Addr}{o':HO}
theorem HOk.write (ok:HOk P w H h) (mu:Mut (H x)) (he:e=x∨H e=some (.own x)) (k:∀b u,b≠e→h.get? b=some u→h'.get? b=some u) (heo:∃u,h'.get? e=some u)
    (new:eX P w (upd H x o') h' x o'):HOk P w (upd H x o') h':=fun b u q=>by
  have nown:∀c y,H c=some (.own y)→c≠x:=fun c y r z=>by subst z;rw[r] at mu;exact mu
  have ntup:∀c xs,H c=some (.tup xs)→c≠x:=fun c xs r z=>by subst z;rw[r] at mu;exact mu
  by_cases hb:b=x
  · subst hb;rw[aH] at q;cases q;exact new
  · rw[aP hb] at q
    by_cases hbe:b=e
    · have q':H b=some (.own x):=by
        rcases he with z | z
        · exact absurd (hbe.trans z) hb
        · rw[hbe];exact z
      rw[q] at q';cases q'
      obtain ⟨v,hv⟩:=heo
      exact⟨v,by rw[hbe];exact hv⟩
    · refine (ok b u q).pT (fun c v hc r=>k c v ?_ r) (fun c r=>by rw[aP (nown c b r)];exact r) fun c xs r=>by rw[aP (ntup c xs r)];exact r
      rcases hc with rfl | hc
      · exact hbe
      · rintro rfl
        rcases he with z | z
        · exact nown c b hc z
        · rw[hc] at z;cases z;exact hb rfl
end
structure Un (fs ex:List Addr) (H H':Hp) (h h':Heap):Prop where
  keep:∀b o,h.get? b=some o→H b=none→b∉fs→b∉ex→h'.get? b=some o
  slot:∀b o,h.get? b=some o→H b=none→b∈fs→b∉ex→∃sl,h'.get? b=some { o with slots:=sl }
  free:∀b o,h.get? b=some o→H b=none→b∉ex→H' b=none
  there:∀b o,h.get? b=some o→b∉ex→∃o',h'.get? b=some o'
  tups:∀b xs,H b=some (.tup xs)→H' b=some (.tup xs)
  frzs:∀b o u,H b=some (.frz o u)→H' b=some (.frz o u)
  tbls:∀b ps,H b=some (.tbl ps)→∃more,H' b=some (.tbl (ps++more))
section
variable {fs fs' ex ex':List Addr}{H H1 H2:Hp}{h h1 h2 h':Heap}{a x e:Addr}{o:HO}
theorem Un.any (u:Un fs ex H H1 h h1) {b:Addr}{ob:Obj} (q:h.get? b=some ob) (n:H b=none) (hx:b∉ex):∃sl,h1.get? b=some { ob with slots:=sl }:=by
  by_cases hb:b∈fs
  · exact u.slot b ob q n hb hx
  · exact⟨ob.slots,u.keep b ob q n hb hx⟩
theorem Un.kept (k:∀b u,h.get? b=some u→h'.get? b=some u):Un fs ex H H h h' :=
  ⟨fun b ob q _ _ _=>k b ob q,fun b ob q _ _ _=>⟨ob.slots,k b ob q⟩,fun _ _ _ n _=>n,fun b ob q _=>⟨ob,k b ob q⟩,fun _ _ q=>q,fun _ _ _ q=>q,fun _ ps q=>⟨#[],by rw[q];simp⟩⟩
theorem Un.refl:Un fs ex H H h h:=Un.kept fun _ _ q=>q
theorem Un.laid (k:∀b u,h.get? b=some u→h'.get? b=some u) (hp:h.objs.size≤a) (hn:H a=none):Un fs ex H (upd H a o) h h' where
  keep:=fun b u q _ _ _=>k b u q
  slot:=fun b u q _ _ _=>⟨u.slots,k b u q⟩
  free:=fun b u q n _=>by rw[aP (Nat.ne_of_lt (Nat.lt_of_lt_of_le (Heap.lt_size q) hp))];exact n
  there:=fun b u q _=>⟨u,k b u q⟩
  tups:=fun b xs q=>by rw[aP (aY q hn)];exact q
  frzs:=fun b u xs q=>by rw[aP (aY q hn)];exact q
  tbls:=fun b ps q=>⟨#[],by rw[aP (aY q hn),q];simp⟩
theorem Un.write (mu:Mut (H x)) (he:e=x∨H e=some (.own x)) (k:∀b u,b≠e→h.get? b=some u→h'.get? b=some u) (heo:∃u,h'.get? e=some u):Un fs ex H (upd H x o) h h':=by
  have hx:∀b,H b=none→b≠x:=fun b n z=>by subst z;rw[n] at mu;exact mu
  have hb:∀b,H b=none→b≠e:=fun b n z=>by
    subst z
    rcases he with r | r
    · exact hx b n r
    · rw[n] at r;cases r
  have hm:∀b u,H b=some u→¬ Mut (some u)→b≠x:=fun b u q nm z=>by subst z;rw[q] at mu;exact nm mu
  refine⟨fun b u q n _ _=>k b u (hb b n) q,fun b u q n _ _=>⟨u.slots,k b u (hb b n) q⟩,fun b u q n _=>by rw[aP (hx b n)];exact n,fun b u q _=>?_,
    fun b xs q=>by rw[aP (hm b _ q fun z=>z)];exact q,fun b u xs q=>by rw[aP (hm b _ q fun z=>z)];exact q,fun b ps q=>⟨#[],by rw[aP (hm b _ q fun z=>z),q];simp⟩⟩
  by_cases hbe:b=e
  · subst hbe;exact heo
  · exact⟨u,k b u hbe q⟩
end
def trk (h:Heap) (H:Hp):List Addr:=(List.range h.objs.size).filter fun a=>(H a).isSome
def xy (h:Heap) (H:Hp):Heap:=PySem.W.hideAll h (trk h H)
theorem BO (h:Heap) (H:Hp):(xy h H).objs.size=h.objs.size:=PySem.W.hideAll_size _ _
theorem tm {h:Heap}{H:Hp}{b:Addr}{o:Obj} (e:h.get? b=some o) (n:H b=none):(xy h H).get? b=some o :=
  PySem.W.hideAll_get _ e fun hm=>by
    have q:(H b).isSome=true:=(List.mem_filter.mp hm).2
    rw[n] at q;simp at q
theorem Fv {h:Heap}{H:Hp}{b:Addr}{o:Obj} (e:(xy h H).get? b=some o):h.get? b=some o∧H b=none:=by
  have e':h.get? b=some o:=PySem.W.of_hideAll (trk h H) e
  refine⟨e',?_⟩
  cases q:H b with
  | none=>rfl
  | some x =>
    have hm:b∈trk h H:=List.mem_filter.mpr ⟨List.mem_range.mpr (Heap.lt_size e'),by simp [q]⟩
    have z:(xy h H).get? b=none:=PySem.W.hideAll_none (trk h H) hm
    rw[z] at e;cases e
end L2
namespace L2
open PySem PySem.Spec PyProof.Rows
structure Mod (K:PySem.W.Frag) (mg:Str→Option Value) (base:Heap):Prop where
  kin:K.In base
  glob:base.Ns mainGlobals mg
  blt:∃mb,base.Ns builtinsNs mb∧∀x:Str,x≠"__name__"→mb x=bootBuiltins x
  nolimit:base.NoLimit
structure Cx where
  prog:Program
  w:World
  K:PySem.W.Frag
  mg:Str→Option Value
  base:Heap
  A:Around
  N:List Str
  s₀:Shared
  H₀:Hp
  env:Env
  outer:List Env
  stack:List Env
  ex:List Addr
  fn:Str→Bool
  calm:Bool
  pn:List (Addr × Obj)
  xe:Value→Shared→Prop
def frs (l:List Env):List Addr:=l.filterMap (·.frame)
abbrev Cx.fs (X:Cx):List Addr:=frs X.outer
def Vis (sc:Scope) (x:Str):Prop:=sc.names.lookup x=some .local∨sc.names.lookup x=some .cell∨sc.names.lookup x=some .free
def Loc (sc:Scope) (x:Str):Prop:=sc.names.lookup x=some .local∨sc.names.lookup x=some .cell
def Look (env:Env) (h:Heap) (m:Str→Option Value) (x:Str) (u:Value):Prop :=
  (env.kindOf x=some .local∧m x=some u)∨((env.kindOf x=some .cell∨env.kindOf x=some .free)∧∃c,env.cells.lookup x=some c∧h.IsCell c (some u))
structure Cx.Ok (X:Cx):Prop where
  mod:Mod X.K X.mg X.base
  kind:X.env.scope.kind=.function
  glob:X.env.globals=mainGlobals
  blt:X.env.builtins=builtinsNs
  above:X.s₀.heap.objs.size≤X.env.locals
  inj:∀x y c,X.env.cells.lookup x=some c→X.env.cells.lookup y=some c→x=y
  has:∀x,(X.env.kindOf x=some .cell∨X.env.kindOf x=some .free)→∃c,X.env.cells.lookup x=some c
  cab:∀x c,X.fn x=true→X.env.cells.lookup x=some c→X.s₀.heap.objs.size≤c
  hd:X.calm=true→X.A.handled=none
  frames:X.A.frames=some X.stack
  stk:X.stack=X.outer∨(X.stack=X.env::X.outer∧X.env.frame=some X.env.locals)
  exf:∀b∈X.ex,b≠X.env.locals∧∀x c,X.env.cells.lookup x=some c→c≠b
  bs:∀b o,X.base.get? b=some o→X.s₀.heap.get? b=some o∧X.H₀ b=none
  bsz:X.base.objs.size≤X.s₀.heap.objs.size
  noex:∀b o,X.base.get? b=some o→b∉X.ex
  exfs:∀b∈X.ex,b∉X.fs
  qr:X.s₀.heap.FunFrames X.base X.outer
  frf:∀b∈X.fs,X.H₀ b=none
structure Inv (X:Cx) (pins:List (Addr × Obj)) (σ:List (Option V)) (H:Hp) (s:Shared):Prop where
  ok:X.Ok
  os:s.os=X.s₀.os
  bare:AllBare s.gens
  base:Un X.fs X.ex X.H₀ H X.s₀.heap s.heap
  loc:∃m,s.heap.Ns X.env.locals m∧∀(i:Nat) (x:Str) (v:V),X.N[i]?=some x→σ[i]?=some (some v)→Vis X.env.scope x→∃u,RelV v u∧Look X.env s.heap m x u
  cell:∀x c,X.env.cells.lookup x=some c→∃v,s.heap.IsCell c v
  free:H X.env.locals=none
  freeC:∀x c,X.env.cells.lookup x=some c→H c=none
  pin:∀p∈X.pn++pins,s.heap.get? p.1=some p.2∧H p.1=none∧p.1≠X.env.locals∧p.1∉X.fs∧∀v,p.2.data≠.cell v
  hok:HOk X.prog X.w H s.heap
  len:σ.length=X.N.length
section
variable {X:Cx}{pins:List (Addr × Obj)}{σ:List (Option V)}{H H':Hp}{s:Shared}{h':Heap}
theorem Cx.Ok.JP (ok:X.Ok) {b:Addr}{o:Obj} (e:X.base.get? b=some o):b∉X.fs:=fun hb=>by
  have:=(ok.qr.mem hb).1
  rw[e] at this;cases this
theorem Inv.bs (I:Inv X pins σ H s):∀b o,X.base.get? b=some o→s.heap.get? b=some o∧H b=none:=fun b o e =>
  ⟨I.base.keep b o (I.ok.bs b o e).1 (I.ok.bs b o e).2 (I.ok.JP e) (I.ok.noex b o e),I.base.free b o (I.ok.bs b o e).1 (I.ok.bs b o e).2 (I.ok.noex b o e)⟩
theorem Inv.bk (I:Inv X pins σ H s):∀b o,X.base.get? b=some o→s.heap.get? b=some o:=fun b o e=>(I.bs b o e).1
theorem Inv.mod (I:Inv X pins σ H s):Mod X.K X.mg X.base:=I.ok.mod
theorem Inv.kIn (I:Inv X pins σ H s):X.K.In s.heap:=I.ok.mod.kin.keeps I.bk
theorem Inv.lt (I:Inv X pins σ H s):X.env.locals<s.heap.objs.size:=let ⟨_,hn,_⟩:=I.loc;hn.lt
theorem Inv.sz (I:Inv X pins σ H s):X.s₀.heap.objs.size≤s.heap.objs.size:=Nat.le_trans I.ok.above (Nat.le_of_lt I.lt)
theorem Inv.Jc (I:Inv X pins σ H s) {a:Addr} (h:s.heap.objs.size≤a):a∉X.fs:=fun hb=>by
  obtain ⟨_,o,ho,_⟩:=I.ok.qr.mem hb
  exact absurd (Nat.lt_of_lt_of_le (Heap.lt_size ho) (Nat.le_trans I.sz h)) (Nat.lt_irrefl _)
theorem Inv.cne (I:Inv X pins σ H s):∀x c,X.env.cells.lookup x=some c→c≠X.env.locals:=fun x c e z=>by
  obtain ⟨v,o,ho,hd⟩:=I.cell x c e
  obtain ⟨m,⟨o',es,ep,ho',hd',_⟩,_⟩:=I.loc
  rw[z,ho'] at ho;cases ho;rw[hd'] at hd;cases hd
theorem Inv.qr (I:Inv X pins σ H s):s.heap.FunFrames X.base X.outer:=by
  have all:∀(l:List Env),(∀b∈frs l,b∈X.fs)→X.s₀.heap.FunFrames X.base l→s.heap.FunFrames X.base l:=by
    intro l
    induction l with
    | nil=>intro _ _;trivial
    | cons env r ih =>
      intro hs hl
      obtain ⟨hk,⟨L,o,hf,hn,ho,hd⟩,hr⟩:=hl
      have hL:L∈X.fs:=hs L (by unfold frs;rw[List.filterMap_cons,hf];exact List.mem_cons_self)
      obtain ⟨sl,e⟩:=I.base.slot L o ho (I.ok.frf L hL) hL fun z=>I.ok.exfs L z hL
      exact⟨hk,⟨L,_,hf,hn,e,hd⟩,ih (fun b hb=>hs b (by unfold frs;rw[List.filterMap_cons,hf];exact List.mem_cons_of_mem _ hb)) hr⟩
  exact all X.outer (fun _ hb=>hb) I.ok.qr
theorem Inv.stack (I:Inv X pins σ H s):s.heap.FunFrames X.base X.stack:=by
  rcases I.ok.stk with e | ⟨e,hf⟩
  · rw[e];exact I.qr
  · rw[e]
    obtain ⟨m,hn,_⟩:=I.loc
    refine .cons (by rw[I.ok.kind];decide) hf hn ?_ I.qr
    exact Heap.get?_none_of_le (Nat.le_trans I.ok.bsz I.ok.above)
theorem Inv.sW (I:Inv X pins σ H s):∀b∈frs X.stack,b∈X.env.locals::X.fs:=fun b hb=>by
  rcases I.ok.stk with e | ⟨e,hf⟩
  · rw[e] at hb;exact List.mem_cons_of_mem _ hb
  · rw[e] at hb
    unfold frs at hb
    rw[List.filterMap_cons,hf] at hb
    exact hb
theorem Inv.rM (I:Inv X pins σ H s):∀b∈frs X.stack,H b=none:=fun b hb=>by
  rcases List.mem_cons.mp (I.sW b hb) with e | hb
  · rw[e];exact I.free
  · obtain ⟨_,o,ho,_⟩:=I.ok.qr.mem hb
    exact I.base.free b o ho (I.ok.frf b hb) fun z=>I.ok.exfs b z hb
theorem Inv.step {g':Array GenState}{t':Nat}{d':Drawn}{ch:List Addr} (I:Inv X pins σ H s)
    (hch:∀b∈ch,(b∈X.ex∨X.s₀.heap.objs.size≤b)∧b≠X.env.locals∧(∀x c,X.env.cells.lookup x=some c→c≠b)∧∀p∈X.pn++pins,p.1≠b)
    (keep:∀b o,b≠X.env.locals→b∉X.fs→b∉ch→s.heap.get? b=some o→H b=none→h'.get? b=some o)
    (slot:∀b o,b≠X.env.locals→b∈X.fs→b∉ch→s.heap.get? b=some o→H b=none→∃sl,h'.get? b=some { o with slots:=sl }) (free:∀b o,b∉ch→s.heap.get? b=some o→H b=none→H' b=none)
    (there:∀b o,b∉ch→s.heap.get? b=some o→∃o',h'.get? b=some o')
    (tups:∀b xs,H b=some (.tup xs)→H' b=some (.tup xs)) (frzs:∀b o u,H b=some (.frz o u)→H' b=some (.frz o u)) (tbls:∀b ps,H b=some (.tbl ps)→∃more,H' b=some (.tbl (ps++more)))
    (ns:∀m,s.heap.Ns X.env.locals m→h'.Ns X.env.locals m) (hok:HOk X.prog X.w H' h') (hg:AllBare g') :
    Inv X pins σ H' { s with heap:=h',gens:=g',drawn:=d',toks:=t' }:=by
  have neL:∀b o,X.s₀.heap.get? b=some o→b≠X.env.locals:=fun b o e=>Nat.ne_of_lt (Nat.lt_of_lt_of_le (Heap.lt_size e) I.ok.above)
  have neC:∀b o,X.s₀.heap.get? b=some o→b∉X.ex→b∉ch:=fun b o e hx hb=>by
    rcases (hch b hb).1 with z | z
    · exact hx z
    · exact absurd (Nat.lt_of_lt_of_le (Heap.lt_size e) z) (Nat.lt_irrefl _)
  have cellK:∀x c,X.env.cells.lookup x=some c→∀v,s.heap.IsCell c v→h'.IsCell c v:=fun x c e v ⟨o,ho,hd⟩=>by
    have nch:c∉ch:=fun z=>(hch c z).2.2.1 x c e rfl
    by_cases hc:c∈X.fs
    · obtain ⟨sl,q⟩:=slot c o (I.cne x c e) hc nch ho (I.freeC x c e)
      exact⟨_,q,hd⟩
    · exact⟨o,keep c o (I.cne x c e) hc nch ho (I.freeC x c e),hd⟩
  refine⟨I.ok,I.os,hg,⟨fun b o e n hb hx=>?_,fun b o e n hb hx=>?_,fun b o e n hx=>?_,fun b o e hx=>?_,fun b xs e=>tups b xs (I.base.tups b xs e),fun b o xs e=>frzs b o xs (I.base.frzs b o xs e),fun b ps e=>?_⟩,?_,fun x c e=>?_,?_,fun x c e=>?_,fun p hp=>?_,hok,I.len⟩
  · exact keep b o (neL b o e) hb (neC b o e hx) (I.base.keep b o e n hb hx) (I.base.free b o e n hx)
  · obtain ⟨sl,e1⟩:=I.base.slot b o e n hb hx
    obtain ⟨sl',e2⟩:=slot b _ (neL b o e) hb (neC b o e hx) e1 (I.base.free b o e n hx)
    exact⟨sl',e2⟩
  · obtain ⟨o',e1⟩:=I.base.there b o e hx
    exact free b o' (neC b o e hx) e1 (I.base.free b o e n hx)
  · obtain ⟨o',e1⟩:=I.base.there b o e hx
    exact there b o' (neC b o e hx) e1
  · obtain ⟨m1,e1⟩:=I.base.tbls b ps e
    obtain ⟨m2,e2⟩:=tbls b _ e1
    exact⟨m1++m2,by rw[e2,Array.append_assoc]⟩
  · obtain ⟨m,hn,hl⟩:=I.loc
    refine⟨m,ns m hn,fun i x v e1 e2 e3=>?_⟩
    obtain ⟨u,r,l⟩:=hl i x v e1 e2 e3
    refine⟨u,r,?_⟩
    rcases l with l | ⟨k,c,e,z⟩
    · exact .inl l
    · exact .inr ⟨k,c,e,cellK x c e _ z⟩
  · obtain ⟨v,z⟩:=I.cell x c e
    exact⟨v,cellK x c e v z⟩
  · obtain ⟨m,⟨o,_,_,ho,_⟩,_⟩:=I.loc
    exact free _ o (fun z=>(hch _ z).2.1 rfl) ho I.free
  · obtain ⟨v,o,ho,hd⟩:=I.cell x c e
    exact free c o (fun z=>(hch c z).2.2.1 x c e rfl) ho (I.freeC x c e)
  · obtain ⟨e,n,ne,nf,d⟩:=I.pin p hp
    have nch:p.1∉ch:=fun z=>(hch p.1 z).2.2.2 p hp rfl
    exact⟨keep p.1 p.2 ne nf nch e n,free p.1 p.2 nch e n,ne,nf,d⟩
theorem Inv.un {t':Nat} (I:Inv X pins σ H s) (u:Un X.fs [] H H' s.heap h') (hok:HOk X.prog X.w H' h'):Inv X pins σ H' { s with heap:=h',toks:=t' }:=by
  obtain ⟨m,⟨o,es,ep,ho,r⟩,_⟩:=id I.loc
  obtain ⟨sl,hL⟩:=u.any ho I.free (by simp)
  exact I.step (g':=s.gens) (d':=s.drawn) (ch:=[]) (fun _ z=>nomatch z) (fun b o _ hb _ e n=>u.keep b o e n hb (by simp)) (fun b o _ hb _ e n=>u.slot b o e n hb (by simp)) (fun b o _ e n=>u.free b o e n (by simp)) (fun b o _ e=>u.there b o e (by simp)) u.tups u.frzs u.tbls (fun m' hm=>by
    obtain ⟨o',es',ep',ho',r'⟩:=hm
    rw[ho] at ho';cases ho'
    exact⟨_,es',ep',hL,r'⟩) hok I.bare
theorem Inv.call {g':Array GenState}{t':Nat}{d':Drawn}{ch:List Addr} (I:Inv X pins σ H s) (u:Un (frs X.stack) ch H H' s.heap h') (hok:HOk X.prog X.w H' h') (hg:AllBare g')
    (hch:∀b∈ch,(b∈X.ex∨X.s₀.heap.objs.size≤b)∧b≠X.env.locals∧(∀x c,X.env.cells.lookup x=some c→c≠b)∧∀p∈X.pn++pins,p.1≠b) :
    Inv X pins σ H' { s with heap:=h',gens:=g',drawn:=d',toks:=t' }:=by
  obtain ⟨m,⟨o,es,ep,ho,r⟩,_⟩:=id I.loc
  obtain ⟨sl,hL⟩:=u.any ho I.free fun z=>(hch _ z).2.1 rfl
  exact I.step (ch:=ch) hch (fun b o hL hb hc e n=>u.keep b o e n (fun z=>(List.mem_cons.mp (I.sW b z)).elim hL hb) hc) (fun b o _ _ hc e n=>u.any e n hc) (fun b o hc e n=>u.free b o e n hc) (fun b o hc e=>u.there b o e hc) u.tups u.frzs u.tbls (fun m' hm=>by
    obtain ⟨o',es',ep',ho',r'⟩:=hm
    rw[ho] at ho';cases ho'
    exact⟨_,es',ep',hL,r'⟩) hok hg
theorem Inv.turned {t':Nat}{it:Addr} (I:Inv X pins σ H s) (k:∀b o,b≠it→s.heap.get? b=some o→h'.get? b=some o) (hn:H it=none) (hL:it≠X.env.locals)
    (h1:it∈X.ex∨X.s₀.heap.objs.size≤it) (h2:∀x c,X.env.cells.lookup x=some c→c≠it) (h3:∀p∈X.pn++pins,p.1≠it):Inv X pins σ H { s with heap:=h',toks:=t' }:=by
  have nit:∀b u,H b=some u→b≠it:=fun b u e z=>by rw[z,hn] at e;cases e
  refine I.step (g':=s.gens) (d':=s.drawn) (ch:=[it]) (fun b hb=>?_) (fun b o _ _ hc e _=>k b o (fun z=>hc (by simp [z])) e) (fun b o _ _ hc e _=>⟨o.slots,k b o (fun z=>hc (by simp [z])) e⟩) (fun _ _ _ _ n=>n)
    (fun b o hc e=>⟨o,k b o (fun z=>hc (by simp [z])) e⟩) (fun _ _ e=>e) (fun _ _ _ e=>e) (fun b ps e=>⟨#[],by rw[e];simp⟩) (fun m hm=>?_) (fun b u e=>?_) I.bare
  · have e:b=it:=by simpa using hb
    subst e
    exact⟨h1,hL,h2,h3⟩
  · obtain ⟨o,es,ep,ho,r⟩:=hm
    exact⟨o,es,ep,k _ o (Ne.symm hL) ho,r⟩
  · refine (I.hok b u e).pT (fun c v hc q=>k c v ?_ q) (fun _ q=>q) fun _ _ q=>q
    rcases hc with z | z
    · rw[z];exact nit b u e
    · exact nit c _ z
theorem Inv.tok (I:Inv X pins σ H s) (t:Nat):Inv X pins σ H { s with toks:=t }:=I.un (h':=s.heap) (t':=t) Un.refl I.hok
theorem Inv.kept {t':Nat} (I:Inv X pins σ H s) (k:∀b u,s.heap.get? b=some u→h'.get? b=some u):Inv X pins σ H { s with heap:=h',toks:=t' }:=I.un (Un.kept k) (I.hok.kept k)
theorem Inv.laid {a:Addr}{o:HO}{t':Nat} (I:Inv X pins σ H s) (k:∀b u,s.heap.get? b=some u→h'.get? b=some u) (hp:s.heap.objs.size≤a) (new:eX X.prog X.w (upd H a o) h' a o) :
    Inv X pins σ (upd H a o) { s with heap:=h',toks:=t' }:=I.un (Un.laid k hp (I.hok.fresh hp)) (I.hok.laid k hp new)
theorem Inv.write {x e:Addr}{o:HO}{t':Nat} (I:Inv X pins σ H s) (mu:Mut (H x)) (he:e=x∨H e=some (.own x)) (k:∀b u,b≠e→s.heap.get? b=some u→h'.get? b=some u) (heo:∃u,h'.get? e=some u)
    (new:eX X.prog X.w (upd H x o) h' x o):Inv X pins σ (upd H x o) { s with heap:=h',toks:=t' }:=I.un (Un.write mu he k heo) (I.hok.write mu he k heo new)
theorem Inv.weak {σ':List (Option V)} (I:Inv X pins σ H s) (hl:σ'.length=σ.length) (w:∀(i:Nat) v,σ'[i]?=some (some v)→σ[i]?=some (some v)):Inv X pins σ' H s :=
  ⟨I.ok,I.os,I.bare,I.base,let ⟨m,hn,hl'⟩:=I.loc;⟨m,hn,fun i x v e1 e2 e3=>hl' i x v e1 (w i v e2) e3⟩,I.cell,I.free,I.freeC,I.pin,I.hok,hl.trans I.len⟩
theorem Inv.oW {pins':List (Addr × Obj)} (I:Inv X pins σ H s) (h:∀p∈pins',s.heap.get? p.1=some p.2∧H p.1=none∧p.1≠X.env.locals∧p.1∉X.fs∧∀v,p.2.data≠.cell v):Inv X pins' σ H s :=
  ⟨I.ok,I.os,I.bare,I.base,I.loc,I.cell,I.free,I.freeC,fun p hp=>(List.mem_append.mp hp).elim (fun z=>I.pin p (List.mem_append_left _ z)) (h p),I.hok,I.len⟩
theorem tV {N:List Str} (hN:N.Nodup) {i j:Nat}{x:Str} (a:N[i]?=some x) (b:N[j]?=some x):i=j:=by
  obtain ⟨h1,e1⟩:=List.getElem?_eq_some_iff.mp a
  obtain ⟨h2,e2⟩:=List.getElem?_eq_some_iff.mp b
  exact (List.getElem_inj hN).mp (e1.trans e2.symm)
theorem vf {M:Model}{A:Around}{E:Value→Shared→Prop}{i:Nat}{x:Str}{v:V}{u:Value}{Q:Unit→Shared→Prop} (I:Inv X pins σ H s) (hN:X.N.Nodup) (hi:X.N[i]?=some x) (hx:Loc X.env.scope x) (r:RelV v u)
    (h:∀s',Inv X pins (σ.set i (some v)) H s'→(∃a,Heap.SameBut a s.heap s'.heap∧(a=X.env.locals∨X.env.cells.lookup x=some a))→Q () s') (hf:X.fn x=true∨X.env.scope.names.lookup x=some .local:=by first | exact .inl rfl | exact .inr rfl | assumption):wpAny M A (storeName X.env x u) Q E s:=by
  obtain ⟨m,hn,hl⟩:=id I.loc
  have hcls:(X.env.scope.kind == .class || (X.env.scope.kind == .module && X.env.locals != X.env.globals))=false:=by rw[I.ok.kind];rfl
  have hiσ:i<σ.length:=by rw[I.len];exact (List.getElem?_eq_some_iff.mp hi).1
  have cne:=I.cne
  have tracked:∀{a:Addr}{h':Heap},(∃o,s.heap.get? a=some o∧H a=none)→Heap.SameBut a s.heap h'→HOk X.prog X.w H h':=fun {a h'} ha hs b ob e=>by
    obtain ⟨_,_,hfree⟩:=ha
    refine (I.hok b ob e).pT (fun c w' hc q=>(hs.2 c ?_).trans q) (fun _ q=>q) fun _ _ q=>q
    rintro rfl
    rcases hc with rfl | hc
    · rw[hfree] at e;cases e
    · rw[hfree] at hc;cases hc
  rcases hx with hk | hk
  · refine wpAny_storeName_local hk hn (fun h' hn' hs=>?_) hcls
    obtain ⟨oL,_,_,hoL,_⟩:=id hn
    refine h _ ⟨I.ok,I.os,I.bare,⟨fun b o e n hb hx=>?_,fun b o e n hb hx=>?_,I.base.free,fun b o e hx=>?_,I.base.tups,I.base.frzs,I.base.tbls⟩,⟨_,hn',fun j y v' e1 e2 e3=>?_⟩,fun y c e=>?_,I.free,I.freeC,fun p hp=>?_,tracked ⟨oL,hoL,I.free⟩ hs,by simpa using I.len⟩ ⟨_,hs,.inl rfl⟩
    · exact (hs.2 b (Nat.ne_of_lt (Nat.lt_of_lt_of_le (Heap.lt_size e) I.ok.above))).trans (I.base.keep b o e n hb hx)
    · obtain ⟨sl,e1⟩:=I.base.slot b o e n hb hx
      exact⟨sl,(hs.2 b (Nat.ne_of_lt (Nat.lt_of_lt_of_le (Heap.lt_size e) I.ok.above))).trans e1⟩
    · obtain ⟨o',e1⟩:=I.base.there b o e hx
      exact⟨o',(hs.2 b (Nat.ne_of_lt (Nat.lt_of_lt_of_le (Heap.lt_size e) I.ok.above))).trans e1⟩
    · by_cases hj:j=i
      · subst hj
        rw[hi] at e1;cases e1
        rw[List.getElem?_set_self hiσ] at e2
        cases e2
        exact⟨u,r,.inl ⟨hk,by simp⟩⟩
      · rw[List.getElem?_set_ne (Ne.symm hj)] at e2
        obtain ⟨u',r',q⟩:=hl j y v' e1 e2 e3
        refine⟨u',r',?_⟩
        rcases q with ⟨k,e⟩ | ⟨k,c,e,z⟩
        · refine .inl ⟨k,?_⟩
          have:y≠x:=fun e=>hj (tV hN e1 (e▸hi))
          simp [this,e]
        · exact .inr ⟨k,c,e,z.sameBut hs (cne y c e)⟩
    · obtain ⟨w',z⟩:=I.cell y c e
      exact⟨w',z.sameBut hs (cne y c e)⟩
    · obtain ⟨e,n,ne,nf,d⟩:=I.pin p hp
      exact⟨(hs.2 p.1 ne).trans e,n,ne,nf,d⟩
  · have hfn:X.fn x=true:=by
      rcases hf with z | z
      · exact z
      · rw[z] at hk;cases hk
    obtain ⟨c,hc⟩:=I.ok.has x (.inl hk)
    obtain ⟨w',z⟩:=I.cell x c hc
    refine wpAny_storeName_cell I.ok.kind hk hc z (fun h' hc' hs=>?_)
    obtain ⟨oc,hoc,hocd⟩:=id z
    refine h { s with heap:=h' } ⟨I.ok,I.os,I.bare,⟨fun b o e n hb hx=>?_,fun b o e n hb hx=>?_,I.base.free,fun b o e hx=>?_,I.base.tups,I.base.frzs,I.base.tbls⟩,⟨m,hn.sameBut hs (Ne.symm (cne x c hc)),fun j y v' e1 e2 e3=>?_⟩,fun y c' e=>?_,I.free,I.freeC,fun p hp=>?_,tracked ⟨oc,hoc,I.freeC x c hc⟩ hs,by simpa using I.len⟩ ⟨c,hs,.inr hc⟩
    · exact (hs.2 b (Nat.ne_of_lt (Nat.lt_of_lt_of_le (Heap.lt_size e) (I.ok.cab x c hfn hc)))).trans (I.base.keep b o e n hb hx)
    · obtain ⟨sl,e1⟩:=I.base.slot b o e n hb hx
      exact⟨sl,(hs.2 b (Nat.ne_of_lt (Nat.lt_of_lt_of_le (Heap.lt_size e) (I.ok.cab x c hfn hc)))).trans e1⟩
    · obtain ⟨o',e1⟩:=I.base.there b o e hx
      exact⟨o',(hs.2 b (Nat.ne_of_lt (Nat.lt_of_lt_of_le (Heap.lt_size e) (I.ok.cab x c hfn hc)))).trans e1⟩
    · by_cases hj:j=i
      · subst hj
        rw[hi] at e1;cases e1
        rw[List.getElem?_set_self hiσ] at e2
        cases e2
        exact⟨u,r,.inr ⟨.inl hk,c,hc,hc'⟩⟩
      · rw[List.getElem?_set_ne (Ne.symm hj)] at e2
        obtain ⟨u',r',q⟩:=hl j y v' e1 e2 e3
        refine⟨u',r',?_⟩
        rcases q with q | ⟨k,c',e,z'⟩
        · exact .inl q
        · refine .inr ⟨k,c',e,z'.sameBut hs ?_⟩
          rintro rfl
          exact hj (tV hN e1 (I.ok.inj _ _ _ e hc▸hi))
    · by_cases hcc:c'=c
      · subst hcc;exact⟨_,hc'⟩
      · obtain ⟨w2,z2⟩:=I.cell y c' e
        exact⟨w2,z2.sameBut hs hcc⟩
    · obtain ⟨e,n,ne,nf,d⟩:=I.pin p hp
      refine⟨(hs.2 p.1 ?_).trans e,n,ne,nf,d⟩
      intro q
      rw[q,hoc] at e
      have q':oc=p.2:=Option.some.inj e
      exact d w' (by rw[← q'];exact hocd)
theorem me {M:Model}{A:Around}{E:Value→Shared→Prop}{i:Nat}{x:Str}{v:V}{u:Value}{Q:Unit→Shared→Prop} (I:Inv X pins σ H s) (hN:X.N.Nodup) (hi:X.N[i]?=some x) (hx:Loc X.env.scope x) (r:RelV v u)
    (h:∀s',Inv X pins (σ.set i (some v)) H s'→Q () s') (hf:X.fn x=true∨X.env.scope.names.lookup x=some .local:=by first | exact .inl rfl | exact .inr rfl | assumption):wpAny M A (storeName X.env x u) Q E s :=
  vf I hN hi hx r (fun s' I' _=>h s' I') hf
theorem Inv.yR {s':Shared}{ch:List Addr} (I:Inv X pins σ H s) (ho:s'.os=s.os) (u:Un (frs X.stack) ch H H' s.heap s'.heap) (hok:HOk X.prog X.w H' s'.heap) (hg:AllBare s'.gens)
    (hch:∀b∈ch,(b∈X.ex∨X.s₀.heap.objs.size≤b)∧b≠X.env.locals∧(∀x c,X.env.cells.lookup x=some c→c≠b)∧∀p∈X.pn++pins,p.1≠b):Inv X pins σ H' s':=by
  obtain ⟨h',g',d',t',o'⟩:=s'
  have e:o'=s.os:=ho
  subst e
  exact I.call (g':=g') (t':=t') (d':=d') u hok hg hch
end
abbrev XK:=Value→Option Addr→Hp→Prop
abbrev St:=List (Option V)
abbrev VK:=V→Hp→Prop
abbrev TE:=St→Hp→VK→Prop
abbrev TT:=St→Hp→(Bool→Hp→Prop)→Prop
abbrev TA:=St→Hp→(List V→Hp→Prop)→Prop
structure Ends where
  nx:St→Hp→Prop
  rt:VK
  bk:St→Hp→Prop:=fun _ _=>False
  ct:St→Hp→Prop:=fun _ _=>False
abbrev TS:=Ends→St→Hp→Prop
def EP (X:Cx) (pins:List (Addr × Obj)) (σ:St) (Q:VK) (u:Value) (s':Shared):Prop:=∃v H',Inv X pins σ H' s'∧RelV v u∧Q v H'
def TP (X:Cx) (pins:List (Addr × Obj)) (σ:St) (Q:Bool→Hp→Prop) (b:Bool) (s':Shared):Prop:=∃H',Inv X pins σ H' s'∧Q b H'
def AP (X:Cx) (pins:List (Addr × Obj)) (σ:St) (Q:List V→Hp→Prop) (us:List Value) (s':Shared):Prop:=∃vs H',Inv X pins σ H' s'∧Vals vs us∧Q vs H'
def SP (X:Cx) (pins:List (Addr × Obj)) (D:Ends) (f:Flow) (s':Shared):Prop :=
  match f with
  | .next=>∃σ' H',Inv X pins σ' H' s'∧D.nx σ' H'
  | .brk=>∃σ' H',Inv X pins σ' H' s'∧D.bk σ' H'
  | .cont=>∃σ' H',Inv X pins σ' H' s'∧D.ct σ' H'
  | .ret u=>∃v σ' H',Inv X pins σ' H' s'∧RelV v u∧D.rt v H'
def PE (X:Cx) (e:Expr) (t:TE):Prop :=
  ∀(pins:List (Addr × Obj)) (s:Shared) (σ:St) (H:Hp) (Q:VK),Inv X pins σ H s→t σ H Q→wpAny (model X.prog X.w) X.A (eval e X.env) (EP X pins σ Q) X.xe s
def PT (X:Cx) (e:Expr) (t:TT):Prop :=
  ∀(pins:List (Addr × Obj)) (s:Shared) (σ:St) (H:Hp) (Q:Bool→Hp→Prop),Inv X pins σ H s→t σ H Q→wpAny (model X.prog X.w) X.A (isTrue e X.env (eval e X.env)) (TP X pins σ Q) X.xe s
def PW (X:Cx) (e:Expr) (t:TT):Prop :=
  ∀(whole:Sem Value) (pins:List (Addr × Obj)) (s:Shared) (σ:St) (H:Hp) (Q:Bool→Hp→Prop),Inv X pins σ H s→t σ H Q→wpAny (model X.prog X.w) X.A (isTrue e X.env whole) (TP X pins σ Q) X.xe s
theorem PW.pt {X:Cx}{e:Expr}{t:TT} (h:PW X e t):PT X e t:=h _
def PA (X:Cx) (es:List Expr) (t:TA):Prop :=
  ∀(pos:Pos) (pins:List (Addr × Obj)) (s:Shared) (σ:St) (H:Hp) (Q:List V→Hp→Prop),Inv X pins σ H s→t σ H Q→wpAny (model X.prog X.w) X.A (spliced (backTo pos (starEach es X.env))) (AP X pins σ Q) X.xe s
def PS (X:Cx) (st:Stmt) (t:TS):Prop :=
  ∀(pins:List (Addr × Obj)) (s:Shared) (σ:St) (H:Hp) (D:Ends),Inv X pins σ H s→t D σ H→wpAny (model X.prog X.w) X.A (exec st X.env) (SP X pins D) X.xe s
def PSs (X:Cx) (st:List Stmt) (t:TS):Prop :=
  ∀(pins:List (Addr × Obj)) (s:Shared) (σ:St) (H:Hp) (D:Ends),Inv X pins σ H s→t D σ H→wpAny (model X.prog X.w) X.A (execs st X.env) (SP X pins D) X.xe s
theorem thn {α:Type}{t:Sem α}{Q Q':α→Shared→Prop}{M:Model}{A:Around}{E:Value→Shared→Prop}{s:Shared} (h:wpAny M A t Q E s) (hQ:∀a s,Q a s→Q' a s):wpAny M A t Q' E s:=wpAny_mono h hQ fun _ _ x=>x
end L2
namespace L2
open PySem PySem.Spec PyProof.Rows
section
variable {X:Cx}
def wW (i:Nat):TE:=fun σ H Q=>∃v,σ[i]?=some (some v)∧Q v H
def tC (v:V):TE:=fun _ H Q=>Q v H
theorem Ij {i:Nat}{x:Str}{pos:Pos} (hN:X.N[i]?=some x) (hv:Vis X.env.scope x) (hd:(x == ("__debug__" : Str))=false:=by decide) (hcd:(x == ("__classdict__" : Str))=false:=by decide):PE X (.Name x pos) (wW i):=by
  intro pins s σ H Q I h
  obtain ⟨v,e,h⟩:=h
  obtain ⟨m,hn,hl⟩:=I.loc
  obtain ⟨u,r,l⟩:=hl i x v hN e hv
  have fin:EP X pins σ Q u s:=⟨v,H,I,r,h⟩
  rcases l with ⟨hk,hm⟩ | ⟨hk,c,hc,hcell⟩
  · exact wpAny_Name (wpAny_loadName_local I.ok.kind hk hn hm fin) hd
  · rcases hk with hk | hk
    · exact wpAny_Name (wpAny_loadName_cell I.ok.kind hk hc hcell fin) hd
    · exact wpAny_Name (wpAny_loadName_free I.ok.kind hk hc hcell fin hcd) hd
theorem av {i j pos}:PE X (.Constant (.int i) j pos) (tC (.int i)):=fun _ _ _ H _ I h=>wpAny_Constant_int ⟨.int i,H,I.tok _,⟨_,rfl⟩,h⟩
theorem lX {b j pos}:PE X (.Constant (.bool b) j pos) (tC (.bl b)):=fun _ _ _ H _ I h=>Constant_bool ⟨.bl b,H,I,rfl,h⟩
theorem EK {j pos}:PE X (.Constant .none j pos) (tC .non):=fun _ _ _ H _ I h=>Constant_none ⟨.non,H,I,rfl,h⟩
theorem bA {x j pos}:PE X (.Constant (.str x) j pos) (tC (.str x)):=fun _ _ _ H _ I h=>Calls.Constant_str ⟨.str x,H,I.tok _,⟨_,rfl⟩,h⟩
def Gl (X:Cx) (x:Str):Prop:=X.env.kindOf x=some .globalImplicit
theorem pE {E:Value→Shared→Prop}{pins:List (Addr × Obj)}{s:Shared}{σ:St}{H:Hp}{x:Str}{u:Value}{pos:Pos}{Q:Value→Shared→Prop} (I:Inv X pins σ H s) (hg:Gl X x) (hm:X.mg x=some u) (h:Q u s)
    (hd:(x == ("__debug__" : Str))=false:=by decide):wpAny (model X.prog X.w) X.A (eval (.Name x pos) X.env) Q E s :=
  Calls.Name_function_global I.ok.kind hg (Calls.loadGlobal_global (by rw[I.ok.glob];exact I.mod.glob.keeps I.bk) hm h) hd
theorem kS {E:Value→Shared→Prop}{pins:List (Addr × Obj)}{s:Shared}{σ:St}{H:Hp}{x:Str}{u:Value}{pos:Pos}{Q:Value→Shared→Prop} (I:Inv X pins σ H s) (hg:Gl X x) (hm:X.mg x=none) (hv:bootBuiltins x=some u) (h:Q u s)
    (hn:x≠"__name__":=by decide) (hd:(x == ("__debug__" : Str))=false:=by decide):wpAny (model X.prog X.w) X.A (eval (.Name x pos) X.env) Q E s:=by
  obtain ⟨mb,h1,h2⟩:=I.mod.blt
  exact Calls.Name_function_global I.ok.kind hg (Calls.loadGlobal_builtin (by rw[I.ok.glob];exact I.mod.glob.keeps I.bk) hm (by rw[I.ok.blt];exact h1.keeps I.bk) ((h2 x hn).trans hv) h) hd
theorem cA {x:Str}{v:V}{u:Value}{pos:Pos} (hg:Gl X x) (hm:X.mg x=some u) (r:RelV v u) (hd:(x == ("__debug__" : Str))=false:=by decide):PE X (.Name x pos) (tC v) :=
  fun _ _ _ H _ I h=>pE I hg hm ⟨v,H,I,r,h⟩ hd
theorem gP {x:Str}{v:V}{u:Value}{pos:Pos} (hg:Gl X x) (hm:X.mg x=none) (hv:bootBuiltins x=some u) (r:RelV v u) (hn:x≠"__name__":=by decide) (hd:(x == ("__debug__" : Str))=false:=by decide):PE X (.Name x pos) (tC v) :=
  fun _ _ _ H _ I h=>kS I hg hm hv ⟨v,H,I,r,h⟩ hn hd
variable {a b:Expr}{ta tb:TE}{pos:Pos}
def tB (t:TE):TT:=fun σ H Q=>t σ H fun x H1=>∃c,x=.bl c∧Q c H1
theorem eE {e:Expr}{t:TE} (h:PE X e t) (he:∀whole,isTrue e X.env whole=(do let v ← whole;standAt e.pos;holding [v] (truthy v)):=by intro _;rfl):PT X e (tB t):=by
  intro pins s σ H Q I hw
  refine isTrue_plain (thn (h pins s σ H _ I hw) fun v s1 ⟨x,H1,I1,r1,q1⟩=>?_) (he _)
  obtain ⟨d,rfl,q⟩:=q1
  cases r1
  exact wpAny_truthy_bool ⟨H1,I1,q⟩
variable {tA tB':TT}{rest:List Expr}
def tOr (t u:TT):TT:=fun σ H Q=>t σ H fun c H1=>if c=true then Q true H1 else u σ H1 Q
def JM (t:TT):TT:=fun σ H Q=>t σ H fun c H1=>Q (!c) H1
theorem i3 (ha:PT X a tA):PW X (.BoolOp .Or [a] pos) tA:=by
  intro wh pins s σ H Q I h
  refine isTrue_or (thn (ha pins s σ H Q I h) fun c s1 e=>?_)
  cases c with
  | false=>exact isTrue_or_nil e
  | true=>exact e
theorem jj (ha:PT X a tA) (hb:PW X (.BoolOp .Or (b::rest) pos) tB'):PW X (.BoolOp .Or (a::b::rest) pos) (tOr tA tB'):=by
  intro wh pins s σ H Q I h
  refine isTrue_or (thn (ha pins s σ H _ I h) fun c s1 ⟨H1,I1,q1⟩=>?_)
  cases c with
  | true=>exact⟨H1,I1,q1⟩
  | false=>exact hb wh pins s1 σ H1 Q I1 q1
theorem fv (ha:PT X a tA):PT X (.UnaryOp .Not a pos) (JM tA):=by
  intro pins s σ H Q I h
  exact isTrue_not (ha pins s σ H (fun c H1=>Q (!c) H1) I h)
def GS (ta tb:TE):TE:=fun σ H Q=>ta σ H fun x H1=>∃c,x=.bl c∧if c=true then tb σ H1 Q else Q (.bl false) H1
def Jj (ta tb:TE):TE:=fun σ H Q=>ta σ H fun x H1=>∃c,x=.bl c∧if c=true then Q (.bl true) H1 else tb σ H1 Q
def G2 (ta:TE):TE:=fun σ H Q=>ta σ H fun x H1=>∃c,x=.bl c∧Q (.bl (!c)) H1
theorem sA {op}{t:TE} (h:PE X a t):PE X (.BoolOp op [a] pos) t:=fun pins s σ H Q I hw=>BoolOp_one (h pins s σ H Q I hw)
theorem An (ha:PE X a ta) (hb:PE X (.BoolOp .And (b::rest) pos) tb):PE X (.BoolOp .And (a::b::rest) pos) (GS ta tb):=by
  intro pins s σ H Q I h
  refine BoolOp_and (thn (ha pins s σ H _ I h) fun v s1 ⟨x,H1,I1,r1,q1⟩=>?_)
  obtain ⟨c,rfl,q1⟩:=q1
  cases r1
  refine wpAny_truthy_bool ?_
  cases c with
  | true=>exact hb pins s1 σ H1 Q I1 q1
  | false=>exact⟨.bl false,H1,I1,rfl,q1⟩
theorem GW (ha:PE X a ta) (hb:PE X (.BoolOp .Or (b::rest) pos) tb):PE X (.BoolOp .Or (a::b::rest) pos) (Jj ta tb):=by
  intro pins s σ H Q I h
  refine BoolOp_or (thn (ha pins s σ H _ I h) fun v s1 ⟨x,H1,I1,r1,q1⟩=>?_)
  obtain ⟨c,rfl,q1⟩:=q1
  cases r1
  refine wpAny_truthy_bool ?_
  cases c with
  | false=>exact hb pins s1 σ H1 Q I1 q1
  | true=>exact⟨.bl true,H1,I1,rfl,q1⟩
theorem Di (ha:PE X a ta):PE X (.UnaryOp .Not a pos) (G2 ta):=by
  intro pins s σ H Q I h
  refine UnaryOp_ (thn (ha pins s σ H _ I h) fun v s1 ⟨x,H1,I1,r1,q1⟩=>?_)
  obtain ⟨c,rfl,q1⟩:=q1
  cases r1
  exact not_of (wpAny_truthy_bool ⟨.bl (!c),H1,I1,rfl,q1⟩)
def tIf (t:TT) (ta tb:TE):TE:=fun σ H Q=>t σ H fun c H1=>if c=true then ta σ H1 Q else tb σ H1 Q
theorem oO {c:Expr} (hc:PT X c tA) (ha:PE X a ta) (hb:PE X b tb):PE X (.IfExp c a b pos) (tIf tA ta tb):=by
  intro pins s σ H Q I h
  refine wpAny_IfExp (thn (hc pins s σ H _ I h) fun d s1 ⟨H1,I1,q1⟩=>?_)
  cases d with
  | true=>exact ha pins s1 σ H1 Q I1 q1
  | false=>exact hb pins s1 σ H1 Q I1 q1
end
end L2
namespace L2
open PySem PySem.Spec PyProof.Rows
def SqL (K:PySem.W.Frag) (H:Hp) (a:Addr) (xs:List V):Prop :=
  Rd H a (.lst xs) ∨
    ∃(o:Obj) (its:Array Value) (n:Nat),K.lookup a=some o∧o.cls=.type "list"∧o.dict=none∧o.data=.seq its n∧its.size≤sizeLine∧Vals xs its.toList
def SqT (K:PySem.W.Frag) (H:Hp) (a:Addr) (xs:List V):Prop :=
  Rd H a (.tup xs) ∨
    ∃(o:Obj) (its:Array Value) (n:Nat),K.lookup a=some o∧o.cls=.type "tuple"∧o.data=.seq its n∧its.size≤sizeLine∧Vals xs its.toList
def JQ:Value→Option V
  | .none=>some .non
  | .bool b=>some (.bl b)
  | .int i _=>some (.int i)
  | .str x _=>some (.str x)
  | .bytes b _=>some (.byt b)
  | .float b _=>some (.flt b)
  | .ref a=>some (.ref a)
  | .type n=>some (.ty n)
  | _=>none
theorem RelV.abs {x:V}{u:Value} (r:RelV x u):JQ u=some x:=by
  cases x with
  | non=>cases r;rfl
  | bl _=>cases r;rfl
  | int _=>obtain ⟨t,rfl⟩:=r;rfl
  | str _=>obtain ⟨t,rfl⟩:=r;rfl
  | byt _=>obtain ⟨t,rfl⟩:=r;rfl
  | flt _=>obtain ⟨t,rfl⟩:=r;rfl
  | ref _=>cases r;rfl
  | ty _=>cases r;rfl
theorem RelV.inj {x y:V}{u:Value} (r:RelV x u) (q:RelV y u):x=y:=Option.some.inj (r.abs.symm.trans q.abs)
theorem Vals.inj:∀{xs ys:List V}{us:List Value},Vals xs us→Vals ys us→xs=ys
  | _,_,_,.nil,.nil=>rfl
  | _,_,_,.cons r t,.cons r' t'=>by rw[r.inj r',Vals.inj t t']
section
variable {X:Cx}{pins:List (Addr × Obj)}{σ:St}{H:Hp}{s:Shared}{a:Addr}{xs ys:List V}
theorem SqL.of {K:PySem.W.Frag} (h:H a=some (.lst xs)):SqL K H a xs:=.inl (.inl h)
theorem SqT.of {K:PySem.W.Frag} (h:H a=some (.tup xs)):SqT K H a xs:=.inl (.inl h)
theorem Inv.list (I:Inv X pins σ H s) (h:SqL X.K H a xs):∃its:List Value,Vals xs its∧PlainL s.heap a its.toArray∧xs.length≤sizeLine:=by
  rcases h with h | ⟨o,its,n,hk,hc,hd,hs,hz,r⟩
  · obtain ⟨z,its,n,r,e⟩:=h.ok I.hok
    exact⟨its,r,⟨_,n,e,rfl,rfl,rfl⟩,z⟩
  · refine⟨its.toList,r,⟨o,n,I.kIn a o hk,hc,hd,by simpa using hs⟩,?_⟩
    have e:=r.length
    simp only[Array.length_toList] at e
    omega
theorem Inv.tuple (I:Inv X pins σ H s) (h:SqT X.K H a xs):∃its:List Value,Vals xs its∧IsTup s.heap a its.toArray∧xs.length≤sizeLine:=by
  rcases h with h | ⟨o,its,n,hk,hc,hs,hz,r⟩
  · obtain ⟨z,its,r,p⟩:=h.ok I.hok
    exact⟨its,r,p,z⟩
  · refine⟨its.toList,r,⟨o,I.kIn a o hk,hc,n,by simpa using hs⟩,?_⟩
    have e:=r.length
    simp only[Array.length_toList] at e
    omega
theorem Inv.tP (I:Inv X pins σ H s) (h:SqL X.K H a xs) (h':SqL X.K H a ys):xs=ys:=by
  obtain ⟨its,r,⟨o,n,e,_,_,d⟩,_⟩:=I.list h
  obtain ⟨its',r',⟨o',n',e',_,_,d'⟩,_⟩:=I.list h'
  rw[e] at e';cases e'
  rw[d] at d'
  injection d' with d1 _
  have:its=its':=by simpa using congrArg Array.toList d1
  subst this
  exact r.inj r'
end
abbrev Cx.oR (X:Cx) (E:Value→Shared→Prop):Cx:={ X with xe:=E }
abbrev Cx.nox (X:Cx):Cx:=X.oR fun _ _=>False
theorem Cx.Ok.oR {X:Cx} (ok:X.Ok) (E:Value→Shared→Prop):(X.oR E).Ok :=
  ⟨ok.mod,ok.kind,ok.glob,ok.blt,ok.above,ok.inj,ok.has,ok.cab,ok.hd,ok.frames,ok.stk,ok.exf,ok.bs,ok.bsz,ok.noex,ok.exfs,ok.qr,ok.frf⟩
theorem Cx.Ok.i5 {X:Cx}{E:Value→Shared→Prop} (ok:(X.oR E).Ok):X.Ok :=
  ⟨ok.mod,ok.kind,ok.glob,ok.blt,ok.above,ok.inj,ok.has,ok.cab,ok.hd,ok.frames,ok.stk,ok.exf,ok.bs,ok.bsz,ok.noex,ok.exfs,ok.qr,ok.frf⟩
section
variable {X:Cx}{pins:List (Addr × Obj)}{σ:St}{H:Hp}{s:Shared}{E:Value→Shared→Prop}
theorem Inv.oR (I:Inv X pins σ H s) (E:Value→Shared→Prop):Inv (X.oR E) pins σ H s:=⟨I.ok.oR E,I.os,I.bare,I.base,I.loc,I.cell,I.free,I.freeC,I.pin,I.hok,I.len⟩
theorem Inv.i5 (I:Inv (X.oR E) pins σ H s):Inv X pins σ H s:=⟨I.ok.i5,I.os,I.bare,I.base,I.loc,I.cell,I.free,I.freeC,I.pin,I.hok,I.len⟩
theorem SP.i5 {D:Ends}{f:Flow}{s':Shared} (h:SP (X.oR E) pins D f s'):SP X pins D f s':=by
  cases f with
  | next=>obtain ⟨σ',H',I,q⟩:=h;exact⟨σ',H',I.i5,q⟩
  | brk=>obtain ⟨σ',H',I,q⟩:=h;exact⟨σ',H',I.i5,q⟩
  | cont=>obtain ⟨σ',H',I,q⟩:=h;exact⟨σ',H',I.i5,q⟩
  | ret u=>obtain ⟨v,σ',H',I,r,q⟩:=h;exact⟨v,σ',H',I.i5,r,q⟩
theorem PT.nox {e:Expr}{t:TT} (h:PT X.nox e t):PT X e t:=fun pins s σ H Q I hw =>
  wpAny_mono (h pins s σ H Q (I.oR _) hw) (fun _ _ ⟨H',I',q⟩=>⟨H',I'.i5,q⟩) fun _ _ z=>False.elim z
theorem PSs.nox {st:List Stmt}{t:TS} (h:PSs X.nox st t):PSs X st t:=fun pins s σ H D I hw =>
  wpAny_mono (h pins s σ H D (I.oR _) hw) (fun _ _ q=>q.i5) fun _ _ z=>False.elim z
end
section
variable {X:Cx}{st:Stmt}{rest:List Stmt}{t u:TS}{e:Expr}{te:TE}{pos:Pos}
def Dt:TS:=fun D σ H=>D.nx σ H
def GN (t u:TS):TS:=fun D σ H=>t { D with nx:=u D } σ H
theorem aU:PSs X [] Dt:=fun _ _ σ H _ I h=>wpAny_execs_nil ⟨σ,H,I,h⟩
theorem aj (h1:PS X st t) (h2:PSs X rest u):PSs X (st::rest) (GN t u):=by
  intro pins s σ H D I h
  refine wpAny_execs_cons (thn (h1 pins s σ H { D with nx:=u D } I h) fun f s1 q=>?_)
  cases f with
  | next =>
    obtain ⟨σ',H',I',q⟩:=q
    exact h2 pins s1 σ' H' D I' q
  | ret v=>exact q
  | brk=>exact q
  | cont=>exact q
theorem aq (h1:PS X st t):PSs X [st] t:=by
  intro pins s σ H D I h
  refine wpAny_execs_cons (thn (h1 pins s σ H D I h) fun f s1 q=>?_)
  cases f with
  | next=>exact wpAny_execs_nil q
  | ret v=>exact q
  | brk=>exact q
  | cont=>exact q
theorem Inv.quiet {pins:List (Addr × Obj)}{σ:St}{H:Hp}{s:Shared} (I:Inv X pins σ H s):interactive X.env=false:=by simp [interactive,I.ok.kind]
def Dm (te:TE):TS:=fun D σ H=>te σ H fun _ H1=>D.nx σ H1
theorem gU (he:PE X e te) (hs:swapsWith e none pos.line X.env=pure false:=by rfl):PS X (.Expr e pos) (Dm te):=by
  intro pins s σ H D I h
  exact wpAny_Expr_any (thn (he pins s σ H _ I h) fun v s1 ⟨x,H1,I1,r1,q1⟩=>⟨σ,H1,I1,q1⟩) I.quiet hs
def HM (te:TE):TS:=fun D σ H=>te σ H D.rt
theorem aB (he:PE X e te):PS X (.Return (some e) pos) (HM te):=by
  intro pins s σ H D I h
  exact wpAny_Return_some (thn (he pins s σ H _ I h) fun v s1 ⟨x,H1,I1,r1,q1⟩=>⟨x,σ,H1,I1,r1,q1⟩)
def FJ (c:TT) (t u:TS):TS:=fun D σ H=>c σ H fun b H1=>if b=true then t D σ H1 else u D σ H1
theorem cU {c:Expr}{a b:List Stmt}{tc:TT} (hc:PT X c tc) (ha:PSs X a t) (hb:PSs X b u):PS X (.If c a b pos) (FJ tc t u):=by
  intro pins s σ H D I h
  refine wpAny_If (thn (hc pins s σ H _ I h) fun d s1 ⟨H1,I1,q1⟩=>?_)
  cases d with
  | true=>exact ha pins s1 σ H1 D I1 q1
  | false=>exact hb pins s1 σ H1 D I1 q1
end
abbrev TG:=V→St→Hp→(St→Hp→Prop)→Prop
abbrev TGs:=List V→St→Hp→(St→Hp→Prop)→Prop
def PG (X:Cx) (target:Expr) (t:TG):Prop :=
  ∀(pins:List (Addr × Obj)) (s:Shared) (σ:St) (H:Hp) (v:V) (u:Value) (Q:St→Hp→Prop),Inv X pins σ H s→RelV v u→t v σ H Q →
    wpAny (model X.prog X.w) X.A (assign target X.env u) (fun _ s'=>∃σ' H',Inv X pins σ' H' s'∧Q σ' H') X.xe s
def PGs (X:Cx) (ts:List Expr) (t:TGs):Prop :=
  ∀(pins:List (Addr × Obj)) (s:Shared) (σ:St) (H:Hp) (vs:List V) (us:List Value) (Q:St→Hp→Prop),Inv X pins σ H s→Vals vs us→t vs σ H Q →
    wpAny (model X.prog X.w) X.A (assignInOrder ((assignEach ts X.env).map (·.2)) us) (fun _ s'=>∃σ' H',Inv X pins σ' H' s'∧Q σ' H') X.xe s
abbrev IV:=V→V→V→Hp→(Hp→Prop)→Prop
def JL (X:Cx) (t:IV):Prop :=
  ∀(pins:List (Addr × Obj)) (s:Shared) (σ:St) (H:Hp) (o i v:V) (ov iv u:Value) (Q:Hp→Prop),Inv X pins σ H s→RelV o ov→RelV i iv→RelV v u→t o i v H Q →
    wpAny (model X.prog X.w) X.A (setItem ov iv u) (fun _ s'=>∃H',Inv X pins σ H' s'∧Q H') X.xe s
section
variable {X:Cx}{pos:Pos}
def jk (i:Nat):TG:=fun v σ H Q=>Q (σ.set i (some v)) H
theorem iI {i:Nat}{x:Str} (hN:X.N.Nodup) (hi:X.N[i]?=some x) (hx:Loc X.env.scope x) (hf:X.fn x=true∨X.env.scope.names.lookup x=some .local:=by first | exact .inl rfl | exact .inr rfl | assumption):PG X (.Name x pos) (jk i):=by
  intro pins s σ H v u Q I r h
  exact wpAny_assign_Name (me I hN hi hx r (fun s' I'=>⟨_,H,I',h⟩) hf)
def HY:TGs:=fun vs σ H Q=>vs=[]∧Q σ H
def EY (t:TG) (u:TGs):TGs:=fun vs σ H Q=>∃v r,vs=v::r∧t v σ H fun σ' H'=>u r σ' H' Q
theorem rK:PGs X [] HY:=by
  intro pins s σ H vs us Q I r h
  obtain ⟨e,h⟩:=h
  subst e
  cases r
  exact assignInOrder_nil ⟨σ,H,I,h⟩
theorem iS {e:Expr}{es:List Expr}{t:TG}{u:TGs} (h1:PG X e t) (h2:PGs X es u)
    (hs:(assignEach (e::es) X.env).map (·.2)=assign e X.env::(assignEach es X.env).map (·.2):=by rfl):PGs X (e::es) (EY t u):=by
  intro pins s σ H vs us Q I r h
  obtain ⟨v,vr,e1,h⟩:=h
  subst e1
  cases r with
  | cons r rr =>
    rw[hs]
    refine assignInOrder_cons (thn (h1 pins s σ H _ _ _ I r h) fun _ s1 ⟨σ1,H1,I1,q1⟩=>?_)
    exact h2 pins s1 σ1 H1 _ _ Q I1 rr q1
def Gu (K:PySem.W.Frag) (n:Nat) (t:TGs):TG:=fun v σ H Q=>∃a xs,v=.ref a∧SqT K H a xs∧xs.length=n∧t xs σ H Q
theorem HS {es:List Expr}{k:Nat}{t:TGs}{n:Nat} (hc:X.calm=true) (h:PGs X es t)
    (hn:(assignEach es X.env).length=n:=by rfl) (hst:(assignEach es X.env).findIdx? (·.1)=none:=by rfl):PG X (.Tuple es k pos) (Gu X.K n t):=by
  intro pins s σ H v u Q I r hw
  obtain ⟨a,xs,e1,hq,hl,hw⟩:=hw
  subst e1
  cases r
  obtain ⟨its,rv,ht,hz⟩:=I.tuple hq
  refine assign_Tuple_tuple (I.ok.hd hc) ht (by simp [hn,← hl,rv.length]) hst fun h' hx=>?_
  have I1:Inv X pins σ H { s with heap:=h' }:=I.kept (t':=s.toks) fun b o e=>hx b o (Nat.ne_of_lt (Heap.lt_size e)) e
  exact h pins _ σ H xs _ Q I1 (by simpa using rv) hw
def JH (to ti:TE) (t:IV):TG:=fun v σ H Q=>to σ H fun o H1=>ti σ H1 fun i H2=>t o i v H2 fun H3=>Q σ H3
theorem pR {o i:Expr}{to ti:TE}{t:IV} (ho:PE X o to) (hi:PE X i ti) (hs:JL X t)
    (ha:∀v,assign (.Subscript o i pos) X.env v=(do
      let ov ← holding [v] (eval o X.env)
      let iv ← holding [v,ov] (eval i X.env)
      standAt pos
      holding [v,ov,iv] (setItem ov iv v)
      release [v,ov,iv] []):=by intro _;rfl):PG X (.Subscript o i pos) (JH to ti t):=by
  intro pins s σ H v u Q I r h
  rw[ha]
  refine wpAny_bind (wpAny_holding (thn (ho pins s σ H _ I h) fun ov s1 ⟨x,H1,I1,r1,q1⟩=>?_))
  refine wpAny_bind (wpAny_holding (thn (hi pins s1 σ H1 _ I1 q1) fun iv s2 ⟨y,H2,I2,r2,q2⟩=>?_))
  refine wpAny_bind (wpAny_standAt (wpAny_bind (wpAny_holding (thn (hs pins s2 σ H2 x y v ov iv u _ I2 r1 r2 r q2) fun _ s3 ⟨H3,I3,q3⟩=>?_))))
  exact wpAny_release ⟨σ,H3,I3,q3⟩
def qW (te:TE) (g:TG):TS:=fun D σ H=>te σ H fun x H1=>g x σ H1 D.nx
theorem oq {tg e:Expr}{te:TE}{g:TG} (he:PE X e te) (hg:PG X tg g) (hs:swapsWithSole [tg] e pos.line X.env=pure false:=by rfl) (hw:swappedStores [tg] e X.env=pure none:=by rfl)
    (h1:(assignEach [tg] X.env).map (·.2)=[assign tg X.env]:=by rfl):PS X (.Assign [tg] e pos) (qW te g):=by
  intro pins s σ H D I h
  refine wpAny_Assign_stores (thn (he pins s σ H _ I h) fun v s1 ⟨x,H1,I1,r1,q1⟩=>?_) hs hw
  rw[h1]
  exact thn (hg pins s1 σ H1 x v _ I1 r1 q1) fun _ s2 q=>q
theorem Am {i:Nat}{x:Str}{e:Expr}{te:TE}{pos':Pos} (hN:X.N.Nodup) (hi:X.N[i]?=some x) (hx:Loc X.env.scope x) (he:PE X e te) (hs:swapsWith e (some (.Name x pos')) pos.line X.env=pure false:=by rfl) (hf:X.fn x=true∨X.env.scope.names.lookup x=some .local:=by first | exact .inl rfl | exact .inr rfl | assumption) :
    PS X (.Assign [.Name x pos'] e pos) (qW te (jk i)):=by
  intro pins s σ H D I h
  refine wpAny_Assign_Name (thn (he pins s σ H _ I h) fun v s1 ⟨y,H1,I1,r1,q1⟩=>?_) hs
  exact me I1 hN hi hx r1 (fun s2 I2=>⟨_,H1,I2,q1⟩) hf
def Jk (i j:Nat) (ta:TA):TS:=fun D σ H=>ta σ H fun vs H1=>∃v w,vs=[v,w]∧D.nx ((σ.set i (some v)).set j (some w)) H1
theorem Hu {i j:Nat}{x y:Str}{a b:Expr}{ta:TA}{px py pt:Pos}{kt k2 pt2} (hc:X.calm=true) (hN:X.N.Nodup) (hi:X.N[i]?=some x) (hj:X.N[j]?=some y) (hij:i≠j)
    (hx:X.env.scope.names.lookup x=some .local) (hy:X.env.scope.names.lookup y=some .local) (ha:PA X [a,b] ta)
    (hw:swappedStores [.Tuple [.Name x px,.Name y py] kt pt] (.Tuple [a,b] k2 pt2) X.env=pure (some [x,y]))
    (hs:swapsWithSole [.Tuple [.Name x px,.Name y py] kt pt] (.Tuple [a,b] k2 pt2) pos.line X.env=pure false:=by rfl) :
    PS X (.Assign [.Tuple [.Name x px,.Name y py] kt pt] (.Tuple [a,b] k2 pt2) pos) (Jk i j ta):=by
  intro pins s σ H D I h
  rw[exec_Assign_arm]
  refine wpAny_bind (wpAny_standAt ?_)
  rw[hs]
  refine wpAny_bind (wpAny_pure ?_)
  rw[if_neg (by decide)]
  refine wpAny_bind (Tuple_ (thn (ha _ pins s σ H _ I h) fun us s1 ⟨vs,H1,I1,r1,q1⟩=>?_))
  obtain ⟨v,w,e1,q1⟩:=q1
  subst e1
  obtain ⟨u1,u2,rfl,rv,rw'⟩:∃u1 u2,us=[u1,u2]∧RelV v u1∧RelV w u2:=by
    cases r1 with
    | cons p q =>
      cases q with
      | cons p' q' =>
        cases q'
        exact⟨_,_,rfl,p,p'⟩
  refine wpAny_newObj_type ?_ (by show 2≤sizeLine;decide)
  have I2:Inv X pins σ H1 { s1 with heap:=s1.heap.push { cls:=.type "tuple",data:=.seq [u1,u2].toArray } }:=I1.kept (t':=s1.toks) fun b o e=>Heap.get?_push_of_some _ e
  rw[hw]
  refine wpAny_bind (wpAny_pure ?_)
  show wpAny (model X.prog X.w) X.A (do rule "assign.swapped-stores";let items ← unpackItems (.ref s1.heap.objs.size) 2 none;assignInOrder [fun v=>bindName X.env y v,fun v=>bindName X.env x v] items.reverse;pure Flow.next) _ _ _
  refine wpAny_bind (wpAny_rule (wpAny_bind (unpackItems_tuple (items:=#[u1,u2]) (I.ok.hd hc) (IsTup.new s1.heap _) fun h' hx'=>?_)))
  have I3:=I2.kept (h':=h') (t':=s1.toks) fun b o e=>hx' b o (Nat.ne_of_lt (Heap.lt_size e)) e
  show wpAny _ _ (assignInOrder [fun v=>bindName X.env y v,fun v=>bindName X.env x v] [u2,u1] >>= fun _=>pure Flow.next) _ _ _
  refine wpAny_bind (assignInOrder_cons (wpAny_bindName (me I3 hN hj (.inl hy) rw' (fun s2 I4=>?_) (.inr hy))))
  refine assignInOrder_cons (wpAny_bindName (me I4 hN hi (.inl hx) rv (fun s3 I5=>assignInOrder_nil (wpAny_pure ?_)) (.inr hx)))
  rw[List.set_comm _ _ (Ne.symm hij)] at I5
  exact⟨_,H1,I5,q1⟩
end
section
variable {X:Cx}{pos:Pos}
def D8 (c:TT) (tb:TS):TS:=fun D σ H=>∃W:Nat→St→Hp→Prop,(∃m,W m σ H)∧∀m σ H,W m σ H →
  c σ H fun b H1=>if b=true then ∃N:St→Hp→Prop,(∀σ' H',N σ' H'→∃m',m' < m∧W m' σ' H')∧tb { D with nx:=N,ct:=N,bk:=D.nx } σ H1 else D.nx σ H1
theorem pJ {c:Expr}{body:List Stmt}{tc:TT}{tb:TS} (hp:PassesOwn (model X.prog X.w) X.A X.env X.xe) (hc:PT X c tc) (hb:PSs X body tb):PS X (.While c body [] pos) (D8 tc tb):=by
  intro pins s σ H D I h
  obtain ⟨W,⟨m0,w0⟩,turn⟩:=h
  refine wpAny_While (codeAny_whileLoop (fun n s'=>∃σ' H',Inv X pins σ' H' s'∧W n σ' H') ?_ m0 ⟨σ,H,I,w0⟩)
  rintro n s1 ⟨σ1,H1,I1,w1⟩
  refine wpAny_passesOwn hp (thn (hc pins s1 σ1 H1 _ I1 (turn n σ1 H1 w1)) fun b s2 ⟨H2,I2,q2⟩=>?_)
  cases b with
  | true =>
    obtain ⟨N,hN,q2⟩:=q2
    rw[if_pos rfl]
    refine wpAny_passesOwn hp (thn (hb pins s2 σ1 H2 _ I2 q2) fun f s3 q3=>?_)
    cases f with
    | next =>
      obtain ⟨σ3,H3,I3,n3⟩:=q3
      obtain ⟨m',hm,w3⟩:=hN σ3 H3 n3
      exact⟨m',hm,σ3,H3,I3,w3⟩
    | cont =>
      obtain ⟨σ3,H3,I3,n3⟩:=q3
      obtain ⟨m',hm,w3⟩:=hN σ3 H3 n3
      exact⟨m',hm,σ3,H3,I3,w3⟩
    | brk=>exact q3
    | ret v=>exact q3
  | false =>
    rw[if_neg Bool.false_ne_true]
    exact wpAny_execs_nil ⟨σ1,H2,I2,q2⟩
end
structure It where
  go:Nat→Hp→Prop
  yld:Nat→Hp→V→Hp→Prop
  stop:Nat→Hp→Prop
def t4 (X:Cx) (pins:List (Addr × Obj)) (H:Hp) (b:Addr):Prop :=
  H b=none∧b≠X.env.locals∧b∉X.fs∧(b∈X.ex∨X.s₀.heap.objs.size≤b)∧(∀x c,X.env.cells.lookup x=some c→c≠b)∧∀p∈X.pn++pins,p.1≠b
theorem Inv.Gx {X:Cx}{pins:List (Addr × Obj)}{σ:St}{H H':Hp}{s:Shared}{b:Addr} (I:Inv X pins σ H s) (hb:s.heap.objs.size≤b) (hn:H' b=none):t4 X pins H' b:=by
  refine⟨hn,Nat.ne_of_gt (Nat.lt_of_lt_of_le I.lt hb),I.Jc hb,.inr (Nat.le_trans I.sz hb),fun x c e z=>?_,fun p hp z=>?_⟩
  · obtain ⟨v,q⟩:=I.cell x c e
    exact absurd (Nat.lt_of_lt_of_le q.lt (by rw[z];exact hb)) (Nat.lt_irrefl _)
  · exact absurd (Nat.lt_of_lt_of_le (Heap.lt_size (I.pin p hp).1) (by rw[z];exact hb)) (Nat.lt_irrefl _)
structure Turn (P:Program) (w:World) (K:PySem.W.Frag) (tg:Expr) (J:It) (fp:List Addr) (it:Addr) (tn:Nat→Heap→Prop):Prop where
  mem:it∈fp
  obj:∀i h,tn i h→∀b∈fp,∃o,h.get? b=some o∧∀v,o.data≠.cell v
  keep:∀i h h',tn i h→(∀b∈fp,∀o,h.get? b=some o→h'.get? b=some o)→tn i h'
  item:∀(X:Cx),X.prog=P→X.w=w→X.K=K→X.calm=true→∀(i:Nat) (pins:List (Addr × Obj)) (s:Shared) (σ:St) (H:Hp) (E:Value→Shared→Prop),Inv X pins σ H s→(∀b∈fp,t4 X pins H b)→tn i s.heap→J.go i H →
    wpAny (model P w) X.A (pyNext (.ref it)) (fun r s1=>∃u,r=some u ∧
      wpAny (model P w) X.A (letOwnedTupleGo tg (.ref it) u) (fun _ s2=>∃x H',Inv X pins σ H' s2∧RelV x u∧J.yld i H x H'∧tn (i+1) s2.heap∧∀b∈fp,H' b=none) E s1) E s
  done:∀(X:Cx),X.prog=P→X.w=w→X.K=K→X.calm=true→∀(i:Nat) (pins:List (Addr × Obj)) (s:Shared) (σ:St) (H:Hp) (E:Value→Shared→Prop),Inv X pins σ H s→(∀b∈fp,t4 X pins H b)→tn i s.heap→J.stop i H →
    wpAny (model P w) X.A (pyNext (.ref it)) (fun r s1=>r=none∧Inv X pins σ H s1) E s
  self:∀(A:Around) (i:Nat) (s:Shared) (Q:Value→Shared→Prop) (E:Value→Shared→Prop),tn i s.heap→Q (.ref it) s→wpAny (model P w) A (pyIter (.ref it)) Q E s
abbrev TI:=St→Hp→(It→Hp→Prop)→Prop
def PIE (X:Cx) (pins:List (Addr × Obj)) (σ:St) (tg:Expr) (R:It→Hp→Prop) (itv:Value) (s2:Shared):Prop :=
  ∃(it:Addr) (fp:List Addr) (tn:Nat→Heap→Prop) (J:It) (H':Hp),itv=.ref it∧Inv X pins σ H' s2∧Turn X.prog X.w X.K tg J fp it tn∧tn 0 s2.heap∧(∀b∈fp,t4 X pins H' b)∧R J H'
def PI (X:Cx) (tg iter:Expr) (wi:TI):Prop :=
  ∀(pins:List (Addr × Obj)) (s:Shared) (σ:St) (H:Hp) (R:It→Hp→Prop),Inv X pins σ H s→wi σ H R →
    wpAny (model X.prog X.w) X.A (eval iter X.env) (fun v s1=>wpAny (model X.prog X.w) X.A (pyIter v) (PIE X pins σ tg R) X.xe s1) X.xe s
theorem EZ {M:Model}{A:Around}{E:Value→Shared→Prop}{s:Shared}{tg:Expr}{it:Addr}{u:Value}{o:Obj}{n:String}{vs:Array Value}{Q:Unit→Shared→Prop} (ho:s.heap.get? it=some o) (hc:o.cls=.type n) (hd:o.data=.fields vs)
    (hn:["enumerate","zip","dict_itemiterator","dict_reverseitemiterator","odict_iterator","itertools.zip_longest","itertools.pairwise"].contains n=false) (hQ:Q () s):wpAny M A (letOwnedTupleGo tg (.ref it) u) Q E s:=by
  unfold letOwnedTupleGo
  cases tg<;>first
    | exact wpAny_pure hQ
    | (cases u<;>first
        | exact wpAny_pure hQ
        | (refine wpAny_bind (wpAny_load ho ?_)
           rw[hc,hd]
           show wpAny M A (if (["enumerate","zip","dict_itemiterator","dict_reverseitemiterator","odict_iterator","itertools.zip_longest","itertools.pairwise"].contains n && vs[0]? == some (rawInt _))=true then _ else _) Q E s
           rw[if_neg (by intro h;rw[hn,Bool.false_and] at h;cases h)]
           exact wpAny_pure hQ))
def Itl (K:PySem.W.Frag) (a:Addr):It :=
  ⟨fun i H=>∃xs x,SqL K H a xs∧xs[i]?=some x,fun i H x H'=>H'=H∧∀xs,SqL K H a xs→xs[i]?=some x,fun i H=>∃xs,SqL K H a xs∧xs.length≤i⟩
def Itr (lo:Int) (n:Nat):It:=⟨fun i _=>i<n,fun i H x H'=>H'=H∧x=.int (lo+i),fun i _=>n≤i⟩
theorem Cw {P:Program}{w:World}{K:PySem.W.Frag}{tg:Expr} (a it:Addr):Turn P w K tg (Itl K a) [it] it (fun i h=>h.IsListIter it a i) where
  mem:=by simp
  obj:=fun i h st b hb=>by
    have e:b=it:=by simpa using hb
    subst e
    obtain ⟨o,e,c,d⟩:=st
    exact⟨o,e,fun v z=>by rw[d] at z;cases z⟩
  keep:=fun i h h' st k=>st.at fun o e=>k it (by simp) o e
  item:=by
    intro X hP hw hK hc i pins s σ H E I hf st hg
    subst hP hw hK
    obtain ⟨xs,x,hq,hx⟩:=hg
    obtain ⟨its,rv,p,hz⟩:=I.list hq
    obtain ⟨u,hu,ru⟩:=rv.get hx
    obtain ⟨f0,f1,f2,f3,f4,f5⟩:=hf it (by simp)
    refine wpAny_pyNext_list_item st p.isList (x:=u) (by simpa using hu) fun h' st' sb=>?_
    have I1:Inv X pins σ H { s with heap:=h' }:=I.turned (t':=s.toks) (fun b o hb e=>(sb.2 b hb).trans e) f0 f1 f3 f4 f5
    obtain ⟨o,e,c,d⟩:=id st'
    exact⟨u,rfl,EZ (s:={ s with heap:=h' }) e c d (by decide) ⟨x,H,I1,ru,⟨rfl,fun ys hy=>by rw[I.tP hy hq];exact hx⟩,st',fun b hb=>(hf b hb).1⟩⟩
  done:=by
    intro X hP hw hK hc i pins s σ H E I hf st hg
    subst hP hw hK
    obtain ⟨xs,hq,hx⟩:=hg
    obtain ⟨its,rv,p,hz⟩:=I.list hq
    obtain ⟨f0,f1,f2,f3,f4,f5⟩:=hf it (by simp)
    have hl:=rv.length
    exact wpAny_pyNext_list_end (I.ok.hd hc) st p.isList (by simp;omega) fun h' eb=>⟨rfl,I.turned (t':=s.toks) (fun b o hb e=>eb b o hb e) f0 f1 f3 f4 f5⟩
  self:=fun _ _ _ _ _ st h=>wpAny_pyIter_listiter st h
theorem zR {P:Program}{w:World}{K:PySem.W.Frag}{tg:Expr} (it:Addr) (lo:Int) (n:Nat):Turn P w K tg (Itr lo n) [it] it (fun i h=>IsRangeIter h it (lo+(i:Nat)*1) ((n:Int) - (i:Nat)) 1) where
  mem:=by simp
  obj:=fun i h st b hb=>by
    have e:b=it:=by simpa using hb
    subst e
    exact⟨_,st,fun v z=>by
      have z':Data.fields _=Data.cell v:=z
      cases z'⟩
  keep:=fun i h h' st k=>k it (by simp) _ st
  item:=by
    intro X hP hw hK hc i pins s σ H E I hf st hg
    subst hP hw hK
    obtain ⟨f0,f1,f2,f3,f4,f5⟩:=hf it (by simp)
    have W:=Walks.range (prog:=X.prog) (w:=X.w) (I.ok.hd hc) it lo 1 n
    refine W.item i s _ _ hg st fun v h' tk hv st' kk=>?_
    obtain ⟨t,rfl⟩:=hv
    have I1:Inv X pins σ H { s with heap:=h',toks:=tk }:=I.turned (fun b o hb e=>kk b o (by simpa using hb) e) f0 f1 f3 f4 f5
    refine⟨_,rfl,EZ (s:={ s with heap:=h',toks:=tk }) (n:="range_iterator") st' rfl rfl (by decide) ⟨.int (lo+i),H,I1,⟨t,?_⟩,⟨rfl,rfl⟩,st',fun b hb=>(hf b hb).1⟩⟩
    rw[Int.mul_one]
  done:=by
    intro X hP hw hK hc i pins s σ H E I hf st hg
    subst hP hw hK
    obtain ⟨f0,f1,f2,f3,f4,f5⟩:=hf it (by simp)
    exact wpAny_pyNext_range_end (I.ok.hd hc) st (by have:n≤i:=hg;omega) fun h' eb=>⟨rfl,I.turned (t':=s.toks) (fun b o hb e=>eb b o hb e) f0 f1 f3 f4 f5⟩
  self:=fun _ _ _ _ _ st h=>wpAny_pyIter_rangeiter st h
end L2
namespace L2
open PySem PySem.Spec PyProof.Rows
section
variable {X:Cx}{tg:Expr}
def Bm (K:PySem.W.Frag) (tl:TE):TI:=fun σ H R=>tl σ H fun x H1=>∃a,x=.ref a∧(∃xs,SqL K H1 a xs)∧R (Itl K a) H1
theorem Fy {l:Expr}{tl:TE} (hl:PE X l tl):PI X tg l (Bm X.K tl):=by
  intro pins s σ H R I h
  refine thn (hl pins s σ H _ I h) fun v s1 ⟨x,H1,I1,r1,q1⟩=>?_
  obtain ⟨a,e,⟨xs,hq⟩,q⟩:=q1
  subst e
  cases r1
  obtain ⟨its,rv,p,hz⟩:=I1.list hq
  refine wpAny_pyIter_list p.isList ?_
  refine⟨s1.heap.objs.size,[s1.heap.objs.size],_,_,H1,rfl,I1.kept (t':=s1.toks) fun b o e=>Heap.get?_push_of_some _ e,Cw a _,⟨_,Heap.get?_push_size _ rfl,rfl,rfl⟩,fun b hb=>?_,q⟩
  have e:b=s1.heap.objs.size:=by simpa using hb
  subst e
  exact I1.Gx (Nat.le_refl _) (I1.hok.fresh (Nat.le_refl _))
theorem EO {pins:List (Addr × Obj)}{σ:St}{H:Hp}{s:Shared}{R:It→Hp→Prop}{E:Value→Shared→Prop}{lo hi:Int}{t u v:Tok}{tk:Nat} (I:Inv X pins σ H s) (h1 : -(2 ^ 62)≤lo) (h2:lo<2 ^ 62) (h3 : -(2 ^ 62)≤hi) (h4:hi<2 ^ 62)
    (q:R (Itr lo (hi - lo).toNat) H):wpAny (model X.prog X.w) X.A (pyIter (.ref s.heap.objs.size)) (PIE X pins σ tg R) E { s with heap:=s.heap.push { cls:=.type "range",data:=.fields #[.int lo t,.int hi u,.int 1 v] },toks:=tk }:=by
  refine wpAny_pyIter_range (IsRange.new ..) (small_one h1 h2 h3 h4) ?_
  have I1:Inv X pins σ H { s with heap:=s.heap.push { cls:=.type "range",data:=.fields #[.int lo t,.int hi u,.int 1 v] },toks:=tk }:=I.kept fun b o e=>Heap.get?_push_of_some _ e
  refine⟨(s.heap.push { cls:=.type "range",data:=.fields #[.int lo t,.int hi u,.int 1 v] }).objs.size,[(s.heap.push { cls:=.type "range",data:=.fields #[.int lo t,.int hi u,.int 1 v] }).objs.size],_,_,H,rfl,
    I1.kept (t':=tk) fun b o e=>Heap.get?_push_of_some _ e,zR _ lo (hi - lo).toNat,?_,fun b hb=>?_,q⟩
  · have e1:lo+((0:Nat):Int)*1=lo:=by simp
    have e2:(((hi - lo).toNat:Nat):Int) - ((0:Nat):Int)=Builtin.Range.rangeSize lo hi 1:=by rw[rangeSize_one];split<;>omega
    show IsRangeIter _ _ (lo+((0:Nat):Int)*1) ((((hi - lo).toNat:Nat):Int) - ((0:Nat):Int)) 1
    rw[e1,e2]
    exact Heap.get?_push_size _ rfl
  · have e:b=(s.heap.push { cls:=.type "range",data:=.fields #[.int lo t,.int hi u,.int 1 v] }).objs.size:=by simpa using hb
    subst e
    exact I1.Gx (Nat.le_refl _) (I1.hok.fresh (Nat.le_refl _))
def G1 (ta:TA):TI:=fun σ H R=>ta σ H fun vs H1=>∃j:Int,vs=[.int j]∧-(2 ^ 62)≤j∧j<2 ^ 62∧R (Itr 0 j.toNat) H1
theorem ir {a:Expr}{ta:TA}{p pos:Pos} (hg:Gl X "range") (hm:X.mg "range" = none) (ha:PA X [a] ta) (hs:starEach [a] X.env=[(false,eval a X.env)]:=by rfl):PI X tg (.Call (.Name "range" p) [a] [] pos) (G1 ta):=by
  intro pins s σ H R I h
  refine Call_ (kS I hg hm boot_range (PyProof.Rows.callWith_type1 (thn (ha pos pins s σ H _ I h) fun us s1 ⟨vs,H1,I1,r1,q1⟩=>?_) hs rfl))
  obtain ⟨j,e,q1,q2,q⟩:=q1
  subst e
  cases r1 with
  | cons r rr =>
    cases rr
    obtain ⟨t,rfl⟩:=r
    exact call_range_1 (EO I1 (by omega) (by omega) q1 q2 (by simpa using q))
def IK (wi:TI) (g:TG) (tb:TS):TS:=fun D σ H=>wi σ H fun J H1=>∃W:Nat→Nat→St→Hp→Prop,(∃m,W 0 m σ H1)∧∀i m σ H,W i m σ H →
  (J.stop i H∧D.nx σ H)∨(J.go i H∧∃N:St→Hp→Prop,(∀σ' H',N σ' H'→∃m',m' < m∧W (i+1) m' σ' H')∧∀x H',J.yld i H x H'→g x σ H' fun σ2 H2=>tb { D with nx:=N,ct:=N,bk:=D.nx } σ2 H2)
def mI (fp:List Addr) (h:Heap):List (Addr × Obj):=fp.filterMap fun b=>(h.get? b).map fun o=>(b,o)
theorem lM {fp:List Addr}{h:Heap}{b:Addr}{o:Obj} (hb:b∈fp) (e:h.get? b=some o):(b,o)∈mI fp h:=List.mem_filterMap.mpr ⟨b,hb,by rw[e];rfl⟩
theorem vp {fp:List Addr}{h:Heap}{p:Addr × Obj} (hp:p∈mI fp h):p.1∈fp∧h.get? p.1=some p.2:=by
  obtain ⟨b,hb,e⟩:=List.mem_filterMap.mp hp
  cases q:h.get? b with
  | none=>rw[q] at e;cases e
  | some o =>
    rw[q] at e
    have e':(b,o)=p:=Option.some.inj e
    subst e'
    exact⟨hb,q⟩
theorem Inv.pinned {pins:List (Addr × Obj)}{σ:St}{H:Hp}{s:Shared}{fp:List Addr} (I:Inv X pins σ H s) (hf:∀b∈fp,t4 X pins H b) (ho:∀b∈fp,∃o,s.heap.get? b=some o∧∀v,o.data≠.cell v):Inv X (pins++mI fp s.heap) σ H s :=
  I.oW fun p hp=>(List.mem_append.mp hp).elim (fun z=>I.pin p (List.mem_append_right _ z)) fun z=>by
    obtain ⟨hb,e⟩:=vp z
    obtain ⟨f0,f1,f2,_⟩:=hf p.1 hb
    obtain ⟨o,e',d⟩:=ho p.1 hb
    rw[e] at e';cases e'
    exact⟨e,f0,f1,f2,d⟩
theorem Inv.pK {pins pl:List (Addr × Obj)}{σ:St}{H:Hp}{s:Shared} (I:Inv X (pins++pl) σ H s):Inv X pins σ H s:=I.oW fun p hp=>I.pin p (List.mem_append_right _ (List.mem_append_left _ hp))
theorem Ii {iter:Expr}{body:List Stmt}{wi:TI}{g:TG}{tb:TS}{pos:Pos} (hp:PassesOwn (model X.prog X.w) X.A X.env X.xe) (hc:X.calm=true) (hi:PI X tg iter wi) (hg:PG X tg g) (hb:PSs X body tb)
    (hs:∀x,foldedSetIterable iter X.env x=pure x:=by intro _;rfl):PS X (.For tg iter body [] pos) (IK wi g tb):=by
  intro pins s σ H D I h
  refine wpAny_For (thn (hi pins s σ H _ I h) fun v s1 h1=>thn h1 fun itv s2 h2=>?_) hs
  obtain ⟨it,fp,tn,J,H2,e,I2,T,st2,f2,W,⟨m0,w0⟩,turn⟩:=h2
  subst e
  have stat:∀{H':Hp},(∀b∈fp,H' b=none)→∀b∈fp,t4 X pins H' b:=fun hn b hb=>⟨hn b hb,(f2 b hb).2⟩
  refine codeAny_forLoop_any (fun n s'=>∃i σ' H',Inv X pins σ' H' s'∧tn i s'.heap∧(∀b∈fp,H' b=none)∧W i n σ' H') ?_ m0 ⟨0,σ,H2,I2,st2,fun b hb=>(f2 b hb).1,w0⟩
  rintro n s3 ⟨i,σ3,H3,I3,st3,fr3,w3⟩
  rcases turn i n σ3 H3 w3 with ⟨stop,qn⟩ | ⟨go,N,hN,step⟩
  · refine wpAny_passesOwn hp (thn (T.done X rfl rfl rfl hc i pins s3 σ3 H3 X.xe I3 (stat fr3) st3 stop) fun r s4 ⟨hr,I4⟩=>?_)
    subst hr
    exact wpAny_execs_nil ⟨σ3,H3,I4,qn⟩
  · refine wpAny_passesOwn hp (thn (T.item X rfl rfl rfl hc i pins s3 σ3 H3 X.xe I3 (stat fr3) st3 go) fun r s4 ⟨u,hr,h4⟩=>?_)
    subst hr
    refine wpAny_passesOwn hp (thn h4 fun _ s5 ⟨x,H5,I5,r5,y5,st5,fr5⟩=>?_)
    have I5':=I5.pinned (stat fr5) (T.obj _ _ st5)
    refine wpAny_passesOwn hp (thn (hg _ s5 σ3 H5 x u _ I5' r5 (step x H5 y5)) fun _ s6 ⟨σ6,H6,I6,q6⟩=>?_)
    refine wpAny_passesOwn hp (thn (hb _ s6 σ6 H6 _ I6 q6) fun f s7 q7=>?_)
    have again:∀{σ7:St}{H7:Hp},Inv X (pins++mI fp s5.heap) σ7 H7 s7→N σ7 H7→∃m,m<n∧∃i σ' H',Inv X pins σ' H' s7∧tn i s7.heap∧(∀b∈fp,H' b=none)∧W i m σ' H':=fun {σ7 H7} I7 n7=>by
      obtain ⟨m',hm,w7⟩:=hN σ7 H7 n7
      refine⟨m',hm,i+1,σ7,H7,I7.pK,T.keep _ _ _ st5 fun b hb o e=>(I7.pin (b,o) (List.mem_append_right _ (List.mem_append_right _ (lM hb e)))).1,fun b hb=>?_,w7⟩
      obtain ⟨o,e,d⟩:=T.obj _ _ st5 b hb
      exact (I7.pin (b,o) (List.mem_append_right _ (List.mem_append_right _ (lM hb e)))).2.1
    cases f with
    | next=>obtain ⟨σ7,H7,I7,n7⟩:=q7;exact again I7 n7
    | cont=>obtain ⟨σ7,H7,I7,n7⟩:=q7;exact again I7 n7
    | brk=>obtain ⟨σ7,H7,I7,q7⟩:=q7;exact⟨σ7,H7,I7.pK,q7⟩
    | ret v=>obtain ⟨x7,σ7,H7,I7,r7,q7⟩:=q7;exact⟨x7,σ7,H7,I7.pK,r7,q7⟩
end
end L2
namespace L2
open PySem PySem.Spec PyProof.Rows
abbrev R2:=V→V→Hp→VK→Prop
def OpR (X:Cx) (f:Value→Value→Sem Value) (r:R2):Prop :=
  ∀(pins:List (Addr × Obj)) (s:Shared) (σ:St) (H:Hp) (x y:V) (v u:Value) (Q:VK),Inv X pins σ H s→RelV x v→RelV y u→r x y H Q →
    wpAny (model X.prog X.w) X.A (f v u) (EP X pins σ Q) X.xe s
def UnR (X:Cx) (f:Value→Sem Value) (r:V→Hp→VK→Prop):Prop :=
  ∀(pins:List (Addr × Obj)) (s:Shared) (σ:St) (H:Hp) (x:V) (v:Value) (Q:VK),Inv X pins σ H s→RelV x v→r x H Q →
    wpAny (model X.prog X.w) X.A (f v) (EP X pins σ Q) X.xe s
def fR (X:Cx) (f:Value) (r:List V→Hp→VK→Prop):Prop :=
  ∀(pins:List (Addr × Obj)) (s:Shared) (σ:St) (H:Hp) (xs:List V) (us:List Value) (Q:VK),Inv X pins σ H s→Vals xs us→r xs H Q →
    wpAny (model X.prog X.w) X.A (call f us) (EP X pins σ Q) X.xe s
def tOp (r:R2) (ta tb:TE):TE:=fun σ H Q=>ta σ H fun x H1=>tb σ H1 fun y H2=>r x y H2 Q
def tUn (r:V→Hp→VK→Prop) (ta:TE):TE:=fun σ H Q=>ta σ H fun x H1=>r x H1 Q
def rI (C:Int→Int→Prop) (g:Int→Int→V):R2:=fun x y H Q=>∃i j,x=.int i∧y=.int j∧C i j∧Q (g i j) H
def rI0 (g:Int→Int→V):R2:=fun x y H Q=>∃i j,x=.int i∧y=.int j∧Q (g i j) H
def rU (g:Int→V):V→Hp→VK→Prop:=fun x H Q=>∃i,x=.int i∧Q (g i) H
section
variable {X:Cx}{a b c:Expr}{ta tb tc:TE}{pos:Pos}
theorem Gd (ha:PE X a ta) (hb:PE X b tb) {pins:List (Addr × Obj)}{s:Shared}{σ:St}{H:Hp}{R:V→V→Hp→Prop} (I:Inv X pins σ H s)
    (h:ta σ H fun x H1=>tb σ H1 fun y H2=>R x y H2) {Q:Value→Shared→Prop}{f:Value→Value→Sem Value}
    (hf:∀v u s2 x y H2,Inv X pins σ H2 s2→RelV x v→RelV y u→R x y H2→wpAny (model X.prog X.w) X.A (f v u) Q X.xe s2) :
    wpAny (model X.prog X.w) X.A (eval a X.env) (fun v s₁=>wpAny (model X.prog X.w) X.A (eval b X.env) (fun u s₂=>wpAny (model X.prog X.w) X.A (f v u) Q X.xe s₂) X.xe s₁) X.xe s:=by
  refine thn (ha pins s σ H _ I h) fun v s1 ⟨x,H1,I1,r1,q1⟩=>?_
  refine thn (hb pins s1 σ H1 _ I1 q1) fun u s2 ⟨y,H2,I2,r2,q2⟩=>?_
  exact hf v u s2 x y H2 I2 r1 r2 q2
theorem aJ {op:Operator}{r:R2} (ho:OpR X (binaryOp op) r) (ha:PE X a ta) (hb:PE X b tb):PE X (.BinOp a op b pos) (tOp r ta tb):=by
  intro pins s σ H Q I h
  exact wpAny_BinOp (Gd ha hb I h fun v u s2 x y H2 I2 rx ry q=>ho pins s2 σ H2 x y v u Q I2 rx ry q)
theorem Jo {op:UnaryOp}{r:V→Hp→VK→Prop} (ho:UnR X (unaryOp op) r) (ha:PE X a ta):PE X (.UnaryOp op a pos) (tUn r ta):=by
  intro pins s σ H Q I h
  exact UnaryOp_ (thn (ha pins s σ H _ I h) fun v s1 ⟨x,H1,I1,r1,q1⟩=>ho pins s1 σ H1 x v Q I1 r1 q1)
theorem opI {f:Value→Value→Sem Value}{C:Int→Int→Prop}{g:Int→Int→Int}
    (rule:∀(i j:Int) (t u:Tok) (s:Shared) (Q:Value→Shared→Prop) (E:Value→Shared→Prop),C i j→Q (.int (g i j) s.toks) { s with toks:=s.toks+1 }→wpAny (model X.prog X.w) X.A (f (.int i t) (.int j u)) Q E s) :
    OpR X f (rI C fun i j=>.int (g i j)):=by
  intro pins s σ H x y v u Q I rx ry h
  obtain ⟨i,j,rfl,rfl,hc,q⟩:=h
  obtain ⟨t,rfl⟩:=rx
  obtain ⟨t',rfl⟩:=ry
  exact rule i j t t' s _ _ hc ⟨.int (g i j),H,I.tok _,⟨_,rfl⟩,q⟩
theorem Je {f:Value→Value→Sem Value}{g:Int→Int→Int}
    (rule:∀(i j:Int) (t u:Tok) (s:Shared) (Q:Value→Shared→Prop) (E:Value→Shared→Prop),Q (.int (g i j) s.toks) { s with toks:=s.toks+1 }→wpAny (model X.prog X.w) X.A (f (.int i t) (.int j u)) Q E s) :
    OpR X f (rI0 fun i j=>.int (g i j)):=by
  intro pins s σ H x y v u Q I rx ry h
  obtain ⟨i,j,rfl,rfl,q⟩:=h
  obtain ⟨t,rfl⟩:=rx
  obtain ⟨t',rfl⟩:=ry
  exact rule i j t t' s _ _ ⟨.int (g i j),H,I.tok _,⟨_,rfl⟩,q⟩
theorem GH {f:Value→Value→Sem Value}{g:Int→Int→Bool}
    (rule:∀(i j:Int) (t u:Tok) (s:Shared) (Q:Value→Shared→Prop) (E:Value→Shared→Prop),Q (.bool (g i j)) s→wpAny (model X.prog X.w) X.A (f (.int i t) (.int j u)) Q E s) :
    OpR X f (rI0 fun i j=>.bl (g i j)):=by
  intro pins s σ H x y v u Q I rx ry h
  obtain ⟨i,j,rfl,rfl,q⟩:=h
  obtain ⟨t,rfl⟩:=rx
  obtain ⟨t',rfl⟩:=ry
  exact rule i j t t' s _ _ ⟨.bl (g i j),H,I,rfl,q⟩
def JX (i j:Int):Prop:=0≤j∧j≤1000000∧i.natAbs<2 ^ 64
def Il (i j:Int):Prop:=(-(2 ^ 64)<i∧i<2 ^ 64)∨(-(2 ^ 64)<j∧j<2 ^ 64)
theorem Il.ok {i j:Int} (h:Il i j):IntMulOk i j:=by
  rcases h with ⟨h1,h2⟩ | ⟨h1,h2⟩
  · exact .of_left (intBits_le_64 h1 h2)
  · exact .of_right (intBits_le_64 h1 h2)
theorem i6:OpR X (binaryOp .Add) (rI0 fun i j=>.int (i+j)):=Je fun _ _ _ _ _ _ _ q=>add_int q
theorem jX:OpR X (binaryOp .Sub) (rI0 fun i j=>.int (i - j)):=Je fun _ _ _ _ _ _ _ q=>sub_int q
theorem Hd:OpR X (binaryOp .Mult) (rI Il fun i j=>.int (i*j)):=opI fun _ _ _ _ _ _ _ hc q=>mul_int q hc.ok
theorem jT:OpR X (binaryOp .Mod) (rI (fun _ j=>0<j) fun i j=>.int (i % j)):=opI fun i j _ _ _ _ _ hc q=>by
  have h1:(0:Int)<j:=hc
  exact mod_int' (by omega) (by rw[Int.fmod_eq_emod_of_nonneg i (by omega)];exact q)
theorem zK:OpR X (binaryOp .Pow) (rI JX fun i j=>.int (i ^ j.toNat)):=opI fun _ _ _ _ _ _ _ hc q=>pow_int_small hc.1 hc.2.1 hc.2.2 q
theorem unI {f:Value→Sem Value}{g:Int→Int}
    (rule:∀(i:Int) (t:Tok) (s:Shared) (Q:Value→Shared→Prop) (E:Value→Shared→Prop),Q (.int (g i) s.toks) { s with toks:=s.toks+1 }→wpAny (model X.prog X.w) X.A (f (.int i t)) Q E s) :
    UnR X f (rU fun i=>.int (g i)):=by
  intro pins s σ H x v Q I rx h
  obtain ⟨i,rfl,q⟩:=h
  obtain ⟨t,rfl⟩:=rx
  exact rule i t s _ _ ⟨.int (g i),H,I.tok _,⟨_,rfl⟩,q⟩
theorem Iq:UnR X (unaryOp .USub) (rU fun i=>.int (-i)):=unI fun _ _ _ _ _ q=>neg_int q
end
def bf:V→V→Bool
  | .non,.non=>true | .non,.int _=>true | .int _,.non=>true | .non,.bl _=>true | .bl _,.non=>true | .non,.str _=>true | .str _,.non=>true
  | .int _,.int _=>true | .bl _,.bl _=>true | .str _,.str _=>true | .byt _,.byt _=>true
  | .int _,.str _=>true | .str _,.int _=>true | .bl _,.str _=>true | .str _,.bl _=>true
  | _,_=>false
def rEq:R2:=fun x y H Q=>bf x y=true∧Q (.bl (decide (x=y))) H
def rNe:R2:=fun x y H Q=>bf x y=true∧Q (.bl (!decide (x=y))) H
theorem BG {i j:Int}:decide (V.int i=V.int j)=(i == j):=by
  rw[Bool.eq_iff_iff]
  simp
theorem CJ {i j:Bool}:decide (V.bl i=V.bl j)=(i == j):=by
  rw[Bool.eq_iff_iff]
  simp
theorem A8 {i j:Str}:decide (V.str i=V.str j)=(i == j):=by
  rw[Bool.eq_iff_iff]
  simp
theorem AF {i j:Array UInt8}:decide (V.byt i=V.byt j)=(i.toList == j.toList):=by
  rw[Bool.eq_iff_iff]
  cases i
  cases j
  simp
section
variable {X:Cx}{a b c:Expr}{ta tb tc:TE}{pos:Pos}
theorem ba {pins:List (Addr × Obj)}{σ:St}{H:Hp}{s:Shared}{Q:VK}{k k':Bool} (I:Inv X pins σ H s) (q:Q (.bl k) H) (e:k=k'):EP X pins σ Q (.bool k') s:=by
  subst e
  exact⟨.bl k,H,I,rfl,q⟩
theorem lR:OpR X (compareOp .Eq) rEq:=by
  intro pins s σ H x y v u Q I rx ry h
  obtain ⟨hs,q⟩:=h
  cases x with
  | non =>
    cases rx
    cases y with
    | non=>cases ry;exact PySem.EqNone.eq_none_none (ba I q (by simp))
    | bl j=>cases ry;exact PySem.EqNone.eq_none_bool (ba I q (by simp))
    | int j=>obtain ⟨t',rfl⟩:=ry;exact PySem.EqNone.eq_none_int (ba I q (by simp))
    | str j=>obtain ⟨t',rfl⟩:=ry;exact PySem.EqNone.eq_none_str (ba I q (by simp))
    | _=>exact absurd (show false=true from hs) Bool.false_ne_true
  | bl i =>
    cases rx
    cases y with
    | non=>cases ry;exact PySem.EqNone.eq_bool_none (ba I q (by simp))
    | bl j=>cases ry;exact eq_bool (ba I q CJ)
    | str j=>obtain ⟨t',rfl⟩:=ry;exact PySem.EqMixed.eq_bool_str (ba I q (by simp))
    | _=>exact absurd (show false=true from hs) Bool.false_ne_true
  | int i =>
    obtain ⟨t,rfl⟩:=rx
    cases y with
    | non=>cases ry;exact PySem.EqNone.eq_int_none (ba I q (by simp))
    | int j=>obtain ⟨t',rfl⟩:=ry;exact eq_int (ba I q BG)
    | str j=>obtain ⟨t',rfl⟩:=ry;exact PySem.EqMixed.eq_int_str (ba I q (by simp))
    | _=>exact absurd (show false=true from hs) Bool.false_ne_true
  | str i =>
    obtain ⟨t,rfl⟩:=rx
    cases y with
    | non=>cases ry;exact PySem.EqNone.eq_str_none (ba I q (by simp))
    | bl j=>cases ry;exact PySem.EqMixed.eq_str_bool (ba I q (by simp))
    | int j=>obtain ⟨t',rfl⟩:=ry;exact PySem.EqMixed.eq_str_int (ba I q (by simp))
    | str j=>obtain ⟨t',rfl⟩:=ry;exact eq_str (ba I q A8)
    | _=>exact absurd (show false=true from hs) Bool.false_ne_true
  | byt i =>
    obtain ⟨t,rfl⟩:=rx
    cases y with
    | byt j=>obtain ⟨t',rfl⟩:=ry;exact PySem.W.eq_bytes (ba I q AF)
    | _=>exact absurd (show false=true from hs) Bool.false_ne_true
  | _=>cases y<;>exact absurd (show false=true from hs) Bool.false_ne_true
theorem jF:OpR X (compareOp .NotEq) rNe:=by
  intro pins s σ H x y v u Q I rx ry h
  obtain ⟨hs,q⟩:=h
  cases x with
  | non =>
    cases rx
    cases y with
    | non=>cases ry;exact PySem.EqNone.ne_none_none (ba I q (by simp))
    | bl j=>cases ry;exact PySem.EqNone.ne_none_bool (ba I q (by simp))
    | int j=>obtain ⟨t',rfl⟩:=ry;exact PySem.EqNone.ne_none_int (ba I q (by simp))
    | str j=>obtain ⟨t',rfl⟩:=ry;exact PySem.EqNone.ne_none_str (ba I q (by simp))
    | _=>exact absurd (show false=true from hs) Bool.false_ne_true
  | bl i =>
    cases rx
    cases y with
    | non=>cases ry;exact PySem.EqNone.ne_bool_none (ba I q (by simp))
    | bl j=>cases ry;exact ne_bool (ba I q (congrArg not CJ))
    | str j=>obtain ⟨t',rfl⟩:=ry;exact PySem.EqMixed.ne_bool_str (ba I q (by simp))
    | _=>exact absurd (show false=true from hs) Bool.false_ne_true
  | int i =>
    obtain ⟨t,rfl⟩:=rx
    cases y with
    | non=>cases ry;exact PySem.EqNone.ne_int_none (ba I q (by simp))
    | int j=>obtain ⟨t',rfl⟩:=ry;exact ne_int (ba I q (congrArg not BG))
    | str j=>obtain ⟨t',rfl⟩:=ry;exact PySem.EqMixed.ne_int_str (ba I q (by simp))
    | _=>exact absurd (show false=true from hs) Bool.false_ne_true
  | str i =>
    obtain ⟨t,rfl⟩:=rx
    cases y with
    | non=>cases ry;exact PySem.EqNone.ne_str_none (ba I q (by simp))
    | bl j=>cases ry;exact PySem.EqMixed.ne_str_bool (ba I q (by simp))
    | int j=>obtain ⟨t',rfl⟩:=ry;exact PySem.EqMixed.ne_str_int (ba I q (by simp))
    | str j=>obtain ⟨t',rfl⟩:=ry;exact ne_str (ba I q (congrArg not A8))
    | _=>exact absurd (show false=true from hs) Bool.false_ne_true
  | byt i =>
    obtain ⟨t,rfl⟩:=rx
    cases y with
    | byt j=>obtain ⟨t',rfl⟩:=ry;exact PySem.W.ne_bytes (ba I q (congrArg not AF))
    | _=>exact absurd (show false=true from hs) Bool.false_ne_true
  | _=>cases y<;>exact absurd (show false=true from hs) Bool.false_ne_true
theorem vj:OpR X (compareOp .Lt) (rI0 fun i j=>.bl (decide (i<j))):=GH fun _ _ _ _ _ _ _ q=>lt_int q
theorem zo:OpR X (compareOp .LtE) (rI0 fun i j=>.bl (decide (i≤j))):=GH fun _ _ _ _ _ _ _ q=>le_int q
theorem qQ:OpR X (compareOp .Gt) (rI0 fun i j=>.bl (decide (j<i))):=GH fun _ _ _ _ _ _ _ q=>gt_int q
theorem Ez:OpR X (compareOp .GtE) (rI0 fun i j=>.bl (decide (j≤i))):=GH fun _ _ _ _ _ _ _ q=>ge_int q
theorem Cp:OpR X (compareOp .In) (fun x y H Q=>∃i j,x=.str i∧y=.str j∧Q (.bl (!(Builtin.Str.occurrences j i 0 j.length 1).isEmpty)) H):=by
  intro pins s σ H x y v u Q I rx ry h
  obtain ⟨i,j,rfl,rfl,q⟩:=h
  obtain ⟨t,rfl⟩:=rx
  obtain ⟨t',rfl⟩:=ry
  exact in_str (ba I q rfl)
theorem GQ:OpR X (compareOp .IsNot) (fun x y H Q=>y=.non∧Q (.bl (!decide (x=.non))) H):=by
  intro pins s σ H x y v u Q I rx ry h
  obtain ⟨rfl,q⟩:=h
  cases ry
  refine isnot_none_gen (ba I q ?_)
  cases x<;>first
    | (cases rx;rfl)
    | (obtain ⟨t,rfl⟩:=rx;rfl)
theorem aQ (b:Expr) {op:CmpOp} (h:op≠.In:=by decide) (h2:op≠.NotIn:=by decide):behindInMarks op b=false:=by
  have e1:(op == CmpOp.In)=false:=by cases op<;>first | rfl | exact absurd rfl h
  have e2:(op == CmpOp.NotIn)=false:=by cases op<;>first | rfl | exact absurd rfl h2
  cases b<;>simp [behindInMarks,e1,e2]
theorem hV {op:CmpOp}{r:R2} (ho:OpR X (compareOp op) r) (ha:PE X a ta) (hb:PE X b tb) (hm:behindInMarks op b=false):PE X (.Compare a [op] [b] pos) (tOp r ta tb):=by
  intro pins s σ H Q I h
  exact wpAny_Compare1 (Gd ha hb I h fun v u s2 x y H2 I2 rx ry q=>ho pins s2 σ H2 x y v u Q I2 rx ry q) hm
def Ep (t:TE):TT:=fun σ H Q=>t σ H fun x H'=>∃k,x=.bl k∧Q k H'
theorem aR {op:CmpOp}{r:R2} (ho:OpR X (compareOp op) r) (ha:PE X a ta) (hb:PE X b tb) (hm:behindInMarks op b=false):PT X (.Compare a [op] [b] pos) (Ep (tOp r ta tb)):=by
  intro pins s σ H Q I h
  refine wpAny_isTrue_Compare1 (thn (ha pins s σ H _ I h) fun v s1 ⟨x,H1,I1,r1,q1⟩=>thn (hb pins s1 σ H1 _ I1 q1) fun u s2 ⟨y,H2,I2,r2,q2⟩ =>
    thn (ho pins s2 σ H2 x y v u _ I2 r1 r2 q2) fun c s3 ⟨z,H3,I3,r3,k,e,q3⟩=>?_) hm
  subst e
  cases r3
  exact wpAny_truthy_bool ⟨H3,I3,q3⟩
def zF (r r':R2) (ta tb tc:TE):TE:=fun σ H Q=>ta σ H fun x H1=>tb σ H1 fun y H2=>r x y H2 fun z H3=>∃k,z=.bl k ∧
  (if k=true then tc σ H3 fun w' H4=>r' y w' H4 Q else Q (.bl false) H3)
theorem x4 {op op':CmpOp}{r r':R2} (ho:OpR X (compareOp op) r) (ho':OpR X (compareOp op') r') (ha:PE X a ta) (hb:PE X b tb) (hc:PE X c tc)
    (hm:lastMarks [op,op'] [b,c]=false:=by with_unfolding_all rfl):PE X (.Compare a [op,op'] [b,c] pos) (zF r r' ta tb tc):=by
  intro pins s σ H Q I h
  refine Compare_chain (thn (ha pins s σ H _ I h) fun v s1 ⟨x,H1,I1,r1,q1⟩=>chain_link (thn (hb pins s1 σ H1 _ I1 q1) fun u s2 ⟨y,H2,I2,r2,q2⟩ =>
    thn (ho pins s2 σ H2 x y v u _ I2 r1 r2 q2) fun d s3 ⟨z,H3,I3,r3,k,e,q3⟩=>?_)) hm
  subst e
  cases r3
  refine wpAny_truthy_bool ?_
  cases k with
  | false=>exact ite_ff ⟨.bl false,H3,I3,rfl,q3⟩
  | true=>exact ite_tt (chain_last (thn (hc pins s3 σ H3 _ I3 q3) fun w' s4 ⟨z',H4,I4,r4,q4⟩=>ho' pins s4 σ H4 y z' u w' Q I4 r2 r4 q4))
theorem Fm {op op':CmpOp}{r r':R2} (ho:OpR X (compareOp op) r) (ho':OpR X (compareOp op') r') (ha:PE X a ta) (hb:PE X b tb) (hc:PE X c tc)
    (hm:lastMarks [op,op'] [b,c]=false:=by with_unfolding_all rfl):PT X (.Compare a [op,op'] [b,c] pos) (Ep (zF r r' ta tb tc)):=by
  intro pins s σ H Q I h
  refine isTrue_chain (thn (ha pins s σ H _ I h) fun v s1 ⟨x,H1,I1,r1,q1⟩=>test_link (thn (hb pins s1 σ H1 _ I1 q1) fun u s2 ⟨y,H2,I2,r2,q2⟩ =>
    thn (ho pins s2 σ H2 x y v u _ I2 r1 r2 q2) fun d s3 ⟨z,H3,I3,r3,k,e,q3⟩=>?_)) hm
  subst e
  cases r3
  refine wpAny_truthy_bool ?_
  cases k with
  | false =>
    obtain ⟨k',e',q'⟩:=q3
    cases e'
    exact ite_ff ⟨H3,I3,q'⟩
  | true =>
    refine ite_tt (test_last (thn (hc pins s3 σ H3 _ I3 q3) fun w' s4 ⟨z',H4,I4,r4,q4⟩=>thn (ho' pins s4 σ H4 y z' u w' _ I4 r2 r4 q4) fun d' s5 ⟨z2,H5,I5,r5,k2,e2,q5⟩=>?_))
    subst e2
    cases r5
    exact wpAny_truthy_bool ⟨H5,I5,q5⟩
theorem r8:(sizeLine:Nat)<2 ^ 63:=by rw[sizeLine_eq];decide
theorem eD:OpR X (binaryOp .Add) (fun x y H Q=>∃i j,x=.str i∧y=.str j∧i.length+j.length≤sizeLine∧Q (.str (i++j)) H):=by
  intro pins s σ H x y v u Q I rx ry h
  obtain ⟨i,j,rfl,rfl,hz,q⟩:=h
  obtain ⟨t,rfl⟩:=rx
  obtain ⟨t',rfl⟩:=ry
  exact add_str (fun t' tk=>⟨.str (i++j),H,I.tok _,⟨_,rfl⟩,q⟩) hz
def DW (b:Expr):Prop:=∀o i,subscripted b false o i=operate [o,i] (getItem o i)
theorem ze (ha:PE X a ta) (hb:PE X b tb) (hs:DW b) :
    PE X (.Subscript a b pos) (tOp (fun x y H Q=>∃z i c,x=.str z∧y=.int i∧0≤i∧i<2 ^ 63∧i<z.length∧z.cps[i.toNat]?=some c∧Q (.str ⟨#[c]⟩) H) ta tb):=by
  intro pins s σ H Q I h
  refine Subscript_ (Gd ha hb I h fun v u s2 x y H2 I2 rx ry q=>?_)
  obtain ⟨z,i,c,rfl,rfl,h0,h63,h1,hc,q⟩:=q
  obtain ⟨t,rfl⟩:=rx
  obtain ⟨t',rfl⟩:=ry
  have e:seqIndex? i z.length=some i.toNat:=PySem.StrLaws.seqIndex_nonneg h0 h1
  exact tail_any (typeIs_str s2 z t) slot_str_getitem.lookup (getItem_str (c:=c) (by
    have e1:decide (i < -(2 ^ 63:Int))=false:=decide_eq_false (by omega)
    have e2:decide (i≥2 ^ 63)=false:=decide_eq_false (by omega)
    rw[e1,e2]<;>rfl) (by rw[e];exact hc) ⟨.str ⟨#[c]⟩,H2,I2.tok _,⟨_,rfl⟩,q⟩) (hs _ _)
theorem vals1 {x:V}{us:List Value} (r:Vals [x] us):∃u,us=[u]∧RelV x u:=by
  cases r with
  | cons r1 r2=>cases r2;exact⟨_,rfl,r1⟩
theorem vals2 {x y:V}{us:List Value} (r:Vals [x,y] us):∃u w',us=[u,w']∧RelV x u∧RelV y w':=by
  cases r with
  | cons r1 r2 =>
    cases r2 with
    | cons r3 r4=>cases r4;exact⟨_,_,rfl,r1,r3⟩
theorem oN:fR X (.builtin "abs") (fun xs H Q=>∃i,xs=[.int i]∧Q (.int (if i<0 then -i else i)) H):=by
  intro pins s σ H xs us Q I r h
  obtain ⟨i,rfl,q⟩:=h
  obtain ⟨u,rfl,t,rfl⟩:=vals1 r
  exact call_abs_int fun u tk=>⟨.int (if i<0 then -i else i),H,I.tok _,⟨_,rfl⟩,q⟩
theorem CF (hc:X.calm=true):fR X (.builtin "max") (fun xs H Q=>∃i j,xs=[.int i,.int j]∧Q (.int (if j>i then j else i)) H):=by
  intro pins s σ H xs us Q I r h
  obtain ⟨i,j,rfl,q⟩:=h
  obtain ⟨u,w',rfl,⟨t,rfl⟩,⟨t',rfl⟩⟩:=vals2 r
  refine max_two_ints (I.ok.hd hc) fun h' tk k=>⟨_,H,I.kept k,?_,q⟩
  by_cases hj:j>i
  · rw[if_pos hj,if_pos hj];exact⟨_,rfl⟩
  · rw[if_neg hj,if_neg hj];exact⟨_,rfl⟩
theorem Cc (hc:X.calm=true):fR X (.builtin "min") (fun xs H Q=>∃i j,xs=[.int i,.int j]∧Q (.int (if j<i then j else i)) H):=by
  intro pins s σ H xs us Q I r h
  obtain ⟨i,j,rfl,q⟩:=h
  obtain ⟨u,w',rfl,⟨t,rfl⟩,⟨t',rfl⟩⟩:=vals2 r
  refine min_two_ints (I.ok.hd hc) fun h' tk k=>⟨_,H,I.kept k,?_,q⟩
  by_cases hj:j<i
  · rw[if_pos hj,if_pos hj];exact⟨_,rfl⟩
  · rw[if_neg hj,if_neg hj];exact⟨_,rfl⟩
theorem vG:fR X (.type "int") (fun xs H Q=>(∃i,xs=[.int i]∧Q (.int i) H)∨∃k,xs=[.bl k]∧Q (.int (if k then 1 else 0)) H):=by
  intro pins s σ H xs us Q I r h
  rcases h with ⟨i,rfl,q⟩ | ⟨k,rfl,q⟩
  · obtain ⟨u,rfl,t,rfl⟩:=vals1 r
    exact call_int_int ⟨.int i,H,I,⟨_,rfl⟩,q⟩
  · obtain ⟨u,rfl,r1⟩:=vals1 r
    cases r1
    exact call_int_bool ⟨.int (if k then 1 else 0),H,I.tok _,⟨_,rfl⟩,q⟩
theorem jt:fR X (.type "str") (fun xs H Q=>∃i,xs=[.int i]∧i.natAbs.log2<1920∧Q (.str (toString i)) H):=by
  intro pins s σ H xs us Q I r h
  obtain ⟨i,rfl,hz,q⟩:=h
  obtain ⟨u,rfl,t,rfl⟩:=vals1 r
  exact PySem.P.str_of_int hz ⟨.str _,H,I.tok _,⟨_,rfl⟩,q⟩
end
end L2
namespace L2
open PySem PySem.Spec PyProof.Rows
structure Iu (h:Heap) (x dx C:Addr) (mA:Str→Option Value):Prop where
  obj:h.get? x=some (PySem.W.instObj C dx)
  ns:h.Ns1 dx mA
  ne:dx≠x
theorem BP {h:Heap}{dx:Addr}{mA:Str→Option Value} (n:h.Ns1 dx mA):∃od,h.get? dx=some od∧∀name,PySem.W.lookIn name od=some (mA name):=by
  obtain ⟨o,es,ep,ho,hd,hk,_,hm⟩:=n
  refine⟨o,ho,fun name=>?_⟩
  have e:=hm name
  unfold nsFind findBy at e
  rw[← Array.find?_toList] at e
  unfold PySem.W.lookIn
  rw[hd]
  dsimp only
  split
  · rename_i y q
    rw[q] at e
    exact congrArg some e
  · rename_i q
    rw[q] at e
    have a:es.toList.any (·.refKey)=false:=by
      rw[List.any_eq_false]
      intro y hy
      obtain ⟨z,t,hkey⟩:=hk y (Array.mem_toList_iff.mp hy)
      simp [DictEntry.refKey,hkey]
    have a':¬ es.toList.any (·.refKey)=true:=by rw[a];exact Bool.false_ne_true
    rw[if_neg a']
    exact congrArg some e
theorem Iu.look {h:Heap}{x dx C:Addr}{mA:Str→Option Value} (I:Iu h x dx C mA):∃od,PySem.W.InstAt h x (PySem.W.instObj C dx) C (some od)∧∀name,PySem.W.lookIn name od=some (mA name) :=
  let ⟨od,ho,hl⟩:=BP I.ns
  ⟨od,⟨I.obj,rfl,rfl,ho⟩,hl⟩
section
variable {prog:Program}{w:World}{A:Around}{E:Value→Shared→Prop}{s:Shared}{K:PySem.W.Frag}{x dx C f:Addr}{mA:Str→Option Value}{name:Str}{v:Value}
end
section
variable {P:Program}{w:World}{H H':Hp}{h h':Heap}{a C dx:Addr}{fs fs':List (Str × V)}
theorem FP (hok:HOk P w H h) (e:H a=some (.ins C dx fs)):∃mA,Iu h a dx C mA∧(∀f,HL (fs.lookup f) (mA f))∧PySem.Within mA (fs.map (·.1))∧fs.length≤1000∧H dx=some (.own a):=by
  obtain ⟨d,z,ne,ob,mA,n,r,q⟩:=(show eX P w H h a (.ins C dx fs) from hok a _ e)
  exact⟨mA,⟨ob,n,ne⟩,r,q,z,d⟩
end
structure Cls (K:PySem.W.Frag) (C:Addr):Prop where
  pg:PySem.W.plainGet K C Str.empty=true
  hd:PySem.W.hasDictIn K C=true
  po:PySem.W.plainOver K C=true
  sa:PySem.W.findIn K (.ref C) "__setattr__" = some (some (.builtin "object.__setattr__"))
theorem Cls.get {K:PySem.W.Frag}{C:Addr} (c:Cls K C) (f:Str):PySem.W.plainGet K C f=true:=c.pg
section
variable {X:Cx}{pins:List (Addr × Obj)}{σ:St}{H:Hp}{s:Shared}{a C dx:Addr}{fs:List (Str × V)}{f:Str}{v:V}{A:Around}{E:Value→Shared→Prop}
end
section
variable {X:Cx}{o e value:Expr}{f:Str}{pos pos' tpos:Pos}{ta tv:TE}
end
section
variable {X:Cx}{pins:List (Addr × Obj)}{σ:St}{H:Hp}{s:Shared}{A:Around}{E:Value→Shared→Prop}{Q:Value→Shared→Prop}{c:Value}{b:Bool}
inductive nq (K:PySem.W.Frag) (H:Hp):V→Value→Prop where
  | non:nq K H .non (.type "NoneType")
  | bl (x:Bool):nq K H (.bl x) (.type "bool")
  | int (i:Int):nq K H (.int i) (.type "int")
  | str (x:Str):nq K H (.str x) (.type "str")
  | flt (x:UInt64):nq K H (.flt x) (.type "float")
  | lst {a:Addr}{xs:List V} (e:H a=some (.lst xs)):nq K H (.ref a) (.type "list")
  | frz {a:Addr}{o:Obj}{xs:List V} (e:H a=some (.frz o (.lst xs))):nq K H (.ref a) (.type "list")
  | tup {a:Addr}{xs:List V} (e:H a=some (.tup xs)):nq K H (.ref a) (.type "tuple")
  | dK {a:Addr}{kvs:List (Key × V)} (e:H a=some (.dK kvs)):nq K H (.ref a) (.type "dict")
  | dT {a:Addr}{kvs:List (List Key × V)} (e:H a=some (.dT kvs)):nq K H (.ref a) (.type "dict")
  | ins {a C dx:Addr}{fs:List (Str × V)} (e:H a=some (.ins C dx fs)) (cl:Cls K C) (ha:PySem.W.findIn K (.ref C) "__class__" = some (some (.builtin "object.__class__")))
      (hn:PySem.W.specialIn K (.builtin "object.__class__") "__get__" = some (some (.builtin "getset_descriptor.__get__"))) (htk:PySem.W.takesIn K (.builtin "object.__class__")=some true)
      (hm:PySem.W.mroIn K C (.type "object")=some true):nq K H (.ref a) (.ref C)
theorem CB {x:V}{u t:Value} (I:Inv X pins σ H s) (rx:RelV x u) (ty:nq X.K H x t) (e:PySem.W.kitOne X.K t c=some b) (h:∀tk,Q (.bool b) { s with toks:=tk }) :
    wpAny (model X.prog X.w) A (call (.builtin "isinstance") [u,c]) Q E s:=by
  cases ty with
  | non=>cases (show u=Value.none from rx);exact PySem.W.kia_one PySem.W.kitx_none I.kIn True.intro e (fun z=>nomatch z) h
  | bl y=>cases (show u=Value.bool y from rx);exact PySem.W.kia_one PySem.W.kitx_bool I.kIn True.intro e (fun z=>nomatch z) h
  | int i=>obtain ⟨t,q⟩:=(show ∃t,u=Value.int i t from rx);cases q;exact PySem.W.kia_one PySem.W.kitx_int I.kIn True.intro e (fun z=>nomatch z) h
  | str y=>obtain ⟨t,q⟩:=(show ∃t,u=Value.str y t from rx);cases q;exact PySem.W.kia_one PySem.W.kitx_str I.kIn True.intro e (fun z=>nomatch z) h
  | flt y=>obtain ⟨t,q⟩:=(show ∃t,u=Value.float y t from rx);cases q;exact PySem.W.kia_one PySem.W.kitx_float I.kIn True.intro e (fun z=>nomatch z) h
  | @lst a xs ea =>
    cases (show u=Value.ref a from rx)
    obtain ⟨_,_,n,_,h1⟩:=(show eX X.prog X.w H s.heap a (.lst xs) from I.hok a _ ea)
    exact PySem.W.kia_one PySem.W.kitx_list I.kIn ⟨_,h1,rfl⟩ e (fun z=>nomatch z) h
  | @frz a ob xs ea =>
    cases (show u=Value.ref a from rx)
    obtain ⟨_,_,_,n,_,h1⟩:=(show eX X.prog X.w H s.heap a (.frz ob (.lst xs)) from I.hok a _ ea)
    exact PySem.W.kia_one PySem.W.kitx_list I.kIn ⟨_,h1,rfl⟩ e (fun z=>nomatch z) h
  | @tup a xs ea =>
    cases (show u=Value.ref a from rx)
    obtain ⟨_,_,_,p⟩:=(show eX X.prog X.w H s.heap a (.tup xs) from I.hok a _ ea)
    obtain ⟨o,h1,h2,_⟩:=p
    exact PySem.W.kia_one PySem.W.kitx_tuple I.kIn ⟨o,h1,h2⟩ e (fun z=>nomatch z) h
  | @dK a kvs ea =>
    cases (show u=Value.ref a from rx)
    obtain ⟨_,_,vs,_,p⟩:=(show eX X.prog X.w H s.heap a (.dK kvs) from I.hok a _ ea)
    obtain ⟨o,es,ep,h1,h2,_⟩:=p
    exact PySem.W.kia_one PySem.W.kitx_dict I.kIn ⟨o,h1,h2.1⟩ e (fun z=>nomatch z) h
  | @dT a kvs ea =>
    cases (show u=Value.ref a from rx)
    obtain ⟨_,_,xs,_,o,es,ep,h1,h2,_⟩:=(show eX X.prog X.w H s.heap a (.dT kvs) from I.hok a _ ea)
    exact PySem.W.kia_one PySem.W.kitx_dict I.kIn ⟨o,h1,h2.1⟩ e (fun z=>nomatch z) h
  | @ins a C dx fs ea cl ha hn htk hm =>
    cases (show u=Value.ref a from rx)
    obtain ⟨mA,O,_⟩:=FP I.hok ea
    obtain ⟨od,J,_⟩:=O.look
    exact PySem.W.kia_one (PySem.W.kitx_own (cl.get _) cl.hd ha hn htk hm) I.kIn J e (fun z=>nomatch z) h
end
end L2
namespace L2
open PySem PySem.Spec PyProof.Rows
structure jL (k:Nat) (A:Around):Prop where
  hd:A.handled=none
  dp:A.depth+3*k+5<recursionLimit
  un:A.units+16*k+200<cLine
theorem jL.mono {j k:Nat}{A:Around} (r:jL k A) (h:j≤k):jL j A:=⟨r.hd,by have:=r.dp;omega,by have:=r.un;omega⟩
theorem jL.deeper {k:Nat}{A:Around} (r:jL (k+1) A) (env:Env):jL k (A.deeper env) :=
  ⟨r.hd,by have:=r.dp;show A.depth+1+3*k+5<_;omega,by have:=r.un;show A.units+3+16*k+200<_;omega⟩
theorem jL.depth {k:Nat}{A:Around} (r:jL k A):A.depth<recursionLimit:=by have:=r.dp;omega
theorem jL.units {k:Nat}{A:Around} (r:jL k A):A.units+64<cLine:=by have:=r.un;omega
def nO:TA:=fun _ H Q=>Q [] H
def fX (ta:TE) (tr:TA):TA:=fun σ H Q=>ta σ H fun x H1=>tr σ H1 fun xs H2=>Q (x::xs) H2
section
variable {X:Cx}{e:Expr}{es:List Expr}{te:TE}{t:TA}{pos:Pos}
theorem ak:PA X [] nO:=fun _ _ _ _ H Q I h=>Calls.spliced_nil ⟨[],H,I,.nil,h⟩
theorem af (ha:PE X e te) (hr:PA X es t) (hs:starEach (e::es) X.env=(false,eval e X.env)::starEach es X.env:=by rfl):PA X (e::es) (fX te t):=by
  intro pos pins s σ H Q I h
  rw[hs]
  show wpAny _ _ (spliced ((false,eval e X.env)::backTo pos (starEach es X.env))) _ _ s
  refine Calls.spliced_cons (thn (ha pins s σ H _ I h) fun u s1 ⟨x,H1,I1,r1,q1⟩=>?_)
  exact thn (hr pos pins s1 σ H1 _ I1 q1) fun us s2 ⟨xs,H2,I2,r2,q2⟩=>⟨x::xs,H2,I2,.cons r1 r2,q2⟩
def HU (t:TA):TE:=fun σ H Q=>t σ H fun xs H1=>xs.length≤sizeLine∧∀p,H1 p=none→Q (.ref p) (upd H1 p (.tup xs))
def JI (t:TA):TE:=fun σ H Q=>t σ H fun xs H1=>xs.length≤sizeLine∧∀p,H1 p=none→Q (.ref p) (upd H1 p (.lst xs))
theorem iY {x1} (h:PA X es t):PE X (.Tuple es x1 pos) (HU t):=by
  intro pins s σ H Q I hq
  refine wpAny_Tuple_spliced (thn (h pos pins s σ H _ I hq) fun us s1 ⟨xs,H1,I1,r,z,q⟩=>⟨by rw[← r.length];exact z,?_⟩)
  have hf:H1 s1.heap.objs.size=none:=I1.hok.fresh (Nat.le_refl _)
  refine⟨.ref s1.heap.objs.size,upd H1 s1.heap.objs.size (.tup xs),I1.laid (t':=s1.toks) (fun b u e=>Heap.get?_push_of_some _ e) (Nat.le_refl _) ?_,rfl,q _ hf⟩
  exact⟨z,us,r,⟨_,Heap.get?_push_size _ rfl,rfl,_,rfl⟩⟩
theorem m4 (h:PA X es t):PE X (.List es pos) (JI t):=by
  intro pins s σ H Q I hq
  refine wpAny_List_spliced (thn (h pos pins s σ H _ I hq) fun us s1 ⟨xs,H1,I1,r,z,q⟩=>⟨by rw[← r.length];exact z,?_⟩)
  have hf:H1 s1.heap.objs.size=none:=I1.hok.fresh (Nat.le_refl _)
  refine⟨.ref s1.heap.objs.size,upd H1 s1.heap.objs.size (.lst xs),I1.laid (t':=s1.toks) (fun b u e=>Heap.get?_push_of_some _ e) (Nat.le_refl _) ?_,rfl,q _ hf⟩
  exact⟨z,us,0,r,Heap.get?_push_size _ rfl⟩
end
abbrev Sp:=List V→Hp→VK→XK→Prop
abbrev CXT:=List Env→Hp→Shared→XK→Value→Shared→Prop
structure GP (P:Program) (w:World) (K:PySem.W.Frag) (mg:Str→Option Value) (base:Heap) (A:Around) (outer:List Env) (s:Shared) (H:Hp):Prop where
  frames:A.frames=some outer
  mod:Mod K mg base
  bs:∀b o,base.get? b=some o→s.heap.get? b=some o∧H b=none
  bsz:base.objs.size≤s.heap.objs.size
  qr:s.heap.FunFrames base outer
  frf:∀b∈frs outer,H b=none
  hok:HOk P w H s.heap
  bare:AllBare s.gens
def CE (outer:List Env) (P:Program) (w:World) (H:Hp) (s:Shared) (Q:VK) (u:Value) (s':Shared):Prop :=
  ∃v H',s'.os=s.os∧AllBare s'.gens∧Un (frs outer) [] H H' s.heap s'.heap∧HOk P w H' s'.heap∧RelV v u∧Q v H'
def CR (CX:CXT) (outer:List Env) (P:Program) (w:World) (H:Hp) (s:Shared) (Q:VK) (E:XK) (r:Result) (s':Shared):Prop :=
  match r with
  | .ok (.ret u)=>CE outer P w H s Q u s'
  | .ok _=>False
  | .error e=>CX outer H s E e s'
structure bE (P:Program) (w:World) (K:PySem.W.Frag) (mg:Str→Option Value) (base:Heap) (CX:CXT) (k:Nat) (f:Addr) (fd:FuncData) (ps:List Str) (sp:Sp):Prop where
  len:∀vs H Q E,sp vs H Q E→vs.length=ps.length
  run:∀(A:Around) (outer:List Env) (s:Shared) (H:Hp) (args:Args) (us:List Value) (vs:List V) (Q:VK) (E:XK),jL k A→GP P w K mg base A outer s H→BindsTo s fd args (ps.zip us)→Vals vs us→sp vs H Q E →
    codeAny (model P w) A (.call (.ref f) args) (CR CX outer P w H s Q E) s
section
variable {X:Cx}{pins:List (Addr × Obj)}{σ:St}{H:Hp}{s s':Shared}
theorem Inv.zL (I:Inv X pins σ H s):GP X.prog X.w X.K X.mg X.base X.A X.stack s H :=
  ⟨I.ok.frames,I.ok.mod,I.bs,Nat.le_trans I.ok.bsz I.sz,I.stack,I.rM,I.hok,I.bare⟩
theorem Inv.after {Q:VK}{u:Value} (I:Inv X pins σ H s) (h:CE X.stack X.prog X.w H s Q u s'):EP X pins σ Q u s':=by
  obtain ⟨v,H',os,bare,un,hok,r,q⟩:=h
  obtain ⟨hh,g,d,t,os'⟩:=s'
  obtain rfl:os'=s.os:=os
  exact⟨v,H',I.call (h':=hh) (g':=g) (d':=d) (t':=t) (ch:=[]) un hok bare (fun b z=>absurd z (by simp)),r,q⟩
end
def qL (sp:Sp) (dvs:List V) (E:XK) (t:TA):TE:=fun σ H Q=>t σ H fun vs H1=>sp (vs++dvs) H1 Q E
def Binds (K:PySem.W.Frag) (fd:FuncData) (ps:List Str) (ds:List Value):Prop :=
  ∀(s:Shared) (us:List Value),K.In s.heap→(us++ds).length=ps.length→BindsTo s fd ⟨us,[]⟩ (ps.zip (us++ds))
theorem Binds.all {K:PySem.W.Frag}{fd:FuncData}{ps:List Str} (h:∀us:List Value,us.length=ps.length→bindArgs fd ⟨us,[]⟩=pure (ps.zip us)):Binds K fd ps []:=fun s us _ hl=>by
  rw[List.append_nil] at hl ⊢
  exact .of_eq (h us hl)
def Passes (CX:CXT) (X:Cx) (E:XK):Prop:=∀(pins:List (Addr × Obj)) (σ:St) (H:Hp) (s:Shared) (e:Value) (s':Shared),Inv X pins σ H s→CX X.stack H s E e s'→X.xe e s'
section
variable {X:Cx}{CX:CXT}{k:Nat}{f C:Addr}{fd:FuncData}{ps:List Str}{sp:Sp}{dvs:List V}{ds:List Value}{E:XK}{x m:Str}{p pos apos:Pos}{e o:Expr}{es:List Expr}{ta:TE}{t:TA}
theorem IH {pins:List (Addr × Obj)}{σ:St}{H:Hp}{s:Shared}{Q:VK}{us:List Value}{vs:List V} (F:bE X.prog X.w X.K X.mg X.base CX k f fd ps sp) (hr:jL k X.A) (hb:Binds X.K fd ps ds) (hd:Vals dvs ds) (hx:Passes CX X E)
    (I:Inv X pins σ H s) (r:Vals vs us) (h:sp (vs++dvs) H Q E):wpAny (model X.prog X.w) X.A (call (.ref f) us) (EP X pins σ Q) X.xe s:=by
  have r2:Vals (vs++dvs) (us++ds):=r.append hd
  have hl:(us++ds).length=ps.length:=by rw[← r2.length];exact F.len _ _ _ _ h
  refine wpAny_call (codeAny_mono (F.run X.A X.stack s H ⟨us,[]⟩ (us++ds) (vs++dvs) Q E hr I.zL (hb s us I.kIn hl) r2 h) fun r s' hq=>?_)
  cases r with
  | error e=>exact hx pins σ H s e s' I hq
  | ok fl =>
    cases fl with
    | ret u=>exact I.after hq
    | next=>exact False.elim hq
    | brk=>exact False.elim hq
    | cont=>exact False.elim hq
theorem eY (F:bE X.prog X.w X.K X.mg X.base CX k f fd ps sp) (hr:jL k X.A) (hg:Gl X x) (hm:X.mg x=some (.ref f)) (hk:PySem.W.keepIn X.K (.ref f)=true) (hb:Binds X.K fd ps ds) (hd:Vals dvs ds) (hx:Passes CX X E)
    (ha:PA X (e::es) t) (hdb:(x == ("__debug__" : Str))=false:=by decide) (he:starEach (e::es) X.env=(false,eval e X.env)::starEach es X.env:=by rfl) (hpl:(backTo pos (starEach es X.env)).any (·.1)=false:=by rfl) :
    PE X (.Call (.Name x p) (e::es) [] pos) (qL sp dvs E t):=by
  intro pins s σ H Q I h
  refine wpAny_Call_Name_kw (pE I hg hm ?_ hdb)
  refine PySem.W.callWith_K (h₀:=X.base) I.ok.mod.kin hk (thn (ha pos pins s σ H _ I h) fun us s1 ⟨vs,H1,I1,r,q⟩=>⟨I1.kIn,?_⟩) he hpl
  exact IH F hr hb hd hx I1 r q
end
def PK (X:Cx) (kws:List Keyword) (t:TA):Prop :=
  ∀(pos:Pos) (pins:List (Addr × Obj)) (s:Shared) (σ:St) (H:Hp) (Q:List V→Hp→Prop),Inv X pins σ H s→t σ H Q→wpAny (model X.prog X.w) X.A (evalAll ((backToKw pos (keywordEach kws X.env)).map (·.2))) (AP X pins σ Q) X.xe s
section
variable {X:Cx}{CX:CXT}{k:Nat}{f C:Addr}{fd:FuncData}{ps ks:List Str}{sp:Sp}{E:XK}{x m:Str}{p pos apos kpos:Pos}{e o:Expr}{es:List Expr}{kws:List Keyword}{te ta:TE}{t tk:TA}{nm:Option Str}
theorem CV:PK X [] nO:=fun _ _ _ _ H Q I h=>wpAny_evalAll_nil ⟨[],H,I,.nil,h⟩
theorem AY (ha:PE X e te) (hr:PK X kws t):PK X (⟨nm,e,kpos⟩::kws) (fX te t):=by
  intro pos pins s σ H Q I h
  show wpAny _ _ (evalAll ((do let v ← eval e X.env;standAt pos;pure v)::(backToKw pos (keywordEach kws X.env)).map (·.2))) _ _ s
  refine wpAny_evalAll_cons (wpAny_bind (thn (ha pins s σ H _ I h) fun u s1 ⟨x,H1,I1,r1,q1⟩=>wpAny_bind (wpAny_standAt (wpAny_pure ?_))))
  exact thn (hr pos pins s1 σ H1 _ I1 q1) fun us s2 ⟨xs,H2,I2,r2,q2⟩=>⟨x::xs,H2,I2,.cons r1 r2,q2⟩
variable {g:List Value→List Value→List Value}{gV:List V→List V→List V}
end
structure az (N P:List Str) (sc:Scope):Prop where
  kind:sc.kind=.function
  co:sc.isCoroutine=false
  gen:sc.isGenerator=false
  nd:N.Nodup
  pre:N.take P.length=P
  par:∀x∈P,sc.names.lookup x=some .local∨sc.names.lookup x=some .cell
  nofree:∀y∈sc.names,y.2≠.free
theorem vY {kindOf:Str→Option NameKind}{x:Str}:∀{binds:List (Str × Value)}{m:Str→Option Value},(∀v,(x,v)∉binds)→bindL kindOf binds m x=m x
  | [],_,_=>rfl
  | (n,v)::r,m,h=>by
    unfold bindL
    rw[vY fun w hw=>h w (List.mem_cons_of_mem _ hw)]
    split
    · have:x≠n:=by rintro rfl;exact h v List.mem_cons_self
      simp [this]
    · rfl
theorem vd {kindOf:Str→Option NameKind}{x:Str}:∀{binds:List (Str × Value)}{m:Str→Option Value},(∀v,(x,v)∉binds)→bindC kindOf binds m x=m x
  | [],_,_=>rfl
  | (n,v)::r,m,h=>by
    unfold bindC
    rw[vd fun w hw=>h w (List.mem_cons_of_mem _ hw)]
    split
    · rfl
    · have:x≠n:=by rintro rfl;exact h v List.mem_cons_self
      simp [this]
theorem u7 {kindOf:Str→Option NameKind}{x:Str}{v:Value}:∀{P:List Str}{vs:List Value}{i:Nat}{m:Str→Option Value},P.Nodup→P[i]?=some x→vs[i]?=some v→kindOf x=some .local →
    bindL kindOf (P.zip vs) m x=some v
  | [],_,_,_,_,h,_,_=>by simp at h
  | _::_,[],_,_,_,_,h,_=>by simp at h
  | p::P,w::vs,0,m,nd,h1,h2,hk=>by
    simp at h1 h2;subst h1;subst h2
    show bindL kindOf ((p,w)::P.zip vs) m p=_
    unfold bindL
    rw[vY fun v hv=>(List.nodup_cons.mp nd).1 (List.of_mem_zip hv).1,if_pos hk]
    simp
  | p::P,w::vs,i+1,m,nd,h1,h2,hk=>by
    show bindL kindOf ((p,w)::P.zip vs) m x=_
    unfold bindL
    exact u7 (i:=i) (List.nodup_cons.mp nd).2 (by simpa using h1) (by simpa using h2) hk
theorem vh {kindOf:Str→Option NameKind}{x:Str}{v:Value}:∀{P:List Str}{vs:List Value}{i:Nat}{m:Str→Option Value},P.Nodup→P[i]?=some x→vs[i]?=some v→kindOf x≠some .local →
    bindC kindOf (P.zip vs) m x=some v
  | [],_,_,_,_,h,_,_=>by simp at h
  | _::_,[],_,_,_,_,h,_=>by simp at h
  | p::P,w::vs,0,m,nd,h1,h2,hk=>by
    simp at h1 h2;subst h1;subst h2
    show bindC kindOf ((p,w)::P.zip vs) m p=_
    unfold bindC
    rw[vd fun v hv=>(List.nodup_cons.mp nd).1 (List.of_mem_zip hv).1,if_neg hk]
    simp
  | p::P,w::vs,i+1,m,nd,h1,h2,hk=>by
    show bindC kindOf ((p,w)::P.zip vs) m x=_
    unfold bindC
    exact vh (i:=i) (List.nodup_cons.mp nd).2 (by simpa using h1) (by simpa using h2) hk
def start (N:List Str) (vs:List V):St:=vs.map some++List.replicate (N.length - vs.length) none
def oj (CX:CXT) (P:Program) (w:World) (K:PySem.W.Frag) (mg:Str→Option Value) (base:Heap) (N:List Str) (qual:Str) (scope:Scope) (f:Addr) (cd:Value) (A:Around) (outer:List Env) (s:Shared) (H:Hp) (E:XK):Cx where
  prog:=P
  w:=w
  K:=K
  mg:=mg
  base:=base
  A:=A.deeper (envOfC qual scope s.heap.objs.size f cd)
  N:=N
  s₀:=s
  H₀:=H
  env:=envOfC qual scope s.heap.objs.size f cd
  outer:=outer
  stack:=envOfC qual scope s.heap.objs.size f cd::outer
  ex:=[]
  calm:=true
  fn:=fun _=>true
  pn:=[]
  xe:=fun e s'=>wpAny (model P w) (A.deeper (envOfC qual scope s.heap.objs.size f cd)) (leaving (envOfC qual scope s.heap.objs.size f cd) e) (fun _ s''=>CX outer H s E e s'') (fun e' s''=>CX outer H s E e' s'') s'
theorem zb {sc:Scope}{n:Nat}{x:Str} (h:sc.names.lookup x=some .cell):∃c,(cellsFrom n sc.names []).lookup x=some c:=by
  have q:=PySem.W.cellsFrom_some sc.names n [] (.inl h)
  exact Option.isSome_iff_exists.mp q
theorem CD {CX:CXT}{P:Program}{w:World}{K:PySem.W.Frag}{mg:Str→Option Value}{base:Heap}{N ps:List Str}{qual:Str}{scope:Scope}{f:Addr}{cd:Value}{A:Around}{outer:List Env}{s s1:Shared}{H:Hp}{E:XK}{us:List Value}{vs:List V}
    (S:az N ps scope) (hd:A.handled=none) (e0:GP P w K mg base A outer s H) (hl:vs.length=ps.length) (r:Vals vs us)
    (x:InCallC s s.heap.objs.size (bindL (envOfC qual scope s.heap.objs.size f cd).kindOf (ps.zip us) fun _=>none) (cellsFrom (s.heap.objs.size+1) scope.names []) (bindC (envOfC qual scope s.heap.objs.size f cd).kindOf (ps.zip us) fun _=>none) s1) :
    Inv (oj CX P w K mg base N qual scope f cd A outer s H E) [] (start N vs) H s1:=by
  have hpl:ps.length≤N.length:=by have:=congrArg List.length S.pre;rw[List.length_take] at this;omega
  obtain ⟨h1,tk,rfl,hk⟩:=x.done
  have noA:∀b:Addr,b∉(oj CX P w K mg base N qual scope f cd A outer s H E).ex:=fun b z=>absurd (show b∈([]:List Addr) from z) (by simp)
  refine⟨⟨e0.mod,S.kind,rfl,rfl,Nat.le_refl _,fun y z c h1 h2=>?_,fun y hy=>?_,fun y c _ h=>?_,fun _=>hd,Around.frames_deeper e0.frames,.inr ⟨rfl,rfl⟩,fun b z=>absurd z (noA b),e0.bs,e0.bsz,fun b _ _=>noA b,fun b z=>absurd z (noA b),e0.qr,e0.frf⟩,
    rfl,e0.bare,Un.kept hk,⟨_,x.toInCall.ns,fun i y v h1 h2 h3=>?_⟩,fun y c h=>⟨_,x.cell y c h⟩,e0.hok.fresh (Nat.le_refl _),fun y c h=>?_,fun p hp=>absurd (show p∈([]:List (Addr × Obj)) from hp) (by simp),e0.hok.kept hk,?_⟩
  · exact name_of_addr x.apart (PySem.mem_of_lookup h1) (PySem.mem_of_lookup h2)
  · have hy:scope.names.lookup y=some .cell∨scope.names.lookup y=some .free:=hy
    rcases hy with hy | hy
    · exact zb hy
    · exact absurd rfl (S.nofree _ (PySem.mem_of_lookup hy))
  · exact Nat.le_of_lt (x.above y c (PySem.mem_of_lookup h))
  · have hi:i<vs.length:=by
      unfold start at h2
      by_cases hi:i<vs.length
      · exact hi
      · rw[List.getElem?_append_right (by simpa using hi)] at h2
        rw[List.getElem?_replicate] at h2
        split at h2<;>cases h2
    have ha:vs[i]?=some v:=by
      unfold start at h2
      rw[List.getElem?_append_left (by simpa using hi),List.getElem?_map] at h2
      cases e:vs[i]? with
      | none=>rw[e] at h2;cases h2
      | some a=>rw[e] at h2;cases h2;rfl
    obtain ⟨u,hu,rv⟩:=r.get ha
    have hp:ps[i]?=some y:=by
      rw[← S.pre,List.getElem?_take_of_lt (by omega)];exact h1
    have ndP:ps.Nodup:=by rw[← S.pre];exact S.nd.sublist (List.take_sublist _ _)
    refine⟨u,rv,?_⟩
    rcases S.par y (List.mem_of_getElem? hp) with k | k
    · exact .inl ⟨k,u7 ndP hp hu k⟩
    · obtain ⟨c,e⟩:=zb (n:=s.heap.objs.size+1) k
      refine .inr ⟨.inl k,c,e,?_⟩
      have q:=x.cell y c e
      rw[vh ndP hp hu (by show scope.names.lookup y≠_;rw[k];decide)] at q
      exact q
  · exact e0.hok.fresh (Nat.le_of_lt (x.above y c (PySem.mem_of_lookup h)))
  · unfold start
    show _=N.length
    rw[List.length_append,List.length_map,List.length_replicate]
    omega
theorem A7 {CX:CXT}{P:Program}{w:World}{K:PySem.W.Frag}{mg:Str→Option Value}{base:Heap}{k:Nat}{f:Addr}{name qual:Str}{params:Arguments}{body:List Stmt}{scope:Scope}{dV kV doc pm cdv ct oc:Value}{an od:Option Addr}
    {osl:Array (Option Value)}{N ps:List Str}{sp:Sp} (lk:K.lookup f=some ⟨oc,od,.func (PySem.W.fnOf name qual params body scope dV kV doc pm an cdv ct),osl⟩) (hcd:PySem.W.codeIn K cdv qual=true) (S:az N ps scope)
    (len:∀vs H Q E,sp vs H Q E→vs.length=ps.length)
    (hbody:∀(A:Around) (outer:List Env) (s:Shared) (H:Hp) (vs:List V) (Q:VK) (E:XK),jL k (A.deeper (envOfC qual scope s.heap.objs.size f cdv))→sp vs H Q E →
      ∃t,PSs (oj CX P w K mg base N qual scope f cdv A outer s H E) body t∧t { nx:=fun _ H'=>Q .non H',rt:=Q } (start N vs) H) :
    bE P w K mg base CX (k+1) f (PySem.W.fnOf name qual params body scope dV kV doc pm an cdv ct) ps sp:=by
  refine⟨len,fun A outer s H args us vs Q E hr e0 hb r hsp=>?_⟩
  have hl:=len _ _ _ _ hsp
  have KX:K.In s.heap:=e0.mod.kin.keeps fun b o e=>(e0.bs b o e).1
  have lim:s.heap.NoLimit:=e0.mod.nolimit.keeps fun b o e=>(e0.bs b o e).1
  have hkind:∀y∈ps.zip us,scope.names.lookup y.1=some .local∨(scope.names.lookup y.1=some .cell∧((cellsFrom (s.heap.objs.size+1) scope.names []).lookup y.1).isSome=true):=fun ⟨n,v⟩ hy=>by
    rcases S.par n (List.of_mem_zip hy).1 with q | q
    · exact .inl q
    · exact .inr ⟨q,PySem.W.cellsFrom_some _ _ _ (.inl q)⟩
  refine codeAny_call_function hr.depth (KX _ _ lk) rfl S.co S.gen rfl (PySem.W.codeRec_of KX hcd) (hb _ _ _ _ ?_)
  refine wpAny_newFunctionEnv_cells S.kind hkind fun env he s1 x=>?_
  subst he
  refine⟨lim.keeps x.toInCall.keep,codeAny_func ?_⟩
  obtain ⟨t,ht,hq⟩:=hbody A outer s H vs Q E (hr.deeper _) hsp
  have I:Inv (oj CX P w K mg base N qual scope f cdv A outer s H E) [] (start N vs) H s1:=CD S hr.hd e0 hl r x
  refine wpAny_mono (ht [] s1 (start N vs) H _ I hq) (fun fl s' hs=>?_) fun e s' hs=>hs
  have fin:∀{σ':St}{H':Hp}{v:V}{u:Value},Inv (oj CX P w K mg base N qual scope f cdv A outer s H E) [] σ' H' s'→RelV v u→Q v H'→CE outer P w H s Q u s' :=
    fun {σ' H' v u} J rv q=>⟨v,H',J.os,J.bare,J.base,J.hok,rv,q⟩
  cases fl with
  | ret u =>
    obtain ⟨v,σ',H',J,rv,q⟩:=hs
    exact fin J rv q
  | next =>
    obtain ⟨σ',H',J,q⟩:=hs
    exact fin (v:=V.non) (u:=Value.none) J rfl q
  | brk =>
    obtain ⟨_,_,_,q⟩:=hs
    exact False.elim q
  | cont =>
    obtain ⟨_,_,_,q⟩:=hs
    exact False.elim q
end L2
namespace L2
open PySem PySem.Spec PyProof.Rows
section
variable {X:Cx}{x:Str}{p pos:Pos}{e:Expr}{es:List Expr}{t:TA}{id T:String}{r:List V→Hp→VK→Prop}
def tCB (r:List V→Hp→VK→Prop) (t:TA):TE:=fun σ H Q=>t σ H fun vs H1=>r vs H1 Q
theorem aO (hc:fR X (.builtin id) r) (hg:Gl X x) (hm:X.mg x=none) (hv:bootBuiltins x=some (.builtin id)) (ha:PA X (e::es) t) (hn:x≠"__name__":=by decide) (hdb:(x == ("__debug__" : Str))=false:=by decide)
    (he:starEach (e::es) X.env=(false,eval e X.env)::starEach es X.env:=by rfl) (hpl:(backTo pos (starEach es X.env)).any (·.1)=false:=by rfl):PE X (.Call (.Name x p) (e::es) [] pos) (tCB r t):=by
  intro pins s σ H Q I h
  refine wpAny_Call_Name_kw (kS I hg hm hv ?_ hn hdb)
  exact PyProof.Rows.callWith_builtin1 (thn (ha pos pins s σ H _ I h) fun us s1 ⟨vs,H1,I1,r1,q1⟩=>hc pins s1 σ H1 vs us Q I1 r1 q1) he hpl
theorem cO (hc:fR X (.type T) r) (hg:Gl X x) (hm:X.mg x=none) (hv:bootBuiltins x=some (.type T)) (ha:PA X (e::es) t) (hn:x≠"__name__":=by decide) (hdb:(x == ("__debug__" : Str))=false:=by decide)
    (he:starEach (e::es) X.env=(false,eval e X.env)::starEach es X.env:=by rfl) (hpl:(backTo pos (starEach es X.env)).any (·.1)=false:=by rfl):PE X (.Call (.Name x p) (e::es) [] pos) (tCB r t):=by
  intro pins s σ H Q I h
  refine wpAny_Call_Name_kw (kS I hg hm hv ?_ hn hdb)
  exact PyProof.Rows.callWith_type1 (thn (ha pos pins s σ H _ I h) fun us s1 ⟨vs,H1,I1,r1,q1⟩=>hc pins s1 σ H1 vs us Q I1 r1 q1) he hpl
end
end L2
namespace HT
open PySem PyProof.Rows
section
open PySem.SeqAt
open PySem.AutoSeq1 (wpAny_loadPart')
open PySem.MeetsSeq PySem.MeetsSeq2 PySem.MeetsSeq3
end
section
variable {prog:Program}{w:World}{A:Around}{E:Value→Shared→Prop}{s:Shared}
def sIx (n d:Nat):Option Int→Nat
  | none=>d
  | some v=>if v<0 then (v+(n:Int)).toNat else min v.toNat n
theorem Aq (n d k:Nat):sIx n d (some (k:Int))=min k n:=by
  show (if (k:Int)<0 then ((k:Int)+(n:Int)).toNat else min (k:Int).toNat n)=min k n
  rw[if_neg (by omega),Int.toNat_natCast]
end
end HT
namespace L2
open PySem PySem.Spec PyProof.Rows
abbrev TO:=St→Hp→(Option Int→Hp→Prop)→Prop
def PO (X:Cx) (e:Option Expr) (t:TO):Prop :=
  ∀(pins:List (Addr × Obj)) (s:Shared) (σ:St) (H:Hp) (Q:Option Int→Hp→Prop),Inv X pins σ H s→t σ H Q →
    wpAny (model X.prog X.w) X.A (evalPart e X.env) (fun u s'=>∃o H',Inv X pins σ H' s'∧IsPart u o∧Q o H') X.xe s
def AB:TO:=fun _ H Q=>Q none H
def G9 (t:TE):TO:=fun σ H Q=>t σ H fun x H1=>∃i,x=.int i∧Q (some i) H1
section
variable {X:Cx}{e:Expr}{te:TE}{lo hi:Option Expr}{tl th:TO}{pos p2:Pos}
theorem BB:PO X none AB:=by
  intro pins s σ H Q I h
  rw[evalPart_none]
  exact wpAny_pure ⟨none,H,I,.none,h⟩
theorem rG (h:PE X e te):PO X (some e) (G9 te):=by
  intro pins s σ H Q I hw
  rw[evalPart_some]
  refine thn (h pins s σ H _ I hw) fun u s1 ⟨x,H1,I1,r1,q1⟩=>?_
  obtain ⟨i,rfl,q⟩:=q1
  obtain ⟨t,rfl⟩:=r1
  exact⟨some i,H1,I1,.int i t,q⟩
def SlR (X:Cx) (r:V→Option Int→Option Int→Hp→VK→Prop):Prop :=
  ∀(pins:List (Addr × Obj)) (s:Shared) (σ:St) (H:Hp) (x:V) (v vl vu:Value) (lo hi:Option Int) (sl:Addr) (Q:VK),Inv X pins σ H s→RelV x v→s.heap.IsSliceOf sl vl vu .none→IsPart vl lo→IsPart vu hi→r x lo hi H Q →
    ∃T id,typeLookup (.type T) "__getitem__" = pure (some (.builtin id))∧s.TypeIs v T∧wpAny (model X.prog X.w) X.A (getItem v (.ref sl)) (EP X pins σ Q) X.xe s
def tSl (r:V→Option Int→Option Int→Hp→VK→Prop) (te:TE) (tl th:TO):TE:=fun σ H Q=>te σ H fun x H1=>tl σ H1 fun l H2=>th σ H2 fun u H3=>r x l u H3 Q
theorem uo {r:V→Option Int→Option Int→Hp→VK→Prop} (hr:SlR X r) (he:PE X e te) (hl:PO X lo tl) (hu:PO X hi th):PE X (.Subscript e (.Slice lo hi none p2) pos) (tSl r te tl th):=by
  intro pins s σ H Q I h
  refine Subscript_ (thn (he pins s σ H _ I h) fun v s1 ⟨x,H1,I1,r1,q1⟩=>?_)
  refine wpAny_Slice (thn (hl pins s1 σ H1 _ I1 q1) fun vl s2 ⟨l,H2,I2,pl,q2⟩=>thn (hu pins s2 σ H2 _ I2 q2) fun vu s3 ⟨u,H3,I3,pu,q3⟩=>?_)
  rw[evalPart_none]
  refine wpAny_pure ?_
  have I4:Inv X pins σ H3 { s3 with heap:=s3.heap.push { cls:=.type "slice",data:=.fields #[vl,vu,.none] } }:=I3.kept (t':=s3.toks) fun b ob q=>Heap.get?_push_of_some _ q
  obtain ⟨T,id,hT,ht,hg⟩:=hr pins { s3 with heap:=s3.heap.push { cls:=.type "slice",data:=.fields #[vl,vu,.none] } } σ H3 x v vl vu l u s3.heap.objs.size Q I4 r1 (Heap.IsSliceOf.new ..) pl pu q3
  show wpAny (model X.prog X.w) X.A (subscriptTail e (.Slice lo hi none p2) v (.ref s3.heap.objs.size)) (EP X pins σ Q) X.xe { s3 with heap:=s3.heap.push { cls:=.type "slice",data:=.fields #[vl,vu,.none] } }
  exact tail_any (ops:=[.ref s3.heap.objs.size,v]) ht hT hg (by with_unfolding_all rfl)
def B9 (xs:List V) (lo hi:Option Int):List V:=(xs.drop (HT.sIx xs.length 0 lo)).take (HT.sIx xs.length xs.length hi - HT.sIx xs.length 0 lo)
theorem yI (xs:List V) (lo hi:Option Int):(B9 xs lo hi).length≤xs.length:=by
  unfold B9
  rw[List.length_take,List.length_drop]
  omega
end
end L2
namespace L2
open PySem PySem.Spec PyProof.Rows
def ixN (n:Nat) (i:Int):Option Nat:=if 0≤i then (if i<n then some i.toNat else none) else if -(n:Int)≤i then some (i+n).toNat else none
def atI {α:Type} (xs:List α) (i:Int):Option α:=(ixN xs.length i).bind fun j=>xs[j]?
theorem AX {n:Nat}{i:Int}{j:Nat} (h:ixN n i=some j):seqIndex? i n=some j∧j<n∧-(n:Int)≤i∧i<n:=by
  unfold ixN at h
  by_cases h0:0≤i
  · rw[if_pos h0] at h
    by_cases h1:i<n
    · rw[if_pos h1] at h
      have e:i.toNat=j:=Option.some.inj h
      exact⟨by rw[seqIndex_of h0 h1,e],by omega,by omega,h1⟩
    · rw[if_neg h1] at h;cases h
  · rw[if_neg h0] at h
    by_cases h1 : -(n:Int)≤i
    · rw[if_pos h1] at h
      have e:(i+n).toNat=j:=Option.some.inj h
      exact⟨by rw[seqIndex_neg (by omega) h1,e],by omega,h1,by omega⟩
    · rw[if_neg h1] at h;cases h
theorem Bf {α:Type}{xs:List α}{i:Int}{v:α} (h:atI xs i=some v):∃j,seqIndex? i xs.length=some j∧xs[j]?=some v∧j<xs.length∧-(xs.length:Int)≤i∧i<xs.length:=by
  unfold atI at h
  cases e:ixN xs.length i with
  | none=>rw[e] at h;cases h
  | some j =>
    rw[e] at h
    obtain ⟨h1,h2,h3,h4⟩:=AX e
    exact⟨j,h1,h,h2,h3,h4⟩
def wH (b:Expr):Prop:=∀o i,subscripted b false o i=operate [o,i] (getItem o i)
def IxR (X:Cx) (r:R2):Prop :=
  ∀(value slice:Expr) (pins:List (Addr × Obj)) (s:Shared) (σ:St) (H:Hp) (x y:V) (v u:Value) (Q:VK),Inv X pins σ H s→RelV x v→RelV y u→r x y H Q →
    subscripted slice false v u=operate [v,u] (getItem v u)→wpAny (model X.prog X.w) X.A (subscriptTail value slice v u) (EP X pins σ Q) X.xe s
def MtR (X:Cx) (id:String) (r:V→List V→Hp→VK→Prop):Prop :=
  ∀(pins:List (Addr × Obj)) (s:Shared) (σ:St) (H:Hp) (x:V) (xs:List V) (v:Value) (us:List Value) (Q:VK),Inv X pins σ H s→RelV x v→Vals xs us→r x xs H Q →
    wpAny (model X.prog X.w) X.A (call (.builtin id) (v::us)) (EP X pins σ Q) X.xe s
section
variable {X:Cx}{a b:Expr}{ta tb:TE}{pos:Pos}
theorem Hb {r:R2} (hr:IxR X r) (ha:PE X a ta) (hb:PE X b tb) (hs:wH b):PE X (.Subscript a b pos) (tOp r ta tb):=by
  intro pins s σ H Q I h
  exact Subscript_ (Gd ha hb I h fun v u s2 x y H2 I2 rx ry q=>hr a b pins s2 σ H2 x y v u Q I2 rx ry q (hs _ _))
def Dq (K:PySem.W.Frag):R2:=fun x y H Q=>∃p xs i v,x=.ref p∧y=.int i∧SqL K H p xs∧atI xs i=some v∧Q v H
def B4 (K:PySem.W.Frag):R2:=fun x y H Q=>∃p xs i v,x=.ref p∧y=.int i∧SqT K H p xs∧atI xs i=some v∧Q v H
theorem Fw:IxR X (Dq X.K):=by
  intro value slice pins s σ H x y v u Q I rx ry h hs
  obtain ⟨p,xs,i,z,rfl,rfl,hq,he,q⟩:=h
  cases rx
  obtain ⟨t,rfl⟩:=ry
  obtain ⟨its,r,pl,hz⟩:=I.list hq
  obtain ⟨j,h1,h2,h3,h4,h5⟩:=Bf he
  obtain ⟨w,ew,rw'⟩:=r.get h2
  have hl:=r.length
  have hn:=r8
  have fin:EP X pins σ Q w s:=⟨z,H,I,rw',q⟩
  by_cases h0:0≤i
  · have hj:i.toNat=j:=by
      rw[seqIndex_of h0 h5] at h1
      exact Option.some.inj h1
    exact item_listR pl.isList h0 (by omega) (by rw[hj];simpa using ew) fin hs
  · have hj:(i+(its.toArray.size:Int)).toNat=j:=by
      rw[seqIndex_neg (by omega) h4] at h1
      rw[List.size_toArray,← hl]
      exact Option.some.inj h1
    exact subscriptTail_builtinR (x:=w) pl.isList.typeIs slot_list_getitem.lookup
      (wpAny_getItem_list_neg (Q:=fun r s'=>r=w∧EP X pins σ Q r s') pl.isList (by omega) (by rw[List.size_toArray]<;>omega) (by omega) (by rw[hj];simpa using ew) ⟨rfl,fin⟩) hs
theorem IU:IxR X (B4 X.K):=by
  intro value slice pins s σ H x y v u Q I rx ry h hs
  obtain ⟨p,xs,i,z,rfl,rfl,hq,he,q⟩:=h
  cases rx
  obtain ⟨t,rfl⟩:=ry
  obtain ⟨its,r,pl,hz⟩:=I.tuple hq
  obtain ⟨j,h1,h2,h3,h4,h5⟩:=Bf he
  obtain ⟨w,ew,rw'⟩:=r.get h2
  have hl:=r.length
  have hn:=r8
  have fin:EP X pins σ Q w s:=⟨z,H,I,rw',q⟩
  exact subscriptTail_builtinR (x:=w) pl.typeIs slot_tuple_getitem.lookup
    (getItem_tuple (j:=j) (Q:=fun r s'=>r=w∧EP X pins σ Q r s') pl (by omega) (by omega) (by rw[List.size_toArray,← hl];exact h1) (by simpa using ew) ⟨rfl,fin⟩) hs
theorem Al (its:List Value) (n j:Nat) (u:Value):Obj.mapSeq (·.setIfInBounds j u) { cls:=.type "list",data:=.seq its.toArray n }={ cls:=.type "list",data:=.seq (its.set j u).toArray n }:=by
  simp [Obj.mapSeq]
theorem Inv.lst {pins:List (Addr × Obj)}{σ:St}{H:Hp}{s:Shared}{p:Addr}{xs:List V} (I:Inv X pins σ H s) (h:H p=some (.lst xs)) :
    ∃(its:List Value) (n:Nat),Vals xs its∧s.heap.get? p=some { cls:=.type "list",data:=.seq its.toArray n }∧xs.length≤sizeLine:=by
  obtain ⟨z,its,n,r,e⟩:=I.hok p _ h
  exact⟨its,n,r,e,z⟩
theorem Inv.HI {pins:List (Addr × Obj)}{σ:St}{H:Hp}{s:Shared}{p:Addr}{xs ys:List V}{its its':List Value}{n n':Nat}{f:Obj→Obj} (I:Inv X pins σ H s) (h:H p=some (.lst xs))
    (ho:s.heap.get? p=some { cls:=.type "list",data:=.seq its.toArray n }) (hf:f { cls:=.type "list",data:=.seq its.toArray n }={ cls:=.type "list",data:=.seq its'.toArray n' }) (r:Vals ys its') (hz:ys.length≤sizeLine) (t:Nat) :
    Inv X pins σ (upd H p (.lst ys)) { s with heap:=s.heap.update p f,toks:=t }:=by
  have e:(s.heap.update p f).get? p=some { cls:=.type "list",data:=.seq its'.toArray n' }:=by
    rw[Heap.get?_update_self f ho (by rw[hf]<;>rfl),hf]
  refine I.write (x:=p) (e:=p) (by rw[h];trivial) (.inl rfl) (fun b u hb q=>(Heap.get?_update_other _ _ (Ne.symm hb)).trans q) ⟨_,e⟩ ?_
  exact⟨hz,its',n',r,e⟩
def G6:V→V→V→Hp→(Hp→Prop)→Prop:=fun o i v H Q=>∃p xs k j,o=.ref p∧i=.int k∧H p=some (.lst xs)∧ixN xs.length k=some j∧Q (upd H p (.lst (xs.set j v)))
theorem set_list:JL X G6:=by
  intro pins s σ H o i v ov iv u Q I ro ri rv h
  obtain ⟨p,xs,k,j,rfl,rfl,hp,hj,q⟩:=h
  cases ro
  obtain ⟨t,rfl⟩:=ri
  obtain ⟨its,n,r,ho,hz⟩:=I.lst hp
  obtain ⟨h1,h2,h3,h4⟩:=AX hj
  have hl:=r.length
  have hn:=r8
  have I':Inv X pins σ (upd H p (.lst (xs.set j v))) { s with heap:=s.heap.update p (Obj.mapSeq (·.setIfInBounds j u)) } :=
    I.HI hp ho (Al its n j u) (r.set rv j) (by rw[List.length_set];exact hz) s.toks
  by_cases h0:0≤k
  · have hk:k.toNat=j:=by
      rw[seqIndex_of h0 h4] at h1
      exact Option.some.inj h1
    exact PySem.W.ki_setAt ho h0 (by omega) (by rw[List.size_toArray,← hl];exact h4) (by rw[hk];exact⟨_,I',q⟩)
  · have hk:(k+(its.toArray.size:Int)).toNat=j:=by
      rw[seqIndex_neg (by omega) h3] at h1
      rw[List.size_toArray,← hl]
      exact Option.some.inj h1
    exact PySem.W.ki_setBack ho (by omega) (by rw[List.size_toArray,← hl];exact h3) (by omega) (by rw[hk];exact⟨_,I',q⟩)
theorem xg (lo hi:Option Int) (n:Nat):(sliceBounds lo hi none n).1=((HT.sIx n 0 lo:Nat):Int)∧(sliceBounds lo hi none n).2.1=((HT.sIx n n hi:Nat):Int)∧(sliceBounds lo hi none n).2.2=1:=by
  refine⟨?_,?_,rfl⟩
  · cases lo with
    | none=>simp [sliceBounds,HT.sIx]
    | some i =>
      simp only[sliceBounds,HT.sIx,Option.getD_none,show (1:Int)>0 by decide,if_true]
      by_cases h:i<0
      · simp only[h,if_true]<;>omega
      · simp only[h,if_false]<;>omega
  · cases hi with
    | none=>simp [sliceBounds,HT.sIx]
    | some i =>
      simp only[sliceBounds,HT.sIx,Option.getD_none,show (1:Int)>0 by decide,if_true]
      by_cases h:i<0
      · simp only[h,if_true]<;>omega
      · simp only[h,if_false]<;>omega
theorem uG (its:List Value) (lo hi:Option Int):slicePick its.toArray lo hi none=((its.drop (HT.sIx its.length 0 lo)).take (HT.sIx its.length its.length hi - HT.sIx its.length 0 lo)).toArray:=by
  obtain ⟨h1,h2,h3⟩:=xg lo hi its.toArray.size
  unfold slicePick
  rw[h1,h2,h3]
  simp only[sliceRange_one,pick_run,List.size_toArray]<;>rfl
def Hi (K:PySem.W.Frag):V→Option Int→Option Int→Hp→VK→Prop:=fun x lo hi H Q=>∃a xs,x=.ref a∧SqL K H a xs∧∀p,H p=none→Q (.ref p) (upd H p (.lst (B9 xs lo hi)))
theorem FH:SlR X (Hi X.K):=by
  intro pins s σ H x v vl vu lo hi sl Q I rx hs pl pu h
  obtain ⟨a,xs,rfl,hx,q⟩:=h
  cases rx
  obtain ⟨its,r,ht,hz⟩:=I.list hx
  have hlen:=r.length
  refine⟨"list",_,slot_list_getitem.lookup,ht.isList.typeIs,?_⟩
  refine wpAny_getItem_list_slice ht.isList hs pl pu .none (by simp) ?_ (by rw[List.size_toArray]<;>omega)
  rw[uG,← hlen]
  refine⟨.ref s.heap.objs.size,_,I.laid (t':=s.toks) (o:=.lst (B9 xs lo hi)) (fun b ob q=>Heap.get?_push_of_some _ q) (Nat.le_refl _) ?_,rfl,q _ (I.hok.fresh (Nat.le_refl _))⟩
  exact⟨Nat.le_trans (yI xs lo hi) hz,_,0,(r.drop (HT.sIx xs.length 0 lo)).take (HT.sIx xs.length xs.length hi - HT.sIx xs.length 0 lo),Heap.get?_push_size _ rfl⟩
def mS:V→Bool
  | .non=>true
  | .bl _=>true
  | .int _=>true
  | .str _=>true
  | _=>false
def eqV:V→V→Bool
  | .non,.non=>true
  | .bl a,.bl b=>a == b
  | .bl a,.int b=>(if a then 1 else 0) == b
  | .int a,.bl b=>a == (if b then 1 else 0)
  | .int a,.int b=>a == b
  | .str a,.str b=>a == b
  | _,_=>false
theorem HJ {A:Around}{s:Shared}{y x:V}{u v:Value} (ry:RelV y u) (rx:RelV x v) (fy:mS y=true) (fx:mS x=true):SeqAt.EqAt A s u v (eqV y x):=by
  cases y with
  | non =>
    cases ry
    cases x with
    | non=>cases rx;exact SeqAt.EqAt.same _
    | bl b=>cases rx;exact SeqAt.EqAt.none_bool b
    | int b=>obtain ⟨t,rfl⟩:=rx;exact SeqAt.EqAt.none_int b t
    | str b=>obtain ⟨t,rfl⟩:=rx;exact SeqAt.EqAt.none_str b t
    | _=>exact absurd (show false=true from fx) Bool.false_ne_true
  | bl a =>
    cases ry
    cases x with
    | non=>cases rx;exact SeqAt.EqAt.bool_none a
    | bl b=>cases rx;exact SeqAt.EqAt.bool_bool a b
    | int b=>obtain ⟨t,rfl⟩:=rx;exact SeqAt.EqAt.bool_int a b t
    | str b=>obtain ⟨t,rfl⟩:=rx;exact SeqAt.EqAt.bool_str a b t
    | _=>exact absurd (show false=true from fx) Bool.false_ne_true
  | int a =>
    obtain ⟨t',rfl⟩:=ry
    cases x with
    | non=>cases rx;exact SeqAt.EqAt.int_none a t'
    | bl b=>cases rx;exact SeqAt.EqAt.int_bool a t' b
    | int b=>obtain ⟨t,rfl⟩:=rx;exact SeqAt.EqAt.int_int a t' b t
    | str b=>obtain ⟨t,rfl⟩:=rx;exact SeqAt.EqAt.int_str a t' b t
    | _=>exact absurd (show false=true from fx) Bool.false_ne_true
  | str a =>
    obtain ⟨t',rfl⟩:=ry
    cases x with
    | non=>cases rx;exact SeqAt.EqAt.str_none a t'
    | bl b=>cases rx;exact SeqAt.EqAt.str_bool a t' b
    | int b=>obtain ⟨t,rfl⟩:=rx;exact SeqAt.EqAt.str_int a t' b t
    | str b=>obtain ⟨t,rfl⟩:=rx;exact SeqAt.EqAt.str_str a t' b t
    | _=>exact absurd (show false=true from fx) Bool.false_ne_true
  | _=>exact absurd (show false=true from fy) Bool.false_ne_true
def eqU (x:V) (u:Value):Bool:=match u with
  | .none=>eqV .non x
  | .bool b=>eqV (.bl b) x
  | .int i _=>eqV (.int i) x
  | .str z _=>eqV (.str z) x
  | _=>false
theorem CG {x y:V}{u:Value} (r:RelV y u) (f:mS y=true):eqU x u=eqV y x:=by
  cases y with
  | non=>cases r;rfl
  | bl b=>cases r;rfl
  | int i=>obtain ⟨t,rfl⟩:=r;rfl
  | str z=>obtain ⟨t,rfl⟩:=r;rfl
  | _=>exact absurd (show false=true from f) Bool.false_ne_true
theorem yh {A:Around}{s:Shared}{x:V}{v:Value} (rx:RelV x v) (fx:mS x=true):∀{xs:List V}{us:List Value},Vals xs us→xs.all mS=true→∀u∈us,SeqAt.EqAt A s u v (eqU x u)
  | _,_,.nil,_=>fun u hu=>by cases hu
  | y::xs,u::us,.cons r t,f=>fun u' hu=>by
    rw[List.all_cons,Bool.and_eq_true] at f
    rcases List.mem_cons.mp hu with rfl | hu
    · rw[CG r f.1];exact HJ r rx f.1 fx
    · exact yh rx fx t f.2 u' hu
theorem xj:fR X (.builtin "len") (fun xs H Q=>∃p ys,xs=[.ref p]∧(SqL X.K H p ys∨SqT X.K H p ys)∧Q (.int ys.length) H):=by
  intro pins s σ H xs us Q I r h
  obtain ⟨p,ys,rfl,hq,q⟩:=h
  obtain ⟨u,rfl,rx⟩:=vals1 r
  cases rx
  have hn:=r8
  rcases hq with hq | hq
  · obtain ⟨its,r',pl,hz⟩:=I.list hq
    have hlen:=r'.length
    exact Calls.call_len_list pl.isList (by simp only[List.size_toArray]<;>omega) ⟨.int ys.length,H,I.tok _,⟨s.toks+1,by rw[List.size_toArray,hlen]⟩,q⟩
  · obtain ⟨its,r',pl,hz⟩:=I.tuple hq
    have hlen:=r'.length
    exact len_tuple pl (by simp only[List.size_toArray]<;>omega) ⟨.int ys.length,H,I.tok _,⟨s.toks+1,by rw[List.size_toArray,hlen]⟩,q⟩
theorem w6:fR X (.builtin "len") (fun xs H Q=>∃z,xs=[.str z]∧z.length≤sizeLine∧Q (.int z.length) H):=by
  intro pins s σ H xs us Q I r h
  obtain ⟨z,rfl,hz,q⟩:=h
  obtain ⟨u,rfl,t,rfl⟩:=vals1 r
  have hn:=r8
  exact len_str (by omega) ⟨.int z.length,H,I.tok _,⟨_,rfl⟩,q⟩
theorem xK:fR X (.type "list") (fun xs H Q=>∃p ys,xs=[.ref p]∧(SqL X.K H p ys∨SqT X.K H p ys)∧∀l,H l=none→Q (.ref l) (upd H l (.lst ys))):=by
  intro pins s σ H xs us Q I r h
  obtain ⟨p,ys,rfl,hq,q⟩:=h
  obtain ⟨u,rfl,rx⟩:=vals1 r
  cases rx
  have fin:∀(its:List Value),Vals ys its→ys.length≤sizeLine→∀(h':Heap) (c':Nat),(∀b o',s.heap.get? b=some o'→h'.get? b=some o') →
      h'.get? s.heap.objs.size=some { cls:=.type "list",dict:=none,data:=.seq its.toArray c',slots:=#[] }→EP X pins σ Q (.ref s.heap.objs.size) { s with heap:=h' }:=fun its r' hz h' c' kp e =>
    ⟨.ref s.heap.objs.size,_,I.laid (t':=s.toks) kp (Nat.le_refl _) (show eX X.prog X.w _ h' _ (.lst ys) from ⟨hz,its,c',r',e⟩),rfl,q _ (I.hok.fresh (Nat.le_refl _))⟩
  rcases hq with hq | hq
  · obtain ⟨its,r',pl,hz⟩:=I.list hq
    have hlen:=r'.length
    obtain ⟨o,ho,hc,n,hd⟩:=pl.isList
    exact call_list_seq p (.inl rfl) ho hc hd (fun h' c' kp e=>fin its r' hz h' c' kp e) (by simp only[List.size_toArray]<;>omega)
  · obtain ⟨its,r',pl,hz⟩:=I.tuple hq
    have hlen:=r'.length
    obtain ⟨o,ho,hc,n,hd⟩:=pl
    exact call_list_seq p (.inr rfl) ho hc hd (fun h' c' kp e=>fin its r' hz h' c' kp e) (by simp only[List.size_toArray]<;>omega)
def tyV (K:PySem.W.Frag) (T:String) (x:V) (H:Hp):Prop:=match x with
  | .str _=>T = "str"
  | .int _=>T = "int"
  | .ref p=>(T = "list"∧∃xs,SqL K H p xs)∨(T = "tuple"∧∃o,K.lookup p=some o∧o.cls=.type "tuple"∧o.dict=none) ∨
      (T = "dict"∧((∃kvs,H p=some (.dK kvs))∨∃kvs,H p=some (.dT kvs)))∨(T = "set"∧∃S n,H p=some (.set S n))
  | _=>False
theorem Hr {pins:List (Addr × Obj)}{σ:St}{H:Hp}{s:Shared}{T:String}{x:V}{v:Value} (I:Inv X pins σ H s) (r:RelV x v) (ty:tyV X.K T x H) :
    s.TypeIs v T∧∀a,v=.ref a→∃ob,s.heap.get? a=some ob∧ob.dict=none:=by
  cases x with
  | str z =>
    obtain ⟨t,rfl⟩:=r
    cases (show T = "str" from ty)
    exact⟨typeIs_str s z t,fun _ e=>nomatch e⟩
  | int i =>
    obtain ⟨t,rfl⟩:=r
    cases (show T = "int" from ty)
    exact⟨typeIs_int s i t,fun _ e=>nomatch e⟩
  | ref p =>
    cases r
    rcases ty with ⟨rfl,xs,hq⟩ | ⟨rfl,o,hk,hc,hd⟩ | ⟨rfl,hk⟩ | ⟨rfl,S,n,hk⟩
    · obtain ⟨its,_,pl,_⟩:=I.list hq
      refine⟨pl.isList.typeIs,fun a e=>?_⟩
      cases e
      obtain ⟨o,n,e,c,hd,_⟩:=pl
      exact⟨o,e,hd⟩
    · refine⟨⟨o,I.kIn p o hk,hc⟩,fun a e=>?_⟩
      cases e
      exact⟨o,I.kIn _ o hk,hd⟩
    · have z:∃o,s.heap.get? p=some o∧o.ExactDict:=by
        rcases hk with ⟨kvs,hk⟩ | ⟨kvs,hk⟩
        · obtain ⟨_,_,_,_,o,_,_,e,ex,_⟩:=I.hok p _ hk
          exact⟨o,e,ex⟩
        · obtain ⟨_,_,_,_,o,_,_,e,ex,_⟩:=I.hok p _ hk
          exact⟨o,e,ex⟩
      obtain ⟨o,e,ex⟩:=z
      refine⟨⟨o,e,ex.1⟩,fun a e2=>?_⟩
      cases e2
      exact⟨o,e,ex.2.1⟩
    · obtain ⟨o,_,_,_,e,ex,_⟩:=I.hok p _ hk
      refine⟨⟨o,e,ex.1⟩,fun a e2=>?_⟩
      cases e2
      exact⟨o,e,ex.2.1⟩
  | _=>exact False.elim ty
def tBM (K:PySem.W.Frag) (T:String) (r:V→List V→Hp→VK→Prop) (to:TE) (t:TA):TE:=fun σ H Q=>to σ H fun x H1=>tyV K T x H1∧t σ H1 fun xs H2=>r x xs H2 Q
variable {o e:Expr}{es:List Expr}{to:TE}{t:TA}{name:Str}{apos cpos:Pos}{T id:String}{r:V→List V→Hp→VK→Prop}
theorem ie (pa:PlainAttrs T) (slot:Slot T name id) (hty:typeOf (.builtin id)=pure (.type "method_descriptor")) (hm:MtR X id r) (ho:PE X o to) (ha:PA X (e::es) t)
    (hbase:attributeBase o name X.env (eval o X.env)=eval o X.env:=by rfl)
    (hfew:((backTo cpos (starEach (e::es) X.env)).all (fun x=>!x.1) && (backToKw cpos (keywordEach [] X.env)).all (fun x=>x.1.isSome)
      && decide ((e::es).length+([]:List Keyword).length+(if ([]:List Keyword).isEmpty then 0 else 1)<30))=true:=by rfl)
    (hline:(apos.endLine == cpos.line)=true:=by rfl) (hs:starEach (e::es) X.env=(false,eval e X.env)::starEach es X.env:=by rfl) (hplain:(backTo cpos (starEach es X.env)).any (·.1)=false:=by rfl) :
    PE X (.Call (.Attribute o name apos) (e::es) [] cpos) (tBM X.K T r to t):=by
  intro pins s σ H Q I h
  refine wpAny_Call_method_late hbase hfew hline rfl (thn (ho pins s σ H _ I h) fun v s1 ⟨x,H1,I1,r1,ty,q1⟩=>?_)
  obtain ⟨h1,h2⟩:=Hr I1 r1 ty
  refine⟨T,id,pa,slot,hty,h1,h2,?_⟩
  have hA:=ha cpos pins s1 σ H1 _ I1 q1
  rw[hs] at hA ⊢
  refine Calls.callWith_builtin (by show (false || (backTo cpos (starEach es X.env)).any (·.1))=false;rw[hplain]<;>rfl) (Calls.evalArgs_plain ?_)
  exact thn hA fun us s2 ⟨vs,H2,I2,r2,q2⟩=>hm pins s2 σ H2 x vs v us Q I2 r1 r2 q2
/- xs.append(e),list.index on a module's tuple .. are MtR facts of 06m -/
end
end L2
namespace L2
open PySem PySem.Spec PyProof.Rows
def MtM (X:Cx) (id:String) (r:V→List V→Hp→VK→Prop):Prop :=
  ∀(pins:List (Addr × Obj)) (s:Shared) (σ:St) (H:Hp) (x:V) (xs:List V) (v:Value) (us:List Value) (Q:VK),Inv X pins σ H s→RelV x v→Vals xs us→r x xs H Q →
    wpAny (model X.prog X.w) X.A (call (.builtin id) (v::us)) (EP X pins σ Q) X.xe s
theorem Vals.one:∀{x:V}{us:List Value},Vals [x] us→∃u,us=[u]∧RelV x u
  | _,_,.cons r .nil=>⟨_,rfl,r⟩
section
variable {X:Cx}{pins:List (Addr × Obj)}{σ:St}{H:Hp}{s:Shared}{l b:Addr}{xs ys zs:List V}
theorem Inv.JY {its its':List Value}{n:Nat}{f:Array Value→Array Value}{t':Nat} (I:Inv X pins σ H s) (hH:H l=some (.lst xs))
    (e:s.heap.get? l=some { cls:=.type "list",data:=.seq its.toArray n }) (hf:f its.toArray=its'.toArray) (hv:Vals ys its') (hz:ys.length≤sizeLine) :
    Inv X pins σ (upd H l (.lst ys)) { s with heap:=s.heap.update l (Obj.mapSeq f),toks:=t' }:=by
  have q:=PySem.IsL.update e f
  rw[hf] at q
  refine I.write (x:=l) (e:=l) (by rw[hH];exact trivial) (.inl rfl) (fun b' u hb hu=>(Heap.get?_update_other s.heap (Obj.mapSeq f) (Ne.symm hb)).trans hu) ⟨_,q⟩ ?_
  exact⟨hz,its',_,hv,q⟩
theorem Inv.Jz {its:List Value}{t':Nat} (I:Inv X pins σ H s) (hv:Vals ys its) (hz:ys.length≤sizeLine) :
    Inv X pins σ (upd H s.heap.objs.size (.lst ys)) { s with heap:=s.heap.push { cls:=.type "list",data:=.seq its.toArray },toks:=t' } :=
  I.laid (fun _ _ q=>Heap.get?_push_of_some _ q) (Nat.le_refl _) ⟨hz,its,0,hv,Heap.get?_push_size _ rfl⟩
theorem Inv.fresh (I:Inv X pins σ H s):H s.heap.objs.size=none:=I.hok.fresh (Nat.le_refl _)
theorem Inv.GJ (I:Inv X pins σ H s) (hH:H l=some (.lst xs)):xs.length≤sizeLine∧∃(its:List Value) (n:Nat),Vals xs its∧xs.length=its.length∧s.heap.get? l=some { cls:=.type "list",data:=.seq its.toArray n }:=by
  obtain ⟨z,its,n,r,e⟩:=I.hok l _ hH
  exact⟨z,its,n,r,r.length,e⟩
end
section
variable {X:Cx}
def AV:V→List V→Hp→VK→Prop:=fun x vs H Q=>∃l xs y,x=.ref l∧vs=[y]∧H l=some (.lst xs)∧xs.length<sizeLine∧Q .non (upd H l (.lst (xs++[y])))
theorem gz:MtM X "list.append" AV:=by
  intro pins s σ H x vs v us Q I rx rv h
  obtain ⟨l,xs,y,rfl,rfl,hH,hz,q⟩:=h
  cases rx
  obtain ⟨u,rfl,ru⟩:=rv.one
  obtain ⟨z,its,n,r,hl,e⟩:=I.GJ hH
  refine call_meets F.slot_list_append ⟨_,e,rfl⟩ F.entry_list_append (F.args_list_append_2 _ _) (PySem.list_append l its.toArray n u (by rw[List.size_toArray];omega)) ⟨e,?_⟩
  refine⟨.non,_,I.JY (its':=its++[u]) hH e (by simp) (r.append (.cons ru .nil)) ?_,rfl,q⟩
  rw[List.length_append,List.length_singleton]
  omega
def Jv:R2:=fun x y H Q=>∃l b xs zs,x=.ref l∧y=.ref b∧H l=some (.lst xs)∧H b=some (.lst zs)∧xs.length+zs.length≤sizeLine∧∀p,H p=none→Q (.ref p) (upd H p (.lst (xs++zs)))
theorem Hc:OpR X (binaryOp .Add) Jv:=by
  intro pins s σ H x y v u Q I rx ry h
  obtain ⟨l,b,xs,zs,rfl,rfl,hH,hB,hz,q⟩:=h
  cases rx
  cases ry
  obtain ⟨z,its,n,r,hl,e⟩:=I.GJ hH
  obtain ⟨z2,its2,n2,r2,hl2,e2⟩:=I.GJ hB
  refine PySem.P.add_list e e2 ?_ (by rw[List.size_toArray,List.size_toArray];omega)
  have ea:its.toArray++its2.toArray=(its++its2).toArray:=by simp
  rw[ea]
  exact⟨.ref _,_,I.Jz (t':=s.toks) (r.append r2) (by rw[List.length_append];omega),rfl,q _ I.fresh⟩
end
section
variable {prog:Program}{w:World}{A:Around}{E:Value→Shared→Prop}{s:Shared}
end
section
variable {X:Cx}
end
end L2
namespace Att
open PySem PySem.W PySem.Calls PyProof.Rows
theorem rj {P:Params}{h:Heap}:∀(ns:List Int) (vs:List Value),WellAll P h vs (ns.map WData.int)→IntsAre vs ns:=by
  intro ns
  induction ns with
  | nil =>
    intro vs w
    rw[List.map_nil] at w
    cases w
    exact .nil
  | cons n ns ih =>
    intro vs w
    rw[List.map_cons] at w
    cases w with
    | cons a b =>
      cases a
      exact .cons _ _ (ih _ b)
theorem Cb {l:OpenLaw}{n:Nat} (hn:l.most=some n) {P:Params}{h:Heap}{args:List WData}{vals:List Value}
    (hpre:l.row.toRowW.claim.pre args=true) (hwl:WellAll P h vals args) :
    ∃a vs ns,vals=[Value.ref a]∧args=[WData.list (ns.map WData.int)]∧h.get? a=some { cls:=.type "list",data:=.seq vs.toArray }∧IntsAre vs ns∧ns.length≤n:=by
  have hsh:WShape.hasAll [] args [.list .int]=true:=(pre_splitW hpre).1
  have hc:l.pre.holds [] { args:=args }=true:=(pre_splitW hpre).2
  obtain ⟨d,r,rfl,h1,h2⟩:=hasAllW_cons hsh
  obtain rfl:=hasAllW_nil h2
  obtain ⟨xs,rfl,h3⟩:=hasW_list h1
  obtain ⟨ns,rfl⟩:=items_int h3
  have hlen:ns.length≤n:=by
    unfold OpenLaw.pre at hc
    have h4:(WTm.not (.lt (.lit (.int (n:Int))) (.len (.arg 0)))).holds [] { args:=[.list (ns.map .int)] }=true:=by
      have h4:=(holds_andW hc).1
      rw[hn] at h4
      exact h4
    have h5:=condW_of h4 (w_not (w_lt w_lit (w_len_list (w_arg rfl))))
    rw[List.length_map] at h5
    refine Nat.le_of_not_lt fun q=>?_
    have q':(n:Int)<((ns.length:Nat):Int):=by omega
    first
      | (rw[decide_eq_true q'] at h5;exact absurd h5 (by decide))
      | (simp at h5;omega)
  cases hwl with
  | cons w1 w2 =>
    cases w2
    cases w1 with
    | list ho hall=>exact⟨_,_,ns,rfl,rfl,ho,rj ns _ hall,hlen⟩
theorem BW (l:OpenLaw) (args:List WData):l.row.toRowW.claim.post args (.bool true) args=true :=
  postW_of (r:=l.row.toRowW) (X:=(true == true))
    (show WShape.has [] (.bool true) .bool=true by first | rfl | decide | simp [WShape.has,WShape.arms,WShape.armsAll])
    (show (WTm.eq .res (.lit (.bool true))).value [] { args:=args,res:=some (.bool true),after:=args }=some (.bool (true == true)) from w_eq_bool (w_res rfl) w_lit) rfl
theorem xZ {l:OpenLaw}{n:Nat}{q:Program}{loose:List Str}{XP:(Str→Option Value)→Heap→Prop}{YP:World→Heap→Prop}{d:DefRec}
    (hn:l.most=some n) (hdf:d.params.defaults=[])
    (call:∀(w:World) (s₀ s₁:Shared) (mg mb:Str→Option Value) (fa:Addr) (o:Obj) (pm cd doc:Value) (a:Addr) (vs:List Value) (ns:List Int),
      Ground q loose [] XP w s₀ mg mb s₁.heap→YP w s₁.heap →
      s₁.heap.get? fa=some o→o.data=.func (docDef d.name d.params d.body d.scope pm cd doc)→s₁.heap.CodeRec cd d.name→mg d.name=some (.ref fa) →
      s₁.heap.get? a=some { cls:=.type "list",data:=.seq vs.toArray }→IntsAre vs ns→ns.length≤n→s₁.gens=#[] →
      codeAny (model l.prog w) callerA (.call (.ref fa) ⟨[.ref a],[]⟩) (fun r s'=>r=.ok (.ret (.bool true))∧OldK s₁.heap s'.heap∧s'.os=s₁.os∧AllBare s'.gens) s₁) :
    WalkO q loose XP YP l.row.toRowW d [] (fun f vs=>PySem.call f vs):=by
  intro w s₀ s₁ mg mb G Y fa o pm cd doc dV kV ho hd hcd hD hmg hg args vals as hpre hlay hrd hwl hlo
  obtain rfl:dV=.none:=Dflts.none hD hdf
  obtain rfl:kV=.none:=Dflts.noKw hD
  obtain ⟨a,vs,ns,rfl,rfl,hobj,hints,hlen⟩:=Cb hn hpre hwl
  refine enter_call (codeAny_mono (call w s₀ s₁ mg mb fa o pm cd doc a vs ns G Y ho (fd_plain hd) hcd hmg hobj hints hlen hg) fun r s' hq=>?_)
  obtain ⟨rfl,h2,h3,h4⟩:=hq
  exact⟨.inl ⟨.bool true,.bool true,[],rfl,fun _=>rfl,.bool true,BW l _,fun _=>⟨List.Pairwise.nil,fun _ hm=>(nomatch hm)⟩⟩,h2,h3,h4⟩
section
variable {prog:Program}{w:World}{A:Around}{E:Value→Shared→Prop}{s:Shared}{K:Frag}
end
end Att
namespace L2
open PySem PySem.Spec PyProof.Rows
theorem wj:∀{vs:List Value}{ns:List Int},IntsAre vs ns→Vals (ns.map V.int) vs
  | _,_,.nil=>.nil
  | _,_,.cons n t h=>.cons ⟨t,rfl⟩ (wj h)
end L2
namespace L2
open PySem PySem.Spec PyProof.Rows
end L2
/- THE LAST THEOREM (shape; LID, My.* are yours):
   My.Adr: a structure of the addresses that your layer names (classes,functions);My.Txt K t: a structure (Prop) of the equations over K;
   My.txt_mk:{K}{implicit addresses ..} (e1:nsIn K mainGlobals "law" = some (some (.ref f))) (e2:K.lookup f=some ⟨oc,od,.func (fnOf "law" "law" params body scope dV kV doc pm an cdv ct),sl⟩) (e3:codeIn K cdv "law" = true) .. : ∃t,My.Txt K t
set_option maxRecDepth 100000 in
set_option maxHeartbeats 0 in
theorem PySem.Challenge.cw_LID_holds : PySem.Challenge.rw_LID.Holds := by
  w_on;o_law;k_head;(case hw=>w_witness2)
  k_fill
  refine L2.walk_of (l:=PySem.Challenge.rw_LID) (n:=63) (k:=40) (x:="script") (CX:=fun w=>..) (sp:=fun _=>My.sp_law) rfl (by decide) rfl ⟨rfl,by decide,by decide⟩ (fun w h Y=>PySem.W.kIn_of Y) ?F ?S ?C
  case F =>
    intro w mg fa h KX G hmg
    have T:∃t,My.Txt (L2.KOf KX) t:=by
      dsimp only[]                          -- K must stand as «<heap const> w.params» for k_is
      refine' My.txt_mk ?e1 ?e2 ?e3 ..
      (case e1=>PySem.W.k_is)                    -- in the order: a name -> its address -> its object -> its parts
      (case e2=>PySem.W.k_is)
      ..
    obtain ⟨t,T⟩:=T
    have e0:=hmg.symm.trans (PySem.W.mg_of KX G T.law)
    cases e0                                       -- fa is the law's own address
    exact⟨_,fun s u=>.of_eq rfl,fun base kb nb=>My.law_fn T kb nb⟩     -- if «.of_eq rfl» comes too early: refine' ⟨_,?b,fun base kb nb=>My.law_fn T kb nb⟩;exact fun s u=>.of_eq rfl
  case S=>exact fun w H a ns hl hO hS=>..
  case C=>exact ..
(the tactic k_is has no namespace: write k_is) -/
namespace L2
open PySem PySem.Spec PyProof.Rows
def ay (s:Stmt):Arguments:=match s with
  | .FunctionDef _ a _ _ _ _ _ _ _ _=>a
  | _=>{ posonlyargs:=[],args:=[],vararg:=none,kwonlyargs:=[],kw_defaults:=[],kwarg:=none,defaults:=[] }
def ax (s:Stmt):List Stmt:=match s with
  | .FunctionDef _ _ b _ _ _ _ _ _ _=>b
  | _=>[]
def ai (s:Stmt):Scope:=match s with
  | .FunctionDef _ _ _ _ _ _ sc _ _ _=>sc
  | _=>{ kind:=.function,names:=[],isGenerator:=false,isCoroutine:=false }
abbrev CX0:CXT:=fun _ _ _ _ _ _=>False
abbrev E0:XK:=fun _ _ _=>False
theorem JA {X:Cx}:Passes CX0 X E0:=fun _ _ _ _ _ _ _ h=>h.elim
structure Fun (K:PySem.W.Frag) (x qual:Str) (st:Stmt) (f:Addr) (fd:FuncData):Prop where
  ex:∃(oc:Value) (od:Option Addr) (kV doc pm:Value) (an:Option Addr) (cdv ct:Value) (osl:Array (Option Value)),
    fd=PySem.W.fnOf x qual (ay st) (ax st) (ai st) .none kV doc pm an cdv ct∧K.lookup f=some ⟨oc,od,.func fd,osl⟩∧PySem.W.codeIn K cdv qual=true
  kp:PySem.W.keepIn K (.ref f)=true
section
variable {P:Program}{w:World}{K:PySem.W.Frag}{mg:Str→Option Value}{base:Heap}
theorem Fun.ok {x qual:Str}{st:Stmt}{f:Addr}{fd:FuncData}{N ps:List Str}{k:Nat}{sp:Sp} (F:Fun K x qual st f fd) (S:az N ps (ai st)) (len:∀vs H Q E,sp vs H Q E→vs.length=ps.length)
    (hbody:∀(cdv:Value) (A:Around) (outer:List Env) (s:Shared) (H:Hp) (vs:List V) (Q:VK) (E:XK),jL k (A.deeper (envOfC qual (ai st) s.heap.objs.size f cdv))→sp vs H Q E →
      ∃t,PSs (oj CX0 P w K mg base N qual (ai st) f cdv A outer s H E).nox (ax st) t∧t { nx:=fun _ H'=>Q .non H',rt:=Q } (start N vs) H):bE P w K mg base CX0 (k+1) f fd ps sp:=by
  obtain ⟨oc,od,kV,doc,pm,an,cdv,ct,osl,rfl,lk,hcd⟩:=F.ex
  refine A7 lk hcd S len fun A outer s H vs Q E hr hsp=>?_
  obtain ⟨t,h,q⟩:=hbody cdv A outer s H vs Q E hr hsp
  exact⟨t,h.nox,q⟩
theorem Fun.binds {x qual:Str}{st:Stmt}{f:Addr}{fd:FuncData}{ps:List Str} (F:Fun K x qual st f fd)
    (h:∀(kV doc pm:Value) (an:Option Addr) (cdv ct:Value) (us:List Value),us.length=ps.length→bindArgs (PySem.W.fnOf x qual (ay st) (ax st) (ai st) .none kV doc pm an cdv ct) ⟨us,[]⟩=pure (ps.zip us)):Binds K fd ps []:=by
  obtain ⟨oc,od,kV,doc,pm,an,cdv,ct,osl,rfl,lk,hcd⟩:=F.ex
  exact .all (h kV doc pm an cdv ct)
theorem aM {x qual:Str}{st:Stmt}{f:Addr}{oc:Value}{od an:Option Addr}{osl:Array (Option Value)}{kV doc pm cdv ct:Value} (l:K.lookup f=some ⟨oc,od,.func (PySem.W.fnOf x qual (ay st) (ax st) (ai st) .none kV doc pm an cdv ct),osl⟩)
    (c:PySem.W.codeIn K cdv qual=true) (k:PySem.W.keepIn K (.ref f)=true):Fun K x qual st f (PySem.W.fnOf x qual (ay st) (ax st) (ai st) .none kV doc pm an cdv ct):=⟨⟨oc,od,kV,doc,pm,an,cdv,ct,osl,rfl,l,c⟩,k⟩
end
theorem vQ {n:Nat} (h:n≤1000):n<sizeLine:=Nat.lt_of_le_of_lt h (by decide)
section
variable {X:Cx}
theorem pv (i:Nat) {x:Str}{pos:Pos} (hN:X.N[i]?=some x:=by rfl) (hv:Vis X.env.scope x:=by first | exact Or.inl rfl | exact Or.inr (Or.inl rfl) | exact Or.inr (Or.inr rfl)) (hd:(x == ("__debug__" : Str))=false:=by decide)
    (hcd:(x == ("__classdict__" : Str))=false:=by decide):PE X (.Name x pos) (wW i):=Ij hN hv hd hcd
end
def Same (H H':Hp):Prop:=∀b o,H b=some o→H' b=some o
theorem Same.refl (H:Hp):Same H H:=fun _ _ h=>h
end L2
set_option maxHeartbeats 4000000
namespace L2
open PySem PySem.Spec PyProof.Rows
def eU (env:Env):List (Str × NameKind)→List (Str × Addr)→List (Str × Addr)
  | [],acc=>acc
  | (n,k)::r,acc=>eU env r (if k == .free then (n,(env.cells.lookup n).getD 0)::acc else acc)
theorem uR {scope:Scope}{env:Env} (h:∀n,(n,NameKind.free)∈scope.names→∃c,env.cells.lookup n=some c):closureFor scope env=pure (eU env scope.names []):=by
  have go:∀(names:List (Str × NameKind)) (acc:List (Str × Addr)),(∀n,(n,NameKind.free)∈names→∃c,env.cells.lookup n=some c) →
      (forIn names acc (fun (x:Str × NameKind) (cs:List (Str × Addr))=>match x with
        | (name,kind)=>if (kind == .free)=true then (do let c ← cellOf env name;pure (ForInStep.yield ((name,c)::cs))) else pure (ForInStep.yield cs)):Sem (List (Str × Addr)))=pure (eU env names acc):=by
    intro names
    induction names with
    | nil=>intro acc _;rfl
    | cons x r ih =>
      intro acc hn
      obtain ⟨n,k⟩:=x
      rw[List.forIn_cons]
      have hr:∀m,(m,NameKind.free)∈r→∃c,env.cells.lookup m=some c:=fun m hm=>hn m (List.mem_cons_of_mem _ hm)
      by_cases hk:k=.free
      · subst hk
        obtain ⟨c,hc⟩:=hn n List.mem_cons_self
        have e:cellOf env n=pure c:=by unfold cellOf;rw[hc]
        have e2:eU env ((n,NameKind.free)::r) acc=eU env r ((n,c)::acc):=by
          show eU env r (if (NameKind.free == NameKind.free)=true then (n,(env.cells.lookup n).getD 0)::acc else acc)=_
          rw[if_pos (by decide),hc];rfl
        rw[e2,← ih _ hr]
        show (do let __do_lift ← (if (NameKind.free == NameKind.free)=true then (do let c ← cellOf env n;pure (ForInStep.yield ((n,c)::acc))) else pure (ForInStep.yield acc):Sem (ForInStep (List (Str × Addr))));_)=_
        rw[if_pos (by decide),e]
        rfl
      · have hb:(k == NameKind.free)=false:=by simpa using hk
        have e2:eU env ((n,k)::r) acc=eU env r acc:=by
          show eU env r (if (k == NameKind.free)=true then (n,(env.cells.lookup n).getD 0)::acc else acc)=_
          rw[hb];rfl
        rw[e2,← ih _ hr]
        show (do let __do_lift ← (if (k == NameKind.free)=true then (do let c ← cellOf env n;pure (ForInStep.yield ((n,c)::acc))) else pure (ForInStep.yield acc):Sem (ForInStep (List (Str × Addr))));_)=_
        rw[hb]
        rfl
  have e:=go scope.names [] h
  unfold closureFor
  exact congrArg (fun (m:Sem (List (Str × Addr)))=>m >>= fun r=>pure r) e
theorem tU {env:Env}:∀{names:List (Str × NameKind)}{acc:List (Str × Addr)}{n:Str}{c:Addr},(n,c)∈eU env names acc→(n,c)∈acc∨((n,NameKind.free)∈names∧c=(env.cells.lookup n).getD 0)
  | [],acc,n,c,h=>.inl h
  | (m,k)::r,acc,n,c,h=>by
    rcases tU (names:=r) h with h | ⟨h,e⟩
    · by_cases hk:k=.free
      · subst hk
        rw[if_pos (by decide)] at h
        rcases List.mem_cons.mp h with e | h
        · cases e;exact .inr ⟨List.mem_cons_self,rfl⟩
        · exact .inl h
      · have hb:(k == NameKind.free)=false:=by simpa using hk
        rw[hb] at h
        exact .inl h
    · exact .inr ⟨List.mem_cons_of_mem _ h,e⟩
theorem iE {α:Type}:∀{l:List (Str × α)}{n:Str}{c:α},(n,c)∈l→∃d,l.lookup n=some d
  | [],_,_,h=>nomatch h
  | (k,v)::r,n,c,h=>by
    rw[List.lookup_cons]
    cases hb:n == k with
    | true=>exact⟨v,rfl⟩
    | false =>
      rcases List.mem_cons.mp h with e | h
      · cases e;simp at hb
      · exact iE h
theorem uf {env:Env}:∀{names:List (Str × NameKind)}{acc:List (Str × Addr)}{n:Str}{c:Addr},(n,c)∈acc→(n,c)∈eU env names acc
  | [],acc,n,c,h=>h
  | (m,k)::r,acc,n,c,h=>by
    refine uf (names:=r) ?_
    split
    · exact List.mem_cons_of_mem _ h
    · exact h
theorem nQ {env:Env}:∀{names:List (Str × NameKind)}{acc:List (Str × Addr)}{n:Str},(n,NameKind.free)∈names→(n,(env.cells.lookup n).getD 0)∈eU env names acc
  | [],acc,n,h=>nomatch h
  | (m,k)::r,acc,n,h=>by
    rcases List.mem_cons.mp h with e | h
    · cases e
      refine uf (names:=r) ?_
      rw[if_pos (by decide)]
      exact List.mem_cons_self
    · exact nQ (names:=r) h
theorem kx:∀{names:List (Str × NameKind)}{n:Nat}{acc:List (Str × Addr)}{x:Str}{c:Addr},(x,c)∈cellsFrom n names acc→(x,c)∈acc∨((x,NameKind.cell)∈names∧n≤c)
  | [],n,acc,x,c,h=>.inl h
  | (m,k)::r,n,acc,x,c,h=>by
    unfold cellsFrom at h
    by_cases hk:k=.cell
    · subst hk
      rw[if_pos (by decide)] at h
      rcases kx (names:=r) h with h | ⟨h,e⟩
      · rcases List.mem_cons.mp h with e | h
        · cases e;exact .inr ⟨List.mem_cons_self,Nat.le_refl _⟩
        · exact .inl h
      · exact .inr ⟨List.mem_cons_of_mem _ h,by omega⟩
    · have hb:(k == NameKind.cell)=false:=by simpa using hk
      rw[hb] at h
      rcases kx (names:=r) h with h | ⟨h,e⟩
      · exact .inl h
      · exact .inr ⟨List.mem_cons_of_mem _ h,e⟩
theorem fS:∀{names:List (Str × NameKind)}{n:Nat}{acc:List (Str × Addr)}{x:Str}{c:Addr},(x,c)∈acc→(x,c)∈cellsFrom n names acc
  | [],n,acc,x,c,h=>h
  | (m,k)::r,n,acc,x,c,h=>by
    unfold cellsFrom
    split
    · exact fS (names:=r) (List.mem_cons_of_mem _ h)
    · exact fS (names:=r) h
theorem kC:∀{names:List (Str × NameKind)}{n:Nat}{acc:List (Str × Addr)}{x:Str},(x,NameKind.cell)∈names→∃c,(x,c)∈cellsFrom n names acc
  | [],n,acc,x,h=>nomatch h
  | (m,k)::r,n,acc,x,h=>by
    unfold cellsFrom
    rcases List.mem_cons.mp h with e | h
    · cases e
      rw[if_pos (by decide)]
      exact⟨n,fS (names:=r) List.mem_cons_self⟩
    · split
      · exact kC (names:=r) h
      · exact kC (names:=r) h
theorem jE:∀{names:List (Str × NameKind)}{h:Heap}{acc:List (Str × Addr)}{x:Str}{c:Addr},(x,c)∈cellsFrom h.objs.size names acc→(x,c)∈acc∨(pushCells h names).IsCell c none
  | [],h,acc,x,c,m=>.inl m
  | (n,k)::r,h,acc,x,c,m=>by
    unfold cellsFrom at m
    unfold pushCells
    split at m
    · rename_i hk
      rw[if_pos hk]
      have m':(x,c)∈cellsFrom (h.push { cls:=.type "cell",data:=.cell none }).objs.size r ((n,h.objs.size)::acc):=by rw[Heap.size_push];exact m
      rcases jE (names:=r) m' with z | z
      · rcases List.mem_cons.mp z with e | z
        · cases e
          exact .inr ⟨_,pushCells_keeps _ _ _ _ (Heap.get?_push_size _ rfl),rfl⟩
        · exact .inl z
      · exact .inr z
    · rename_i hk
      rw[if_neg hk]
      exact jE (names:=r) m
theorem ku:∀{names:List (Str × NameKind)}{n:Nat}{acc:List (Str × Addr)},(∀x c,(x,c)∈acc→c<n)→(∀x y c,(x,c)∈acc→(y,c)∈acc→x=y) →
    ∀x y c,(x,c)∈cellsFrom n names acc→(y,c)∈cellsFrom n names acc→x=y
  | [],n,acc,lt,inj,x,y,c,h,h'=>inj x y c h h'
  | (m,k)::r,n,acc,lt,inj,x,y,c,h,h'=>by
    unfold cellsFrom at h h'
    split at h
    · rename_i hk
      rw[if_pos hk] at h'
      refine ku (names:=r) (n:=n+1) (acc:=(m,n)::acc) (fun x c hm=>?_) (fun x y c hm hm'=>?_) x y c h h'
      · rcases List.mem_cons.mp hm with e | hm
        · cases e;exact Nat.lt_succ_self _
        · exact Nat.lt_succ_of_lt (lt _ _ hm)
      · rcases List.mem_cons.mp hm with e | hm<;>rcases List.mem_cons.mp hm' with e' | hm'
        · cases e;cases e';rfl
        · cases e;exact absurd (lt _ _ hm') (Nat.lt_irrefl _)
        · cases e';exact absurd (lt _ _ hm) (Nat.lt_irrefl _)
        · exact inj _ _ _ hm hm'
    · rename_i hk
      rw[if_neg hk] at h'
      exact ku (names:=r) lt inj x y c h h'
theorem jI {env:Env}:∀{names:List (Str × NameKind)}{x:Str},
    (names.map fun (n,k)=>if (k == NameKind.free && env.scope.kind == .function && env.kindOf n == some .cell) then (n,NameKind.cell) else (n,k)).lookup x =
      (names.lookup x).map fun k=>if (k == NameKind.free && env.scope.kind == .function && env.kindOf x == some .cell)=true then NameKind.cell else k
  | [],x=>rfl
  | (n,k)::r,x=>by
    have ih:=@jI env r x
    show List.lookup x ((if (k == NameKind.free && env.scope.kind == .function && env.kindOf n == some .cell)=true then (n,NameKind.cell) else (n,k))::_)=_
    have e:(if (k == NameKind.free && env.scope.kind == .function && env.kindOf n == some .cell)=true then (n,NameKind.cell) else (n,k))=(n,if (k == NameKind.free && env.scope.kind == .function && env.kindOf n == some .cell)=true then NameKind.cell else k):=by split<;>rfl
    rw[e,List.lookup_cons,List.lookup_cons]
    cases hx:x == n with
    | true =>
      have hx':=beq_iff_eq.mp hx
      subst hx'
      rfl
    | false=>exact ih
structure bD (X:Cx) (scope:Scope) (tn cap:List Str) (idx:List Nat):Prop where
  kind:scope.kind=.function
  nd:(scope.names.map (·.1)).Nodup
  tnd:(tn++cap).Nodup
  ct:∀y∈cap,scope.names.lookup y=some .free
  ci:idx.map (fun i=>X.N[i]?)=cap.map some
  fr:∀y∈scope.names,y.2=.free→X.env.scope.names.lookup y.1=some .cell∨X.env.scope.names.lookup y.1=some .free
theorem ni {α:Type}:∀{l:List (Str × α)}{n:Str}{c:α},(l.map (·.1)).Nodup→(n,c)∈l→l.lookup n=some c
  | [],_,_,_,h=>nomatch h
  | (k,v)::r,n,c,nd,h=>by
    obtain ⟨h1,h2⟩:=List.nodup_cons.mp nd
    rw[List.lookup_cons]
    rcases List.mem_cons.mp h with e | hm
    · cases e;simp
    · have hne:n≠k:=fun e=>h1 (List.mem_map.mpr ⟨_,hm,e⟩)
      have hb:(n == k)=false:=beq_eq_false_iff_ne.mpr hne
      rw[hb]
      exact ni h2 hm
def B3 (σ:St) (idx:List Nat):St:=idx.map fun i=>(σ[i]?).getD none
def ib (k:Nat) (idx:List Nat) (σ:St):St:=List.replicate k none++B3 σ idx
def cxC (X:Cx) (N':List Str) (scope:Scope) (cs:List (Str × Addr)) (C:Addr) (fp:List Addr) (s₀:Shared) (H₀:Hp):Cx where
  prog:=X.prog
  w:=X.w
  K:=X.K
  mg:=X.mg
  base:=X.base
  A:=X.A
  N:=N'
  s₀:=s₀
  H₀:=H₀
  env:=compEnvC scope cs C X.env
  outer:=X.stack
  stack:=X.stack
  ex:=fp
  fn:=fun x=>scope.names.lookup x == some .local || scope.names.lookup x == some .cell
  calm:=X.calm
  pn:=[]
  xe:=fun _ _=>False
theorem oX {M:Model}{A:Around}{E:Value→Shared→Prop}{s:Shared}{scope:Scope}{globals:Addr}{cl:List (Str × Addr)}{qual:Str}{zL:Env}{Q:Env→Shared→Prop}
    (hQ:Q { scope:=scope,locals:=s.heap.objs.size,globals:=globals,cells:=cellsFrom (s.heap.objs.size+1) scope.names cl,qual:=qual,func:=none,code:=zL.code,frame:=zL.frame,builtins:=zL.builtins }
      { s with heap:=pushCells (s.heap.push { cls:=.type "dict",data:=.dict #[] }) scope.names }) :
    wpAny M A (newFunctionEnv scope globals cl [] qual none .none (some zL)) Q E s:=by
  simp only[newFunctionEnv,Option.isSome_some,if_true]
  refine wpAny_bind (wpAny_alloc ?_)
  refine wpAny_bind (wpAny_layCells _ (fun name kind cells=>by cases hkc:kind == NameKind.cell<;>simp [hkc]) _ _ _ _ ?_)
  rw[show ({ s with heap:=s.heap.push { cls:=.type "dict",data:=.dict #[] } }:Shared).heap.objs.size=s.heap.objs.size+1 from Heap.size_push ..]
  exact wpAny_bind (wpAny_pure (wpAny_pure hQ))
section
variable {prog:Program}{w:World}{A:Around}{R:Result→Shared→Prop}{s:Shared}
theorem xh {elt target iter:Expr}{ifs:List Expr}{scope:Scope}{pos:Pos}{it acc:Value}{env:Env} (I:Nat→Shared→Prop)
    (turn:∀n s,I n s→wpAny (model prog w) A (pyNext it) (fun r s₁=>match r with
      | none=>R (.ok .next) s₁
      | some v=>wpAny (model prog w) A (letOwnedTupleGo target it v) (fun _ s₁'=>wpAny (model prog w) A (assign target env v) (fun _ s₂ =>
          wpAny (model prog w) A (forIn ifs true fun c r=>if r=true then do let ok ← isTrue c env (eval c env);pure (ForInStep.yield ok) else pure (ForInStep.yield r)) (fun ok s₃ =>
            if ok=true then wpAny (model prog w) A (eval elt env) (fun x s₄ =>
              wpAny (model prog w) A (call (.builtin "list.append") [acc,x]) (fun _ s₅=>∃m,m<n∧I m s₅) (fun _ _=>False) s₄) (fun _ _=>False) s₃
            else ∃m,m<n∧I m s₃) (fun _ _=>False) s₂) (fun _ _=>False) s₁') (fun _ _=>False) s₁) (fun _ _=>False) s)
    (n:Nat) (h:I n s) :
    codeAny (model prog w) A (.compLoop (.ListComp elt [⟨target,iter,ifs,0⟩] scope pos) 0 it acc env) R s:=by
  refine codeAny_loop rfl I (fun n s hI=>?_) n h
  show wpAny _ A ((compTurn (.ListComp elt [⟨target,iter,ifs,0⟩] scope pos) 0 it acc env).onRaise (fun x=>do noteFrame x env;theTreesLotGoes x)) _ _ s
  refine wpAny_noted ?_
  rw[compTurn_list]
  refine wpAny_bind (wpAny_standAt (wpAny_bind (wpAny_mono (turn n s hI) (fun r s₁ h₁=>?_) fun _ _ h'=>h'.elim)))
  cases r with
  | none=>exact wpAny_pure h₁
  | some v =>
    refine wpAny_bind (wpAny_mono h₁ (fun _ s₁' h₁'=>?_) fun _ _ h'=>h'.elim)
    refine wpAny_bind (wpAny_mono h₁' (fun _ s₂ h₂=>wpAny_bind (wpAny_mono h₂ (fun ok s₃ h₃=>?_) fun _ _ h'=>h'.elim)) fun _ _ h'=>h'.elim)
    cases ok with
    | false=>exact wpAny_pure ⟨rfl,h₃⟩
    | true =>
      exact wpAny_bind (wpAny_bind (wpAny_mono h₃ (fun x s₄ h₄=>wpAny_bind (wpAny_mono h₄ (fun _ s₅ h₅=>wpAny_pure (wpAny_pure ⟨rfl,h₅⟩)) fun _ _ h'=>h'.elim)) fun _ _ h'=>h'.elim))
end
section
variable {X:Cx}{pins:List (Addr × Obj)}{σ:St}{H:Hp}{s2:Shared}{scope:Scope}{tn cap:List Str}{idx:List Nat}{fp:List Addr}
abbrev qI:Obj:={ cls:=.type "list",data:=.seq ([]:List Value).toArray }
abbrev Ec:Obj:={ cls:=.type "dict",data:=.dict #[] }
abbrev yc (h:Heap) (scope:Scope):Heap:=pushCells ((h.push qI).push Ec) scope.names
abbrev wy (X:Cx) (h:Heap) (scope:Scope):List (Str × Addr):=cellsFrom (h.objs.size+1+1) scope.names (eU X.env scope.names [])
theorem DY {σ:St}{idx:List Nat}{j:Nat}{v:V} (h:(B3 σ idx)[j]?=some (some v)):∃i,idx[j]?=some i∧σ[i]?=some (some v):=by
  unfold B3 at h
  rw[List.getElem?_map] at h
  cases e:idx[j]? with
  | none=>rw[e] at h;cases h
  | some i =>
    rw[e] at h
    have h':(σ[i]?).getD none=some v:=Option.some.inj h
    refine⟨i,rfl,?_⟩
    cases q:σ[i]? with
    | none=>rw[q] at h';cases h'
    | some o=>rw[q] at h';have h'':o=some v:=h';rw[h'']
theorem zU (I:Inv X pins σ H s2) (S:bD X scope tn cap idx) (hf:∀b∈fp,t4 X pins H b) (hfl:∀b∈fp,b<s2.heap.objs.size) :
    Inv (cxC X (tn++cap) scope (wy X s2.heap scope) (s2.heap.objs.size+1) fp s2 H) [(s2.heap.objs.size,qI)] (ib tn.length idx σ) H { s2 with heap:=yc s2.heap scope }:=by
  have old:∀b o,s2.heap.get? b=some o→(yc s2.heap scope).get? b=some o:=fun b o e=>pushCells_keeps _ _ _ _ (Heap.get?_push_of_some _ (Heap.get?_push_of_some _ e))
  have hsz:((s2.heap.push qI).push Ec).objs.size=s2.heap.objs.size+1+1:=by rw[Heap.size_push,Heap.size_push]
  have hacc:(yc s2.heap scope).get? s2.heap.objs.size=some qI:=pushCells_keeps _ _ _ _ (Heap.get?_push_of_some _ (Heap.get?_push_size _ rfl))
  have hns:(yc s2.heap scope).Ns (s2.heap.objs.size+1) (fun _=>none):=by
    have e:=(Heap.Ns.new (s2.heap.push qI) (.type "dict")).keeps (pushCells_keeps scope.names _)
    rw[Heap.size_push] at e
    exact e
  have clm:∀x c,(x,c)∈eU X.env scope.names []→X.env.cells.lookup x=some c∧(x,NameKind.free)∈scope.names:=fun x c h=>by
    rcases tU h with z | ⟨z,e⟩
    · nomatch z
    · obtain ⟨d,hd⟩:=I.ok.has x (S.fr _ z rfl)
      rw[hd] at e
      have e':c=d:=e
      subst e'
      exact⟨hd,z⟩
  have csm:∀x c,(x,c)∈wy X s2.heap scope→(X.env.cells.lookup x=some c∧(x,NameKind.free)∈scope.names)∨((x,NameKind.cell)∈scope.names∧s2.heap.objs.size+1+1≤c):=fun x c h=>by
    rcases kx h with z | z
    · exact .inl (clm x c z)
    · exact .inr z
  have clt:∀x c,X.env.cells.lookup x=some c→c<s2.heap.objs.size:=fun x c h=>by
    obtain ⟨v,q⟩:=I.cell x c h
    exact q.lt
  have freeK:∀x,(x,NameKind.free)∈scope.names→scope.names.lookup x=some .free:=fun x h=>ni S.nd h
  have cellK:∀x,(x,NameKind.cell)∈scope.names→scope.names.lookup x=some .cell:=fun x h=>ni S.nd h
  refine⟨⟨I.ok.mod,S.kind,I.ok.glob,I.ok.blt,Nat.le_succ _,fun x y c h1 h2=>?_,fun x hx=>?_,fun x c hfn h=>?_,I.ok.hd,I.ok.frames,.inl rfl,fun b hb=>⟨?_,fun x c h=>?_⟩,I.bs,Nat.le_trans I.ok.bsz I.sz,fun b o e hb=>?_,fun b hb z=>?_,I.stack,I.rM⟩,
    rfl,I.bare,Un.kept old,⟨_,hns,fun i x v e1 e2 e3=>?_⟩,fun x c h=>?_,I.hok.fresh (Nat.le_succ _),fun x c h=>?_,fun p hp=>?_,I.hok.kept old,?_⟩
  · exact ku (fun x c h=>Nat.lt_succ_of_lt (Nat.lt_succ_of_lt (clt x c (clm x c h).1))) (fun x y c h h'=>I.ok.inj x y c (clm x c h).1 (clm y c h').1) x y c (PySem.mem_of_lookup h1) (PySem.mem_of_lookup h2)
  · have hx:(relabel scope X.env).names.lookup x=some .cell∨(relabel scope X.env).names.lookup x=some .free:=hx
    have e:=@jI X.env scope.names x
    have hk:∃k,scope.names.lookup x=some k∧(k=.cell∨k=.free):=by
      cases q:scope.names.lookup x with
      | none =>
        rw[q] at e
        rcases hx with z | z
        · have z':=e.symm.trans z;cases z'
        · have z':=e.symm.trans z;cases z'
      | some k =>
        rw[q] at e
        refine⟨k,rfl,?_⟩
        cases k with
        | cell=>exact .inl rfl
        | free=>exact .inr rfl
        | _ =>
          exfalso
          rcases hx with z | z
          · have z':=e.symm.trans z;cases z'
          · have z':=e.symm.trans z;cases z'
    obtain ⟨k,hk,hk2⟩:=hk
    have hm:=PySem.mem_of_lookup hk
    rcases hk2 with rfl | rfl
    · obtain ⟨c,hc⟩:=kC (n:=s2.heap.objs.size+1+1) (acc:=eU X.env scope.names []) hm
      exact iE hc
    · exact iE (fS (nQ (env:=X.env) (acc:=[]) hm))
  · rcases csm x c (PySem.mem_of_lookup h) with ⟨_,z⟩ | ⟨_,z⟩
    · have hfn:(scope.names.lookup x == some .local || scope.names.lookup x == some .cell)=true:=hfn
      rw[freeK x z] at hfn
      exact absurd hfn (by decide)
    · show s2.heap.objs.size≤c
      omega
  · -- b is not the block's frame
    intro z
    have z':b=s2.heap.objs.size+1:=z
    exact absurd (hfl b hb) (by rw[z'];exact Nat.not_lt.mpr (Nat.le_succ _))
  · rcases csm x c (PySem.mem_of_lookup h) with ⟨z,_⟩ | ⟨_,z⟩
    · exact (hf b hb).2.2.2.2.1 x c z
    · intro e
      exact absurd (hfl b hb) (by rw[← e];exact Nat.not_lt.mpr (Nat.le_trans (Nat.le_trans (Nat.le_succ _) (Nat.le_succ _)) z))
  · rcases (hf b hb).2.2.2.1 with z | z
    · exact I.ok.noex b o e z
    · exact absurd (Nat.lt_of_lt_of_le (Heap.lt_size e) (Nat.le_trans I.ok.bsz z)) (Nat.lt_irrefl _)
  · obtain ⟨_,f1,f2,_⟩:=hf b hb
    rcases List.mem_cons.mp (I.sW b z) with e | e
    · exact f1 e
    · exact f2 e
  · -- the names
    have e1:(tn++cap)[i]?=some x:=e1
    have e2:(ib tn.length idx σ)[i]?=some (some v):=e2
    unfold ib at e2
    by_cases hi:i<tn.length
    · rw[List.getElem?_append_left (by rw[List.length_replicate];exact hi),List.getElem?_replicate,if_pos hi] at e2
      cases e2
    · rw[List.getElem?_append_right (by rw[List.length_replicate];omega),List.length_replicate] at e2
      rw[List.getElem?_append_right (by omega)] at e1
      obtain ⟨i0,h1,h2⟩:=DY e2
      have hN:X.N[i0]?=some x:=by
        have q:=congrArg (fun l=>l[i - tn.length]?) S.ci
        simp only[List.getElem?_map,h1,e1,Option.map_some] at q
        exact Option.some.inj q
      have hfr:=S.ct x (List.mem_of_getElem? e1)
      have hmem:=PySem.mem_of_lookup hfr
      have hk:=S.fr _ hmem rfl
      obtain ⟨m,hn,hl⟩:=I.loc
      obtain ⟨u,r,l⟩:=hl i0 x v hN h2 (hk.elim (fun z=>.inr (.inl z)) fun z=>.inr (.inr z))
      refine⟨u,r,.inr ⟨?_,?_⟩⟩
      · show (relabel scope X.env).names.lookup x=some .cell∨(relabel scope X.env).names.lookup x=some .free
        have e:=@jI X.env scope.names x
        rw[hfr] at e
        have e':(relabel scope X.env).names.lookup x=some (if (NameKind.free == NameKind.free && X.env.scope.kind == .function && X.env.kindOf x == some .cell)=true then NameKind.cell else NameKind.free):=e
        rw[e']
        split
        · exact .inl rfl
        · exact .inr rfl
      · rcases l with ⟨hk',_⟩ | ⟨_,c,hc,z⟩
        · exfalso
          have hk':X.env.scope.names.lookup x=some .local:=hk'
          rcases hk with q | q
          · have q:X.env.scope.names.lookup x=some .cell:=q
            rw[q] at hk';cases hk'
          · have q:X.env.scope.names.lookup x=some .free:=q
            rw[q] at hk';cases hk'
        · obtain ⟨d,hd⟩:=iE (fS (names:=scope.names) (n:=s2.heap.objs.size+1+1) (nQ (env:=X.env) (acc:=[]) hmem))
          refine⟨c,?_,z.keeps old⟩
          rcases csm x d (PySem.mem_of_lookup hd) with ⟨q,_⟩ | ⟨q,_⟩
          · rw[hc] at q;cases q;exact hd
          · have:=cellK x q;rw[hfr] at this;cases this
  · have hm:(x,c)∈cellsFrom ((s2.heap.push qI).push Ec).objs.size scope.names (eU X.env scope.names []):=by rw[hsz];exact PySem.mem_of_lookup h
    rcases jE hm with z | z
    · obtain ⟨v,q⟩:=I.cell x c (clm x c z).1
      exact⟨v,q.keeps old⟩
    · exact⟨_,z⟩
  · rcases csm x c (PySem.mem_of_lookup h) with ⟨z,_⟩ | ⟨_,z⟩
    · exact I.freeC x c z
    · exact I.hok.fresh (by omega)
  · have hp':p∈[(s2.heap.objs.size,qI)]:=hp
    obtain rfl:=List.mem_singleton.mp hp'
    refine⟨hacc,I.hok.fresh (Nat.le_refl _),Nat.ne_of_lt (Nat.lt_succ_self _),fun z=>?_,fun v z=>?_⟩
    · rcases List.mem_cons.mp (I.sW _ z) with e | e
      · exact absurd I.lt (by rw[← e];exact Nat.lt_irrefl _)
      · exact I.Jc (Nat.le_refl _) e
    · have z':Data.seq _ _=Data.cell v:=z
      cases z'
  · show (ib tn.length idx σ).length=(tn++cap).length
    have:=congrArg List.length S.ci
    unfold ib B3
    simp only[List.length_append,List.length_replicate,List.length_map] at this ⊢
    omega
theorem comp_back {N':List Str}{cs:List (Str × Addr)}{C D:Addr}{pins':List (Addr × Obj)}{σ':St}{H8:Hp}{s8:Shared}{vs:List V}{its:List Value}{n:Nat} (I:Inv X pins σ H s2) (hf:∀b∈fp,t4 X pins H b)
    (J:Inv (cxC X N' scope cs C fp s2 H) pins' σ' H8 s8) (hD:s2.heap.objs.size≤D) (hD8:H8 D=none) (hget:s8.heap.get? D=some { cls:=.type "list",data:=.seq its.toArray n }) (r:Vals vs its) (hz:vs.length≤sizeLine) :
    Inv X pins σ (upd H8 D (.lst vs)) s8:=by
  have u:=J.base
  have hb:∀b o,s2.heap.get? b=some o→b≠D:=fun b o e=>Nat.ne_of_lt (Nat.lt_of_lt_of_le (Heap.lt_size e) hD)
  refine I.yR (ch:=fp) J.os ⟨u.keep,u.slot,fun b o e n hx=>?_,u.there,fun b xs e=>?_,fun b o xs e=>?_,fun b ps e=>?_⟩ (fun b o e=>?_) J.bare fun b hbf=>?_
  · rw[aP (hb b o e)];exact u.free b o e n hx
  · have q:=u.tups b xs e
    rw[aP (aY q hD8)];exact q
  · have q:=u.frzs b o xs e
    rw[aP (aY q hD8)];exact q
  · obtain ⟨m,q⟩:=u.tbls b ps e
    exact⟨m,by rw[aP (aY q hD8)];exact q⟩
  · by_cases e1:b=D
    · subst e1
      rw[aH] at e
      cases e
      exact⟨hz,its,n,r,hget⟩
    · rw[aP e1] at e
      exact (J.hok b o e).pT (fun _ _ _ q=>q) (fun c q=>by rw[aP (aY q hD8)];exact q) fun c xs q=>by rw[aP (aY q hD8)];exact q
  · obtain ⟨_,f1,_,f3,f4,f5⟩:=hf b hbf
    exact⟨f3,f1,f4,f5⟩
def PTs (X:Cx) (ifs:List Expr) (tt:TT):Prop :=
  ∀(pins:List (Addr × Obj)) (s:Shared) (σ:St) (H:Hp) (Q:Bool→Hp→Prop),Inv X pins σ H s→tt σ H Q →
    wpAny (model X.prog X.w) X.A (forIn ifs true fun c r=>if r=true then do let ok ← isTrue c X.env (eval c X.env);pure (ForInStep.yield ok) else pure (ForInStep.yield r)) (TP X pins σ Q) X.xe s
def FU:TT:=fun _ H Q=>Q true H
theorem Bp:PTs X [] FU:=fun _ _ _ H _ I h=>wpAny_tests_nil ⟨H,I,h⟩
theorem Bs {c:Expr}{tc:TT} (h:PT X c tc):PTs X [c] tc:=fun pins s σ H Q I q=>wpAny_tests_one (h pins s σ H Q I q)
def yC (wi:TI) (g:TG) (tt:TT) (te:TE) (k:Nat) (idx:List Nat):TE:=fun σ H Q=>wi σ H fun J H1 =>
  ∃W:Nat→Nat→List V→Hp→Prop,(∃m,W 0 m [] H1)∧∀i m vs H,W i m vs H →
    (J.stop i H∧vs.length≤sizeLine∧∀p,H p=none→Q (.ref p) (upd H p (.lst vs))) ∨
    (J.go i H∧vs.length≤sizeLine∧∃N:List V→Hp→Prop,(∀vs' H',N vs' H'→∃m',m' < m∧W (i+1) m' vs' H')∧∀x H',J.yld i H x H'→g x (ib k idx σ) H' fun σ2 H2=>tt σ2 H2 fun b H3 =>
      if b=true then te σ2 H3 fun v H4=>N (vs++[v]) H4 else N vs H3)
def mR (k:Nat) (g:TG):Prop:=∀x σ H Q,g x σ H Q→g x σ H fun σ2 H2=>Q σ2 H2∧σ2.length=σ.length∧∀j,k≤j→σ2[j]?=σ[j]?
theorem mR.name {i k:Nat} (h:i<k):mR k (jk i):=fun x σ H Q q=>⟨q,by simp,fun j hj=>by rw[List.getElem?_set_ne (by omega)]⟩
theorem CA {k j:Nat}{idx:List Nat}{σ:St}{v:V} (h:(ib k idx σ)[j]?=some (some v)):k≤j:=by
  by_cases hj:j<k
  · unfold ib at h
    rw[List.getElem?_append_left (by rw[List.length_replicate];exact hj),List.getElem?_replicate,if_pos hj] at h
    cases h
  · omega
theorem tw {elt target iter:Expr}{ifs:List Expr}{pos:Pos}{g:TG}{tt:TT}{te:TE}{E:Value→Shared→Prop}{it:Addr}{tnn:Nat→Heap→Prop}{J:It}{Q:VK}{RR:Value→Addr→Result→Shared→Prop}
    (hcalm:X.calm=true) (S:bD X scope tn cap idx) (hgs:mR tn.length g)
    (hg:∀cs C fp s₀ H₀,PG (cxC X (tn++cap) scope cs C fp s₀ H₀) target g) (ht:∀cs C fp s₀ H₀,PTs (cxC X (tn++cap) scope cs C fp s₀ H₀) ifs tt)
    (he:∀cs C fp s₀ H₀,PE (cxC X (tn++cap) scope cs C fp s₀ H₀) elt te)
    (I:Inv X pins σ H s2) (T:Turn X.prog X.w X.K target J fp it tnn) (st2:tnn 0 s2.heap) (f2:∀b∈fp,t4 X pins H b)
    (hW:∃W:Nat→Nat→List V→Hp→Prop,(∃m,W 0 m [] H)∧∀i m vs H,W i m vs H →
      (J.stop i H∧vs.length≤sizeLine∧∀p,H p=none→Q (.ref p) (upd H p (.lst vs))) ∨
      (J.go i H∧vs.length≤sizeLine∧∃N:List V→Hp→Prop,(∀vs' H',N vs' H'→∃m',m' < m∧W (i+1) m' vs' H')∧∀x H',J.yld i H x H'→g x (ib tn.length idx σ) H' fun σ2 H2=>tt σ2 H2 fun b H3 =>
        if b=true then te σ2 H3 fun v H4=>N (vs++[v]) H4 else N vs H3))
    (hRR:∀(s8:Shared) (H8:Hp) (C D:Addr) (m:Str→Option Value),Inv X pins σ H8 s8→s8.heap.Ns C m→H8 C=none→s2.heap.objs.size≤C→Q (.ref D) H8→RR (.ref D) C (.ok .next) s8) :
    wpAny (model X.prog X.w) X.A (newList []) (fun acc s₃=>wpAny (model X.prog X.w) X.A (newFunctionEnv scope X.env.globals (eU X.env scope.names []) [] X.env.qual none .none (some X.env)) (fun cenv s₄ =>
      codeAny (model X.prog X.w) X.A (.compStart (.ListComp elt [⟨target,iter,ifs,0⟩] scope pos) 0 (.ref it) acc { cenv with scope:=relabel scope X.env }) (RR acc cenv.locals) s₄) E s₃) E s2:=by
  obtain ⟨W,⟨m0,w0⟩,turn⟩:=hW
  have hfl:∀b∈fp,b<s2.heap.objs.size:=fun b hb=>by
    obtain ⟨o,e,_⟩:=T.obj _ _ st2 b hb
    exact Heap.lt_size e
  have I4:=zU I S f2 hfl
  refine wpAny_newObj_type (oX ?_)
  have e1:({ s2 with heap:=s2.heap.push qI }:Shared).heap.objs.size=s2.heap.objs.size+1:=Heap.size_push ..
  rw[e1]
  generalize hX':cxC X (tn++cap) scope (wy X s2.heap scope) (s2.heap.objs.size+1) fp s2 H=X' at I4
  have hA:X'.A=X.A:=by subst hX';rfl
  have hprog:X'.prog=X.prog:=by subst hX';rfl
  have hw:X'.w=X.w:=by subst hX';rfl
  have hK:X'.K=X.K:=by subst hX';rfl
  have hcal:X'.calm=true:=by subst hX';exact hcalm
  have hxe:X'.xe=fun _ _=>False:=by subst hX';rfl
  have hloc:X'.env.locals=s2.heap.objs.size+1:=by subst hX';rfl
  have hpn:X'.pn=[]:=by subst hX';rfl
  have hex:X'.ex=fp:=by subst hX';rfl
  have hs0:X'.s₀=s2:=by subst hX';rfl
  have hg':PG X' target g:=by subst hX';exact hg _ _ _ _ _
  have ht':PTs X' ifs tt:=by subst hX';exact ht _ _ _ _ _
  have he':PE X' elt te:=by subst hX';exact he _ _ _ _ _
  have henv:X'.env={ scope:=relabel scope X.env,locals:=s2.heap.objs.size+1,globals:=X.env.globals,cells:=wy X s2.heap scope,qual:=X.env.qual,func:=none,code:=X.env.code,frame:=X.env.frame,builtins:=X.env.builtins }:=by subst hX';rfl
  let lo:List Value→Nat→Obj:=fun its n=>{ cls:=.type "list",data:=.seq its.toArray n }
  have stat:∀{H':Hp}{pl:List (Addr × Obj)},(∀b∈fp,H' b=none)→(∀p∈pl,p.1∉fp)→∀b∈fp,t4 X' pl H' b:=fun {H' pl} hn hp b hb=>by
    have q:=I4.ok.exf b (by rw[hex];exact hb)
    have q2:=I4.ok.exfs b (by rw[hex];exact hb)
    refine⟨hn b hb,q.1,q2,.inl (by rw[hex];exact hb),q.2,fun p hp' z=>?_⟩
    rw[hpn] at hp'
    exact hp p hp' (by rw[z];exact hb)
  have Dfp:s2.heap.objs.size∉fp:=fun z=>Nat.lt_irrefl _ (hfl _ z)
  have D1:∀(o:Obj),∀p∈[((s2.heap.objs.size:Addr),o)],p.1∉fp:=fun o p hp=>by
    obtain rfl:=List.mem_singleton.mp hp
    exact Dfp
  have loop:∀s3:Shared,s3={ s2 with heap:=yc s2.heap scope } →
      codeAny (model X.prog X.w) X.A (.compLoop (.ListComp elt [⟨target,iter,ifs,0⟩] scope pos) 0 (.ref it) (.ref s2.heap.objs.size) X'.env) (RR (.ref s2.heap.objs.size) (s2.heap.objs.size+1)) s3:=by
    intro s3 hs3
    subst hs3
    refine xh (fun n s'=>∃i vs its nn σ' H',Inv X' [(s2.heap.objs.size,lo its nn)] σ' H' s'∧(∀(j:Nat) v,(ib tn.length idx σ)[j]?=some (some v)→σ'[j]?=some (some v))∧σ'.length=(ib tn.length idx σ).length∧tnn i s'.heap∧(∀b∈fp,H' b=none)∧Vals vs its∧W i n vs H') ?_ m0
      ⟨0,[],[],0,_,H,I4,fun _ _ z=>z,rfl,T.keep _ _ _ st2 (fun b hb o e=>pushCells_keeps _ _ _ _ (Heap.get?_push_of_some _ (Heap.get?_push_of_some _ e))),fun b hb=>(f2 b hb).1,.nil,w0⟩
    rintro n s' ⟨i,vs,its,nn,σ',H',I',hσ,hσl,st',fr',rv,w'⟩
    have I5:Inv X' [(s2.heap.objs.size,lo its nn)] (ib tn.length idx σ) H' s':=I'.weak hσl.symm hσ
    rcases turn i n vs H' w' with ⟨stop,hz,q⟩ | ⟨go,hz,N,hN,step⟩
    · -- it ends
      have td:=T.done X' hprog hw hK hcal i _ s' _ H' (fun _ _=>False) I5 (stat fr' (D1 _)) st' stop
      rw[hA] at td
      refine thn td fun r s8 ⟨hr,I8⟩=>?_
      subst hr
      obtain ⟨hp1,hp2,_⟩:=I8.pin (s2.heap.objs.size,lo its nn) (by rw[hpn];exact List.mem_singleton.mpr rfl)
      have J8:Inv X pins σ (upd H' s2.heap.objs.size (.lst vs)) s8:=by
        subst hX'
        exact comp_back I f2 I8 (Nat.le_refl _) hp2 hp1 rv hz
      obtain ⟨m,hm,_⟩:=I8.loc
      rw[hloc] at hm
      have hCf:H' (s2.heap.objs.size+1)=none:=by have:=I8.free;rw[hloc] at this;exact this
      refine hRR s8 _ _ _ m J8 hm ?_ (Nat.le_succ _) (q _ hp2)
      rw[aP (Nat.ne_of_gt (Nat.lt_succ_self _))]
      exact hCf
    · -- a turn
      have ti:=T.item X' hprog hw hK hcal i _ s' _ H' (fun _ _=>False) I5 (stat fr' (D1 _)) st' go
      rw[hA] at ti
      refine thn ti fun r s5 ⟨u,hr,h5⟩=>?_
      subst hr
      refine thn h5 fun _ s6 ⟨x,H6,I6,r6,y6,st6,fr6⟩=>?_
      have I6':=I6.pinned (stat fr6 (D1 _)) (T.obj _ _ st6)
      have ag:=hg' _ s6 _ H6 x u _ I6' r6 (hgs _ _ _ _ (step x H6 y6))
      rw[hprog,hw,hA,hxe] at ag
      refine thn ag fun _ s7 ⟨σ7,H7,I7,q7,hl7,hj7⟩=>?_
      have at7:=ht' _ s7 σ7 H7 _ I7 q7
      rw[hprog,hw,hA,hxe] at at7
      refine thn at7 fun b s8 ⟨H8,I8,q8⟩=>?_
      have again:∀{s9:Shared}{H9:Hp}{vs9:List V}{its9:List Value}{n9:Nat},Inv X' ([(s2.heap.objs.size,lo its9 n9)]++mI fp s6.heap) σ7 H9 s9→Vals vs9 its9→N vs9 H9 →
          ∃m,m<n∧∃i vs its nn σ' H',Inv X' [(s2.heap.objs.size,lo its nn)] σ' H' s9∧(∀(j:Nat) v,(ib tn.length idx σ)[j]?=some (some v)→σ'[j]?=some (some v))∧σ'.length=(ib tn.length idx σ).length∧tnn i s9.heap∧(∀b∈fp,H' b=none)∧Vals vs its∧W i m vs H':=by
        intro s9 H9 vs9 its9 n9 I9 r9 n9'
        obtain ⟨m',hm',w9⟩:=hN _ _ n9'
        refine⟨m',hm',i+1,vs9,its9,n9,σ7,H9,I9.pK,fun j v e=>by rw[hj7 j (CA e)];exact e,hl7,T.keep _ _ _ st6 fun b hb o e=>(I9.pin (b,o) (List.mem_append_right _ (List.mem_append_right _ (lM hb e)))).1,fun b hb=>?_,r9,w9⟩
        obtain ⟨o,e,d⟩:=T.obj _ _ st6 b hb
        exact (I9.pin (b,o) (List.mem_append_right _ (List.mem_append_right _ (lM hb e)))).2.1
      cases b with
      | false =>
        exact again I8 rv q8
      | true =>
        have ae:=he' _ s8 σ7 H8 _ I8 q8
        rw[hprog,hw,hA,hxe] at ae
        refine thn ae fun xv s9 ⟨v9,H9,I9,r9,q9⟩=>?_
        obtain ⟨hp1,hp2,hp3,hp4,_⟩:=I9.pin (s2.heap.objs.size,lo its nn) (List.mem_append_right _ (List.mem_append_left _ (List.mem_singleton.mpr rfl)))
        have rvl:=rv.length
        refine append_at (hsz:=by rw[List.size_toArray];omega) hp1 fun h' hs' ho'=>?_
        have nfp:∀p∈mI fp s6.heap,p.1≠s2.heap.objs.size:=fun p hp z=>Dfp (by rw[← z];exact (vp hp).1)
        have I10:Inv X' (mI fp s6.heap) σ7 H9 s9:=I9.oW fun p hp=>I9.pin p (List.mem_append_right _ (List.mem_append_right _ hp))
        have I11:Inv X' (mI fp s6.heap) σ7 H9 { s9 with heap:=h' }:=I10.turned (t':=s9.toks) (it:=s2.heap.objs.size) (fun b o hb e=>hs'.extBut b o hb e) hp2 hp3 (.inr (by rw[hs0];exact Nat.le_refl _))
          (fun x c e z=>by
            obtain ⟨v,o,q1,q2⟩:=I9.cell x c e
            rw[z,hp1] at q1
            cases q1
            cases q2) (fun p hp=>by rw[hpn] at hp;exact nfp p hp)
        have eo:({ cls:=.type "list",data:=.seq (its.toArray.push xv) (nn+1) }:Obj)=lo (its++[xv]) (nn+1):=by
          show ({ cls:=.type "list",data:=.seq (its.toArray.push xv) (nn+1) }:Obj)={ cls:=.type "list",data:=.seq (its++[xv]).toArray (nn+1) }
          rw[List.push_toArray]
        refine again (vs9:=vs++[v9]) (its9:=its++[xv]) (n9:=nn+1) (I11.oW fun p hp=>?_) (rv.append (.cons r9 .nil)) q9
        rcases List.mem_append.mp hp with hp | hp
        · obtain rfl:=List.mem_singleton.mp hp
          refine⟨ho'.trans (congrArg some eo),hp2,hp3,hp4,fun v z=>?_⟩
          have z':Data.seq _ _=Data.cell v:=z
          cases z'
        · exact I11.pin p (List.mem_append_right _ hp)
  refine codeAny_compStart_list ?_ ?_
  · have:=loop _ rfl
    rw[henv] at this
    exact this
  · refine T.self _ 0 _ _ _ (T.keep _ _ _ st2 (fun b hb o e=>pushCells_keeps _ _ _ _ (Heap.get?_push_of_some _ (Heap.get?_push_of_some _ e)))) ?_
    have:=loop _ rfl
    rw[henv] at this
    exact this
theorem Bz (I:Inv X pins σ H s2) (S:bD X scope tn cap idx):closureFor scope X.env=pure (eU X.env scope.names []) :=
  uR fun n hm=>I.ok.has n (S.fr _ hm rfl)
theorem yJ (S:bD X scope tn cap idx):∀x∈scope.names,x.2=.local→scope.names.lookup x.1=some .local:=fun x hx e=>by
  obtain ⟨n,k⟩:=x
  have e':k=NameKind.local:=e
  subst e'
  exact ni S.nd hx
theorem wz {elt target iter:Expr}{ifs:List Expr}{pos:Pos}{wi:TI}{g:TG}{tt:TT}{te:TE} (hcalm:X.calm=true) (S:bD X scope tn cap idx) (hi:PI X target iter wi) (hgs:mR tn.length g)
    (hg:∀cs C fp s₀ H₀,PG (cxC X (tn++cap) scope cs C fp s₀ H₀) target g) (ht:∀cs C fp s₀ H₀,PTs (cxC X (tn++cap) scope cs C fp s₀ H₀) ifs tt)
    (he:∀cs C fp s₀ H₀,PE (cxC X (tn++cap) scope cs C fp s₀ H₀) elt te) (hs:∀x,foldedSetIterable iter X.env x=pure x:=by intro _;rfl) :
    PE X (.ListComp elt [⟨target,iter,ifs,0⟩] scope pos) (yC wi g tt te tn.length idx):=by
  intro pins s σ H Q I h
  rw[eval_ListComp]
  refine wpAny_comprehension_free (use:=none) rfl hs (Bz I S) S.kind (yJ S) (thn (hi pins s σ H _ I h) fun v s1 h1=>thn h1 fun itv s2 h2=>?_)
  obtain ⟨it,fp,tnn,J,H2,e,I2,T,st2,f2,hW⟩:=h2
  subst e
  refine tw hcalm S hgs hg ht he I2 T st2 f2 hW fun s8 H8 C D m I8 hm hC hsz q=>?_
  refine⟨m,hm,fun h' hs'=>⟨.ref D,H8,?_,rfl,q⟩⟩
  exact I8.turned (t':=s8.toks) (it:=C) (fun b o hb e=>hs'.extBut b o hb e) hC (fun z=>absurd I2.lt (by rw[← z];exact Nat.not_lt.mpr hsz)) (.inr (Nat.le_trans I2.sz hsz))
    (fun x c e z=>by
      obtain ⟨v,q⟩:=I2.cell x c e
      exact absurd q.lt (by rw[z];exact Nat.not_lt.mpr hsz)) (fun p hp z=>absurd (Heap.lt_size (I2.pin p hp).1) (by rw[z];exact Nat.not_lt.mpr hsz))
theorem GF {elt target iter:Expr}{ifs:List Expr}{pos spos py:Pos}{wi:TI}{g:TG}{tt:TT}{te:TE}{i:Nat}{y:Str} (hcalm:X.calm=true) (S:bD X scope tn cap idx) (hN:X.N.Nodup) (hy:X.N[i]?=some y) (hx:Loc X.env.scope y)
    (hi:PI X target iter wi) (hgs:mR tn.length g)
    (hg:∀cs C fp s₀ H₀,PG (cxC X (tn++cap) scope cs C fp s₀ H₀) target g) (ht:∀cs C fp s₀ H₀,PTs (cxC X (tn++cap) scope cs C fp s₀ H₀) ifs tt)
    (he:∀cs C fp s₀ H₀,PE (cxC X (tn++cap) scope cs C fp s₀ H₀) elt te)
    (hsw:swapsWith (.ListComp elt [⟨target,iter,ifs,0⟩] scope pos) (some (.Name y py)) spos.line X.env=pure true:=by rfl) (hs:∀x,foldedSetIterable iter X.env x=pure x:=by intro _;rfl)
    (hf:X.fn y=true∨X.env.scope.names.lookup y=some .local:=by first | exact .inl rfl | exact .inr rfl | assumption) :
    PS X (.Assign [.Name y py] (.ListComp elt [⟨target,iter,ifs,0⟩] scope pos) spos) (qW (yC wi g tt te tn.length idx) (jk i)):=by
  intro pins s σ H D I h
  rw[exec_Assign_Name_used _ _ _ _ hsw]
  refine wpAny_bind (wpAny_standAt (wpAny_bind ?_))
  show wpAny _ X.A (do let _ ← comprehension (.ListComp elt [⟨target,iter,ifs,0⟩] scope pos) scope X.env _ (newList []) false (eval iter X.env) (some (assign (.Name y py) X.env))) _ _ s
  refine wpAny_bind (wpAny_mono (wpAny_comprehension_free (use:=some (assign (.Name y py) X.env)) (Q:=fun _ s'=>SP X pins D .next s') rfl hs (Bz I S) S.kind (yJ S)
    (thn (hi pins s σ H _ I h) fun v s1 h1=>thn h1 fun itv s2 h2=>?_)) (fun _ s' hq=>wpAny_pure (wpAny_pure hq)) fun _ _ e=>e)
  obtain ⟨it,fp,tnn,J,H2,e,I2,T,st2,f2,hW⟩:=h2
  subst e
  refine tw (Q:=fun x H1=>jk i x σ H1 D.nx) hcalm S hgs hg ht he I2 T st2 f2 hW fun s8 H8 C DD m I8 hm hC hsz q=>?_
  show wpAny _ X.A (assign (.Name y py) X.env (.ref DD)) _ _ _
  have CL:C≠X.env.locals:=fun z=>absurd I2.lt (by rw[← z];exact Nat.not_lt.mpr hsz)
  have CC:∀x c,X.env.cells.lookup x=some c→c≠C:=fun x c e z=>by
    obtain ⟨v,q⟩:=I2.cell x c e
    exact absurd q.lt (by rw[z];exact Nat.not_lt.mpr hsz)
  refine wpAny_assign_Name (vf (v:=.ref DD) I8 hN hy hx rfl (fun s9 I9 ⟨a,hsb,ha⟩=>?_) hf)
  have aC:C≠a:=fun z=>by
    rcases ha with e | e
    · exact CL (z.trans e)
    · exact CC _ _ e z.symm
  refine⟨m,hm.sameBut hsb aC,fun h' hs'=>⟨_,H8,?_,q⟩⟩
  exact I9.turned (t':=s9.toks) (it:=C) (fun b o hb e=>hs'.extBut b o hb e) hC CL (.inr (Nat.le_trans I2.sz hsz)) CC (fun p hp z=>absurd (Heap.lt_size (I2.pin p hp).1) (by rw[z];exact Nat.not_lt.mpr hsz))
end
def Fh (J:It) (g:TG) (te:TE) (k:Nat) (idx:List Nat) (σ:St) (H1:Hp) (Q:VK):Prop :=
  ∃W:Nat→Nat→List V→Hp→Prop,(∃m,W 0 m [] H1)∧∀i m vs H,W i m vs H →
    (J.stop i H∧vs.length≤sizeLine∧∀p,H p=none→Q (.ref p) (upd H p (.lst vs))) ∨
    (J.go i H∧vs.length≤sizeLine∧∃N:List V→Hp→Prop,(∀vs' H',N vs' H'→∃m',m' < m∧W (i+1) m' vs' H')∧∀x H',J.yld i H x H'→g x (ib k idx σ) H' fun σ2 H2=>te σ2 H2 fun v H4=>N (vs++[v]) H4)
def ql (wi:TI) (g:TG) (te:TE) (k:Nat) (idx:List Nat):TE:=fun σ H Q=>wi σ H fun J H1=>Fh J g te k idx σ H1 Q
theorem p7 {wi:TI}{g:TG}{te:TE}{k:Nat}{idx:List Nat}:ql wi g te k idx=yC wi g FU te k idx:=by
  have e:∀(A B:Prop),(if true=true then A else B)=A:=fun A B=>if_pos rfl
  unfold ql Fh yC FU
  simp only[if_true]
section
variable {X:Cx}{scope:Scope}{tn cap:List Str}{idx:List Nat}
theorem yu {elt target iter:Expr}{pos:Pos}{wi:TI}{g:TG}{te:TE} (S:bD X scope tn cap idx) (hi:PI X target iter wi) (hgs:mR tn.length g)
    (hg:∀cs C fp s₀ H₀,PG (cxC X (tn++cap) scope cs C fp s₀ H₀) target g)
    (he:∀cs C fp s₀ H₀,PE (cxC X (tn++cap) scope cs C fp s₀ H₀) elt te) (hcalm:X.calm=true:=by rfl) (hs:∀x,foldedSetIterable iter X.env x=pure x:=by intro _;rfl) :
    PE X (.ListComp elt [⟨target,iter,[],0⟩] scope pos) (ql wi g te tn.length idx):=by
  rw[p7]
  exact wz hcalm S hi hgs hg (fun _ _ _ _ _=>Bp) he hs
theorem pk {elt target iter:Expr}{pos spos py:Pos}{wi:TI}{g:TG}{te:TE}{i:Nat}{y:Str} (S:bD X scope tn cap idx) (hN:X.N.Nodup) (hy:X.N[i]?=some y) (hx:Loc X.env.scope y)
    (hi:PI X target iter wi) (hgs:mR tn.length g)
    (hg:∀cs C fp s₀ H₀,PG (cxC X (tn++cap) scope cs C fp s₀ H₀) target g)
    (he:∀cs C fp s₀ H₀,PE (cxC X (tn++cap) scope cs C fp s₀ H₀) elt te) (hcalm:X.calm=true:=by rfl)
    (hsw:swapsWith (.ListComp elt [⟨target,iter,[],0⟩] scope pos) (some (.Name y py)) spos.line X.env=pure true:=by rfl) (hs:∀x,foldedSetIterable iter X.env x=pure x:=by intro _;rfl)
    (hf:X.fn y=true∨X.env.scope.names.lookup y=some .local:=by first | exact .inl rfl | exact .inr rfl | assumption) :
    PS X (.Assign [.Name y py] (.ListComp elt [⟨target,iter,[],0⟩] scope pos) spos) (qW (ql wi g te tn.length idx) (jk i)):=by
  rw[p7]
  exact GF hcalm S hN hy hx hi hgs hg (fun _ _ _ _ _=>Bp) he hsw hs hf
end
end L2
namespace L2
open PySem PySem.Spec PyProof.Rows
inductive D where
  | non | bl (b:Bool) | int (i:Int) | str (x:Str) | lst (ds:List D) | tup (ds:List D)
mutual
def Rf (H:Hp):D→V→List Addr→Prop
  | .non,v,fp=>v=.non∧fp=[]
  | .bl b,v,fp=>v=.bl b∧fp=[]
  | .int i,v,fp=>v=.int i∧fp=[]
  | .str x,v,fp=>v=.str x∧fp=[]
  | .lst ds,v,fp=>∃a xs fq,v=.ref a∧H a=some (.lst xs)∧fp=a::fq∧Rfs H ds xs fq
  | .tup ds,v,fp=>∃a xs,v=.ref a∧H a=some (.tup xs)∧Rfs H ds xs fp
def Rfs (H:Hp):List D→List V→List Addr→Prop
  | [],xs,fp=>xs=[]∧fp=[]
  | d::ds,xs,fp=>∃x r f1 f2,xs=x::r∧fp=f1++f2∧Rf H d x f1∧Rfs H ds r f2
end
def Rp (H:Hp) (d:D) (v:V):Prop:=∃fp,Rf H d v fp
theorem Rfs.length {H:Hp}:∀{ds:List D}{vs:List V}{fp:List Addr},Rfs H ds vs fp→vs.length=ds.length
  | [],_,_,h=>by obtain ⟨rfl,_⟩:=h;rfl
  | d::ds,vs,fp,h=>by
    obtain ⟨x,r,f1,f2,e1,e2,h1,h2⟩:=h
    subst e1
    rw[List.length_cons,List.length_cons,Rfs.length h2]
theorem Rfs.get {H:Hp}:∀{ds:List D}{vs:List V}{fp:List Addr}{i:Nat}{d:D},Rfs H ds vs fp→ds[i]?=some d→∃v f,vs[i]?=some v∧Rf H d v f∧(∀a∈f,a∈fp)
  | [],_,_,_,_,_,e=>by simp at e
  | d::ds,vs,fp,0,d',h,e=>by
    obtain ⟨x,r,f1,f2,rfl,rfl,h1,h2⟩:=h
    simp at e;subst e
    exact⟨x,f1,rfl,h1,fun a ha=>List.mem_append_left _ ha⟩
  | d::ds,vs,fp,i+1,d',h,e=>by
    obtain ⟨x,r,f1,f2,rfl,rfl,h1,h2⟩:=h
    obtain ⟨v,f,e1,h3,k⟩:=Rfs.get (i:=i) h2 (by simpa using e)
    exact⟨v,f,by simpa using e1,h3,fun a ha=>List.mem_append_right _ (k a ha)⟩
abbrev dI (xs:List Int):D:=.lst (xs.map D.int)
abbrev dT (t:List (List Int)):D:=.lst (t.map dI)
end L2
namespace L2
open PySem PySem.Spec PyProof.Rows
section
variable {X:Cx}
theorem x9:fR X (.builtin "isinstance") (fun xs H Q=>∃x n t b,xs=[x,.ty n]∧nq X.K H x t∧PySem.W.kitOne X.K t (.type n)=some b∧Q (.bl b) H):=by
  intro pins s σ H xs us Q I r h
  obtain ⟨x,n,t,b,rfl,ty,e,q⟩:=h
  obtain ⟨u,w',rfl,rx,rn⟩:=vals2 r
  obtain rfl:w'=Value.type n:=rn
  exact CB I rx ty e fun tk=>⟨.bl b,H,I.tok _,rfl,q⟩
theorem mX:∀{xs:List Int}{us:List Value},Vals (xs.map V.int) us→IntsAre us xs
  | [],us,r=>by cases r;exact .nil
  | x::xs,us,r=>by
    cases r with
    | cons r rr =>
      obtain ⟨t,rfl⟩:=r
      exact .cons _ _ (mX rr)
theorem Dh (hc:X.calm=true):fR X (.builtin "sum") (fun xs H Q=>∃(a:Addr) (ns:List Int),xs=[.ref a]∧SqL X.K H a (ns.map V.int)∧Q (.int ns.sum) H):=by
  intro pins s σ H xs us Q I r h
  obtain ⟨a,ns,rfl,hS,q⟩:=h
  obtain ⟨u,rfl,ru⟩:=vals1 r
  obtain rfl:u=Value.ref a:=ru
  obtain ⟨its,rv,pl,hz⟩:=I.list hS
  have hi:=mX rv
  obtain ⟨xs',e⟩:=hi.allInts.items
  have hl:s.heap.IsList a (intItems xs'):=by rw[← e];exact pl.isList
  refine sum_intListG (I.ok.hd hc) hl fun h' tk t' hk=>⟨.int ns.sum,H,I.kept hk,⟨t',?_⟩,q⟩
  have e2:numsOf its.toArray.toList=ns:=hi.numsOf
  rw[e,nums_intItems] at e2
  rw[preSum_eq,List.take_of_length_le (by simp),e2]
end
def Itz (K:PySem.W.Frag) (a b:Addr):It :=
  ⟨fun i H=>∃xs ys x y,SqL K H a xs∧SqL K H b ys∧xs[i]?=some x∧ys[i]?=some y,
   fun i H v H'=>∃p x y,v=.ref p∧H p=none∧H'=upd H p (.tup [x,y])∧(∀xs,SqL K H a xs→xs[i]?=some x)∧∀ys,SqL K H b ys→ys[i]?=some y,
   fun i H=>∃xs ys,SqL K H a xs∧SqL K H b ys∧(xs.length≤i∨ys.length≤i)⟩
def CU (a b z TI TO i1 i2:Addr) (i:Nat) (h:Heap):Prop :=
  IsZip h z TI TO .none∧IsPair h TI (.ref i1) (.ref i2)∧(∃u v,IsPair h TO u v)∧h.IsListIter i1 a i∧h.IsListIter i2 b i
theorem eT {h:Heap}{a b:Addr}{o u:Obj}{c d:String} (e1:h.get? a=some o) (e2:h.get? b=some u) (c1:o.cls=.type c) (c2:u.cls=.type d) (n:c≠d):a≠b:=fun z=>by
  subst z;rw[e1] at e2;cases e2;rw[c1] at c2;cases c2;exact n rfl
theorem u6 {h:Heap}{a b z TI TO i1 i2:Addr}{i:Nat}{xs ys:Array Value} (st:CU a b z TI TO i1 i2 i h) (h1:h.IsList a xs) (h2:h.IsList b ys) (d1:TI≠TO) (d2:i1≠i2):ZipApart z TI TO i1 i2 a b:=by
  obtain ⟨sz,sI,⟨u,v,sO⟩,⟨o1,e1,c1,_⟩,⟨o2,e2,c2,_⟩⟩:=st
  obtain ⟨oa,ea,ca,_⟩:=h1
  obtain ⟨ob,eb,cb,_⟩:=h2
  exact⟨eT sI sz rfl rfl (by decide),eT sO sz rfl rfl (by decide),eT e1 sz c1 rfl (by decide),eT e2 sz c2 rfl (by decide),d1,eT sI e1 rfl c1 (by decide),eT sI e2 rfl c2 (by decide),eT sO e1 rfl c1 (by decide),eT sO e2 rfl c2 (by decide),d2,
    eT ea sz ca rfl (by decide),eT ea sO ca rfl (by decide),eT ea e1 ca c1 (by decide),eT ea e2 ca c2 (by decide),eT eb sz cb rfl (by decide),eT eb sO cb rfl (by decide),eT eb e1 cb c1 (by decide),eT eb e2 cb c2 (by decide)⟩
theorem Inv.AE {X:Cx}{pins:List (Addr × Obj)}{σ:St}{H H':Hp}{s:Shared}{h':Heap}{fp:List Addr}{t':Nat} (I:Inv X pins σ H s) (hf:∀b∈fp,t4 X pins H b) (k:∀b o,b∉fp→s.heap.get? b=some o→h'.get? b=some o)
    (free:∀b o,s.heap.get? b=some o→H b=none→H' b=none) (sm:Same H H') (hok:HOk X.prog X.w H' h'):Inv X pins σ H' { s with heap:=h',toks:=t' }:=by
  have nL:X.env.locals∉fp:=fun z=>(hf _ z).2.1 rfl
  refine I.step (g':=s.gens) (d':=s.drawn) (ch:=fp) (fun b hb=>?_) (fun b o _ _ hc e _=>k b o hc e) (fun b o _ _ hc e _=>⟨o.slots,k b o hc e⟩) (fun b o _ e n=>free b o e n) (fun b o hc e=>⟨o,k b o hc e⟩)
    (fun b xs e=>sm b _ e) (fun b o u e=>sm b _ e) (fun b ps e=>⟨#[],by rw[sm b _ e];simp⟩) (fun m hm=>?_) hok I.bare
  · obtain ⟨_,f1,_,f3,f4,f5⟩:=hf b hb
    exact⟨f3,f1,f4,f5⟩
  · obtain ⟨o,es,ep,ho,r⟩:=hm
    exact⟨o,es,ep,k _ o nL ho,r⟩
theorem De {P:Program}{w:World}{K:PySem.W.Frag}{elts:List Expr}{x1:Nat}{pos:Pos} (a b z TI TO i1 i2:Addr) (d1:TI≠TO) (d2:i1≠i2):Turn P w K (.Tuple elts x1 pos) (Itz K a b) [z,TI,TO,i1,i2] z (CU a b z TI TO i1 i2) where
  mem:=by simp
  obj:=fun i h st c hc=>by
    obtain ⟨sz,sI,⟨u,v,sO⟩,⟨o1,e1,c1,q1⟩,⟨o2,e2,c2,q2⟩⟩:=st
    simp only[List.mem_cons,List.not_mem_nil,or_false] at hc
    rcases hc with rfl | rfl | rfl | rfl | rfl
    · exact⟨_,sz,fun v z=>by cases z⟩
    · exact⟨_,sI,fun v z=>by cases z⟩
    · exact⟨_,sO,fun v z=>by cases z⟩
    · exact⟨_,e1,fun v z=>by rw[q1] at z;cases z⟩
    · exact⟨_,e2,fun v z=>by rw[q2] at z;cases z⟩
  keep:=fun i h h' st k=>by
    obtain ⟨sz,sI,⟨u,v,sO⟩,s1,s2⟩:=st
    exact⟨k _ (by simp) _ sz,k _ (by simp) _ sI,⟨u,v,k _ (by simp) _ sO⟩,s1.at fun o e=>k _ (by simp) o e,s2.at fun o e=>k _ (by simp) o e⟩
  item:=by
    intro X hP hw hK hc i pins s σ H E I hf st hg
    subst hP hw hK
    obtain ⟨xs,ys,x,y,hq1,hq2,hx,hy⟩:=hg
    obtain ⟨its1,rv1,p1,hz1⟩:=I.list hq1
    obtain ⟨its2,rv2,p2,hz2⟩:=I.list hq2
    obtain ⟨u,hu,ru⟩:=rv1.get hx
    obtain ⟨v,hv,rv⟩:=rv2.get hy
    have Dp:=u6 st p1.isList p2.isList d1 d2
    obtain ⟨sz,sI,⟨ua,ub,sO⟩,s1,s2⟩:=st
    refine wpAny_pyNext_zip_item Dp sz sI sO s1 s2 p1.isList p2.isList (x:=u) (y:=v) (by simpa using hu) (by simpa using hv) fun h1 z1 O1 t1 t2 pr hsz kk=>?_
    refine⟨.ref s.heap.objs.size,rfl,wpAny_letOwnedTupleGo_zip z1 fun h2 z2 sb=>?_⟩
    have zlt:z<s.heap.objs.size:=Heap.lt_size sz
    have pz:s.heap.objs.size≠z:=Nat.ne_of_gt zlt
    have hn:H s.heap.objs.size=none:=I.hok.fresh (Nat.le_refl _)
    have k2:∀c o,c∉[z,TI,TO,i1,i2]→s.heap.get? c=some o→h2.get? c=some o:=fun c o hc e=>by
      simp only[List.mem_cons,List.not_mem_nil,or_false,not_or] at hc
      exact sb.extBut c o hc.1 (kk c o hc.1 hc.2.2.1 hc.2.2.2.1 hc.2.2.2.2 e)
    have sm:Same H (upd H s.heap.objs.size (.tup [x,y])):=fun c o e=>by rw[aP (aY e hn)];exact e
    refine⟨.ref s.heap.objs.size,upd H s.heap.objs.size (.tup [x,y]),?_,rfl,⟨s.heap.objs.size,x,y,rfl,hn,rfl,fun zs hz=>by rw[I.tP hz hq1];exact hx,fun zs hz=>by rw[I.tP hz hq2];exact hy⟩,
      ⟨z2,sb.extBut _ _ Dp.TIz (kk _ _ Dp.TIz Dp.TITO Dp.TIi1 Dp.TIi2 sI),⟨u,v,sb.extBut _ _ Dp.TOz O1⟩,t1.at fun o e=>sb.extBut _ _ Dp.i1z e,t2.at fun o e=>sb.extBut _ _ Dp.i2z e⟩,fun c hc=>?_⟩
    · refine I.AE (t':=s.toks) hf k2 (fun c o e n=>by rw[aP (Nat.ne_of_lt (Heap.lt_size e))];exact n) sm fun c o e=>?_
      by_cases ec:c=s.heap.objs.size
      · subst ec
        rw[aH] at e
        cases e
        exact⟨by simp only[List.length_cons,List.length_nil];rw[sizeLine_eq];decide,[u,v],.cons ru (.cons rv .nil),⟨_,sb.extBut _ _ pz pr,rfl,0,rfl⟩⟩
      · rw[aP ec] at e
        refine (I.hok c o e).pT (fun d w' hd q=>k2 d w' (fun hm=>?_) q) (fun d q=>sm d _ q) fun d ds q=>sm d _ q
        have hdn:=(hf d hm).1
        rcases hd with rfl | hd
        · rw[hdn] at e;cases e
        · rw[hdn] at hd;cases hd
    · have:=(hf c hc).1
      by_cases ec:c=s.heap.objs.size
      · exfalso
        subst ec
        obtain ⟨_,e1,_⟩:=s1
        obtain ⟨_,e2,_⟩:=s2
        simp only[List.mem_cons,List.not_mem_nil,or_false] at hc
        rcases hc with q | q | q | q | q
        · exact pz q
        · exact absurd (Heap.lt_size sI) (by rw[← q];exact Nat.lt_irrefl _)
        · exact absurd (Heap.lt_size sO) (by rw[← q];exact Nat.lt_irrefl _)
        · exact absurd (Heap.lt_size e1) (by rw[← q];exact Nat.lt_irrefl _)
        · exact absurd (Heap.lt_size e2) (by rw[← q];exact Nat.lt_irrefl _)
      · rw[aP ec];exact this
  done:=by
    intro X hP hw hK hc i pins s σ H E I hf st hg
    subst hP hw hK
    obtain ⟨xs,ys,hq1,hq2,hle⟩:=hg
    obtain ⟨its1,rv1,p1,hz1⟩:=I.list hq1
    obtain ⟨its2,rv2,p2,hz2⟩:=I.list hq2
    have l1:=rv1.length
    have l2:=rv2.length
    have Dp:=u6 st p1.isList p2.isList d1 d2
    obtain ⟨sz,sI,⟨ua,ub,sO⟩,s1,s2⟩:=st
    refine wpAny_pyNext_zip_end (I.ok.hd hc) Dp sz sI sO s1 s2 p1.isList p2.isList (hle.elim (fun q=>.inl (by simp;omega)) fun q=>.inr (by simp;omega)) fun h1 kk=>⟨rfl,?_⟩
    have k2:∀c o,c∉[z,TI,TO,i1,i2]→s.heap.get? c=some o→h1.get? c=some o:=fun c o hc e=>by
      simp only[List.mem_cons,List.not_mem_nil,or_false,not_or] at hc
      exact kk c o hc.1 hc.2.2.1 hc.2.2.2.1 hc.2.2.2.2 e
    refine I.AE (t':=s.toks) hf k2 (fun _ _ _ n=>n) (Same.refl H) fun c o e=>?_
    refine (I.hok c o e).pT (fun d w' hd q=>k2 d w' (fun hm=>?_) q) (fun d q=>q) fun d ds q=>q
    have hdn:=(hf d hm).1
    rcases hd with rfl | hd
    · rw[hdn] at e;cases e
    · rw[hdn] at hd;cases hd
  self:=fun _ _ _ _ _ st h=>wpAny_pyIter_zip st.1 h
section
variable {X:Cx}
def HC (K:PySem.W.Frag) (ta:TA):TI:=fun σ H R=>ta σ H fun vs H1=>∃a b,vs=[.ref a,.ref b]∧(∃xs,SqL K H1 a xs)∧(∃ys,SqL K H1 b ys)∧R (Itz K a b) H1
theorem HK {elts:List Expr}{x1:Nat}{tp:Pos}{a b:Expr}{ta:TA}{p pos:Pos} (hg:Gl X "zip") (hm:X.mg "zip" = none) (ha:PA X [a,b] ta) (hs:starEach [a,b] X.env=[(false,eval a X.env),(false,eval b X.env)]:=by rfl) (hs2:starEach [b] X.env=[(false,eval b X.env)]:=by rfl) :
    PI X (.Tuple elts x1 tp) (.Call (.Name "zip" p) [a,b] [] pos) (HC X.K ta):=by
  intro pins s σ H R I h
  refine Call_ (kS I hg hm boot_zip (PyProof.Rows.callWith_type1 (thn (ha pos pins s σ H _ I h) fun us s1 ⟨vs,H1,I1,r1,q1⟩=>?_) (by rw[hs,hs2]) (by rw[hs2];rfl)))
  obtain ⟨l1,l2,rfl,⟨xs,hx⟩,⟨ys,hy⟩,q⟩:=q1
  obtain ⟨u1,u2,rfl,r2,r3⟩:=vals2 r1
  obtain rfl:u1=Value.ref l1:=r2
  obtain rfl:u2=Value.ref l2:=r3
  obtain ⟨its1,rv1,p1,hz1⟩:=I1.list hx
  obtain ⟨its2,rv2,p2,hz2⟩:=I1.list hy
  refine call_zip_2 p1.isList p2.isList fun h' sz sI sO t1 t2 hsz kk=>?_
  have I2:Inv X pins σ H1 { s1 with heap:=h' }:=I1.kept (t':=s1.toks) kk
  refine wpAny_pyIter_zip sz ⟨_,_,CU l1 l2 (s1.heap.objs.size+4) (s1.heap.objs.size+2) (s1.heap.objs.size+3) s1.heap.objs.size (s1.heap.objs.size+1),Itz X.K l1 l2,H1,rfl,I2,De _ _ _ _ _ _ _ (Nat.ne_of_lt (Nat.lt_succ_self _)) (Nat.ne_of_lt (Nat.lt_succ_self _)),⟨sz,sI,⟨_,_,sO⟩,t1,t2⟩,fun c hc=>?_,q⟩
  simp only[List.mem_cons,List.not_mem_nil,or_false] at hc
  have hge:s1.heap.objs.size≤c:=by rcases hc with rfl | rfl | rfl | rfl | rfl<;>first | exact Nat.le_add_right _ _ | exact Nat.le_refl _
  obtain ⟨g0,g1,g2,g3,g4,g5⟩:=I1.Gx (H':=H1) hge (I1.hok.fresh hge)
  exact⟨g0,g1,g2,g3,g4,g5⟩
end
mutual
def D.plain:D→Bool
  | .non=>true | .bl _=>false | .int _=>true | .str _=>true
  | .lst ds=>D.fu ds | .tup ds=>D.fu ds
def D.fu:List D→Bool
  | []=>true
  | d::ds=>D.plain d && D.fu ds
end
mutual
def D.depth:D→Nat
  | .lst ds=>D.gn ds+1 | .tup ds=>D.gn ds+1
  | _=>0
def D.gn:List D→Nat
  | []=>0
  | d::ds=>max (D.depth d) (D.gn ds)
end
mutual
def D.eqb:D→D→Bool
  | .non,.non=>true
  | .int i,.int j=>i == j
  | .str i,.str j=>i == j
  | .lst a,.lst b=>D.lF a b
  | .tup a,.tup b=>D.lF a b
  | _,_=>false
def D.lF:List D→List D→Bool
  | [],[]=>true
  | a::as,b::bs=>D.eqb a b && D.lF as bs
  | _,_=>false
end
theorem D.kO:∀{a b:List D},D.lF a b=(decide (a.length=b.length) && (List.range a.length).all fun i=>match a[i]?,b[i]? with | some x,some y=>D.eqb x y | _,_=>false)
  | [],[]=>rfl
  | [],b::bs=>by simp [D.lF]
  | a::as,[]=>by simp [D.lF]
  | a::as,b::bs=>by
    rw[D.lF,D.kO (a:=as) (b:=bs),List.length_cons,List.range_succ_eq_map,List.all_cons,List.all_map]
    by_cases h:as.length=bs.length
    · simp [h,Function.comp_def]
    · simp [h]
end L2
namespace L2
open PySem PySem.Spec PyProof.Rows
open PySem.SeqAt
theorem D.e8:∀{ds:List D}{i:Nat}{d:D},D.fu ds=true→ds[i]?=some d→d.plain=true
  | [],i,d,_,e=>by simp at e
  | c::ds,0,d,h,e=>by
    simp at e;subst e
    rw[D.fu,Bool.and_eq_true] at h
    exact h.1
  | c::ds,i+1,d,h,e=>by
    rw[D.fu,Bool.and_eq_true] at h
    exact D.e8 (i:=i) h.2 (by simpa using e)
theorem D.jR:∀{ds:List D}{i:Nat}{d:D},ds[i]?=some d→d.depth≤D.gn ds
  | [],i,d,e=>by simp at e
  | c::ds,0,d,e=>by
    simp at e;subst e
    rw[D.gn]
    exact Nat.le_max_left _ _
  | c::ds,i+1,d,e=>by
    rw[D.gn]
    exact Nat.le_trans (D.jR (i:=i) (by simpa using e)) (Nat.le_max_right _ _)
theorem D.Em {a b:List D} (hl:a.length=b.length) (f:Nat→Bool) (h:∀i x y,a[i]?=some x→b[i]?=some y→f i=D.eqb x y):D.lF a b=(List.range a.length).all f:=by
  rw[D.kO,decide_eq_true hl,Bool.true_and,Bool.eq_iff_iff]
  simp only[List.all_eq_true,List.mem_range]
  constructor
  · intro q i hi
    have:=q i hi
    rw[List.getElem?_eq_getElem hi,List.getElem?_eq_getElem (show i<b.length by omega)] at this
    rw[h i _ _ (List.getElem?_eq_getElem hi) (List.getElem?_eq_getElem (show i<b.length by omega))]
    exact this
  · intro q i hi
    have:=q i hi
    rw[h i _ _ (List.getElem?_eq_getElem hi) (List.getElem?_eq_getElem (show i<b.length by omega))] at this
    rw[List.getElem?_eq_getElem hi,List.getElem?_eq_getElem (show i<b.length by omega)]
    exact this
theorem D.oF {a b:List D} (hl:a.length≠b.length):D.lF a b=false:=by
  rw[D.kO,decide_eq_false hl,Bool.false_and]
theorem Be {H:Hp}:∀(n:Nat) (d e:D) (v:V),d.depth≤n→Rp H d v→Rp H e v→d.plain=true→D.eqb d e=true:=by
  intro n
  induction n with
  | zero =>
    intro d e v hn hd he hp
    obtain ⟨f,hd⟩:=hd
    obtain ⟨g,he⟩:=he
    cases d with
    | non=>obtain ⟨rfl,_⟩:=hd;cases e with
      | non=>rfl
      | lst ds=>obtain ⟨_,_,_,z,_⟩:=he;cases z
      | tup ds=>obtain ⟨_,_,z,_⟩:=he;cases z
      | _=>obtain ⟨z,_⟩:=he;cases z
    | bl b=>cases hp
    | int i=>obtain ⟨rfl,_⟩:=hd;cases e with
      | int j=>obtain ⟨z,_⟩:=he;cases z;simp [D.eqb]
      | lst ds=>obtain ⟨_,_,_,z,_⟩:=he;cases z
      | tup ds=>obtain ⟨_,_,z,_⟩:=he;cases z
      | _=>obtain ⟨z,_⟩:=he;cases z
    | str i=>obtain ⟨rfl,_⟩:=hd;cases e with
      | str j=>obtain ⟨z,_⟩:=he;cases z;simp [D.eqb]
      | lst ds=>obtain ⟨_,_,_,z,_⟩:=he;cases z
      | tup ds=>obtain ⟨_,_,z,_⟩:=he;cases z
      | _=>obtain ⟨z,_⟩:=he;cases z
    | lst ds=>rw[D.depth] at hn;omega
    | tup ds=>rw[D.depth] at hn;omega
  | succ n ih =>
    intro d e v hn hd he hp
    have go:∀(ds es:List D) (xs:List V) (f g:List Addr),D.gn ds≤n→Rfs H ds xs f→Rfs H es xs g→D.fu ds=true→D.lF ds es=true:=by
      intro ds es xs f g hn h1 h2 hp
      have l1:=h1.length
      have l2:=h2.length
      rw[D.Em (by omega) (fun _=>true) (fun i x y e1 e2=>?_)]
      · simp
      · obtain ⟨v1,f1,q1,r1,_⟩:=h1.get e1
        obtain ⟨v2,f2,q2,r2,_⟩:=h2.get e2
        rw[q1] at q2;cases q2
        exact (ih x y v1 (Nat.le_trans (D.jR e1) hn) ⟨_,r1⟩ ⟨_,r2⟩ (D.e8 hp e1)).symm
    obtain ⟨f,hd⟩:=hd
    obtain ⟨g,he⟩:=he
    cases d with
    | non=>obtain ⟨rfl,_⟩:=hd;cases e with
      | non=>rfl
      | lst ds=>obtain ⟨_,_,_,z,_⟩:=he;cases z
      | tup ds=>obtain ⟨_,_,z,_⟩:=he;cases z
      | _=>obtain ⟨z,_⟩:=he;cases z
    | bl b=>cases hp
    | int i=>obtain ⟨rfl,_⟩:=hd;cases e with
      | int j=>obtain ⟨z,_⟩:=he;cases z;simp [D.eqb]
      | lst ds=>obtain ⟨_,_,_,z,_⟩:=he;cases z
      | tup ds=>obtain ⟨_,_,z,_⟩:=he;cases z
      | _=>obtain ⟨z,_⟩:=he;cases z
    | str i=>obtain ⟨rfl,_⟩:=hd;cases e with
      | str j=>obtain ⟨z,_⟩:=he;cases z;simp [D.eqb]
      | lst ds=>obtain ⟨_,_,_,z,_⟩:=he;cases z
      | tup ds=>obtain ⟨_,_,z,_⟩:=he;cases z
      | _=>obtain ⟨z,_⟩:=he;cases z
    | lst ds =>
      obtain ⟨a,xs,fq,rfl,e1,rfl,hd⟩:=hd
      cases e with
      | lst es =>
        obtain ⟨b,ys,gq,z,e2,rfl,he⟩:=he
        cases z
        rw[e1] at e2;cases e2
        rw[D.eqb]
        exact go ds es xs fq gq (by rw[D.depth] at hn;omega) hd he hp
      | tup es =>
        obtain ⟨b,ys,z,e2,he⟩:=he
        cases z
        rw[e1] at e2;cases e2
      | _=>obtain ⟨z,_⟩:=he;cases z
    | tup ds =>
      obtain ⟨a,xs,rfl,e1,hd⟩:=hd
      cases e with
      | tup es =>
        obtain ⟨b,ys,z,e2,he⟩:=he
        cases z
        rw[e1] at e2;cases e2
        rw[D.eqb]
        exact go ds es xs f g (by rw[D.depth] at hn;omega) hd he hp
      | lst es =>
        obtain ⟨b,ys,gq,z,e2,rfl,he⟩:=he
        cases z
        rw[e1] at e2;cases e2
      | _=>obtain ⟨z,_⟩:=he;cases z
theorem Hh {X:Cx}{pins:List (Addr × Obj)}{σ:St}{H:Hp}{s:Shared} (I:Inv X pins σ H s):∀(n:Nat) (d e:D) (x y:V) (u w:Value) (A:Around),d.depth≤n→Rp H d x→Rp H e y→RelV x u→RelV y w→d.plain=true→e.plain=true→A.units+n<cLine →
    EqAt A s u w (D.eqb d e):=by
  intro n
  induction n with
  | zero =>
    intro d e x y u w A hn hd he rx ry pd pe hu
    obtain ⟨f,hd⟩:=hd
    obtain ⟨g,he⟩:=he
    have hu':A.units<cLine:=by omega
    cases d with
    | non =>
      obtain ⟨rfl,_⟩:=hd;obtain rfl:u=.none:=rx
      cases e with
      | non=>obtain ⟨rfl,_⟩:=he;obtain rfl:w=.none:=ry;exact EqAt.same _
      | bl b=>cases pe
      | int j=>obtain ⟨rfl,_⟩:=he;obtain ⟨t,rfl⟩:=ry;exact EqAt.none_int _ _
      | str j=>obtain ⟨rfl,_⟩:=he;obtain ⟨t,rfl⟩:=ry;exact EqAt.none_str _ _
      | lst es=>obtain ⟨b,ys,gq,rfl,e2,_,he⟩:=he;obtain rfl:w=.ref b:=ry;obtain ⟨_,_,pl,_⟩:=I.list (SqL.of e2);exact EqAt.none_list pl.isList hu'
      | tup es=>obtain ⟨b,ys,rfl,e2,he⟩:=he;obtain rfl:w=.ref b:=ry;obtain ⟨_,_,pl,_⟩:=I.tuple (SqT.of e2);exact EqAt.none_tuple pl hu'
    | bl b=>cases pd
    | int i =>
      obtain ⟨rfl,_⟩:=hd;obtain ⟨t0,rfl⟩:=rx
      cases e with
      | non=>obtain ⟨rfl,_⟩:=he;obtain rfl:w=.none:=ry;exact EqAt.int_none _ _
      | bl b=>cases pe
      | int j=>obtain ⟨rfl,_⟩:=he;obtain ⟨t,rfl⟩:=ry;exact EqAt.int_int _ _ _ _
      | str j=>obtain ⟨rfl,_⟩:=he;obtain ⟨t,rfl⟩:=ry;exact EqAt.int_str _ _ _ _
      | lst es=>obtain ⟨b,ys,gq,rfl,e2,_,he⟩:=he;obtain rfl:w=.ref b:=ry;obtain ⟨_,_,pl,_⟩:=I.list (SqL.of e2);exact EqAt.int_list _ _ pl.isList hu'
      | tup es=>obtain ⟨b,ys,rfl,e2,he⟩:=he;obtain rfl:w=.ref b:=ry;obtain ⟨_,_,pl,_⟩:=I.tuple (SqT.of e2);exact EqAt.int_tuple _ _ pl hu'
    | str i =>
      obtain ⟨rfl,_⟩:=hd;obtain ⟨t0,rfl⟩:=rx
      cases e with
      | non=>obtain ⟨rfl,_⟩:=he;obtain rfl:w=.none:=ry;exact EqAt.str_none _ _
      | bl b=>cases pe
      | int j=>obtain ⟨rfl,_⟩:=he;obtain ⟨t,rfl⟩:=ry;exact EqAt.str_int _ _ _ _
      | str j=>obtain ⟨rfl,_⟩:=he;obtain ⟨t,rfl⟩:=ry;exact EqAt.str_str _ _ _ _
      | lst es=>obtain ⟨b,ys,gq,rfl,e2,_,he⟩:=he;obtain rfl:w=.ref b:=ry;obtain ⟨_,_,pl,_⟩:=I.list (SqL.of e2);exact EqAt.str_list _ _ pl.isList hu'
      | tup es=>obtain ⟨b,ys,rfl,e2,he⟩:=he;obtain rfl:w=.ref b:=ry;obtain ⟨_,_,pl,_⟩:=I.tuple (SqT.of e2);exact EqAt.str_tuple _ _ pl hu'
    | lst ds=>rw[D.depth] at hn;omega
    | tup ds=>rw[D.depth] at hn;omega
  | succ n ih =>
    intro d e x y u w A hn hd he rx ry pd pe hu
    have hu':A.units<cLine:=by omega
    have ud:A.in1.units+n<cLine:=by show A.units+1+n<cLine;omega
    cases d with
    | non=>exact ih _ _ x y u w A (by simp [D.depth]) hd he rx ry pd pe (by omega)
    | bl b=>cases pd
    | int i=>exact ih _ _ x y u w A (by simp [D.depth]) hd he rx ry pd pe (by omega)
    | str i=>exact ih _ _ x y u w A (by simp [D.depth]) hd he rx ry pd pe (by omega)
    | lst ds =>
      have hd0:=hd
      have he0:=he
      obtain ⟨f,a,xs,fq,rfl,e1,rfl,hd⟩:=hd
      obtain rfl:u=.ref a:=rx
      obtain ⟨its,rv,pl,hz⟩:=I.list (SqL.of e1)
      obtain ⟨g,he⟩:=he
      cases e with
      | non=>obtain ⟨rfl,_⟩:=he;obtain rfl:w=.none:=ry;exact EqAt.list_none pl.isList hu'
      | bl b=>cases pe
      | int j=>obtain ⟨rfl,_⟩:=he;obtain ⟨t,rfl⟩:=ry;exact EqAt.list_int _ _ pl.isList hu'
      | str j=>obtain ⟨rfl,_⟩:=he;obtain ⟨t,rfl⟩:=ry;exact EqAt.list_str _ _ pl.isList hu'
      | tup es=>obtain ⟨b,ys,rfl,e2,he⟩:=he;obtain rfl:w=.ref b:=ry;obtain ⟨_,_,pl2,_⟩:=I.tuple (SqT.of e2);exact EqAt.list_tuple pl.isList pl2 hu'
      | lst es =>
        obtain ⟨b,ys,gq,rfl,e2,rfl,he⟩:=he
        obtain rfl:w=.ref b:=ry
        by_cases hab:a=b
        · subst hab
          rw[Be _ _ _ _ (Nat.le_refl _) hd0 he0 pd]
          exact EqAt.same _
        · obtain ⟨its2,rv2,pl2,hz2⟩:=I.list (SqL.of e2)
          refine EqAt.of_refs hab ?_
          have l1:=rv.length
          have l2:=rv2.length
          have m1:=hd.length
          have m2:=he.length
          by_cases hl:ds.length=es.length
          · have key:=RcAt.lists (A:=A) (e:=fun i=>match ds[i]?,es[i]? with | some x,some y=>D.eqb x y | _,_=>false) pl.isList pl2.isList (by simp;omega) hu' (fun j h1 h2=>by
              have j1:j<ds.length:=by simp at h1;omega
              have j2:j<es.length:=by omega
              simp only[List.getElem?_eq_getElem j1,List.getElem?_eq_getElem j2]
              obtain ⟨v1,f1,q1,r1,_⟩:=hd.get (List.getElem?_eq_getElem j1)
              obtain ⟨v2,f2,q2,r2,_⟩:=he.get (List.getElem?_eq_getElem j2)
              obtain ⟨u1,p1,t1⟩:=rv.get q1
              obtain ⟨u2,p2,t2⟩:=rv2.get q2
              have i1:its.toArray[j]=u1:=by
                have:=List.getElem?_eq_some_iff.mp p1
                obtain ⟨_,z⟩:=this
                simpa using z
              have i2:its2.toArray[j]=u2:=by
                have:=List.getElem?_eq_some_iff.mp p2
                obtain ⟨_,z⟩:=this
                simpa using z
              rw[i1,i2]
              exact ih _ _ v1 v2 u1 u2 A.in1 (by have:=D.jR (List.getElem?_eq_getElem j1);rw[D.depth] at hn;omega) ⟨_,r1⟩ ⟨_,r2⟩ t1 t2 (D.e8 pd (List.getElem?_eq_getElem j1)) (D.e8 pe (List.getElem?_eq_getElem j2)) ud)
            have e3:D.eqb (.lst ds) (.lst es)=(List.range its.toArray.size).all fun i=>match ds[i]?,es[i]? with | some x,some y=>D.eqb x y | _,_=>false:=by
              rw[D.eqb,D.kO,decide_eq_true hl,Bool.true_and]
              rw[show its.toArray.size=ds.length by simp;omega]
              all_goals rfl
            rw[e3]
            exact key
          · rw[D.eqb,D.oF hl]
            exact RcAt.lists_lengths pl.isList pl2.isList (by simp;omega) hu'
    | tup ds =>
      have hd0:=hd
      have he0:=he
      obtain ⟨f,a,xs,rfl,e1,hd⟩:=hd
      obtain rfl:u=.ref a:=rx
      obtain ⟨its,rv,pl,hz⟩:=I.tuple (SqT.of e1)
      obtain ⟨g,he⟩:=he
      cases e with
      | non=>obtain ⟨rfl,_⟩:=he;obtain rfl:w=.none:=ry;exact EqAt.tuple_none pl hu'
      | bl b=>cases pe
      | int j=>obtain ⟨rfl,_⟩:=he;obtain ⟨t,rfl⟩:=ry;exact EqAt.tuple_int _ _ pl hu'
      | str j=>obtain ⟨rfl,_⟩:=he;obtain ⟨t,rfl⟩:=ry;exact EqAt.tuple_str _ _ pl hu'
      | lst es=>obtain ⟨b,ys,gq,rfl,e2,_,he⟩:=he;obtain rfl:w=.ref b:=ry;obtain ⟨_,_,pl2,_⟩:=I.list (SqL.of e2);exact EqAt.tuple_list pl pl2.isList hu'
      | tup es =>
        obtain ⟨b,ys,rfl,e2,he⟩:=he
        obtain rfl:w=.ref b:=ry
        by_cases hab:a=b
        · subst hab
          rw[Be _ _ _ _ (Nat.le_refl _) hd0 he0 pd]
          exact EqAt.same _
        · obtain ⟨its2,rv2,pl2,hz2⟩:=I.tuple (SqT.of e2)
          refine EqAt.of_refs hab ?_
          have l1:=rv.length
          have l2:=rv2.length
          have m1:=hd.length
          have m2:=he.length
          have key:=RcAt.tuples (A:=A) (e:=fun i=>match ds[i]?,es[i]? with | some x,some y=>D.eqb x y | _,_=>false) pl pl2 hu' (fun j h1 h2=>by
              have j1:j<ds.length:=by simp at h1;omega
              have j2:j<es.length:=by simp at h2;omega
              simp only[List.getElem?_eq_getElem j1,List.getElem?_eq_getElem j2]
              obtain ⟨v1,f1,q1,r1,_⟩:=hd.get (List.getElem?_eq_getElem j1)
              obtain ⟨v2,f2,q2,r2,_⟩:=he.get (List.getElem?_eq_getElem j2)
              obtain ⟨u1,p1,t1⟩:=rv.get q1
              obtain ⟨u2,p2,t2⟩:=rv2.get q2
              have i1:its.toArray[j]=u1:=by
                have:=List.getElem?_eq_some_iff.mp p1
                obtain ⟨_,z⟩:=this
                simpa using z
              have i2:its2.toArray[j]=u2:=by
                have:=List.getElem?_eq_some_iff.mp p2
                obtain ⟨_,z⟩:=this
                simpa using z
              rw[i1,i2]
              exact ih _ _ v1 v2 u1 u2 A.in1 (by have:=D.jR (List.getElem?_eq_getElem j1);rw[D.depth] at hn;omega) ⟨_,r1⟩ ⟨_,r2⟩ t1 t2 (D.e8 pd (List.getElem?_eq_getElem j1)) (D.e8 pe (List.getElem?_eq_getElem j2)) ud)
          have e3:D.eqb (.tup ds) (.tup es)=((List.range (min its.toArray.size its2.toArray.size)).all (fun i=>match ds[i]?,es[i]? with | some x,some y=>D.eqb x y | _,_=>false) && its.toArray.size == its2.toArray.size):=by
            rw[D.eqb]
            have z1:its.toArray.size=ds.length:=by simp;omega
            have z2:its2.toArray.size=es.length:=by simp;omega
            rw[z1,z2]
            by_cases hl:ds.length=es.length
            · rw[D.kO,decide_eq_true hl,Bool.true_and,hl,Nat.min_self,beq_self_eq_true,Bool.and_true]
              all_goals rfl
            · rw[D.oF hl]
              have:(ds.length == es.length)=false:=beq_eq_false_iff_ne.mpr hl
              rw[this,Bool.and_false]
          rw[e3]
          exact key
def Dd (ds es:List D) (i:Nat):Bool:=match ds[i]?,es[i]? with | some x,some y=>D.eqb x y | _,_=>false
theorem yr {X:Cx}{pins:List (Addr × Obj)}{σ:St}{H:Hp}{s:Shared} (I:Inv X pins σ H s) {A:Around}{ds es:List D}{xs ys:List V}{f g:List Addr}{its its2:List Value} (hd:Rfs H ds xs f) (he:Rfs H es ys g) (rv:Vals xs its) (rv2:Vals ys its2)
    (pd:D.fu ds=true) (pe:D.fu es=true) (hu:A.units+1+D.gn ds<cLine):∀j (h1:j<its.toArray.size) (h2:j<its2.toArray.size),EqAt A.in1 s its.toArray[j] its2.toArray[j] (Dd ds es j):=by
  intro j h1 h2
  have l1:=rv.length
  have l2:=rv2.length
  have m1:=hd.length
  have m2:=he.length
  have j1:j<ds.length:=by simp at h1;omega
  have j2:j<es.length:=by simp at h2;omega
  unfold Dd
  simp only[List.getElem?_eq_getElem j1,List.getElem?_eq_getElem j2]
  obtain ⟨v1,f1,q1,r1,_⟩:=hd.get (List.getElem?_eq_getElem j1)
  obtain ⟨v2,f2,q2,r2,_⟩:=he.get (List.getElem?_eq_getElem j2)
  obtain ⟨u1,p1,t1⟩:=rv.get q1
  obtain ⟨u2,p2,t2⟩:=rv2.get q2
  have i1:its.toArray[j]=u1:=by
    obtain ⟨_,z⟩:=List.getElem?_eq_some_iff.mp p1
    simpa using z
  have i2:its2.toArray[j]=u2:=by
    obtain ⟨_,z⟩:=List.getElem?_eq_some_iff.mp p2
    simpa using z
  rw[i1,i2]
  exact Hh I _ _ _ v1 v2 u1 u2 A.in1 (D.jR (List.getElem?_eq_getElem j1)) ⟨_,r1⟩ ⟨_,r2⟩ t1 t2 (D.e8 pd (List.getElem?_eq_getElem j1)) (D.e8 pe (List.getElem?_eq_getElem j2)) hu
theorem t9 {ds es:List D} (hl:ds.length=es.length):D.lF ds es=(List.range ds.length).all (Dd ds es):=by
  rw[D.kO,decide_eq_true hl,Bool.true_and]
  rfl
section
variable {X:Cx}
def CW (neg:Bool):R2:=fun x y H Q=>∃ds es,Rp H (.lst ds) x∧Rp H (.lst es) y∧D.fu ds=true∧D.fu es=true∧D.gn ds≤60∧Q (.bl (if neg then !D.lF ds es else D.lF ds es)) H
theorem Io (hu:X.A.units+64<cLine):OpR X (compareOp .Eq) (CW false):=by
  intro pins s σ H x y v u Q I rx ry h
  obtain ⟨ds,es,⟨f,a,xs,fq,rfl,e1,rfl,hd⟩,⟨g,b,ys,gq,rfl,e2,rfl,he⟩,pd,pe,hdp,q⟩:=h
  obtain rfl:v=.ref a:=rx
  obtain rfl:u=.ref b:=ry
  obtain ⟨its,rv,pl,hz⟩:=I.list (SqL.of e1)
  obtain ⟨its2,rv2,pl2,hz2⟩:=I.list (SqL.of e2)
  have l1:=rv.length
  have l2:=rv2.length
  have m1:=hd.length
  have m2:=he.length
  by_cases hl:ds.length=es.length
  · refine eq_listAt pl.isList pl2.isList (by simp;omega) (by omega) (yr I hd he rv rv2 pd pe (by omega)) (ba I q ?_)
    rw[t9 hl,show its.toArray.size=ds.length by simp;omega]
    all_goals rfl
  · refine eq_list_lengthsAt pl.isList pl2.isList (by simp;omega) (by omega) (ba I q ?_)
    rw[D.oF hl]
    all_goals rfl
theorem C0 (hu:X.A.units+64<cLine):OpR X (compareOp .NotEq) (CW true):=by
  intro pins s σ H x y v u Q I rx ry h
  obtain ⟨ds,es,⟨f,a,xs,fq,rfl,e1,rfl,hd⟩,⟨g,b,ys,gq,rfl,e2,rfl,he⟩,pd,pe,hdp,q⟩:=h
  obtain rfl:v=.ref a:=rx
  obtain rfl:u=.ref b:=ry
  obtain ⟨its,rv,pl,hz⟩:=I.list (SqL.of e1)
  obtain ⟨its2,rv2,pl2,hz2⟩:=I.list (SqL.of e2)
  have l1:=rv.length
  have l2:=rv2.length
  have m1:=hd.length
  have m2:=he.length
  by_cases hl:ds.length=es.length
  · refine RcNeAt.lists pl.isList pl2.isList (by simp;omega) (by omega) (yr I hd he rv rv2 pd pe (by omega)) _ _ _ _ (ba I q ?_)
    rw[t9 hl,show its.toArray.size=ds.length by simp;omega]
    all_goals rfl
  · refine RcNeAt.lists_lengths pl.isList pl2.isList (by simp;omega) (by omega) _ _ _ _ (ba I q ?_)
    rw[D.oF hl]
    all_goals rfl
end
theorem D.j9:∀(xs:List Int),D.fu (xs.map D.int)=true
  | []=>rfl
  | x::xs=>by rw[List.map_cons,D.fu,D.j9 xs];rfl
theorem D.mM:∀(t:List (List Int)),D.fu (t.map dI)=true
  | []=>rfl
  | x::xs=>by rw[List.map_cons,D.fu,D.mM xs,D.plain,D.j9];rfl
theorem D.mh:∀(xs:List Int),D.gn (xs.map D.int)=0
  | []=>rfl
  | x::xs=>by rw[List.map_cons,D.gn,D.mh xs];rfl
theorem D.qJ:∀(t:List (List Int)),D.gn (t.map dI)≤1
  | []=>by rw[List.map_nil,D.gn];omega
  | x::xs=>by
    have:=D.qJ xs
    rw[List.map_cons,D.gn,D.depth,D.mh]
    exact Nat.max_le.mpr ⟨Nat.le_refl _,this⟩
theorem D.qa:∀(xs ys:List Int),D.lF (xs.map D.int) (ys.map D.int)=decide (xs=ys)
  | [],[]=>rfl
  | [],y::ys=>rfl
  | x::xs,[]=>rfl
  | x::xs,y::ys=>by
    rw[List.map_cons,List.map_cons,D.lF,D.qa xs ys,D.eqb]
    by_cases h:x=y
    · subst h;simp
    · have:(x == y)=false:=beq_eq_false_iff_ne.mpr h
      simp [this,h]
theorem D.vg:∀(xs ys:List (List Int)),D.lF (xs.map dI) (ys.map dI)=decide (xs=ys)
  | [],[]=>rfl
  | [],y::ys=>rfl
  | x::xs,[]=>rfl
  | x::xs,y::ys=>by
    rw[List.map_cons,List.map_cons,D.lF,D.vg xs ys,D.eqb,D.qa]
    by_cases h:x=y
    · subst h;simp
    · simp [h]
def G3 (i j:Int):Prop:=∃m n:Nat,i.natAbs<2 ^ m∧j.natAbs<2 ^ n∧m+n≤100000000
def qF (i j:Int):Prop:=0<j∧∃m:Nat,j.natAbs<2 ^ m∧m≤9000
section
variable {X:Cx}
theorem iH:OpR X (binaryOp .Mult) (rI G3 fun i j=>.int (i*j)):=opI fun i j _ _ _ _ _ hc q=>by
  obtain ⟨m,n,h1,h2,h3⟩:=hc
  exact mul_int q (mulOk_of_bits (intBits_le h1) (intBits_le h2) (by omega))
theorem eF:OpR X (binaryOp .FloorDiv) (rI qF fun i j=>.int (i / j)):=opI fun i j _ _ _ _ _ hc q=>by
  obtain ⟨h0,m,h1,h2⟩:=hc
  have hj:j.natAbs≠0:=by omega
  refine floordiv_int (by omega) ?_ (.inl (PyProof.noPylong_of_log2 (Nat.lt_of_lt_of_le ((Nat.log2_lt hj).mpr h1) h2)))
  rw[Int.fdiv_eq_ediv_of_nonneg i (by omega)]
  exact q
end
def qD:List Str→Bool
  | []=>true
  | x::xs=>!xs.contains x && qD xs
theorem cD:∀{l:List Str},qD l=true→l.Nodup
  | [],_=>List.nodup_nil
  | x::xs,h=>by
    rw[qD,Bool.and_eq_true,Bool.not_eq_true'] at h
    refine List.nodup_cons.mpr ⟨fun z=>?_,cD h.2⟩
    have:=List.contains_iff_mem.mpr z
    rw[this] at h
    exact absurd h.1 (by decide)
def Ab (sc0 scope:Scope) (tn cap:List Str):Bool :=
  decide (scope.kind=.function) && qD (scope.names.map (·.1)) && qD (tn++cap) && cap.all (fun y=>decide (scope.names.lookup y=some .free)) &&
    scope.names.all fun y=>!decide (y.2=.free) || (decide (sc0.names.lookup y.1=some .cell) || decide (sc0.names.lookup y.1=some .free))
theorem bD.of {X:Cx}{sc0 scope:Scope}{tn cap:List Str}{idx:List Nat} (h:Ab sc0 scope tn cap=true) (e:X.env.scope=sc0) (ci:idx.map (fun i=>X.N[i]?)=cap.map some):bD X scope tn cap idx:=by
  unfold Ab at h
  simp only[Bool.and_eq_true,decide_eq_true_eq,List.all_eq_true,Bool.or_eq_true,Bool.not_eq_true',decide_eq_false_iff_not] at h
  obtain ⟨⟨⟨⟨h1,h2⟩,h3⟩,h4⟩,h5⟩:=h
  refine⟨h1,cD h2,cD h3,h4,ci,fun y hy hf=>?_⟩
  rw[e]
  rcases h5 y hy with z | z
  · exact absurd hf z
  · exact z
structure FnAt (K:PySem.W.Frag) (mg:Str→Option Value) (x:Str) (st:Stmt) (ps:List Str) (f:Addr) (fd:FuncData):Prop where
  fn:Fun K x x st f fd
  mg:mg x=some (.ref f)
  bd:Binds K fd ps []
end L2
namespace L2
open PySem PySem.Spec PyProof.Rows
theorem small {n:Nat} (h:n≤100000):n≤sizeLine:=Nat.le_trans h (by rw[sizeLine_eq];decide)
section
variable {X:Cx}{K:PySem.W.Frag}
theorem C4 (h:X.K=K):IxR X (Dq K):=by subst h;exact Fw
theorem Ge (h:X.K=K):IxR X (B4 K):=by subst h;exact IU
theorem Er {tg l:Expr}{tl:TE} (h:X.K=K) (hl:PE X l tl):PI X tg l (Bm K tl):=by subst h;exact Fy hl
theorem A3 {elts:List Expr}{x1:Nat}{tp:Pos}{a b:Expr}{ta:TA}{p pos:Pos} (h:X.K=K) (hg:Gl X "zip") (hm:X.mg "zip" = none) (ha:PA X [a,b] ta) (hs:starEach [a,b] X.env=[(false,eval a X.env),(false,eval b X.env)]:=by rfl) (hs2:starEach [b] X.env=[(false,eval b X.env)]:=by rfl) :
    PI X (.Tuple elts x1 tp) (.Call (.Name "zip" p) [a,b] [] pos) (HC K ta):=by subst h;exact HK hg hm ha hs hs2
theorem B8 (h:X.K=K):fR X (.builtin "len") (fun xs H Q=>∃p ys,xs=[.ref p]∧(SqL K H p ys∨SqT K H p ys)∧Q (.int ys.length) H):=by subst h;exact xj
theorem b7 (h:X.K=K):fR X (.builtin "isinstance") (fun xs H Q=>∃x n t b,xs=[x,.ty n]∧nq K H x t∧PySem.W.kitOne K t (.type n)=some b∧Q (.bl b) H):=by subst h;exact x9
theorem m9 (h:X.K=K) (hc:X.calm=true):fR X (.builtin "sum") (fun xs H Q=>∃(a:Addr) (ns:List Int),xs=[.ref a]∧SqL K H a (ns.map V.int)∧Q (.int ns.sum) H):=by subst h;exact Dh hc
theorem nM (h:X.K=K):fR X (.type "list") (fun xs H Q=>∃p ys,xs=[.ref p]∧(SqL K H p ys∨SqT K H p ys)∧∀l,H l=none→Q (.ref l) (upd H l (.lst ys))):=by subst h;exact xK
theorem xN (h:X.K=K):SlR X (Hi K):=by subst h;exact FH
theorem rO {es:List Expr}{k:Nat}{t:TGs}{n:Nat}{pos:Pos} (h:X.K=K) (hc:X.calm=true) (ht:PGs X es t)
    (hn:(assignEach es X.env).length=n:=by rfl) (hst:(assignEach es X.env).findIdx? (·.1)=none:=by rfl):PG X (.Tuple es k pos) (Gu K n t):=by subst h;exact HS hc ht hn hst
end
theorem mK {K:PySem.W.Frag}{n:String}:PySem.W.kitOne K (.type n) (.type n)=some true:=by unfold PySem.W.kitOne;rw[if_pos (beq_self_eq_true _)]
end L2
namespace L2
open PySem PySem.Spec PyProof.Rows
def D7 (X:Cx) (f:Value) (ks:List Str) (r:List V→List V→Hp→VK→Prop):Prop :=
  ∀(pins:List (Addr × Obj)) (s:Shared) (σ:St) (H:Hp) (xs zs:List V) (us ws:List Value) (Q:VK),Inv X pins σ H s→Vals xs us→Vals zs ws→r xs zs H Q →
    wpAny (model X.prog X.w) X.A (call f us (ks.zip ws)) (EP X pins σ Q) X.xe s
section
variable {X:Cx}{x:Str}{p pos:Pos}{e:Expr}{es:List Expr}{kws:List Keyword}{t tk:TA}{id:String}{ks:List Str}{r:List V→List V→Hp→VK→Prop}
def JB (r:List V→List V→Hp→VK→Prop) (t tk:TA):TE:=fun σ H Q=>t σ H fun vs H1=>tk σ H1 fun zs H2=>r vs zs H2 Q
theorem Cj (hc:D7 X (.builtin id) ks r) (hg:Gl X x) (hm:X.mg x=none) (hv:bootBuiltins x=some (.builtin id)) (ha:PA X (e::es) t) (hkw:PK X kws tk) (hks:(backToKw pos (keywordEach kws X.env)).filterMap (·.1)=ks:=by rfl) (hn:x≠"__name__":=by decide) (hdb:(x == ("__debug__" : Str))=false:=by decide)
    (he:backTo pos (starEach (e::es) X.env)=(false,eval e X.env)::backTo pos (starEach es X.env):=by rfl) (hplain:(backTo pos (starEach (e::es) X.env)).any (·.1)=false:=by rfl) (hall:(backToKw pos (keywordEach kws X.env)).all (·.1.isSome)=true:=by rfl)
    (hkn:(backToKw pos (keywordEach kws X.env)).any (·.1.isNone)=false:=by rfl):PE X (.Call (.Name x p) (e::es) kws pos) (JB r t tk):=by
  intro pins s σ H Q I h
  refine wpAny_Call_Name_kw (kS I hg hm hv ?_ hn hdb)
  refine callWith_kw (thn (ha pos pins s σ H _ I h) fun us s1 ⟨vs,H1,I1,r1,q1⟩=>?_) he hplain hall hkn
  refine thn (hkw pos pins s1 σ H1 _ I1 q1) fun ws s2 ⟨zs,H2,I2,rz,q2⟩=>?_
  rw[hks]
  exact hc pins s2 σ H2 vs zs us ws Q I2 r1 rz q2
end
section
variable {X:Cx}{K:PySem.W.Frag}
theorem lK:∀{us:List Value}{ns:List Int},IntsAre us ns→Vals (ns.map V.int) us
  | _,_,.nil=>.nil
  | _,_,.cons n t h=>.cons ⟨t,rfl⟩ (lK h)
theorem rl (hK:X.K=K):D7 X (.builtin "sorted") ["reverse"] (fun xs zs H Q=>∃(a:Addr) (ns:List Int) (b:Bool),xs=[.ref a]∧zs=[.bl b]∧SqL K H a (ns.map V.int)∧ns.length<64 ∧
    ∀(l:Addr) (ms:List Int),H l=none→ms.Perm ns→Ordered b ms→Q (.ref l) (upd H l (.lst (ms.map V.int)))):=by
  subst hK
  intro pins s σ H xs zs us ws Q I r rz h
  obtain ⟨a,ns,b,rfl,rfl,hS,hz,q⟩:=h
  obtain ⟨u,rfl,ru⟩:=vals1 r
  obtain ⟨u2,rfl,ru2⟩:=vals1 rz
  obtain rfl:u=Value.ref a:=ru
  obtain rfl:u2=Value.bool b:=ru2
  obtain ⟨its,rv,pl,_⟩:=I.list hS
  have hl:=rv.length
  rw[List.length_map] at hl
  refine sorted_ints_rev pl.isList (mX rv) (by omega) fun out ms a1 a2 a3=>?_
  obtain ⟨n,he⟩:=sortedAll_at s.heap its out
  have hn:H (s.heap.objs.size+1)=none:=I.hok.fresh (Nat.le_succ _)
  have hlm:=a2.length_eq
  refine⟨.ref (s.heap.objs.size+1),_,I.laid (t':=s.toks) (o:=.lst (ms.map V.int)) (fun b o e=>sortedAll_old e) (Nat.le_succ _) ⟨?_,out.toList,n,lK a1,?_⟩,rfl,q _ ms hn a2 a3⟩
  · rw[List.length_map];exact small (by omega)
  · exact he
end
theorem z8:typeLookup (.type "list_reverseiterator") "__len__" = pure none:=by rw[typeLookup_type,builtinLookup_eq_fast];kernel_rfl
theorem C2:typeLookup (.type "list_reverseiterator") "__length_hint__" = pure (some (.builtin "list_reverseiterator.__length_hint__")):=by rw[typeLookup_type,builtinLookup_eq_fast];kernel_rfl
theorem wZ:isSubtype (.type "list_reverseiterator") (.type "list_reverseiterator")=pure true:=by rw[isSubtype_type];kernel_rfl
section
variable {prog:Program}{w:World}{A:Around}{E:Value→Shared→Prop}{s:Shared}
theorem t5 {it l:Addr}{i:Int}{Q:Bool→Shared→Prop} (hit:s.heap.IsRevIter it l i) (h:Q false s):wpAny (model prog w) A (Builtin.List.listLengthHint (.ref it)) Q E s:=by
  unfold Builtin.List.listLengthHint
  refine wpAny_bind (wpAny_specialOf hit.typeIs z8 ?_)
  show wpAny _ A (specialOf (Value.ref it) (Str.ofString "__length_hint__") >>= _) _ _ _
  refine wpAny_bind (wpAny_specialOf hit.typeIs C2 ?_)
  generalize hid:("list_reverseiterator.__length_hint__" : String)=id0
  wp_delta
  rw[show splitId id0=some ("list_reverseiterator","__length_hint__") from by subst hid;decide +kernel]
  subst hid
  refine wpAny_bind (wpAny_isInstance (T:="list_reverseiterator") (b:=true) hit.typeIs wZ ?_)
  refine wpAny_ite_split (fun hab=>absurd hab (by decide)) (fun _=>?_)
  refine wpAny_ite_split (fun _=>?_) (fun hab=>absurd (by decide +kernel) hab)
  refine wpAny_ite_split (fun hab=>absurd hab (by decide)) (fun _=>?_)
  exact wpAny_pure h
theorem pW {R:Result→Shared→Prop}{it l:Addr}{items:Array Value} (hh:A.handled=none) (hit:s.heap.IsRevIter it l ((items.size:Int) - 1)) (hl:s.heap.IsList l items) (hlen:items.size≤sizeLine) (S:Addr) (res:Value) (c₀:Nat)
    (hS:s.heap.get? S=some { cls:=.type "list",data:=.seq #[] c₀ }) (hSl:S≠l)
    (hR:∀h' tk acc' c',(∀b o,b≠S→b≠it→s.heap.get? b=some o→h'.get? b=some o)→h'.get? S=some { cls:=.type "list",dict:=none,data:=.seq acc' c',slots:=#[] } →
      ItemsOf (fun i v=>items[items.size - 1 - i]?=some v) acc' items.size→R (.ok (.ret res)) { s with heap:=h',toks:=tk }) :
    wpAny (model prog w) A.in1 (Builtin.List.listExtendWith (.ref S) (.ref it) res)
      (fun fin s'=>match fin with | .done f=>R (.ok f) s' | .again c'=>c'.quiet=true∧codeAny (model prog w) A c' R s') (fun e s'=>R (.error e) s') s:=by
  obtain ⟨oi,hoi,hci,hdi⟩:=id hit
  have hSI:S≠it:=eT hS hoi rfl hci (by decide)
  obtain ⟨ol,hol,hcl,_⟩:=id hl
  have hlI:l≠it:=eT hol hoi hcl hci (by decide)
  have hSf:S∉[it,l]:=fun hm=>by
    rcases List.mem_cons.mp hm with e | hm
    · exact hSI e
    · exact hSl (List.mem_singleton.mp hm)
  have W:=(Walks.listRev (prog:=prog) (w:=w) (A:=A.in1) hh it l hlI items).toS
  unfold Builtin.List.listExtendWith
  refine wpAny_bind (wpAny_typeOf (T:="list_reverseiterator") hit.typeIs ?_)
  have h1:Builtin.List.listSameRef (.ref S) (.ref it)=false:=by simp [Builtin.List.listSameRef,hSI]
  have h2:(Value.type "list_reverseiterator" == Value.type "list")=false:=by decide
  have h3:(Value.type "list_reverseiterator" == Value.type "tuple")=false:=by decide
  simp only[h1,h2,h3,Bool.or_false,Bool.false_eq_true,if_false]
  refine wpAny_bind (wpAny_pyIter_revIter hit ?_)
  refine wpAny_bind (wpAny_holding (t5 hit ?_))
  refine wpAny_ite_split (fun hab=>absurd hab (by decide)) (fun _=>?_)
  refine wpAny_pure ⟨plainId_quiet F.plain_extend_loop _,?_⟩
  refine codeAny_extend_loopS W hlen S hSf res items.size 0 _ #[] c₀ rfl (Nat.zero_le _) ⟨Nat.zero_le _,by simpa using hit,hl⟩ hS (ItemsOf.nil _) fun s' acc' c' hm hS' hacc=>?_
  rw[Moved.eq_with hm]
  refine hR s'.heap s'.toks acc' c' (fun b o hb hb2 e=>hm.heap b o (fun hmem=>?_) e) hS' hacc
  rcases List.mem_cons.mp hmem with e' | hmem
  · exact hb e'
  · exact hb2 (List.mem_singleton.mp hmem)
end
section
variable {X:Cx}{K:PySem.W.Frag}{e:Expr}{te:TE}{p p2 pos pos2:Pos}
end
end L2
namespace L2
open PySem PySem.Spec PyProof.Rows
def iC (ns:List Int):List Int:=ns.mergeSort fun a b=>decide (b≤a)
theorem gK (ns:List Int):(iC ns).Perm ns:=List.mergeSort_perm ns _
theorem kJ (ns:List Int):(iC ns).Pairwise (·≥·):=by
  have h:=List.pairwise_mergeSort (le:=fun a b:Int=>decide (b≤a)) (fun a b c h1 h2=>by simp only[decide_eq_true_eq] at *;omega) (fun a b=>by simp only[Bool.or_eq_true,decide_eq_true_eq];omega) ns
  exact h.imp fun h=>by simpa using h
theorem Bg {ms ns:List Int} (hp:ms.Perm ns) (h:ms.Pairwise (·≥·)):ms=iC ns :=
  (hp.trans (gK ns).symm).eq_of_pairwise (fun x y _ _ h1 h2=>Int.le_antisymm h2 h1) h (kJ ns)
theorem bO (ns:List Int):(iC ns).length=ns.length:=(gK ns).length_eq
end L2
namespace L3
open PySem L2
inductive D where
  | non | bl (b:Bool) | int (i:Int) | str (x:Str) | lst (ds:List D) | tup (ds:List D) | dic (kvs:List (Key × V)) | dit (kvs:List (List Key × V)) | scr (ns:List Int) | pin (a:Addr) (d:D) | mem (φ:Int→List Int→Int→Prop) | raw (w:V) | ins (C:Addr) (ns:List Str) (ds:List D)
def NT:HO→Prop | .tbl _=>False | _=>True
def y4:Str:="falling_places.<locals>.<lambda>"
def uF (c:Addr):HO:=.ext fun h=>h.CodeRec (.ref c) y4
def TabAt (P:Addr) (H:Hp):Prop:=∃ps,H P=some (.tbl ps)∧TriplesOk ps.toList∧∀pos cv,codeAmong pos ps.toList=some cv→∃c,cv=.ref c∧H c=some (uF c)
structure Same (H H':Hp):Prop where
  st:∀b o,H b=some o→NT o→H' b=some o
  tb:∀b ps,H b=some (.tbl ps)→∃ps',H' b=some (.tbl ps')
  ti:∀P,TabAt P H→TabAt P H'
theorem Same.refl (H:Hp):Same H H:=⟨fun _ _ h _=>h,fun _ ps h=>⟨ps,h⟩,fun _ h=>h⟩
theorem Same.trans {H H1 H2:Hp} (a:Same H H1) (b:Same H1 H2):Same H H2:=⟨fun c o h n=>b.st c o (a.st c o h n) n,fun c ps h=>let ⟨_,h1⟩:=a.tb c ps h;b.tb c _ h1,fun P h=>b.ti P (a.ti P h)⟩
theorem Same.free {H H':Hp} (e:Same H H') {l:Addr} (h:H' l=Option.none):H l=Option.none:=by
  cases q:H l with
  | none=>rfl
  | some o =>
    by_cases n:NT o
    · rw[e.st l o q n] at h;cases h
    · cases o with
      | tbl ps=>obtain ⟨ps',z⟩:=e.tb l ps q;rw[z] at h;cases h
      | _=>exact absurd trivial n
theorem Same.all {H H':Hp} (k:∀b u,H b=some u→H' b=some u):Same H H' :=
  ⟨fun b u e _=>k b u e,fun b ps e=>⟨ps,k b _ e⟩,fun P ⟨ps,e,g1,g2⟩=>⟨ps,k P _ e,g1,fun pos cv z=>let ⟨c,z1,z2⟩:=g2 pos cv z;⟨c,z1,k c _ z2⟩⟩⟩
theorem Same.o9 {H:Hp}{p:Addr}{o:HO} (h:H p=none):Same H (upd H p o):=Same.all fun b u e=>by rw[aP (aY e h)];exact e
theorem Same.seq {K:PySem.W.Frag}{H H':Hp}{a:Addr}{xs:List V} (e:Same H H') (h:SqL K H a xs):SqL K H' a xs:=by
  rcases h with (h | ⟨o,h⟩) | h
  · exact .inl (.inl (e.st _ _ h trivial))
  · exact .inl (.inr ⟨o,e.st _ _ h trivial⟩)
  · exact .inr h
def uW:Addr:=327
def i9 (K:PySem.W.Frag) (H:Hp):Prop:=TabAt uW H
theorem i9.same {K:PySem.W.Frag}{H H':Hp} (t:i9 K H) (s:Same H H'):i9 K H':=s.ti _ t
structure SB (K:PySem.W.Frag) (B H:Hp):Prop extends Same B H where
  tv:i9 K B
theorem SB.trans {K:PySem.W.Frag}{B H H':Hp} (a:SB K B H) (s:Same H H'):SB K B H':=⟨a.toSame.trans s,a.tv⟩
theorem SB.now {K:PySem.W.Frag}{B H:Hp} (a:SB K B H):i9 K H:=a.tv.same a.toSame
instance {K:PySem.W.Frag}{B H:Hp}:CoeOut (SB K B H) (Same B H):=⟨SB.toSame⟩
theorem SB.refl {K:PySem.W.Frag}{H:Hp} (t:i9 K H):SB K H H:=⟨Same.refl H,t⟩
def Kc (K:PySem.W.Frag) (a:Addr) (xs:List V):Prop :=
  ∃(o:Obj) (its:Array Value) (n:Nat),K.lookup a=some o∧o.cls=.type "list"∧o.dict=none∧o.data=.seq its n∧its.size≤sizeLine∧Vals xs its.toList
def Sc (K:PySem.W.Frag) (H:Hp) (a:Addr) (xs:List V):Prop:=(∃o,H a=some (.frz o (.lst xs)))∨Kc K a xs
theorem Sc.seq {K:PySem.W.Frag}{H:Hp}{a:Addr}{xs:List V} (h:Sc K H a xs):SqL K H a xs:=h.elim (fun ⟨o,h⟩=>.inl (.inr ⟨o,h⟩)) .inr
def Im (o:HO):Prop:=(∃xs,o=.tup xs)∨(∃o' u,o=.frz o' u)∨∃φ ks,o=.memo φ ks
section
variable {K:PySem.W.Frag}
mutual
def Rf (K:PySem.W.Frag) (H:Hp):D→V→List Addr→Prop
  | .non,v,fp=>v=.non∧fp=[]
  | .bl b,v,fp=>v=.bl b∧fp=[]
  | .int i,v,fp=>v=.int i∧fp=[]
  | .str x,v,fp=>v=.str x∧fp=[]
  | .lst ds,v,fp=>∃a xs fq,v=.ref a∧H a=some (.lst xs)∧fp=a::fq∧Rfs K H ds xs fq
  | .tup ds,v,fp=>∃a xs,v=.ref a∧H a=some (.tup xs)∧Rfs K H ds xs fp
  | .dic kvs,v,fp=>∃a,v=.ref a∧H a=some (.dK kvs)∧(∀p∈kvs,mS p.2=true)∧fp=[a]
  | .dit kvs,v,fp=>∃a,v=.ref a∧H a=some (.dT kvs)∧(∀p∈kvs,mS p.2=true)∧fp=[a]
  | .scr ns,v,fp=>∃a,v=.ref a∧Sc K H a (ns.map V.int)∧fp=[]
  | .pin a d,v,fp=>v=.ref a∧Rf K H d v fp
  | .mem φ,v,fp=>∃a,v=.ref a∧H a=some (.memo φ [])∧fp=[]
  | .raw w,v,fp=>v=w∧fp=[]
  | .ins C ns ds,v,fp=>∃a dx xs fq,v=.ref a∧H a=some (.ins C dx (ns.zip xs))∧fp=a::fq∧Rfs K H ds xs fq
def Rfs (K:PySem.W.Frag) (H:Hp):List D→List V→List Addr→Prop
  | [],xs,fp=>xs=[]∧fp=[]
  | d::ds,xs,fp=>∃x r f1 f2,xs=x::r∧fp=f1++f2∧Rf K H d x f1∧Rfs K H ds r f2
end
def Rp (K:PySem.W.Frag) (H:Hp) (d:D) (v:V):Prop:=∃fp,Rf K H d v fp
def Rps (K:PySem.W.Frag) (H:Hp) (ds:List D) (vs:List V):Prop:=∃fp,Rfs K H ds vs fp
mutual
theorem Rf.mono {H H':Hp}:∀{d:D}{v:V}{fp:List Addr},Rf K H d v fp→(∀a∈fp,∀o,H a=some o→H' a=some o)→(∀a o,H a=some o→Im o→H' a=some o)→Rf K H' d v fp
  | .non,_,_,h,_,_=>h
  | .bl _,_,_,h,_,_=>h
  | .int _,_,_,h,_,_=>h
  | .str _,_,_,h,_,_=>h
  | .lst ds,v,fp,h,k,t=>by
    obtain ⟨a,xs,fq,e1,e2,e3,h⟩:=h
    subst e3
    exact⟨a,xs,fq,e1,k a List.mem_cons_self _ e2,rfl,Rfs.mono h (fun b hb=>k b (List.mem_cons_of_mem _ hb)) t⟩
  | .tup ds,v,fp,h,k,t=>by
    obtain ⟨a,xs,e1,e2,h⟩:=h
    exact⟨a,xs,e1,t a _ e2 (.inl ⟨_,rfl⟩),Rfs.mono h k t⟩
  | .dic kvs,v,fp,h,k,t=>by
    obtain ⟨a,e1,e2,e3,e4⟩:=h
    subst e4
    exact⟨a,e1,k a List.mem_cons_self _ e2,e3,rfl⟩
  | .dit kvs,v,fp,h,k,t=>by
    obtain ⟨a,e1,e2,e3,e4⟩:=h
    subst e4
    exact⟨a,e1,k a List.mem_cons_self _ e2,e3,rfl⟩
  | .scr ns,v,fp,h,k,t=>by
    obtain ⟨a,e1,e2,e3⟩:=h
    refine⟨a,e1,?_,e3⟩
    rcases e2 with ⟨o,e2⟩ | e2
    · exact .inl ⟨o,t a _ e2 (.inr (.inl ⟨_,_,rfl⟩))⟩
    · exact .inr e2
  | .pin a d,v,fp,h,k,t=>⟨h.1,Rf.mono h.2 k t⟩
  | .mem φ,v,fp,h,k,t=>by
    obtain ⟨a,e1,e2,e3⟩:=h
    exact⟨a,e1,t a _ e2 (.inr (.inr ⟨_,_,rfl⟩)),e3⟩
  | .raw _,_,_,h,_,_=>h
  | .ins C ns ds,v,fp,h,k,t=>by
    obtain ⟨a,dx,xs,fq,e1,e2,e3,h⟩:=h
    subst e3
    exact⟨a,dx,xs,fq,e1,k a List.mem_cons_self _ e2,rfl,Rfs.mono h (fun b hb=>k b (List.mem_cons_of_mem _ hb)) t⟩
theorem Rfs.mono {H H':Hp}:∀{ds:List D}{vs:List V}{fp:List Addr},Rfs K H ds vs fp→(∀a∈fp,∀o,H a=some o→H' a=some o)→(∀a o,H a=some o→Im o→H' a=some o)→Rfs K H' ds vs fp
  | [],_,_,h,_,_=>h
  | d::ds,vs,fp,h,k,t=>by
    obtain ⟨x,r,f1,f2,e1,e2,h1,h2⟩:=h
    subst e2
    exact⟨x,r,f1,f2,e1,rfl,Rf.mono h1 (fun b hb=>k b (List.mem_append_left _ hb)) t,Rfs.mono h2 (fun b hb=>k b (List.mem_append_right _ hb)) t⟩
end
mutual
theorem Rf.nD {H H':Hp}:∀{d:D}{v:V}{fp:List Addr},Rf K H d v fp→(∀a∈fp,∀o,H a=some o→NT o→H' a=some o)→(∀a o,H a=some o→Im o→H' a=some o)→Rf K H' d v fp
  | .non,_,_,h,_,_=>h
  | .bl _,_,_,h,_,_=>h
  | .int _,_,_,h,_,_=>h
  | .str _,_,_,h,_,_=>h
  | .lst ds,v,fp,h,k,t=>by
    obtain ⟨a,xs,fq,e1,e2,e3,h⟩:=h
    subst e3
    exact⟨a,xs,fq,e1,k a List.mem_cons_self _ e2 trivial,rfl,Rfs.nD h (fun b hb=>k b (List.mem_cons_of_mem _ hb)) t⟩
  | .tup ds,v,fp,h,k,t=>by
    obtain ⟨a,xs,e1,e2,h⟩:=h
    exact⟨a,xs,e1,t a _ e2 (.inl ⟨_,rfl⟩),Rfs.nD h k t⟩
  | .dic kvs,v,fp,h,k,t=>by
    obtain ⟨a,e1,e2,e3,e4⟩:=h
    subst e4
    exact⟨a,e1,k a List.mem_cons_self _ e2 trivial,e3,rfl⟩
  | .dit kvs,v,fp,h,k,t=>by
    obtain ⟨a,e1,e2,e3,e4⟩:=h
    subst e4
    exact⟨a,e1,k a List.mem_cons_self _ e2 trivial,e3,rfl⟩
  | .scr ns,v,fp,h,k,t=>by
    obtain ⟨a,e1,e2,e3⟩:=h
    refine⟨a,e1,?_,e3⟩
    rcases e2 with ⟨o,e2⟩ | e2
    · exact .inl ⟨o,t a _ e2 (.inr (.inl ⟨_,_,rfl⟩))⟩
    · exact .inr e2
  | .pin a d,v,fp,h,k,t=>⟨h.1,Rf.nD h.2 k t⟩
  | .mem φ,v,fp,h,k,t=>by
    obtain ⟨a,e1,e2,e3⟩:=h
    exact⟨a,e1,t a _ e2 (.inr (.inr ⟨_,_,rfl⟩)),e3⟩
  | .raw _,_,_,h,_,_=>h
  | .ins C ns ds,v,fp,h,k,t=>by
    obtain ⟨a,dx,xs,fq,e1,e2,e3,h⟩:=h
    subst e3
    exact⟨a,dx,xs,fq,e1,k a List.mem_cons_self _ e2 trivial,rfl,Rfs.nD h (fun b hb=>k b (List.mem_cons_of_mem _ hb)) t⟩
theorem Rfs.nD {H H':Hp}:∀{ds:List D}{vs:List V}{fp:List Addr},Rfs K H ds vs fp→(∀a∈fp,∀o,H a=some o→NT o→H' a=some o)→(∀a o,H a=some o→Im o→H' a=some o)→Rfs K H' ds vs fp
  | [],_,_,h,_,_=>h
  | d::ds,vs,fp,h,k,t=>by
    obtain ⟨x,r,f1,f2,e1,e2,h1,h2⟩:=h
    subst e2
    exact⟨x,r,f1,f2,e1,rfl,Rf.nD h1 (fun b hb=>k b (List.mem_append_left _ hb)) t,Rfs.nD h2 (fun b hb=>k b (List.mem_append_right _ hb)) t⟩
end
theorem Rf.same {H H':Hp}{d:D}{v:V}{fp:List Addr} (h:Rf K H d v fp) (s:Same H H'):Rf K H' d v fp:=h.nD (fun a _ o e n=>s.st a o e n) fun a o e i=>s.st a o e (by rcases i with ⟨_,rfl⟩ | ⟨_,_,rfl⟩ | ⟨_,_,rfl⟩<;>trivial)
theorem Rfs.same {H H':Hp}{d:List D}{v:List V}{fp:List Addr} (h:Rfs K H d v fp) (s:Same H H'):Rfs K H' d v fp:=h.nD (fun a _ o e n=>s.st a o e n) fun a o e i=>s.st a o e (by rcases i with ⟨_,rfl⟩ | ⟨_,_,rfl⟩ | ⟨_,_,rfl⟩<;>trivial)
theorem Rp.same {H H':Hp}{d:D}{v:V} (h:Rp K H d v) (s:Same H H'):Rp K H' d v:=let ⟨fp,h⟩:=h;⟨fp,h.same s⟩
mutual
theorem Rf.dom {H:Hp}:∀{d:D}{v:V}{fp:List Addr},Rf K H d v fp→∀a∈fp,∃o,H a=some o∧¬ Im o
  | .non,_,_,h,a,ha=>by obtain ⟨_,rfl⟩:=h;nomatch ha
  | .bl _,_,_,h,a,ha=>by obtain ⟨_,rfl⟩:=h;nomatch ha
  | .int _,_,_,h,a,ha=>by obtain ⟨_,rfl⟩:=h;nomatch ha
  | .str _,_,_,h,a,ha=>by obtain ⟨_,rfl⟩:=h;nomatch ha
  | .lst ds,v,fp,h,b,hb=>by
    obtain ⟨a,xs,fq,e1,e2,e3,h⟩:=h
    subst e3
    rcases List.mem_cons.mp hb with e | hb
    · subst e;exact⟨_,e2,fun z=>by rcases z with ⟨_,z⟩ | ⟨_,_,z⟩ | ⟨_,_,z⟩<;>cases z⟩
    · exact Rfs.dom h b hb
  | .tup ds,v,fp,h,b,hb=>by
    obtain ⟨a,xs,e1,e2,h⟩:=h
    exact Rfs.dom h b hb
  | .dic kvs,v,fp,h,b,hb=>by
    obtain ⟨a,e1,e2,e3,e4⟩:=h
    subst e4
    cases List.mem_singleton.mp hb
    exact⟨_,e2,fun z=>by rcases z with ⟨_,z⟩ | ⟨_,_,z⟩ | ⟨_,_,z⟩<;>cases z⟩
  | .dit kvs,v,fp,h,b,hb=>by
    obtain ⟨a,e1,e2,e3,e4⟩:=h
    subst e4
    cases List.mem_singleton.mp hb
    exact⟨_,e2,fun z=>by rcases z with ⟨_,z⟩ | ⟨_,_,z⟩ | ⟨_,_,z⟩<;>cases z⟩
  | .scr ns,v,fp,h,b,hb=>by
    obtain ⟨a,e1,e2,e3⟩:=h
    subst e3;nomatch hb
  | .pin a d,v,fp,h,b,hb=>Rf.dom h.2 b hb
  | .mem φ,v,fp,h,b,hb=>by
    obtain ⟨a,e1,e2,e3⟩:=h
    subst e3;nomatch hb
  | .raw _,_,_,h,a,ha=>by obtain ⟨_,rfl⟩:=h;nomatch ha
  | .ins C ns ds,v,fp,h,b,hb=>by
    obtain ⟨a,dx,xs,fq,e1,e2,e3,h⟩:=h
    subst e3
    rcases List.mem_cons.mp hb with e | hb
    · subst e;exact⟨_,e2,fun z=>by rcases z with ⟨_,z⟩ | ⟨_,_,z⟩ | ⟨_,_,z⟩<;>cases z⟩
    · exact Rfs.dom h b hb
theorem Rfs.dom {H:Hp}:∀{ds:List D}{vs:List V}{fp:List Addr},Rfs K H ds vs fp→∀a∈fp,∃o,H a=some o∧¬ Im o
  | [],_,_,h,a,ha=>by obtain ⟨_,rfl⟩:=h;nomatch ha
  | d::ds,vs,fp,h,b,hb=>by
    obtain ⟨x,r,f1,f2,e1,e2,h1,h2⟩:=h
    subst e2
    rcases List.mem_append.mp hb with hb | hb
    · exact Rf.dom h1 b hb
    · exact Rfs.dom h2 b hb
end
theorem Rfs.upd {H:Hp}{d:List D}{v:List V}{fp:List Addr}{l:Addr}{o:HO} (h:Rfs K H d v fp) (hl:l∉fp) (hm:∀o,H l=some o→¬ Im o):Rfs K (upd H l o) d v fp :=
  h.mono (fun a ha u e=>by rw[aP (fun z=>hl (by rw[← z];exact ha))];exact e) fun a o e i=>by rw[aP (fun z=>hm o (by rw[← z];exact e) i)];exact e
theorem Rfs.length {H:Hp}:∀{ds:List D}{vs:List V}{fp:List Addr},Rfs K H ds vs fp→vs.length=ds.length
  | [],_,_,h=>by obtain ⟨rfl,_⟩:=h;rfl
  | d::ds,vs,fp,h=>by
    obtain ⟨x,r,f1,f2,e1,e2,h1,h2⟩:=h
    subst e1
    rw[List.length_cons,List.length_cons,Rfs.length h2]
theorem Rfs.append {H:Hp}:∀{ds es:List D}{vs ws:List V}{fp fq:List Addr},Rfs K H ds vs fp→Rfs K H es ws fq→Rfs K H (ds++es) (vs++ws) (fp++fq)
  | [],es,vs,ws,fp,fq,h,h'=>by obtain ⟨rfl,rfl⟩:=h;exact h'
  | d::ds,es,vs,ws,fp,fq,h,h'=>by
    obtain ⟨x,r,f1,f2,rfl,rfl,h1,h2⟩:=h
    exact⟨x,r++ws,f1,f2++fq,rfl,List.append_assoc ..,h1,Rfs.append h2 h'⟩
theorem Rfs.one {H:Hp}{d:D}{v:V}{fp:List Addr} (h:Rf K H d v fp):Rfs K H [d] [v] fp:=⟨v,[],fp,[],rfl,(List.append_nil _).symm,h,rfl,rfl⟩
theorem Rfs.get {H:Hp}:∀{ds:List D}{vs:List V}{fp:List Addr}{i:Nat}{d:D},Rfs K H ds vs fp→ds[i]?=some d→∃v f,vs[i]?=some v∧Rf K H d v f∧(∀a∈f,a∈fp)
  | [],_,_,_,_,_,e=>by simp at e
  | d::ds,vs,fp,0,d',h,e=>by
    obtain ⟨x,r,f1,f2,rfl,rfl,h1,h2⟩:=h
    simp at e;subst e
    exact⟨x,f1,rfl,h1,fun a ha=>List.mem_append_left _ ha⟩
  | d::ds,vs,fp,i+1,d',h,e=>by
    obtain ⟨x,r,f1,f2,rfl,rfl,h1,h2⟩:=h
    obtain ⟨v,f,e1,h3,k⟩:=Rfs.get (i:=i) h2 (by simpa using e)
    exact⟨v,f,by simpa using e1,h3,fun a ha=>List.mem_append_right _ (k a ha)⟩
theorem Rfs.get' {H:Hp}{ds:List D}{vs:List V}{fp:List Addr}{i:Nat}{v:V} (h:Rfs K H ds vs fp) (e:vs[i]?=some v):∃d f,ds[i]?=some d∧Rf K H d v f∧(∀a∈f,a∈fp):=by
  have hl:=h.length
  obtain ⟨hi,_⟩:=List.getElem?_eq_some_iff.mp e
  have hi':i<ds.length:=by omega
  obtain ⟨v',f,e1,h1,k⟩:=h.get (d:=ds[i]) (List.getElem?_eq_getElem hi')
  rw[e] at e1;cases e1
  exact⟨ds[i],f,List.getElem?_eq_getElem hi',h1,k⟩
def D.bf:D→Bool
  | .non=>true | .bl _=>true | .int _=>true | .str _=>true | _=>false
def D.toV:D→V
  | .non=>.non | .bl b=>.bl b | .int i=>.int i | .str x=>.str x | _=>.non
theorem Rf.bf {H:Hp}{d:D}{v:V}{fp:List Addr} (h:Rf K H d v fp) (s:d.bf=true):v=d.toV∧fp=[]:=by
  cases d<;>first | exact h | cases s
theorem Rf.xA {H:Hp}{d:D} (s:d.bf=true):Rf K H d d.toV []:=by
  cases d<;>first | exact⟨rfl,rfl⟩ | cases s
theorem Rp.int {H:Hp}{i:Int}{v:V} (h:Rp K H (.int i) v):v=.int i:=h.choose_spec.1
theorem Rp.bl {H:Hp}{i:Bool}{v:V} (h:Rp K H (.bl i) v):v=.bl i:=h.choose_spec.1
theorem Rfs.mP {H:Hp}:∀{ds:List D}{vs:List V}{fp:List Addr},Rfs K H ds vs fp→ds.all D.bf=true→vs=ds.map D.toV∧fp=[]
  | [],vs,fp,h,_=>h
  | d::ds,vs,fp,h,s=>by
    obtain ⟨x,r,f1,f2,rfl,rfl,h1,h2⟩:=h
    simp only[List.all_cons,Bool.and_eq_true] at s
    obtain ⟨rfl,rfl⟩:=h1.bf s.1
    obtain ⟨rfl,rfl⟩:=Rfs.mP h2 s.2
    exact⟨rfl,rfl⟩
theorem Rfs.rN {H:Hp}:∀{ds:List D},ds.all D.bf=true→Rfs K H ds (ds.map D.toV) []
  | [],_=>⟨rfl,rfl⟩
  | d::ds,s=>by
    simp only[List.all_cons,Bool.and_eq_true] at s
    exact⟨_,_,[],[],rfl,rfl,Rf.xA s.1,Rfs.rN s.2⟩
def D.items:D→Option (List D)
  | .lst ds=>some ds | .scr ns=>some (ns.map D.int) | _=>none
theorem Rfs.ofInts {H:Hp}:∀{ns:List Int},Rfs K H (ns.map D.int) (ns.map V.int) []
  | []=>⟨rfl,rfl⟩
  | n::ns=>⟨_,_,[],[],rfl,rfl,⟨rfl,rfl⟩,Rfs.ofInts⟩
theorem Rf.seq {H:Hp}{d:D}{ds:List D}{v:V}{fp:List Addr} (h:Rf K H d v fp) (e:d.items=some ds):∃a xs fq,v=.ref a∧SqL K H a xs∧Rfs K H ds xs fq∧∀b∈fq,b∈fp:=by
  cases d with
  | lst es =>
    cases e
    obtain ⟨a,xs,fq,e1,e2,rfl,h⟩:=h
    exact⟨a,xs,fq,e1,.inl (.inl e2),h,fun b hb=>List.mem_cons_of_mem _ hb⟩
  | scr ns =>
    cases e
    obtain ⟨a,e1,e2,e3⟩:=h
    exact⟨a,_,[],e1,e2.seq,Rfs.ofInts,fun b hb=>nomatch hb⟩
  | _=>cases e
theorem Rp.seq {H:Hp}{d:D}{ds:List D}{v:V} (h:Rp K H d v) (e:d.items=some ds):∃a xs fq,v=.ref a∧SqL K H a xs∧Rfs K H ds xs fq :=
  let ⟨_,h⟩:=h;let ⟨a,xs,fq,h1,h2,h3,_⟩:=h.seq e;⟨a,xs,fq,h1,h2,h3⟩
theorem Rp.tup {H:Hp}{ds:List D}{v:V} (h:Rp K H (.tup ds) v):∃a xs fq,v=.ref a∧SqT K H a xs∧Rfs K H ds xs fq:=by
  obtain ⟨fp,a,xs,e1,e2,h⟩:=h
  exact⟨a,xs,fp,e1,.inl (.inl e2),h⟩
def Mu (H:Hp) (a:Addr):Prop:=(∃xs,H a=some (.lst xs))∨(∃kvs,H a=some (.dK kvs))∨(∃kvs,H a=some (.dT kvs))∨∃C dx fs,H a=some (.ins C dx fs)
theorem Mu.same {H H':Hp}{a:Addr} (h:Mu H a) (s:Same H H'):Mu H' a:=by
  rcases h with ⟨x,h⟩ | ⟨x,h⟩ | ⟨x,h⟩ | ⟨C,dx,fs,h⟩
  · exact .inl ⟨x,s.st _ _ h trivial⟩
  · exact .inr (.inl ⟨x,s.st _ _ h trivial⟩)
  · exact .inr (.inr (.inl ⟨x,s.st _ _ h trivial⟩))
  · exact .inr (.inr (.inr ⟨C,dx,fs,s.st _ _ h trivial⟩))
theorem Mu.some {H:Hp}{a:Addr} (h:Mu H a):H a≠none:=by
  rcases h with ⟨x,h⟩ | ⟨x,h⟩ | ⟨x,h⟩ | ⟨C,dx,fs,h⟩<;>rw[h]<;>intro z<;>cases z
theorem Mu.AH {H:Hp}{a:Addr} (h:Mu H a):∀o,H a=Option.some o→¬ Im o:=by
  rcases h with ⟨x,h⟩ | ⟨x,h⟩ | ⟨x,h⟩ | ⟨C,dx,fs,h⟩<;>rw[h]<;>intro o e z<;>cases e<;>rcases z with ⟨_,z⟩ | ⟨_,_,z⟩ | ⟨_,_,z⟩<;>cases z
theorem Mu.upd {H:Hp}{a l:Addr}{o:HO} (h:Mu H a) (ho:(∃xs,o=.lst xs)∨(∃xs,o=.dK xs)∨(∃xs,o=.dT xs)∨∃C dx fs,o=.ins C dx fs):Mu (upd H l o) a:=by
  by_cases e:a=l
  · subst e
    rcases ho with ⟨xs,rfl⟩ | ⟨xs,rfl⟩ | ⟨xs,rfl⟩ | ⟨C,dx,fs,rfl⟩
    · exact .inl ⟨xs,aH⟩
    · exact .inr (.inl ⟨xs,aH⟩)
    · exact .inr (.inr (.inl ⟨xs,aH⟩))
    · exact .inr (.inr (.inr ⟨C,dx,fs,aH⟩))
  · unfold Mu
    rw[aP e]
    exact h
abbrev Dl:=List (Option D)
structure Ok (K:PySem.W.Frag) (B0:Hp) (Γ:List Nat) (fps:Nat→List Addr) (δ:Dl) (σ:St) (H:Hp):Prop where
  len:σ.length=δ.length
  b0:SB K B0 H
  val:∀i d,δ[i]?=some (some d)→∃v,σ[i]?=some (some v)∧Rf K H d v (fps i)
  non:∀i,(∀d,δ[i]?≠some (some d))→fps i=[]
  own:∀i∈Γ,(fps i).Nodup∧∀a∈fps i,B0 a=none∧Mu H a
  dj:∀i∈Γ,∀j,j≠i→∀a∈fps i,a∉fps j
variable {B0:Hp}{Γ:List Nat}{fps:Nat→List Addr}{δ:Dl}{σ:St}{H H':Hp}
theorem Ok.same (o:Ok K B0 Γ fps δ σ H) (s:Same H H'):Ok K B0 Γ fps δ σ H' :=
  ⟨o.len,o.b0.trans s,fun i d e=>let ⟨v,h1,h2⟩:=o.val i d e;⟨v,h1,h2.same s⟩,o.non,fun i hi=>⟨(o.own i hi).1,fun a ha=>⟨((o.own i hi).2 a ha).1,((o.own i hi).2 a ha).2.same s⟩⟩,o.dj⟩
theorem Ok.sub {Γ':List Nat} (o:Ok K B0 Γ fps δ σ H) (h:∀i∈Γ',i∈Γ):Ok K B0 Γ' fps δ σ H :=
  ⟨o.len,o.b0,o.val,o.non,fun i hi=>o.own i (h i hi),fun i hi=>o.dj i (h i hi)⟩
theorem Ok.dom (o:Ok K B0 Γ fps δ σ H) {i:Nat}{a:Addr} (h:a∈fps i):H a≠none:=by
  by_cases e:∃d,δ[i]?=some (some d)
  · obtain ⟨d,e⟩:=e
    obtain ⟨v,_,r⟩:=o.val i d e
    obtain ⟨u,hu,_⟩:=r.dom a h
    rw[hu];intro z;cases z
  · rw[o.non i (fun d z=>e ⟨d,z⟩)] at h
    nomatch h
structure Nw (H H':Hp) (fps:Nat→List Addr) (M:List Nat) (fp:List Addr):Prop where
  nd:fp.Nodup
  mu:∀a∈fp,Mu H' a
  src:∀a∈fp,H a=none∨∃j∈M,a∈fps j
theorem Nw.nil {M:List Nat}:Nw H H' fps M []:=⟨List.nodup_nil,fun _ h=>(nomatch h),fun _ h=>(nomatch h)⟩
theorem Nw.later {H1:Hp}{M:List Nat}{fp:List Addr} (n:Nw H1 H' fps M fp) (s:Same H H1):Nw H H' fps M fp :=
  ⟨n.nd,n.mu,fun a ha=>(n.src a ha).elim (fun z=>.inl (s.free z)) .inr⟩
theorem Nw.same {H1:Hp}{M:List Nat}{fp:List Addr} (n:Nw H H' fps M fp) (s:Same H' H1):Nw H H1 fps M fp:=⟨n.nd,fun a ha=>(n.mu a ha).same s,n.src⟩
theorem Nw.any {fps':Nat→List Addr}{fp:List Addr} (n:Nw H H' fps [] fp):Nw H H' fps' [] fp:=⟨n.nd,n.mu,fun a ha=>(n.src a ha).elim .inl fun ⟨_,h,_⟩=>nomatch h⟩
theorem Nw.fresh {fp:List Addr} (n:Nw H H' fps [] fp):∀a∈fp,H a=none:=fun a ha=>(n.src a ha).elim id fun ⟨_,h,_⟩=>nomatch h
def kill (M:List Nat) (δ:Dl):Dl:=M.foldl (fun δ j=>δ.set j none) δ
theorem iK:∀{M:List Nat}{δ:Dl},(kill M δ).length=δ.length
  | [],_=>rfl
  | j::M,δ=>by rw[kill,List.foldl_cons];exact (iK (M:=M)).trans (by simp)
theorem ur:∀{M:List Nat}{δ:Dl}{i:Nat}{d:D},(kill M δ)[i]?=some (some d)↔i∉M∧δ[i]?=some (some d)
  | [],_,_,_=>by simp [kill]
  | j::M,δ,i,d=>by
    rw[kill,List.foldl_cons]
    have:=ur (M:=M) (δ:=δ.set j none) (i:=i) (d:=d)
    rw[kill] at this
    rw[this,List.mem_cons]
    by_cases e:i=j
    · subst e
      simp [List.getElem?_set]
    · rw[List.getElem?_set_ne (Ne.symm e)]
      simp [e]
def minus (Γ M:List Nat):List Nat:=Γ.filter fun i=>!M.contains i
theorem cQ {Γ M:List Nat}{i:Nat}:i∈minus Γ M↔i∈Γ∧i∉M:=by
  unfold minus
  rw[List.mem_filter]
  simp
theorem Ok.kill (o:Ok K B0 Γ fps δ σ H) (M:List Nat):Ok K B0 (minus Γ M) (fun i=>if i∈M then [] else fps i) (kill M δ) σ H:=by
  refine⟨by rw[iK];exact o.len,o.b0,fun i d e=>?_,fun i e=>?_,fun i hi=>?_,fun i hi j hj a ha=>?_⟩
  · obtain ⟨h1,h2⟩:=ur.mp e
    rw[if_neg h1]
    exact o.val i d h2
  · by_cases h:i∈M
    · rw[if_pos h]
    · rw[if_neg h]
      exact o.non i fun d z=>e d (ur.mpr ⟨h,z⟩)
  · obtain ⟨h1,h2⟩:=cQ.mp hi
    rw[if_neg h2]
    exact o.own i h1
  · obtain ⟨h1,h2⟩:=cQ.mp hi
    rw[if_neg h2] at ha
    by_cases h:j∈M
    · rw[if_pos h];exact List.not_mem_nil
    · rw[if_neg h];exact o.dj i h1 j hj a ha
theorem Ok.GX {M:List Nat}{x:D}{v:V}{fp:List Addr} (o:Ok K B0 Γ fps δ σ H) (i:Nat) (hM:∀j∈M,j∈Γ) (s:Same H H') (r:Rf K H' x v fp) (n:Nw H H' fps M fp) :
    Ok K B0 (i::minus (minus Γ M) [i]) (fun j=>if j=i then (if i<δ.length then fp else []) else if j∈M then [] else fps j) ((L3.kill M δ).set i (some x)) (σ.set i (some v)) H':=by
  have ok:=(o.kill M).same s
  have sep:∀a∈fp,∀j,j∉M→a∉fps j:=fun a ha j hj z=>by
    rcases n.src a ha with e | ⟨k,hk,e⟩
    · exact o.dom z e
    · exact o.dj k (hM k hk) j (fun q=>hj (by rw[q];exact hk)) a e z
  refine⟨by simp [iK,o.len],ok.b0,fun j d e=>?_,fun j e=>?_,fun j hj=>?_,fun j hj k hk a ha=>?_⟩
  · by_cases h:j=i
    · subst h
      rw[List.getElem?_set] at e
      simp only[iK] at e
      by_cases hl:j<δ.length
      · simp [hl] at e
        subst e
        refine⟨v,?_,?_⟩
        · rw[List.getElem?_set];simp [o.len,hl]
        · rw[if_pos rfl,if_pos hl];exact r
      · simp [hl] at e
    · rw[List.getElem?_set_ne (Ne.symm h)] at e
      rw[List.getElem?_set_ne (Ne.symm h),if_neg h]
      exact ok.val j d e
  · by_cases h:j=i
    · subst h
      rw[if_pos rfl]
      by_cases hl:j<δ.length
      · exact absurd (by rw[List.getElem?_set];simp [iK,hl]) (e x)
      · rw[if_neg hl]
    · rw[if_neg h]
      exact ok.non j fun d z=>e d (by rw[List.getElem?_set_ne (Ne.symm h)];exact z)
  · by_cases h:j=i
    · subst h
      rw[if_pos rfl]
      split
      · refine⟨n.nd,fun a ha=>⟨?_,n.mu a ha⟩⟩
        rcases n.src a ha with e | ⟨k,hk,e⟩
        · exact o.b0.free e
        · exact ((o.own k (hM k hk)).2 a e).1
      · exact⟨List.nodup_nil,fun _ z=>nomatch z⟩
    · rw[if_neg h]
      rcases List.mem_cons.mp hj with z | hj
      · exact absurd z h
      · exact ok.own j (cQ.mp hj).1
  · by_cases h:j=i
    · subst h
      rw[if_pos rfl] at ha
      rw[if_neg hk]
      split at ha
      · by_cases hm:k∈M
        · rw[if_pos hm];exact List.not_mem_nil
        · rw[if_neg hm];exact sep a ha k hm
      · nomatch ha
    · rcases List.mem_cons.mp hj with z | hj
      · exact absurd z h
      rw[if_neg h] at ha
      have hj':=cQ.mp (cQ.mp hj).1
      rw[if_neg hj'.2] at ha
      by_cases hki:k=i
      · rw[if_pos hki]
        split
        · exact fun z=>sep a z j hj'.2 ha
        · exact List.not_mem_nil
      · rw[if_neg hki]
        split
        · exact List.not_mem_nil
        · exact o.dj j hj'.1 k hk a ha
theorem Ok.wo {x:D}{v:V}{fp:List Addr} (o:Ok K B0 Γ fps δ σ H) (i:Nat) (s:Same H H') (r:Rf K H' x v fp) (n:∀j∈Γ,∀a∈fp,a∉fps j) :
    Ok K B0 (minus Γ [i]) (fun j=>if j=i then (if i<δ.length then fp else []) else fps j) (δ.set i (some x)) (σ.set i (some v)) H':=by
  have ok:=o.same s
  refine⟨by simp [o.len],ok.b0,fun j d e=>?_,fun j e=>?_,fun j hj=>?_,fun j hj k hk a ha=>?_⟩
  · by_cases h:j=i
    · subst h
      rw[List.getElem?_set] at e
      by_cases hl:j<δ.length
      · simp [hl] at e
        subst e
        refine⟨v,?_,?_⟩
        · rw[List.getElem?_set];simp [o.len,hl]
        · rw[if_pos rfl,if_pos hl];exact r
      · simp [hl] at e
    · rw[List.getElem?_set_ne (Ne.symm h)] at e
      rw[List.getElem?_set_ne (Ne.symm h),if_neg h]
      exact ok.val j d e
  · by_cases h:j=i
    · subst h
      rw[if_pos rfl]
      by_cases hl:j<δ.length
      · exact absurd (by rw[List.getElem?_set];simp [hl]) (e x)
      · rw[if_neg hl]
    · rw[if_neg h]
      exact ok.non j fun d z=>e d (by rw[List.getElem?_set_ne (Ne.symm h)];exact z)
  · obtain ⟨h1,h2⟩:=cQ.mp hj
    rw[if_neg (fun z=>h2 (by rw[z];exact List.mem_singleton.mpr rfl))]
    exact ok.own j h1
  · obtain ⟨h1,h2⟩:=cQ.mp hj
    rw[if_neg (fun z=>h2 (by rw[z];exact List.mem_singleton.mpr rfl))] at ha
    by_cases hki:k=i
    · rw[if_pos hki]
      split
      · exact fun z=>n j h1 a z ha
      · exact List.not_mem_nil
    · rw[if_neg hki]
      exact o.dj j h1 k hk a ha
theorem Dy {H:Hp}{c:Addr} (h:H c=some (uF c)):¬ Mu H c:=by
  rintro (⟨x,z⟩ | ⟨x,z⟩ | ⟨x,z⟩ | ⟨C,dx,fs,z⟩)<;>rw[h] at z<;>cases z
theorem SB.keep {fp:List Addr} (b:SB K B0 H) (n:∀a∈fp,B0 a=none∧Mu H a) (keep:∀b u,b∉fp→H b=some u→H' b=some u):SB K B0 H':=by
  have nb:∀{c u},B0 c=some u→c∉fp:=fun {c u} e z=>by have:=(n c z).1;rw[e] at this;cases this
  refine⟨⟨fun c u e x=>keep c u (nb e) (b.st c u e x),fun c ps e=>let ⟨ps',z⟩:=b.tb c ps e;⟨ps',keep c _ (nb e) z⟩,fun P t=>?_⟩,b.tv⟩
  obtain ⟨ps0,e0,_⟩:=id t
  obtain ⟨ps,e,g1,g2⟩:=b.ti P t
  exact⟨ps,keep P _ (nb e0) e,g1,fun pos cv z=>let ⟨c,z1,z2⟩:=g2 pos cv z;⟨c,z1,keep c _ (fun y=>Dy z2 (n c y).2) z2⟩⟩
theorem Ok.rebase (o:Ok K B0 Γ fps δ σ H):∃B1,Same B0 B1∧Ok K B1 Γ fps δ σ H∧(∀a,(∀j∈Γ,a∉fps j)→B1 a=H a):=by
  have key:∀b u,B0 b=some u→¬ ∃j∈Γ,b∈fps j:=fun b u e ⟨j,hj,hb⟩=>by
    have:=((o.own j hj).2 b hb).1
    rw[e] at this;cases this
  have s1:Same B0 (fun a=>if (∃j∈Γ,a∈fps j) then none else H a):=⟨fun b u e n=>by
      show (if _ then _ else _)=_
      rw[if_neg (key b u e)]
      exact o.b0.st b u e n,fun b ps e=>by
      obtain ⟨ps',z⟩:=o.b0.tb b ps e
      refine⟨ps',?_⟩
      show (if _ then _ else _)=_
      rw[if_neg (key b _ e)];exact z,fun P t=>by
      obtain ⟨ps0,e0,_⟩:=id t
      obtain ⟨ps,e,g1,g2⟩:=o.b0.ti P t
      refine⟨ps,?_,g1,fun pos cv z=>?_⟩
      · show (if _ then _ else _)=_
        rw[if_neg (key P _ e0)];exact e
      · obtain ⟨c,z1,z2⟩:=g2 pos cv z
        refine⟨c,z1,?_⟩
        show (if _ then _ else _)=_
        rw[if_neg (fun ⟨j,hj,hc⟩=>Dy z2 ((o.own j hj).2 c hc).2)];exact z2⟩
  have s2:Same (fun a=>if (∃j∈Γ,a∈fps j) then none else H a) H:=Same.all fun b u e=>by
    by_cases z:∃j∈Γ,b∈fps j
    · simp only[if_pos z] at e;cases e
    · simp only[if_neg z] at e;exact e
  refine⟨fun a=>if (∃j∈Γ,a∈fps j) then none else H a,s1,⟨o.len,⟨s2,o.b0.tv.same s1⟩,o.val,o.non,fun i hi=>⟨(o.own i hi).1,fun a ha=>⟨?_,((o.own i hi).2 a ha).2⟩⟩,o.dj⟩,fun a h=>?_⟩
  · show (if _ then _ else _)=_
    rw[if_pos ⟨i,hi,ha⟩]
  · show (if _ then _ else _)=_
    rw[if_neg (fun ⟨j,hj,z⟩=>h j hj z)]
theorem Ok.base {B1:Hp} (o:Ok K B1 Γ fps δ σ H) (s:Same B0 B1) (t:i9 K B0):Ok K B0 Γ fps δ σ H :=
  ⟨o.len,⟨s.trans o.b0.toSame,t⟩,o.val,o.non,fun i hi=>⟨(o.own i hi).1,fun a ha=>⟨s.free ((o.own i hi).2 a ha).1,((o.own i hi).2 a ha).2⟩⟩,o.dj⟩
end
end L3
namespace L3
open PySem L2
abbrev DK:=D→Prop
abbrev DE:=Dl→DK→Prop
abbrev DT:=Dl→(Bool→Prop)→Prop
abbrev DA:=Dl→(List D→Prop)→Prop
structure ER (K:PySem.W.Frag) (Γ:List Nat) (t:TE) (d:DE):Prop where
  mono:∀δ (P P':DK),(∀x,P x→P' x)→d δ P→d δ P'
  run:∀{B0 fps δ σ H Q},Ok K B0 Γ fps δ σ H→d δ (fun x=>∀v H',Same H H'→Rp K H' x v→Q v H')→t σ H Q
structure ES (K:PySem.W.Frag) (Γ:List Nat) (t:TE) (d:DE):Prop where
  mono:∀δ (P P':DK),(∀x,P x→P' x)→d δ P→d δ P'
  run:∀{B0 fps δ σ H Q},Ok K B0 Γ fps δ σ H→d δ (fun x=>∀v H' fp,Same H H'→Rf K H' x v fp→(∀j∈Γ,∀a∈fp,a∉fps j)→Q v H')→t σ H Q
structure EM (K:PySem.W.Frag) (Γ M:List Nat) (t:TE) (d:DE):Prop where
  mono:∀δ (P P':DK),(∀x,P x→P' x)→d δ P→d δ P'
  run:∀{B0 fps δ σ H Q},Ok K B0 Γ fps δ σ H→d δ (fun x=>∀v H' fp,Same H H'→Rf K H' x v fp→Nw H H' fps M fp→Q v H')→t σ H Q
structure TR (K:PySem.W.Frag) (Γ:List Nat) (t:TT) (d:DT):Prop where
  mono:∀δ (P P':Bool→Prop),(∀x,P x→P' x)→d δ P→d δ P'
  run:∀{B0 fps δ σ H Q},Ok K B0 Γ fps δ σ H→d δ (fun b=>∀H',Same H H'→Q b H')→t σ H Q
structure AR (K:PySem.W.Frag) (Γ:List Nat) (t:TA) (d:DA):Prop where
  mono:∀δ (P P':List D→Prop),(∀x,P x→P' x)→d δ P→d δ P'
  run:∀{B0 fps δ σ H Q},Ok K B0 Γ fps δ σ H→d δ (fun xs=>∀vs H',Same H H'→Rps K H' xs vs→Q vs H')→t σ H Q
structure AS (K:PySem.W.Frag) (Γ:List Nat) (t:TA) (d:DA):Prop where
  mono:∀δ (P P':List D→Prop),(∀x,P x→P' x)→d δ P→d δ P'
  run:∀{B0 fps δ σ H Q},Ok K B0 Γ fps δ σ H→d δ (fun xs=>∀vs H' fp,Same H H'→Rfs K H' xs vs fp→(∀j∈Γ,∀a∈fp,a∉fps j)→Q vs H')→t σ H Q
structure AM (K:PySem.W.Frag) (Γ M:List Nat) (t:TA) (d:DA):Prop where
  mono:∀δ (P P':List D→Prop),(∀x,P x→P' x)→d δ P→d δ P'
  run:∀{B0 fps δ σ H Q},Ok K B0 Γ fps δ σ H→d δ (fun xs=>∀vs H' fp,Same H H'→Rfs K H' xs vs fp→Nw H H' fps M fp→Q vs H')→t σ H Q
section
variable {K:PySem.W.Frag}{Γ M:List Nat}{t ta tb tc:TE}{d da db dc:DE}
theorem EM.es (h:EM K Γ [] t d):ES K Γ t d:=⟨h.mono,fun o q=>h.run o (h.mono _ _ _ (fun x z v H' fp s r n=>z v H' fp s r fun j _ a ha y=>o.dom y (n.fresh a ha)) q)⟩
theorem ES.er (h:ES K Γ t d):ER K Γ t d:=⟨h.mono,fun o q=>h.run o (h.mono _ _ _ (fun x z v H' fp s r n=>z v H' s ⟨fp,r⟩) q)⟩
theorem EM.er (h:EM K Γ M t d):ER K Γ t d:=⟨h.mono,fun o q=>h.run o (h.mono _ _ _ (fun x z v H' fp s r n=>z v H' s ⟨fp,r⟩) q)⟩
def Fo (d:DE) (δ:Dl) (P:DK):Prop:=d δ fun x=>x.bf=true∧P x
theorem ER.bf (h:ER K Γ t d):EM K Γ [] t (Fo d):=⟨fun δ P P' k q=>h.mono _ _ _ (fun x z=>⟨z.1,k x z.2⟩) q,fun o q=>h.run o (h.mono _ _ _ (fun x z v H' s r=>by
  obtain ⟨fp,r⟩:=r
  obtain ⟨_,rfl⟩:=r.bf z.1
  exact z.2 v H' [] s r Nw.nil) q)⟩
def qh (i:Nat) (δ:Dl) (P:DK):Prop:=match δ[i]? with | some (some d)=>P d | _=>False
theorem mD {i:Nat}{δ:Dl}{P:DK} (h:qh i δ P):∃d,δ[i]?=some (some d)∧P d:=by
  unfold qh at h
  split at h
  · exact⟨_,by assumption,h⟩
  · exact h.elim
theorem pZ {i:Nat}:∀δ (P P':DK),(∀x,P x→P' x)→qh i δ P→qh i δ P':=fun δ P P' k h=>by
  unfold qh at h ⊢
  split
  · rename_i e;rw[e] at h;exact k _ h
  · rename_i e;revert h;split
    · rename_i e';exact absurd e' (e _)
    · exact id
theorem cH (i:Nat):ER K Γ (wW i) (qh i):=⟨pZ,fun {B0 fps δ σ H Q} o q=>by
  obtain ⟨d,e,q⟩:=mD q
  obtain ⟨v,e1,r⟩:=o.val i d e
  exact⟨v,e1,q v H (Same.refl H) ⟨_,r⟩⟩⟩
theorem aa (i:Nat) (h:i∉Γ:=by decide):ES K Γ (wW i) (qh i):=⟨pZ,fun {B0 fps δ σ H Q} o q=>by
  obtain ⟨d,e,q⟩:=mD q
  obtain ⟨v,e1,r⟩:=o.val i d e
  exact⟨v,e1,q v H _ (Same.refl H) r fun j hj a ha z=>o.dj j hj i (fun y=>h (by rw[y];exact hj)) a z ha⟩⟩
theorem fN (i:Nat) (h:i∈Γ:=by decide):EM K Γ [i] (wW i) (qh i):=⟨pZ,fun {B0 fps δ σ H Q} o q=>by
  obtain ⟨d,e,q⟩:=mD q
  obtain ⟨v,e1,r⟩:=o.val i d e
  exact⟨v,e1,q v H _ (Same.refl H) r ⟨(o.own i h).1,fun a ha=>((o.own i h).2 a ha).2,fun a ha=>.inr ⟨i,List.mem_singleton.mpr rfl,ha⟩⟩⟩⟩
def vC (d:D) (_u0:Dl) (P:DK):Prop:=P d
theorem ar {i:Int}:EM K Γ [] (tC (.int i)) (vC (.int i)):=⟨fun _ _ _ k h=>k _ h,fun {_ _ _ _ H _} _ q=>q _ H [] (Same.refl H) ⟨rfl,rfl⟩ Nw.nil⟩
theorem mT {i:Bool}:EM K Γ [] (tC (.bl i)) (vC (.bl i)):=⟨fun _ _ _ k h=>k _ h,fun {_ _ _ _ H _} _ q=>q _ H [] (Same.refl H) ⟨rfl,rfl⟩ Nw.nil⟩
theorem bq {i:Str}:EM K Γ [] (tC (.str i)) (vC (.str i)):=⟨fun _ _ _ k h=>k _ h,fun {_ _ _ _ H _} _ q=>q _ H [] (Same.refl H) ⟨rfl,rfl⟩ Nw.nil⟩
theorem CO:EM K Γ [] (tC .non) (vC .non):=⟨fun _ _ _ k h=>k _ h,fun {_ _ _ _ H _} _ q=>q _ H [] (Same.refl H) ⟨rfl,rfl⟩ Nw.nil⟩
abbrev D2:=D→D→DK→Prop
abbrev nf:Nat→List Addr:=fun _=>[]
structure OpV (K:PySem.W.Frag) (r:R2) (rv:D2):Prop where
  mono:∀x y (P P':DK),(∀z,P z→P' z)→rv x y P→rv x y P'
  run:∀{H x y v w Q},Rp K H x v→Rp K H y w→rv x y (fun z=>∀u H' fp,Same H H'→Rf K H' z u fp→Nw H H' nf [] fp→Q u H')→r v w H Q
def vOp (rv:D2) (da db:DE) (δ:Dl) (P:DK):Prop:=da δ fun x=>db δ fun y=>rv x y P
theorem aw {r:R2}{rv:D2} (ho:OpV K r rv) (ha:ER K Γ ta da) (hb:ER K Γ tb db):EM K Γ [] (tOp r ta tb) (vOp rv da db) :=
  ⟨fun δ P P' k h=>ha.mono _ _ _ (fun x z=>hb.mono _ _ _ (fun y z=>ho.mono x y _ _ k z) z) h,
   fun o q=>ha.run o (ha.mono _ _ _ (fun x z v H1 s1 r1=>hb.run (o.same s1) (hb.mono _ _ _ (fun y z w H2 s2 r2=>ho.run (r1.same s2) r2 (ho.mono _ _ _ _ (fun u z u' H' fp s r n=>z u' H' fp ((s1.trans s2).trans s) r (n.any.later (s1.trans s2))) z)) z)) q)⟩
abbrev D1:=D→DK→Prop
structure UnV (K:PySem.W.Frag) (r:V→Hp→VK→Prop) (rv:D1):Prop where
  mono:∀x (P P':DK),(∀z,P z→P' z)→rv x P→rv x P'
  run:∀{H x v Q},Rp K H x v→rv x (fun z=>∀u H' fp,Same H H'→Rf K H' z u fp→Nw H H' nf [] fp→Q u H')→r v H Q
def vUn (rv:D1) (da:DE) (δ:Dl) (P:DK):Prop:=da δ fun x=>rv x P
theorem Jh {r:V→Hp→VK→Prop}{rv:D1} (ho:UnV K r rv) (ha:ER K Γ ta da):EM K Γ [] (tUn r ta) (vUn rv da) :=
  ⟨fun δ P P' k h=>ha.mono _ _ _ (fun x z=>ho.mono x _ _ k z) h,
   fun o q=>ha.run o (ha.mono _ _ _ (fun x z v H1 s1 r1=>ho.run r1 (ho.mono _ _ _ (fun u z u' H' fp s r n=>z u' H' fp (s1.trans s) r (n.any.later s1)) z)) q)⟩
def vI0 (g:Int→Int→D) (x:D) (y:D) (P:DK):Prop:=match x,y with | .int i,.int j=>P (g i j) | _,_=>False
def vI (C:Int→Int→Prop) (g:Int→Int→D) (x:D) (y:D) (P:DK):Prop:=match x,y with | .int i,.int j=>C i j∧P (g i j) | _,_=>False
def vU (g:Int→D) (x:D) (P:DK):Prop:=match x with | .int i=>P (g i) | _=>False
theorem CY {g:Int→Int→D}:∀x y (P P':DK),(∀z,P z→P' z)→vI0 g x y P→vI0 g x y P':=fun x y P P' k h=>by
  unfold vI0 at h ⊢;revert h;split<;>first | exact k _ | exact id
theorem FE {C:Int→Int→Prop}{g:Int→Int→D}:∀x y (P P':DK),(∀z,P z→P' z)→vI C g x y P→vI C g x y P':=fun x y P P' k h=>by
  unfold vI at h ⊢;revert h;split<;>first | exact fun h=>⟨h.1,k _ h.2⟩ | exact id
theorem AD {f:Int→Int→V}{g:Int→Int→D} (hs:∀i j,(g i j).bf=true∧(g i j).toV=f i j):OpV K (rI0 f) (vI0 g):=⟨CY,fun {H x y v w Q} r1 r2 h=>by
  unfold vI0 at h
  split at h
  · rename_i i j
    refine⟨i,j,r1.int,r2.int,?_⟩
    rw[← (hs i j).2]
    exact h _ H [] (Same.refl H) (Rf.xA (hs i j).1) Nw.nil
  · exact h.elim⟩
theorem Ih {C:Int→Int→Prop}{f:Int→Int→V}{g:Int→Int→D} (hs:∀i j,(g i j).bf=true∧(g i j).toV=f i j):OpV K (rI C f) (vI C g):=⟨FE,fun {H x y v w Q} r1 r2 h=>by
  unfold vI at h
  split at h
  · rename_i i j
    refine⟨i,j,r1.int,r2.int,h.1,?_⟩
    rw[← (hs i j).2]
    exact h.2 _ H [] (Same.refl H) (Rf.xA (hs i j).1) Nw.nil
  · exact h.elim⟩
theorem fz {f:Int→Int→Int}:OpV K (rI0 fun i j=>.int (f i j)) (vI0 fun i j=>.int (f i j)):=AD fun _ _=>⟨rfl,rfl⟩
theorem jZ {f:Int→Int→Bool}:OpV K (rI0 fun i j=>.bl (f i j)) (vI0 fun i j=>.bl (f i j)):=AD fun _ _=>⟨rfl,rfl⟩
theorem aZ {C:Int→Int→Prop}{f:Int→Int→Int}:OpV K (rI C fun i j=>.int (f i j)) (vI C fun i j=>.int (f i j)):=Ih fun _ _=>⟨rfl,rfl⟩
theorem JG {f:Int→Int}:UnV K (rU fun i=>.int (f i)) (vU fun i=>.int (f i)):=⟨fun x P P' k h=>by unfold vU at h ⊢;revert h;split<;>first | exact k _ | exact id,fun {H x v Q} r1 h=>by
  unfold vU at h
  split at h
  · rename_i i
    exact⟨i,r1.int,h _ H [] (Same.refl H) ⟨rfl,rfl⟩ Nw.nil⟩
  · exact h.elim⟩
def sr (neg:Bool) (x:D) (y:D) (P:DK):Prop:=x.bf=true∧y.bf=true∧bf x.toV y.toV=true∧P (.bl (if neg then !decide (x.toV=y.toV) else decide (x.toV=y.toV)))
theorem vW {neg:Bool}:∀x y (P P':DK),(∀z,P z→P' z)→sr neg x y P→sr neg x y P':=fun x y P P' k h=>⟨h.1,h.2.1,h.2.2.1,k _ h.2.2.2⟩
theorem rm:OpV K rEq (sr false):=⟨vW,fun {H x y v w Q} ⟨f1,r1⟩ ⟨f2,r2⟩ h=>by
  rw[(r1.bf h.1).1,(r2.bf h.2.1).1]
  exact⟨h.2.2.1,h.2.2.2 _ H [] (Same.refl H) ⟨rfl,rfl⟩ Nw.nil⟩⟩
theorem nJ:OpV K rNe (sr true):=⟨vW,fun {H x y v w Q} ⟨f1,r1⟩ ⟨f2,r2⟩ h=>by
  rw[(r1.bf h.1).1,(r2.bf h.2.1).1]
  exact⟨h.2.2.1,h.2.2.2 _ H [] (Same.refl H) ⟨rfl,rfl⟩ Nw.nil⟩⟩
theorem yE {neg:Bool}{i j:Int}{P:DK}:sr neg (.int i) (.int j) P↔P (.bl (if neg then !decide (i=j) else decide (i=j))):=by
  unfold sr
  simp only[D.bf,D.toV,bf,true_and,V.int.injEq]
def uN (x:D) (y:D) (P:DK):Prop:=match x.items,y with | some ds,.int i=>(match atI ds i with | some d=>P d | none=>False) | _,_=>False
def qw (x:D) (y:D) (P:DK):Prop:=match x,y with | .tup ds,.int i=>(match atI ds i with | some d=>P d | none=>False) | _,_=>False
theorem sh {x y:D}{P:DK} (h:uN x y P):∃ds i d,x.items=some ds∧y=.int i∧atI ds i=some d∧P d:=by
  unfold uN at h
  split at h
  · split at h
    · exact⟨_,_,_,by assumption,rfl,by assumption,h⟩
    · exact h.elim
  · exact h.elim
theorem rW {x y:D}{P:DK} (h:qw x y P):∃ds i d,x=.tup ds∧y=.int i∧atI ds i=some d∧P d:=by
  unfold qw at h
  split at h
  · split at h
    · exact⟨_,_,_,rfl,rfl,by assumption,h⟩
    · exact h.elim
  · exact h.elim
theorem FZ {x:D}{ds:List D}{i:Int}{d:D}{P:DK} (ex:x.items=some ds) (e:atI ds i=some d) (h:P d):uN x (.int i) P:=by unfold uN;simp only[ex,e];exact h
theorem GI {ds:List D}{i:Int}{d:D}{P:DK} (e:atI ds i=some d) (h:P d):qw (.tup ds) (.int i) P:=by unfold qw;simp only[e];exact h
theorem vx:∀x y (P P':DK),(∀z,P z→P' z)→uN x y P→uN x y P':=fun x y P P' k h=>by
  obtain ⟨ds,i,d,ex,rfl,e,h⟩:=sh h;exact FZ ex e (k _ h)
theorem vH:∀x y (P P':DK),(∀z,P z→P' z)→qw x y P→qw x y P':=fun x y P P' k h=>by
  obtain ⟨ds,i,d,rfl,rfl,e,h⟩:=rW h;exact GI e (k _ h)
theorem Rfs.at {H:Hp}{ds:List D}{xs:List V}{fq:List Addr}{i:Int}{d:D} (h:Rfs K H ds xs fq) (e:atI ds i=some d):∃v f,atI xs i=some v∧Rf K H d v f∧∀a∈f,a∈fq:=by
  unfold atI at e ⊢
  rw[h.length]
  cases hj:ixN ds.length i with
  | none=>rw[hj] at e;cases e
  | some j=>rw[hj] at e;exact h.get e
theorem kZ (ha:ER K Γ ta da) (hb:ER K Γ tb db):ER K Γ (tOp (Dq K) ta tb) (vOp uN da db) :=
  ⟨fun δ P P' k h=>ha.mono _ _ _ (fun x z=>hb.mono _ _ _ (fun y z=>vx x y _ _ k z) z) h,
   fun o q=>ha.run o (ha.mono _ _ _ (fun x z v H1 s1 r1=>hb.run (o.same s1) (hb.mono _ _ _ (fun y z w H2 s2 r2=>by
    obtain ⟨ds,i,d,ex,rfl,e,z⟩:=sh z
    obtain ⟨a,xs,fq,rfl,hs,hr⟩:=(r1.same s2).seq ex
    obtain ⟨v,f,e1,r3,_⟩:=hr.at e
    exact⟨a,xs,i,v,rfl,r2.int,hs,e1,z v H2 (s1.trans s2) ⟨f,r3⟩⟩) z)) q)⟩
theorem Hg (ha:ER K Γ ta da) (hb:ER K Γ tb db):ER K Γ (tOp (B4 K) ta tb) (vOp qw da db) :=
  ⟨fun δ P P' k h=>ha.mono _ _ _ (fun x z=>hb.mono _ _ _ (fun y z=>vH x y _ _ k z) z) h,
   fun o q=>ha.run o (ha.mono _ _ _ (fun x z v H1 s1 r1=>hb.run (o.same s1) (hb.mono _ _ _ (fun y z w H2 s2 r2=>by
    obtain ⟨ds,i,d,rfl,rfl,e,z⟩:=rW z
    obtain ⟨a,xs,fq,rfl,hs,hr⟩:=(r1.same s2).tup
    obtain ⟨v,f,e1,r3,_⟩:=hr.at e
    exact⟨a,xs,i,v,rfl,r2.int,hs,e1,z v H2 (s1.trans s2) ⟨f,r3⟩⟩) z)) q)⟩
theorem aW (ha:ES K Γ ta da) (hb:ER K Γ tb db):ES K Γ (tOp (Dq K) ta tb) (vOp uN da db) :=
  ⟨fun δ P P' k h=>ha.mono _ _ _ (fun x z=>hb.mono _ _ _ (fun y z=>vx x y _ _ k z) z) h,
   fun o q=>ha.run o (ha.mono _ _ _ (fun x z v H1 fp s1 r1 n=>hb.run (o.same s1) (hb.mono _ _ _ (fun y z w H2 s2 r2=>by
    obtain ⟨ds,i,d,ex,rfl,e,z⟩:=sh z
    obtain ⟨a,xs,fq,rfl,hs,hr,hin⟩:=(r1.same s2).seq ex
    obtain ⟨v,f,e1,r3,k⟩:=hr.at e
    exact⟨a,xs,i,v,rfl,r2.int,hs,e1,z v H2 f (s1.trans s2) r3 fun j hj b hb=>n j hj b (hin b (k b hb))⟩) z)) q)⟩
theorem bM (ha:ES K Γ ta da) (hb:ER K Γ tb db):ES K Γ (tOp (B4 K) ta tb) (vOp qw da db) :=
  ⟨fun δ P P' k h=>ha.mono _ _ _ (fun x z=>hb.mono _ _ _ (fun y z=>vH x y _ _ k z) z) h,
   fun o q=>ha.run o (ha.mono _ _ _ (fun x z v H1 fp s1 r1 n=>hb.run (o.same s1) (hb.mono _ _ _ (fun y z w H2 s2 r2=>by
    obtain ⟨ds,i,d,rfl,rfl,e,z⟩:=rW z
    obtain ⟨a,xs,rfl,hs,hr⟩:=r1.same s2
    obtain ⟨v,f,e1,r3,k⟩:=hr.at e
    exact⟨a,xs,i,v,rfl,r2.int,.inl (.inl hs),e1,z v H2 f (s1.trans s2) r3 fun j hj b hb=>n j hj b (k b hb)⟩) z)) q)⟩
def asB (x:D) (P:Bool→Prop):Prop:=match x with | .bl k=>P k | _=>False
def tu (d:DE) (δ:Dl) (P:Bool→Prop):Prop:=d δ fun x=>asB x P
theorem nY {x:D}{P:Bool→Prop} (h:asB x P):∃k,x=.bl k∧P k:=by
  unfold asB at h
  split at h
  · exact⟨_,rfl,h⟩
  · exact h.elim
theorem C8 {x:D}{P P':Bool→Prop} (k:∀b,P b→P' b) (h:asB x P):asB x P':=by
  obtain ⟨b,rfl,h⟩:=nY h;exact k b h
theorem aK (h:ER K Γ t d):TR K Γ (Ep t) (tu d):=⟨fun δ P P' k q=>h.mono _ _ _ (fun x z=>C8 k z) q,fun o q=>h.run o (h.mono _ _ _ (fun x z v H' s r=>by
  obtain ⟨b,rfl,z⟩:=nY z;exact⟨b,r.bl,z H' s⟩) q)⟩
theorem mC (h:ER K Γ t d):TR K Γ (tB t) (tu d):=⟨fun δ P P' k q=>h.mono _ _ _ (fun x z=>C8 k z) q,fun o q=>h.run o (h.mono _ _ _ (fun x z v H' s r=>by
  obtain ⟨b,rfl,z⟩:=nY z;exact⟨b,r.bl,z H' s⟩) q)⟩
def vOr (c e:DT) (δ:Dl) (P:Bool→Prop):Prop:=c δ fun k=>if k=true then P true else e δ P
def Hk (c:DT) (δ:Dl) (P:Bool→Prop):Prop:=c δ fun k=>P (!k)
theorem dO {b:Bool}{A B A' B':Prop} (h1:A→A') (h2:B→B') (h:if b=true then A else B):if b=true then A' else B':=by
  cases b
  · exact h2 h
  · exact h1 h
theorem jm {u1 u2:TT}{c e:DT} (h1:TR K Γ u1 c) (h2:TR K Γ u2 e):TR K Γ (tOr u1 u2) (vOr c e) :=
  ⟨fun δ P P' k q=>h1.mono _ _ _ (fun b z=>dO (k _) (h2.mono _ _ _ k) z) q,
   fun o q=>h1.run o (h1.mono _ _ _ (fun b z H' s=>dO (fun z=>z H' s) (fun z=>h2.run (o.same s) (h2.mono _ _ _ (fun b z H2 s2=>z H2 (s.trans s2)) z)) z) q)⟩
theorem fh {u1:TT}{c:DT} (h1:TR K Γ u1 c):TR K Γ (JM u1) (Hk c) :=
  ⟨fun δ P P' k q=>h1.mono _ _ _ (fun b z=>k _ z) q,fun o q=>h1.run o (h1.mono _ _ _ (fun b z H' s=>z H' s) q)⟩
def EV (da db:DE) (δ:Dl) (P:DK):Prop:=tu da δ fun k=>if k=true then db δ P else P (.bl false)
def IF (da db:DE) (δ:Dl) (P:DK):Prop:=tu da δ fun k=>if k=true then P (.bl true) else db δ P
def EB (da:DE) (δ:Dl) (P:DK):Prop:=tu da δ fun k=>P (.bl (!k))
theorem wM (ha:ER K Γ ta da) (hb:EM K Γ [] tb db):EM K Γ [] (GS ta tb) (EV da db) :=
  ⟨fun δ P P' k q=>(aK ha).mono _ _ _ (fun b z=>dO (hb.mono _ _ _ k) (k _) z) q,
   fun o q=>ha.run o (ha.mono _ _ _ (fun x z v H' s r=>by
    obtain ⟨b,rfl,z⟩:=nY z
    exact⟨b,r.bl,dO (fun z=>hb.run (o.same s) (hb.mono _ _ _ (fun y z u H2 fp s2 r2 n2=>z u H2 fp (s.trans s2) r2 (n2.later s)) z)) (fun z=>z _ H' [] s ⟨rfl,rfl⟩ Nw.nil) z⟩) q)⟩
theorem CK (ha:ER K Γ ta da) (hb:EM K Γ [] tb db):EM K Γ [] (Jj ta tb) (IF da db) :=
  ⟨fun δ P P' k q=>(aK ha).mono _ _ _ (fun b z=>dO (k _) (hb.mono _ _ _ k) z) q,
   fun o q=>ha.run o (ha.mono _ _ _ (fun x z v H' s r=>by
    obtain ⟨b,rfl,z⟩:=nY z
    exact⟨b,r.bl,dO (fun z=>z _ H' [] s ⟨rfl,rfl⟩ Nw.nil) (fun z=>hb.run (o.same s) (hb.mono _ _ _ (fun y z u H2 fp s2 r2 n2=>z u H2 fp (s.trans s2) r2 (n2.later s)) z)) z⟩) q)⟩
theorem BD (ha:ER K Γ ta da):EM K Γ [] (G2 ta) (EB da) :=
  ⟨fun δ P P' k q=>(aK ha).mono _ _ _ (fun b z=>k _ z) q,
   fun o q=>ha.run o (ha.mono _ _ _ (fun x z v H' s r=>by
    obtain ⟨b,rfl,z⟩:=nY z
    exact⟨b,r.bl,z _ H' [] s ⟨rfl,rfl⟩ Nw.nil⟩) q)⟩
def vIf (c:DT) (da db:DE) (δ:Dl) (P:DK):Prop:=c δ fun k=>if k=true then da δ P else db δ P
theorem AG {u:TT}{c:DT} (hc:TR K Γ u c) (ha:EM K Γ [] ta da) (hb:EM K Γ [] tb db):EM K Γ [] (tIf u ta tb) (vIf c da db) :=
  ⟨fun δ P P' k q=>hc.mono _ _ _ (fun b z=>dO (ha.mono _ _ _ k) (hb.mono _ _ _ k) z) q,
   fun o q=>hc.run o (hc.mono _ _ _ (fun b z H' s=>dO (fun z=>ha.run (o.same s) (ha.mono _ _ _ (fun y z u H2 fp s2 r2 n2=>z u H2 fp (s.trans s2) r2 (n2.later s)) z)) (fun z=>hb.run (o.same s) (hb.mono _ _ _ (fun y z u H2 fp s2 r2 n2=>z u H2 fp (s.trans s2) r2 (n2.later s)) z)) z) q)⟩
def zI (r r':D2) (da db dc:DE) (δ:Dl) (P:DK):Prop:=da δ fun x=>db δ fun y=>r x y fun z=>asB z fun k=>if k=true then dc δ fun w=>r' y w P else P (.bl false)
theorem sv {r r':R2}{rv rv':D2} (ho:OpV K r rv) (ho':OpV K r' rv') (ha:ER K Γ ta da) (hb:ER K Γ tb db) (hc:ER K Γ tc dc):EM K Γ [] (zF r r' ta tb tc) (zI rv rv' da db dc) :=
  ⟨fun δ P P' k h=>ha.mono _ _ _ (fun x z=>hb.mono _ _ _ (fun y z=>ho.mono x y _ _ (fun u z=>C8 (fun b z=>dO (hc.mono _ _ _ fun w z=>ho'.mono _ _ _ _ k z) (k _) z) z) z) z) h,
   fun o q=>ha.run o (ha.mono _ _ _ (fun x z v H1 s1 r1=>hb.run (o.same s1) (hb.mono _ _ _ (fun y z w H2 s2 r2=>ho.run (r1.same s2) r2 (ho.mono _ _ _ _ (fun u z u' H3 fp s3 r3 n3=>by
    obtain ⟨b,rfl,z⟩:=nY z
    have s13:=(s1.trans s2).trans s3
    refine⟨b,r3.1,dO (fun z=>?_) (fun z=>z _ H3 [] s13 ⟨rfl,rfl⟩ Nw.nil) z⟩
    exact hc.run (o.same s13) (hc.mono _ _ _ (fun w z w' H4 s4 r4=>ho'.run (r2.same (s3.trans s4)) r4 (ho'.mono _ _ _ _ (fun u z u' H' fp s r n=>z u' H' fp ((s13.trans s4).trans s) r (n.any.later (s13.trans s4))) z)) z)) z)) z)) q)⟩
def Dc (_u0:Dl) (P:List D→Prop):Prop:=P []
def wb (da:DE) (dr:DA) (δ:Dl) (P:List D→Prop):Prop:=da δ fun x=>dr δ fun xs=>P (x::xs)
theorem ao:AR K Γ nO Dc:=⟨fun _ _ _ k h=>k _ h,fun {_ _ _ _ H _} o q=>q [] H (Same.refl H) ⟨[],rfl,rfl⟩⟩
theorem eV:AM K Γ [] nO Dc:=⟨fun _ _ _ k h=>k _ h,fun {_ _ _ _ H _} o q=>q [] H [] (Same.refl H) ⟨rfl,rfl⟩ Nw.nil⟩
theorem IJ:AS K Γ nO Dc:=⟨fun _ _ _ k h=>k _ h,fun {_ _ _ _ H _} o q=>q [] H [] (Same.refl H) ⟨rfl,rfl⟩ fun _ _ _ h=>nomatch h⟩
theorem ah {tr:TA}{dr:DA} (ha:ER K Γ ta da) (hr:AR K Γ tr dr):AR K Γ (fX ta tr) (wb da dr) :=
  ⟨fun δ P P' k h=>ha.mono _ _ _ (fun x z=>hr.mono _ _ _ (fun y z=>k _ z) z) h,
   fun o q=>ha.run o (ha.mono _ _ _ (fun x z v H1 s1 r1=>hr.run (o.same s1) (hr.mono _ _ _ (fun xs z vs H2 s2 r2=>by
    obtain ⟨f1,r1⟩:=r1.same s2
    obtain ⟨f2,r2⟩:=r2
    exact z _ H2 (s1.trans s2) ⟨f1++f2,_,_,f1,f2,rfl,rfl,r1,r2⟩) z)) q)⟩
theorem Bx {tr:TA}{dr:DA} (ha:ES K Γ ta da) (hr:AS K Γ tr dr):AS K Γ (fX ta tr) (wb da dr) :=
  ⟨fun δ P P' k h=>ha.mono _ _ _ (fun x z=>hr.mono _ _ _ (fun y z=>k _ z) z) h,
   fun o q=>ha.run o (ha.mono _ _ _ (fun x z v H1 f1 s1 r1 n1=>hr.run (o.same s1) (hr.mono _ _ _ (fun xs z vs H2 f2 s2 r2 n2 =>
    z _ H2 (f1++f2) (s1.trans s2) ⟨_,_,f1,f2,rfl,rfl,r1.same s2,r2⟩ fun j hj a ha=>(List.mem_append.mp ha).elim (n1 j hj a) (n2 j hj a)) z)) q)⟩
theorem jq {M':List Nat}{tr:TA}{dr:DA} (ha:EM K Γ M ta da) (hr:AM K Γ M' tr dr) (hM:∀i∈M,i∈Γ∧i∉M':=by decide) (hM':∀i∈M',i∈Γ:=by decide):AM K Γ (M++M') (fX ta tr) (wb da dr) :=
  ⟨fun δ P P' k h=>ha.mono _ _ _ (fun x z=>hr.mono _ _ _ (fun y z=>k _ z) z) h,
   fun {B0 fps δ σ H Q} o q=>ha.run o (ha.mono _ _ _ (fun x z v H1 f1 s1 r1 n1=>hr.run (o.same s1) (hr.mono _ _ _ (fun xs z vs H2 f2 s2 r2 n2=>by
    refine z _ H2 (f1++f2) (s1.trans s2) ⟨_,_,f1,f2,rfl,rfl,r1.same s2,r2⟩ ⟨?_,fun a ha=>(List.mem_append.mp ha).elim (fun h=>(n1.mu a h).same s2) (n2.mu a),fun a ha=>?_⟩
    · refine List.nodup_append.mpr ⟨n1.nd,n2.nd,fun a h1 b h2 e=>?_⟩
      subst e
      rcases n2.src a h2 with e | ⟨j,hj,e⟩
      · exact (n1.mu a h1).some e
      · rcases n1.src a h1 with e' | ⟨i,hi,e'⟩
        · exact o.dom e e'
        · exact o.dj i (hM i hi).1 j (fun y=>(hM i hi).2 (by rw[← y];exact hj)) a e' e
    · rcases List.mem_append.mp ha with h | h
      · exact (n1.src a h).imp id fun ⟨j,h1,h2⟩=>⟨j,List.mem_append_left _ h1,h2⟩
      · exact (n2.src a h).elim (fun e=>.inl (s1.free e)) fun ⟨j,h1,h2⟩=>.inr ⟨j,List.mem_append_right _ h1,h2⟩) z)) q)⟩
theorem qo {n:Nat} (h:n≤1000):n≤sizeLine:=Nat.le_trans h (by rw[sizeLine_eq];decide)
def Hx (da:DA) (δ:Dl) (P:DK):Prop:=da δ fun xs=>xs.length≤1000∧P (.lst xs)
def IA (da:DA) (δ:Dl) (P:DK):Prop:=da δ fun xs=>xs.length≤1000∧P (.tup xs)
theorem mf {u:TA}{dr:DA} (hr:AM K Γ M u dr) (hM:∀i∈M,i∈Γ:=by decide):EM K Γ M (JI u) (Hx dr) :=
  ⟨fun δ P P' k h=>hr.mono _ _ _ (fun y z=>⟨z.1,k _ z.2⟩) h,
   fun {B0 fps δ σ H Q} o q=>hr.run o (hr.mono _ _ _ (fun xs z vs H1 fp s1 r1 n1=>by
    refine⟨by rw[r1.length];exact qo z.1,fun p hp=>?_⟩
    have hs:Same H1 (upd H1 p (.lst vs)):=Same.o9 hp
    refine z.2 _ _ (p::fp) (s1.trans hs) ⟨p,vs,fp,rfl,aH,rfl,r1.same hs⟩ ⟨List.nodup_cons.mpr ⟨fun h=>(n1.mu p h).some hp,n1.nd⟩,fun a ha=>?_,fun a ha=>?_⟩
    · rcases List.mem_cons.mp ha with e | h
      · subst e;exact .inl ⟨vs,aH⟩
      · exact (n1.mu a h).same hs
    · rcases List.mem_cons.mp ha with e | h
      · subst e;exact .inl (s1.free hp)
      · exact n1.src a h) q)⟩
theorem kq {u:TA}{dr:DA} (hr:AM K Γ M u dr):EM K Γ M (HU u) (IA dr) :=
  ⟨fun δ P P' k h=>hr.mono _ _ _ (fun y z=>⟨z.1,k _ z.2⟩) h,
   fun {B0 fps δ σ H Q} o q=>hr.run o (hr.mono _ _ _ (fun xs z vs H1 fp s1 r1 n1=>by
    refine⟨by rw[r1.length];exact qo z.1,fun p hp=>?_⟩
    have hs:Same H1 (upd H1 p (.tup vs)):=Same.o9 hp
    exact z.2 _ _ fp (s1.trans hs) ⟨p,vs,rfl,aH,r1.same hs⟩ (n1.same hs)) q)⟩
abbrev DSp:=List D→DK→Prop
def bc (S:DSp):Prop:=∀xs (P P':DK),(∀z,P z→P' z)→S xs P→S xs P'
def spP (K:PySem.W.Frag) (S:DSp):Sp:=fun vs H Q _=>∃ds,Rps K H ds vs∧i9 K H∧S ds fun x=>∀v H' fp,Same H H'→Rf K H' x v fp→Nw H H' nf [] fp→Q v H'
def spR (K:PySem.W.Frag) (S:DSp):Sp:=fun vs H Q _=>∃ds,Rps K H ds vs∧i9 K H∧S ds fun x=>∀v H',Same H H'→Rp K H' x v→Q v H'
structure j0 (K:PySem.W.Frag) (r:List V→Hp→VK→Prop) (S:DSp):Prop where
  mono:bc S
  run:∀{H xs vs Q},Rps K H xs vs→S xs (fun z=>∀u H' fp,Same H H'→Rf K H' z u fp→Nw H H' nf [] fp→Q u H')→r vs H Q
def uh (S:DSp) (dr:DA) (δ:Dl) (P:DK):Prop:=dr δ fun xs=>S xs P
theorem aS {r:List V→Hp→VK→Prop}{S:DSp}{u:TA}{dr:DA} (hc:j0 K r S) (hr:AR K Γ u dr):EM K Γ [] (tCB r u) (uh S dr) :=
  ⟨fun δ P P' k h=>hr.mono _ _ _ (fun y z=>hc.mono _ _ _ k z) h,
   fun {B0 fps δ σ H Q} o q=>hr.run o (hr.mono _ _ _ (fun xs z vs H1 s1 r1=>hc.run r1 (hc.mono _ _ _ (fun u z u' H' fp s r n=>z u' H' fp (s1.trans s) r (n.any.later s1)) z)) q)⟩
theorem aA {S:DSp}{E:XK}{u:TA}{dr:DA} (hS:bc S) (hr:AR K Γ u dr):EM K Γ [] (qL (spP K S) [] E u) (uh S dr) :=
  ⟨fun δ P P' k h=>hr.mono _ _ _ (fun y z=>hS _ _ _ k z) h,
   fun {B0 fps δ σ H Q} o q=>hr.run o (hr.mono _ _ _ (fun xs z vs H1 s1 r1=>⟨xs,by rw[List.append_nil];exact r1,(o.b0.trans s1).now,hS _ _ _ (fun u z u' H' fp s r n=>z u' H' fp (s1.trans s) r (n.any.later s1)) z⟩) q)⟩
theorem FO {S:DSp}{E:XK}{u:TA}{dr:DA} (hS:bc S) (hr:AR K Γ u dr):ER K Γ (qL (spR K S) [] E u) (uh S dr) :=
  ⟨fun δ P P' k h=>hr.mono _ _ _ (fun y z=>hS _ _ _ k z) h,
   fun {B0 fps δ σ H Q} o q=>hr.run o (hr.mono _ _ _ (fun xs z vs H1 s1 r1=>⟨xs,by rw[List.append_nil];exact r1,(o.b0.trans s1).now,hS _ _ _ (fun u z u' H' s r=>z u' H' (s1.trans s) r) z⟩) q)⟩
end
end L3
namespace L3
open PySem L2
structure cC where
  nx:Dl→Prop
  rt:D→Dl→Prop
  bk:Dl→Prop
  ct:Dl→Prop
abbrev DS:=cC→Dl→Prop
structure RtI (B0:Hp) (Γr:List Nat) (fps:Nat→List Addr) (H:Hp) (fp:List Addr):Prop where
  nd:fp.Nodup
  mu:∀a∈fp,Mu H a
  nw:∀a∈fp,B0 a=none
  dj:∀j∈Γr,∀a∈fp,a∉fps j
structure EOk (K:PySem.W.Frag) (ρ:Bool) (Γr Γl Γn:List Nat) (B0:Hp) (Dn:Ends) (E:cC):Prop where
  nx:∀{fps δ σ H},Ok K B0 Γn fps δ σ H→E.nx δ→Dn.nx σ H
  bk:∀{fps δ σ H},Ok K B0 Γl fps δ σ H→E.bk δ→Dn.bk σ H
  ct:∀{fps δ σ H},Ok K B0 Γl fps δ σ H→E.ct δ→Dn.ct σ H
  rt:∀{fps δ σ H x v fp},Ok K B0 Γr fps δ σ H→Rf K H x v fp→(ρ=true→RtI B0 Γr fps H fp)→E.rt x δ→Dn.rt v H
def ST (K:PySem.W.Frag) (ρ:Bool) (Γr Γl:List Nat) (t:TS) (Γ Γn:List Nat) (d:DS):Prop :=
  ∀⦃B0:Hp⦄ ⦃Dn:Ends⦄ ⦃E:cC⦄ ⦃fps:Nat→List Addr⦄ ⦃δ:Dl⦄ ⦃σ:St⦄ ⦃H:Hp⦄,EOk K ρ Γr Γl Γn B0 Dn E→Ok K B0 Γ fps δ σ H→d E δ→t Dn σ H
section
variable {K:PySem.W.Frag}{ρ:Bool}{Γr Γl Γ Γ1 Γ2 Γn M:List Nat}{t u:TS}{te ta tb:TE}{de da db:DE}{d e:DS}
def Ay (E:cC) (δ:Dl):Prop:=E.nx δ
def xr (d e:DS) (E:cC) (δ:Dl):Prop:=d { E with nx:=e E } δ
theorem aX:ST K ρ Γr Γl Dt Γ Γ Ay:=fun _ _ _ _ _ _ _ k o h=>k.nx o h
theorem au (h1:ST K ρ Γr Γl t Γ Γ1 d) (h2:ST K ρ Γr Γl u Γ1 Γ2 e):ST K ρ Γr Γl (GN t u) Γ Γ2 (xr d e) :=
  fun {B0 Dn E fps δ σ H} k o h=>h1 (Dn:={ Dn with nx:=u Dn }) (E:={ E with nx:=e E }) ⟨fun o h=>h2 k o h,k.bk,k.ct,k.rt⟩ o h
theorem ST.pre (h:ST K ρ Γr Γl t Γ1 Γn d) (s:∀i∈Γ1,i∈Γ:=by decide):ST K ρ Γr Γl t Γ Γn d:=fun _ _ _ _ _ _ _ k o q=>h k (o.sub s) q
theorem ST.post (h:ST K ρ Γr Γl t Γ Γ1 d) (s:∀i∈Γn,i∈Γ1:=by decide):ST K ρ Γr Γl t Γ Γn d:=fun _ _ _ _ _ _ _ k o q=>h ⟨fun o h=>k.nx (o.sub s) h,k.bk,k.ct,k.rt⟩ o q
def CI (M:List Nat) (i:Nat) (de:DE) (E:cC) (δ:Dl):Prop:=de δ fun x=>E.nx ((kill M δ).set i (some x))
theorem bU (i:Nat) (he:EM K Γ M te de) (hM:∀j∈M,j∈Γ:=by decide):ST K ρ Γr Γl (qW te (jk i)) Γ (i::minus (minus Γ M) [i]) (CI M i de) :=
  fun _ _ _ _ _ _ _ k o h=>he.run o (he.mono _ _ _ (fun x z v H' fp s r n=>k.nx (o.GX i hM s r n) z) h)
def FQ (i:Nat) (de:DE) (E:cC) (δ:Dl):Prop:=de δ fun x=>E.nx (δ.set i (some x))
theorem aF (i:Nat) (he:ES K Γ te de):ST K ρ Γr Γl (qW te (jk i)) Γ (minus Γ [i]) (FQ i de) :=
  fun _ _ _ _ _ _ _ k o h=>he.run o (he.mono _ _ _ (fun x z v H' fp s r n=>k.nx (o.wo i s r n) z) h)
def FA (M:List Nat) (de:DE) (E:cC) (δ:Dl):Prop:=de δ fun x=>E.rt x (kill M δ)
theorem aD (he:EM K Γ M te de) (hM:∀j∈M,j∈Γ:=by decide) (hr:∀j∈Γr,j∈Γ∧j∉M:=by decide):ST K ρ Γr Γl (HM te) Γ Γn (FA M de) :=
  fun {B0 Dn E fps δ σ H} k o h=>he.run o (he.mono _ _ _ (fun x z v H' fp s r n=>by
    have ok:=((o.kill M).same s).sub (Γ':=Γr) fun i hi=>cQ.mpr (hr i hi)
    refine k.rt ok r (fun _=>⟨n.nd,n.mu,fun a ha=>?_,fun j hj a ha=>?_⟩) z
    · rcases n.src a ha with e | ⟨i,hi,e⟩
      · exact o.b0.free e
      · exact ((o.own i (hM i hi)).2 a e).1
    · show a∉if j∈M then [] else fps j
      rw[if_neg (hr j hj).2]
      intro z
      rcases n.src a ha with e | ⟨i,hi,e⟩
      · exact o.dom z e
      · exact o.dj i (hM i hi) j (fun y=>(hr j hj).2 (by rw[y];exact hi)) a e z) h)
theorem Gv (he:ER K Γ te de) (hr:∀j∈Γr,j∈Γ:=by decide):ST K false Γr Γl (HM te) Γ Γn (FA [] de) :=
  fun {B0 Dn E fps δ σ H} k o h=>he.run o (he.mono _ _ _ (fun x z v H' s r=>by
    obtain ⟨fp,r⟩:=r
    exact k.rt ((o.same s).sub hr) r (fun z=>by cases z) z) h)
def Cn (c:DT) (d e:DS) (E:cC) (δ:Dl):Prop:=c δ fun b=>if b=true then d E δ else e E δ
theorem fj {c:TT}{dc:DT} (hc:TR K Γ c dc) (h1:ST K ρ Γr Γl t Γ Γn d) (h2:ST K ρ Γr Γl u Γ Γn e):ST K ρ Γr Γl (FJ c t u) Γ Γn (Cn dc d e) :=
  fun _ _ _ _ _ _ _ k o h=>hc.run o (hc.mono _ _ _ (fun b z H' s=>dO (fun z=>h1 k (o.same s) z) (fun z=>h2 k (o.same s) z) z) h)
structure GT (K:PySem.W.Frag) (Γ:List Nat) (g:TG) (dg:D→Dl→(Dl→Prop)→Prop):Prop where
  mono:∀x δ (P P':Dl→Prop),(∀z,P z→P' z)→dg x δ P→dg x δ P'
  run:∀{B0 fps δ σ H x v fp Q},Ok K B0 Γ fps δ σ H→Rf K H x v fp→(∀j∈Γ,∀a∈fp,a∉fps j)→dg x δ (fun δ'=>∀fps' σ',Ok K B0 Γ fps' δ' σ' H→(∀j∈Γ,fps' j=fps j)→Q σ' H)→g v σ H Q
structure GTs (K:PySem.W.Frag) (Γ:List Nat) (g:TGs) (dg:List D→Dl→(Dl→Prop)→Prop):Prop where
  mono:∀x δ (P P':Dl→Prop),(∀z,P z→P' z)→dg x δ P→dg x δ P'
  run:∀{B0 fps δ σ H x v fp Q},Ok K B0 Γ fps δ σ H→Rfs K H x v fp→(∀j∈Γ,∀a∈fp,a∉fps j)→dg x δ (fun δ'=>∀fps' σ',Ok K B0 Γ fps' δ' σ' H→(∀j∈Γ,fps' j=fps j)→Q σ' H)→g v σ H Q
def wU (i:Nat) (x:D) (δ:Dl) (P:Dl→Prop):Prop:=P (δ.set i (some x))
theorem aI (i:Nat) (h:i∉Γ:=by decide):GT K Γ (jk i) (wU i):=⟨fun _ _ _ _ k h=>k _ h,fun {B0 fps δ σ H x v fp Q} o r n q=>by
  have ok:=(o.wo i (Same.refl H) r n).sub (Γ':=Γ) fun j hj=>cQ.mpr ⟨hj,fun z=>h (by rw[← List.mem_singleton.mp z];exact hj)⟩
  exact q _ _ ok fun j hj=>by rw[if_neg (fun z=>h (by rw[← z];exact hj))]⟩
def G0 (xs:List D) (δ:Dl) (P:Dl→Prop):Prop:=match xs with | []=>P δ | _=>False
def DL (dg:D→Dl→(Dl→Prop)→Prop) (dr:List D→Dl→(Dl→Prop)→Prop) (xs:List D) (δ:Dl) (P:Dl→Prop):Prop:=match xs with | x::r=>dg x δ fun δ'=>dr r δ' P | []=>False
theorem rL:GTs K Γ HY G0:=⟨fun x _ _ _ k h=>by cases x with | nil=>exact k _ h | cons _ _=>exact h,fun {B0 fps δ σ H x v fp Q} o r n q=>by
  cases x with
  | nil=>obtain ⟨rfl,_⟩:=r;exact⟨rfl,q _ _ o fun _ _=>rfl⟩
  | cons _ _=>exact q.elim⟩
theorem iP {g:TG}{gs:TGs}{dg:D→Dl→(Dl→Prop)→Prop}{dr:List D→Dl→(Dl→Prop)→Prop} (h1:GT K Γ g dg) (h2:GTs K Γ gs dr):GTs K Γ (EY g gs) (DL dg dr) :=
  ⟨fun x _ _ _ k h=>by
    cases x with
    | nil=>exact h
    | cons x r=>exact h1.mono _ _ _ _ (fun z h=>h2.mono _ _ _ _ k h) h,
   fun {B0 fps δ σ H x v fp Q} o r n q=>by
    cases x with
    | nil=>exact q.elim
    | cons x xs =>
      obtain ⟨y,ys,f1,f2,rfl,rfl,r1,r2⟩:=r
      refine⟨y,ys,rfl,h1.run o r1 (fun j hj a ha=>n j hj a (List.mem_append_left _ ha)) (h1.mono _ _ _ _ (fun δ' z fps' σ' o' e=>?_) q)⟩
      exact h2.run o' r2 (fun j hj a ha=>by rw[e j hj];exact n j hj a (List.mem_append_right _ ha)) (h2.mono _ _ _ _ (fun δ2 z fps2 σ2 o2 e2=>z fps2 σ2 o2 fun j hj=>(e2 j hj).trans (e j hj)) z)⟩
def Bu (n:Nat) (dg:List D→Dl→(Dl→Prop)→Prop) (x:D) (δ:Dl) (P:Dl→Prop):Prop:=match x with | .tup ds=>ds.length=n∧dg ds δ P | _=>False
theorem xC {n:Nat}{g:TGs}{dg:List D→Dl→(Dl→Prop)→Prop} (h:GTs K Γ g dg):GT K Γ (Gu K n g) (Bu n dg) :=
  ⟨fun x δ P P' k h'=>by unfold Bu at h' ⊢;revert h';split<;>first | exact fun h'=>⟨h'.1,h.mono _ _ _ _ k h'.2⟩ | exact id,
   fun {B0 fps δ σ H x v fp Q} o r nn q=>by
    unfold Bu at q
    split at q
    · obtain ⟨a,xs,e1,e2,r⟩:=r
      exact⟨a,xs,e1,.inl (.inl e2),r.length.trans q.1,h.run o r nn q.2⟩
    · exact q.elim⟩
def HA (de:DE) (dg:D→Dl→(Dl→Prop)→Prop) (E:cC) (δ:Dl):Prop:=de δ fun x=>dg x δ E.nx
theorem Ga {g:TG}{dg:D→Dl→(Dl→Prop)→Prop} (he:ES K Γ te de) (hg:GT K Γ g dg):ST K ρ Γr Γl (qW te g) Γ Γ (HA de dg) :=
  fun _ _ _ _ _ _ _ k o h=>he.run o (he.mono _ _ _ (fun x z v H' fp s r n=>hg.run (o.same s) r n (hg.mono _ _ _ _ (fun δ' z fps' σ' o' _=>k.nx o' z) z)) h)
structure FV (K:PySem.W.Frag) (J:It) (B:Hp) (ds:List D):Prop where
  go:∀{i H},Same B H→i<ds.length→J.go i H
  yld:∀{i H x H' d},Same B H→J.yld i H x H'→ds[i]?=some d→Same H H'∧∃fp,Rf K H' d x fp∧∀a∈fp,B a≠none
  stop:∀{i H},Same B H→ds.length≤i→J.stop i H
abbrev DI:=Dl→(List D→Prop)→Prop
structure IT (K:PySem.W.Frag) (Γ:List Nat) (wi:TI) (di:DI):Prop where
  mono:∀δ (P P':List D→Prop),(∀x,P x→P' x)→di δ P→di δ P'
  run:∀{B0 fps δ σ H R},Ok K B0 Γ fps δ σ H→di δ (fun ds=>∀(J:It) (H':Hp) (fq:List Addr),Same H H'→(∀j∈Γ,∀a∈fq,a∉fps j) →
    (∀B,Same B H'→(∀a∈fq,B a=H' a)→(∀a o,H' a=some o→Im o→B a=some o)→FV K J B ds)→R J H')→wi σ H R
def asL (x:D) (P:List D→Prop):Prop:=match x.items with | some ds=>P ds | none=>False
theorem cB {x:D}{P:List D→Prop} (h:asL x P):∃ds,x.items=some ds∧P ds:=by
  unfold asL at h;split at h
  · exact⟨_,by assumption,h⟩
  · exact h.elim
theorem ja {x:D}{ds:List D}{P:List D→Prop} (e:x.items=some ds) (h:P ds):asL x P:=by unfold asL;rw[e];exact h
def HB (de:DE) (δ:Dl) (P:List D→Prop):Prop:=de δ fun x=>asL x P
theorem br (he:ES K Γ te de):IT K Γ (Bm K te) (HB de) :=
  ⟨fun δ P P' k h=>he.mono _ _ _ (fun x z=>by obtain ⟨ds,e,z⟩:=cB z;exact ja e (k _ z)) h,
   fun {B0 fps δ σ H R} o h=>he.run o (he.mono _ _ _ (fun x z v H' fp s r n=>by
    obtain ⟨ds,ex,z⟩:=cB z
    obtain ⟨a,xs,fq,rfl,hs,hr,hin⟩:=r.seq ex
    refine⟨a,rfl,⟨xs,hs⟩,z (Itl K a) H' fp s n fun B sB ag im=>?_⟩
    have rB:Rf K B x (.ref a) fp:=r.mono (fun b hb u e=>by rw[ag b hb];exact e) im
    obtain ⟨a',xs',fq',e1,hs',hr',hin'⟩:=rB.seq ex
    cases e1
    have sq:∀{H2:Hp},Same B H2→SqL K H2 a xs':=fun s2=>by
      rcases hs' with (h | ⟨o',h⟩) | h
      · exact .inl (.inl (s2.st _ _ h trivial))
      · exact .inl (.inr ⟨o',s2.st _ _ h trivial⟩)
      · exact .inr h
    have hl:=hr'.length
    refine⟨fun {i H2} s2 hi=>⟨xs',xs'[i]'(by omega),sq s2,by simp [hl,hi]⟩,fun {i H2 y H3 d} s2 hy hd=>?_,fun {i H2} s2 hi=>⟨xs',sq s2,by omega⟩⟩
    obtain ⟨rfl,hy⟩:=hy
    have e2:=hy xs' (sq s2)
    obtain ⟨d',f,e3,r3,k3⟩:=hr'.get' e2
    rw[hd] at e3;cases e3
    exact⟨Same.refl _,f,r3.same s2,fun b hb=>by
      obtain ⟨u,hu,_⟩:=r3.dom b hb
      rw[hu];intro z;cases z⟩) h)⟩
def asI (xs:List D) (P:Int→Prop):Prop:=match xs with | [.int j]=>P j | _=>False
def DC (xs:List D) (P:Int→Int→Prop):Prop:=match xs with | [.int i,.int j]=>P i j | _=>False
theorem oK {xs:List D}{P:Int→Prop} (h:asI xs P):∃j,xs=[.int j]∧P j:=by
  unfold asI at h;split at h
  · exact⟨_,rfl,h⟩
  · exact h.elim
theorem pC {xs:List D}{P:Int→Int→Prop} (h:DC xs P):∃i j,xs=[.int i,.int j]∧P i j:=by
  unfold DC at h;split at h
  · exact⟨_,_,rfl,h⟩
  · exact h.elim
def qN (lo:Int) (n:Nat):List D:=(List.range n).map fun (k:Nat)=>.int (lo+(k:Int))
theorem HQ {lo:Int}{n:Nat}{B:Hp}:FV K (Itr lo n) B (qN lo n):=⟨fun {i H2} s2 hi=>by unfold Itr;simpa [qN] using hi,fun {i H2 y H3 d} s2 hy hd=>by
  obtain ⟨rfl,rfl⟩:=hy
  unfold qN at hd
  rw[List.getElem?_map] at hd
  cases e:(List.range n)[i]? with
  | none=>rw[e] at hd;cases hd
  | some k =>
    rw[e] at hd
    obtain ⟨h1,h2⟩:=List.getElem?_eq_some_iff.mp e
    rw[List.getElem_range] at h2
    subst h2
    cases hd
    exact⟨Same.refl _,[],⟨rfl,rfl⟩,fun _ h=>nomatch h⟩,fun {i H2} s2 hi=>by unfold Itr;simpa [qN] using hi⟩
def El (da:DA) (δ:Dl) (P:List D→Prop):Prop:=da δ fun xs=>asI xs fun j=>(-(2 ^ 62)≤j∧j<2 ^ 62)∧P (qN 0 j.toNat)
theorem Rps.ints1 {H:Hp}{j:Int}{vs:List V} (h:Rps K H [.int j] vs):vs=[.int j]:=by
  obtain ⟨fp,x,r,f1,f2,rfl,_,⟨rfl,_⟩,⟨rfl,_⟩⟩:=h;rfl
theorem Rps.ints2 {H:Hp}{i j:Int}{vs:List V} (h:Rps K H [.int i,.int j] vs):vs=[.int i,.int j]:=by
  obtain ⟨fp,x,r,f1,f2,rfl,_,⟨rfl,_⟩,y,r',f1,f2,rfl,_,⟨rfl,_⟩,⟨rfl,_⟩⟩:=h;rfl
theorem kY {u:TA}{da:DA} (ha:AR K Γ u da):IT K Γ (G1 u) (El da) :=
  ⟨fun δ P P' k h=>ha.mono _ _ _ (fun x z=>by obtain ⟨j,rfl,z⟩:=oK z;exact⟨z.1,k _ z.2⟩) h,
   fun {B0 fps δ σ H R} o h=>ha.run o (ha.mono _ _ _ (fun xs z vs H' s r=>by
    obtain ⟨j,rfl,z⟩:=oK z
    exact⟨j,r.ints1,z.1.1,z.1.2,z.2 _ H' [] s (fun _ _ _ h=>(nomatch h)) fun B _ _ _=>HQ⟩) h)⟩
def nv (dg:D→Dl→(Dl→Prop)→Prop) (db:DS) (E:cC):List D→Dl→Prop
  | [],δ=>E.nx δ
  | x::xs,δ=>dg x δ fun δ'=>db { nx:=nv dg db E xs,ct:=nv dg db E xs,bk:=E.nx,rt:=E.rt } δ'
def Ib (di:DI) (dg:D→Dl→(Dl→Prop)→Prop) (db:DS) (E:cC) (δ:Dl):Prop:=di δ fun ds=>nv dg db E ds δ
theorem RtI.base {B1 B0:Hp}{fps:Nat→List Addr}{H:Hp}{fp:List Addr} (r:RtI B1 Γr fps H fp) (s:Same B0 B1) (_:i9 K B0):RtI B0 Γr fps H fp:=⟨r.nd,r.mu,fun a ha=>s.free (r.nw a ha),r.dj⟩
theorem fO {wi:TI}{di:DI}{g:TG}{dg:D→Dl→(Dl→Prop)→Prop}{tb:TS}{db:DS} (hi:IT K Γ wi di) (hg:GT K Γ g dg) (hb:ST K ρ Γr Γ tb Γ Γ db):ST K ρ Γr Γl (IK wi g tb) Γ Γ (Ib di dg db):=by
  intro B0 Dn E fps δ σ H k o h
  refine hi.run o (hi.mono _ _ _ (fun ds z J H1 fq s1 n1 hit=>?_) h)
  obtain ⟨B1,sB,o1,ag⟩:=(o.same s1).rebase
  have hJ:FV K J B1 ds:=hit B1 o1.b0 (fun a ha=>ag a fun j hj=>n1 j hj a ha) fun a u e im=>by
    rw[ag a fun j hj ha=>((o1.own j hj).2 a ha).2.AH u e im];exact e
  refine⟨fun i m σ H=>m=ds.length - i∧i≤ds.length∧∃fps δ,Ok K B1 Γ fps δ σ H∧nv dg db E (ds.drop i) δ,⟨ds.length,by omega,Nat.zero_le _,fps,δ,o1,by rw[List.drop_zero];exact z⟩,?_⟩
  rintro i m σ2 H2 ⟨rfl,hi2,fps2,δ2,o2,z2⟩
  by_cases hlt:i<ds.length
  · refine .inr ⟨hJ.go o2.b0 hlt,_,fun σ' H' q=>q,fun x H3 hy=>?_⟩
    obtain ⟨s3,fp,r3,n3⟩:=hJ.yld o2.b0 hy (List.getElem?_eq_getElem hlt)
    rw[List.drop_eq_getElem_cons hlt] at z2
    refine hg.run (o2.same s3) r3 (fun j hj a ha hz=>n3 a ha ((o2.own j hj).2 a hz).1) (hg.mono _ _ _ _ (fun δ' z' fps' σ' o' e'=>?_) z2)
    refine hb (E:={ nx:=nv dg db E (ds.drop (i+1)),ct:=nv dg db E (ds.drop (i+1)),bk:=E.nx,rt:=E.rt }) ⟨fun o4 z4=>⟨ds.length - (i+1),by omega,rfl,hlt,_,_,o4,z4⟩,fun o4 z4=>k.nx (o4.base sB o.b0.tv) z4,fun o4 z4=>⟨ds.length - (i+1),by omega,rfl,hlt,_,_,o4,z4⟩,fun o4 r4 i4 z4=>k.rt (o4.base sB o.b0.tv) r4 (fun y=>(i4 y).base sB o.b0.tv) z4⟩ o' z'
  · have e:i=ds.length:=by omega
    subst e
    rw[List.drop_length] at z2
    exact .inl ⟨hJ.stop o2.b0 (Nat.le_refl _),k.nx (o2.base sB o.b0.tv) z2⟩
def Iv (c:DT) (db:DS) (E:cC) (δ:Dl):Prop:=∃W:Nat→Dl→Prop,(∃m,W m δ)∧∀m δ,W m δ→c δ fun b=>if b=true then db { nx:=fun δ'=>∃m',m' < m∧W m' δ',ct:=fun δ'=>∃m',m' < m∧W m' δ',bk:=E.nx,rt:=E.rt } δ else E.nx δ
theorem oB {c:TT}{dc:DT}{tb:TS}{db:DS} (hc:TR K Γ c dc) (hb:ST K ρ Γr Γ tb Γ Γ db):ST K ρ Γr Γl (D8 c tb) Γ Γ (Iv dc db):=by
  intro B0 Dn E fps δ σ H k o h
  obtain ⟨W,⟨m,w0⟩,turn⟩:=h
  refine⟨fun m σ H=>∃fps δ,Ok K B0 Γ fps δ σ H∧W m δ,⟨m,fps,δ,o,w0⟩,?_⟩
  rintro m σ2 H2 ⟨fps2,δ2,o2,w2⟩
  refine hc.run o2 (hc.mono _ _ _ (fun b z H' s=>dO (fun z=>?_) (fun z=>k.nx (o2.same s) z) z) (turn m δ2 w2))
  refine⟨fun σ H=>∃m',m' < m∧∃fps δ,Ok K B0 Γ fps δ σ H∧W m' δ,fun σ' H' q=>q,hb (E:={ nx:=fun δ'=>∃m',m' < m∧W m' δ',ct:=fun δ'=>∃m',m' < m∧W m' δ',bk:=E.nx,rt:=E.rt }) ⟨?_,fun o4 z4=>k.nx o4 z4,?_,k.rt⟩ (o2.same s) z⟩
  · rintro fps δ σ H o4 ⟨m',h1,h2⟩
    exact⟨m',h1,fps,δ,o4,h2⟩
  · rintro fps δ σ H o4 ⟨m',h1,h2⟩
    exact⟨m',h1,fps,δ,o4,h2⟩
def vO (f:D→(List D→Prop)→Prop):List D→List D→(List D→Prop)→Prop
  | [],acc,P=>P acc
  | x::xs,acc,P=>f x fun ys=>vO f xs (acc++ys) P
theorem se {f:D→(List D→Prop)→Prop} (hf:∀x P P',(∀z,P z→P' z)→f x P→f x P'):∀xs acc (P P':List D→Prop),(∀z,P z→P' z)→vO f xs acc P→vO f xs acc P'
  | [],acc,P,P',k,h=>k _ h
  | x::xs,acc,P,P',k,h=>hf x _ _ (fun z h=>se hf xs _ P P' k h) h
def eS (k:Nat) (idx:List Nat) (δ:Dl):Dl:=List.replicate k none++idx.map fun i=>(δ[i]?).getD none
theorem JK {k:Nat}{idx:List Nat}{B0:Hp}{fps:Nat→List Addr}{δ:Dl}{σ:St}{H:Hp} (o:Ok K B0 Γ fps δ σ H):Ok K H [] (fun j=>match (eS k idx δ)[j]? with | some (some _)=>fps (idx.getD (j - k) 0) | _=>[]) (eS k idx δ) (ib k idx σ) H:=by
  refine⟨by simp [eS,ib,B3],SB.refl o.b0.now,fun i d e=>?_,fun i h=>?_,fun _ h=>(nomatch h),fun _ h=>(nomatch h)⟩
  · rw[e]
    unfold eS at e
    unfold ib B3
    by_cases hi:i<k
    · rw[List.getElem?_append_left (by simpa using hi)] at e
      simp [hi] at e
    · rw[List.getElem?_append_right (by simpa using hi),List.length_replicate,List.getElem?_map] at e
      cases ej:idx[i - k]? with
      | none=>rw[ej] at e;simp at e
      | some j =>
        rw[ej] at e
        simp only[Option.map_some,Option.some.injEq] at e
        have e':δ[j]?=some (some d):=by
          cases q:δ[j]? with
          | none=>rw[q] at e;cases e
          | some x=>rw[q] at e;simp at e;rw[e]
        obtain ⟨v,h1,h2⟩:=o.val j d e'
        refine⟨v,?_,?_⟩
        · rw[List.getElem?_append_right (by simpa using hi),List.length_replicate,List.getElem?_map,ej]
          simp [h1]
        · show Rf K H d v (fps (idx.getD (i - k) 0))
          rw[List.getD_eq_getElem?_getD,ej]
          exact h2
  · show (match (eS k idx δ)[i]? with | some (some _)=>_ | _=>_)=_
    split
    · exact absurd (by assumption) (h _)
    · rfl
def jG (dg:D→Dl→(Dl→Prop)→Prop) (dt:DT) (de:DE) (δ:Dl) (x:D) (R:List D→Prop):Prop:=dg x δ fun δ2=>dt δ2 fun b=>if b=true then de δ2 fun y=>R [y] else R []
def lW (di:DI) (dg:D→Dl→(Dl→Prop)→Prop) (dt:DT) (de:DE) (k:Nat) (idx:List Nat) (δ:Dl) (P:DK):Prop:=di δ fun ds=>ds.length≤1000∧vO (jG dg dt de (eS k idx δ)) ds [] fun ys=>P (.lst ys)
theorem Ag {Γ':List Nat}{g:TG}{dg:D→Dl→(Dl→Prop)→Prop}{tt:TT}{dt:DT} (hg:GT K Γ' g dg) (ht:TR K Γ' tt dt) (hm:∀δ (P P':DK),(∀x,P x→P' x)→de δ P→de δ P') (δ:Dl):∀x P P',(∀z,P z→P' z)→jG dg dt de δ x P→jG dg dt de δ x P' :=
  fun x P P' k h=>hg.mono _ _ _ _ (fun δ2 h=>ht.mono _ _ _ (fun b h=>dO (hm _ _ _ fun y h=>k _ h) (k _) h) h) h
theorem wD {wi:TI}{di:DI}{g:TG}{dg:D→Dl→(Dl→Prop)→Prop}{tt:TT}{dt:DT}{k:Nat}{idx:List Nat} (hi:IT K [] wi di) (hg:GT K [] g dg) (ht:TR K [] tt dt) (he:EM K [] [] te de) :
    EM K Γ [] (yC wi g tt te k idx) (lW di dg dt de k idx):=by
  have hm:=Ag hg ht he.mono
  refine⟨fun δ P P' k h=>hi.mono _ _ _ (fun ds z=>⟨z.1,se (hm _) _ _ _ _ (fun ys h=>k _ h) z.2⟩) h,fun {B0 fps δ σ H Q} o h=>hi.run (o.sub (Γ':=[]) fun _ h=>(nomatch h)) (hi.mono _ _ _ (fun ds z J H1 fq s1 n1 hit=>?_) h)⟩
  have hJ:FV K J H1 ds:=hit H1 (Same.refl _) (fun _ _=>rfl) fun a u e im=>e
  obtain ⟨hz,z⟩:=z
  refine⟨fun i m vs H2=>m=ds.length - i∧i≤ds.length∧Same H1 H2∧vs.length≤i∧∃ys fp,Rfs K H2 ys vs fp∧Nw H1 H2 nf [] fp∧vO (jG dg dt de (eS k idx δ)) (ds.drop i) ys fun ys=>∀v H' fp,Same H H'→Rf K H' (.lst ys) v fp→Nw H H' fps [] fp→Q v H',
    ⟨ds.length,by omega,Nat.zero_le _,Same.refl _,Nat.zero_le _,[],[],⟨rfl,rfl⟩,Nw.nil,by rw[List.drop_zero];exact z⟩,?_⟩
  rintro i m vs H2 ⟨rfl,hi2,s2,hvs,ys,fp,r2,n2,z2⟩
  by_cases hlt:i<ds.length
  · refine .inr ⟨hJ.go s2 hlt,qo (by omega),_,fun vs' H' q=>q,fun x H3 hy=>?_⟩
    obtain ⟨s3,fx,r3,n3⟩:=hJ.yld s2 hy (List.getElem?_eq_getElem hlt)
    rw[List.drop_eq_getElem_cons hlt] at z2
    have oi:=(JK (k:=k) (idx:=idx) ((o.same s1).same (s2.trans s3)))
    refine hg.run oi r3 (fun _ h=>(nomatch h)) (hg.mono _ _ _ _ (fun δ' z' fps' σ' o' e'=>?_) z2)
    refine ht.run o' (ht.mono _ _ _ (fun b z' H4 s4=>dO (fun z'=>he.run (o'.same s4) (he.mono _ _ _ (fun y z' v H5 f5 s5 r5 n5=>?_) z')) (fun z'=>?_) z') z')
    · have s25:=s3.trans (s4.trans s5)
      refine⟨ds.length - (i+1),by omega,rfl,hlt,s2.trans s25,by simp;omega,ys++[y],fp++f5,(r2.same s25).append (Rfs.one r5),⟨?_,fun a ha=>?_,fun a ha=>?_⟩,z'⟩
      · refine List.nodup_append.mpr ⟨n2.nd,n5.nd,fun a h1 b h2 e=>?_⟩
        subst e
        exact ((n2.mu a h1).same (s3.trans s4)).some (n5.fresh a h2)
      · rcases List.mem_append.mp ha with h | h
        · exact (n2.mu a h).same s25
        · exact n5.mu a h
      · rcases List.mem_append.mp ha with h | h
        · exact n2.src a h
        · exact .inl ((s2.trans (s3.trans s4)).free (n5.fresh a h))
    · have s24:=s3.trans s4
      dsimp only at z'
      rw[List.append_nil] at z'
      exact⟨ds.length - (i+1),by omega,rfl,hlt,s2.trans s24,by omega,ys,fp,r2.same s24,n2.same s24,z'⟩
  · have e:i=ds.length:=by omega
    subst e
    rw[List.drop_length] at z2
    refine .inl ⟨hJ.stop s2 (Nat.le_refl _),qo (by omega),fun p hp=>?_⟩
    have hs:Same H2 (upd H2 p (.lst vs)):=Same.o9 hp
    refine z2 _ _ (p::fp) ((s1.trans s2).trans hs) ⟨p,vs,fp,rfl,aH,rfl,r2.same hs⟩ ⟨List.nodup_cons.mpr ⟨fun h=>(n2.mu p h).some hp,n2.nd⟩,fun a ha=>?_,fun a ha=>?_⟩
    · rcases List.mem_cons.mp ha with e | h
      · subst e;exact .inl ⟨vs,aH⟩
      · exact (n2.mu a h).same hs
    · rcases List.mem_cons.mp ha with e | h
      · subst e;exact .inl ((s1.trans s2).free hp)
      · exact .inl (s1.free (n2.fresh a h))
def Gq (_u0:Dl) (P:Bool→Prop):Prop:=P true
theorem IG:TR K Γ FU Gq:=⟨fun _ _ _ k h=>k _ h,fun {_ _ _ _ H _} o q=>q H (Same.refl H)⟩
def aG (N:List Str) (ds:List D):Dl:=ds.map some++List.replicate (N.length - ds.length) none
theorem Rfs.split {H:Hp}:∀{ds:List D}{vs:List V}{fp:List Addr},Rfs K H ds vs fp→∃fps:Nat→List Addr,(∀i d,ds[i]?=some d→∃v,vs[i]?=some v∧Rf K H d v (fps i))∧∀i,ds.length≤i→fps i=[]
  | [],vs,fp,h=>⟨fun _=>[],fun i d e=>by simp at e,fun _ _=>rfl⟩
  | d::ds,vs,fp,h=>by
    obtain ⟨x,r,f1,f2,rfl,rfl,h1,h2⟩:=h
    obtain ⟨fps,k1,k2⟩:=Rfs.split h2
    refine⟨fun i=>match i with | 0=>f1 | j+1=>fps j,fun i d' e=>?_,fun i hi=>?_⟩
    · cases i with
      | zero=>simp at e;subst e;exact⟨x,rfl,h1⟩
      | succ j=>simpa using k1 j d' (by simpa using e)
    · cases i with
      | zero=>simp at hi
      | succ j=>exact k2 j (by simpa using hi)
theorem sE {N:List Str}{ds:List D}{vs:List V}{H:Hp} (h:Rps K H ds vs) (tv:i9 K H):∃fps,Ok K H [] fps (aG N ds) (L2.start N vs) H:=by
  obtain ⟨fp,h⟩:=h
  have hl:=h.length
  obtain ⟨fps,k1,k2⟩:=h.split
  refine⟨fps,by simp [aG,L2.start,hl],SB.refl tv,fun i d e=>?_,fun i e=>?_,fun _ h=>(nomatch h),fun _ h=>(nomatch h)⟩
  · unfold aG at e
    unfold L2.start
    by_cases hi:i<ds.length
    · rw[List.getElem?_append_left (by simpa using hi),List.getElem?_map,List.getElem?_eq_getElem hi] at e
      simp at e
      obtain ⟨v,h1,h2⟩:=k1 i d (by rw[List.getElem?_eq_getElem hi,e])
      exact⟨v,by rw[List.getElem?_append_left (by simpa [hl] using hi),List.getElem?_map,h1];rfl,h2⟩
    · rw[List.getElem?_append_right (by simpa using hi),List.getElem?_replicate] at e
      split at e<;>cases e
  · by_cases hi:i<ds.length
    · refine absurd ?_ (e ds[i])
      unfold aG
      rw[List.getElem?_append_left (by simpa using hi),List.getElem?_map,List.getElem?_eq_getElem hi]
      rfl
    · exact k2 i (by omega)
abbrev qP (P:DK):cC:=⟨fun _=>P .non,fun x _=>P x,fun _=>False,fun _=>False⟩
theorem aT {N:List Str}{S:DSp} (hs:ST K true [] [] t [] Γn d) (hd:∀ds P,S ds P→d (qP P) (aG N ds)) :
    ∀{vs H Q E},spP K S vs H Q E→t { nx:=fun _ H'=>Q .non H',rt:=Q } (L2.start N vs) H:=by
  rintro vs H Q E ⟨ds,r,tv,h⟩
  obtain ⟨fps,o⟩:=sE (N:=N) r tv
  refine hs (E:=qP _) ⟨fun {fps δ σ H'} o z=>?_,fun o (z:False)=>z.elim,fun o (z:False)=>z.elim,fun o r i z=>?_⟩ o (hd ds _ h)
  · exact z _ H' [] o.b0 ⟨rfl,rfl⟩ Nw.nil
  · exact z _ _ _ o.b0 r ⟨(i rfl).nd,(i rfl).mu,fun a ha=>.inl ((i rfl).nw a ha)⟩
theorem Fu {N:List Str}{S:DSp} (hs:ST K false [] [] t [] Γn d) (hd:∀ds P,S ds P→d (qP P) (aG N ds)) :
    ∀{vs H Q E},spR K S vs H Q E→t { nx:=fun _ H'=>Q .non H',rt:=Q } (L2.start N vs) H:=by
  rintro vs H Q E ⟨ds,r,tv,h⟩
  obtain ⟨fps,o⟩:=sE (N:=N) r tv
  refine hs (E:=qP _) ⟨fun {fps δ σ H'} o z=>?_,fun o (z:False)=>z.elim,fun o (z:False)=>z.elim,fun o r i z=>?_⟩ o (hd ds _ h)
  · exact z _ H' o.b0 ⟨[],rfl,rfl⟩
  · exact z _ _ o.b0 ⟨_,r⟩
end
end L3
namespace L3
open PySem L2
section
variable {K:PySem.W.Frag}{ρ:Bool}{Γr Γl Γ Γ1 Γ2 Γn M:List Nat}{t u:TS}{te ta tb tx t1 t2:TE}{de da db dx d1 d2:DE}{d e:DS}
variable {B0:Hp}{fps:Nat→List Addr}{δ:Dl}{σ:St}{H H':Hp}
theorem Ok.HR (o:Ok K B0 Γ fps δ σ H) {i:Nat} (hi:i∈Γ) {d':D}{v:V}{fp':List Addr} (hv:σ[i]?=some (some v)) (r:Rf K H' d' v fp') (nd:fp'.Nodup) (mu:∀a∈fp',Mu H' a)
    (src:∀a∈fp',a∈fps i∨(B0 a=none∧∀j,a∉fps j)) (sb:SB K B0 H') (keep:∀b u,b∉fps i→H b=some u→NT u→H' b=some u) :
    Ok K B0 Γ (fun j=>if j=i then fp' else fps j) (δ.set i (some d')) σ H':=by
  have hlt:i<δ.length:=by rw[← o.len];exact (List.getElem?_eq_some_iff.mp hv).1
  refine⟨by simp [o.len],sb,fun j d e=>?_,fun j h=>?_,fun j hj=>?_,fun j hj k hk a ha=>?_⟩
  · by_cases h:j=i
    · subst h
      rw[List.getElem?_set] at e
      simp [hlt] at e
      subst e
      exact⟨v,hv,by rw[if_pos rfl];exact r⟩
    · rw[List.getElem?_set_ne (Ne.symm h)] at e
      obtain ⟨w,h1,h2⟩:=o.val j d e
      refine⟨w,h1,?_⟩
      rw[if_neg h]
      exact h2.nD (fun a ha u e n=>keep a u (fun z=>o.dj i hi j h a z ha) e n) fun a u e im=>keep a u (fun z=>((o.own i hi).2 a z).2.AH u e im) e (by rcases im with ⟨_,rfl⟩ | ⟨_,_,rfl⟩ | ⟨_,_,rfl⟩<;>trivial)
  · by_cases h':j=i
    · subst h'
      exact absurd (by rw[List.getElem?_set];simp [hlt]) (h d')
    · rw[if_neg h']
      exact o.non j fun d z=>h d (by rw[List.getElem?_set_ne (Ne.symm h')];exact z)
  · by_cases h:j=i
    · subst h
      rw[if_pos rfl]
      refine⟨nd,fun a ha=>⟨?_,mu a ha⟩⟩
      rcases src a ha with z | z
      · exact ((o.own j hi).2 a z).1
      · exact z.1
    · rw[if_neg h]
      refine⟨(o.own j hj).1,fun a ha=>⟨((o.own j hj).2 a ha).1,?_⟩⟩
      have hn:a∉fps i:=fun z=>o.dj i hi j h a z ha
      rcases ((o.own j hj).2 a ha).2 with ⟨x,z⟩ | ⟨x,z⟩ | ⟨x,z⟩ | ⟨C,dx,fs,z⟩
      · exact .inl ⟨x,keep a _ hn z trivial⟩
      · exact .inr (.inl ⟨x,keep a _ hn z trivial⟩)
      · exact .inr (.inr (.inl ⟨x,keep a _ hn z trivial⟩))
      · exact .inr (.inr (.inr ⟨C,dx,fs,keep a _ hn z trivial⟩))
  · by_cases h:j=i
    · subst h
      rw[if_pos rfl] at ha
      rw[if_neg hk]
      rcases src a ha with z | z
      · exact o.dj j hi k hk a z
      · exact z.2 k
    · rw[if_neg h] at ha
      by_cases hki:k=i
      · rw[if_pos hki]
        intro z
        rcases src a z with y | y
        · exact o.dj j hj i (Ne.symm h) a ha y
        · exact y.2 j ha
      · rw[if_neg hki]
        exact o.dj j hj k hk a ha
def qM (δ:Dl) (i:Nat) (P:List D→Prop):Prop:=match δ[i]? with | some (some (.lst ds))=>P ds | _=>False
theorem Ok.write (o:Ok K B0 Γ fps δ σ H) {i:Nat} (hi:i∈Γ) {d':D}{v:V}{fp':List Addr} (hv:σ[i]?=some (some v)) (r:Rf K H' d' v fp') (nd:fp'.Nodup) (mu:∀a∈fp',Mu H' a)
    (src:∀a∈fp',a∈fps i∨(B0 a=none∧∀j,a∉fps j)) (keep:∀b u,b∉fps i→H b=some u→H' b=some u) :
    Ok K B0 Γ (fun j=>if j=i then fp' else fps j) (δ.set i (some d')) σ H':=o.HR hi hv r nd mu src (o.b0.keep (fun a ha=>(o.own i hi).2 a ha) keep) fun b u n e _=>keep b u n e
theorem v8 {δ:Dl}{i:Nat}{P:List D→Prop} (h:qM δ i P):∃ds,δ[i]?=some (some (.lst ds))∧P ds:=by
  unfold qM at h;split at h
  · exact⟨_,by assumption,h⟩
  · exact h.elim
theorem Ok.IQ (o:Ok K B0 Γ fps δ σ H) {i:Nat}{ds:List D} (e:δ[i]?=some (some (.lst ds))):∃a xs fq,σ[i]?=some (some (.ref a))∧H a=some (.lst xs)∧fps i=a::fq∧Rfs K H ds xs fq:=by
  obtain ⟨v,h1,a,xs,fq,rfl,h2,h3,h4⟩:=o.val i _ e
  exact⟨a,xs,fq,h1,h2,h3,h4⟩
theorem By {a:Addr}{w:HO}{fp:List Addr} (ha:a∈fp):∀b u,b∉fp→H b=some u→upd H a w b=some u:=fun b u hb e=>by
  rw[aP (fun z=>hb (by rw[z];exact ha))];exact e
def wC (M:List Nat) (i:Nat) (de:DE) (E:cC) (δ:Dl):Prop:=qM δ i fun ds=>de δ fun x=>ds.length<1000∧E.nx ((kill M δ).set i (some (.lst (ds++[x]))))
theorem gB (i:Nat) (he:EM K Γ M te de) (hi:i∈Γ∧i∉M:=by decide) (hM:∀j∈M,j∈Γ:=by decide):ST K ρ Γr Γl (Dm (tBM K "list" AV (wW i) (fX te nO))) Γ (minus Γ M) (wC M i de):=by
  intro B0 Dn E fps δ σ H k o h
  obtain ⟨ds,e,h⟩:=v8 h
  obtain ⟨a,xs,fq,h1,h2,h3,h4⟩:=o.IQ e
  refine⟨.ref a,h1,.inl ⟨rfl,xs,.inl (.inl h2)⟩,he.run o (he.mono _ _ _ (fun x z v H1 fp s r n=>?_) h)⟩
  refine⟨a,xs,v,rfl,rfl,s.st _ _ h2 trivial,by rw[h4.length];exact Nat.lt_of_lt_of_le z.1 (qo (Nat.le_refl _)),?_⟩
  have ok:=(o.kill M).same s
  have hil:i∈minus Γ M:=cQ.mpr hi
  have hown:=o.own i hi.1
  rw[h3] at hown
  obtain ⟨nd,hmu⟩:=hown
  obtain ⟨na,ndq⟩:=List.nodup_cons.mp nd
  have hfa:∀b∈fp,b≠a∧b∉fq:=fun b hb=>by
    have:b∉fps i:=fun z=>by
      rcases n.src b hb with y | ⟨j,hj,y⟩
      · exact o.dom z y
      · exact o.dj j (hM j hj) i (fun w=>hi.2 (by rw[w];exact hj)) b y z
    rw[h3] at this
    exact⟨fun z=>this (by rw[z];exact List.mem_cons_self),fun z=>this (List.mem_cons_of_mem _ z)⟩
  have nt:=((hmu a List.mem_cons_self).2.same s).AH
  refine k.nx (ok.write hil (d':=.lst (ds++[x])) (fp':=a::(fq++fp)) h1 ⟨a,xs++[v],fq++fp,rfl,aH,rfl,?_⟩ ?_ (fun b hb=>?_) (fun b hb=>?_) ?_) z.2
  · exact ((h4.same s).upd na nt).append ((Rfs.one r).upd (fun w=>(hfa a w).1 rfl) nt)
  · refine List.nodup_cons.mpr ⟨fun w=>?_,List.nodup_append.mpr ⟨ndq,n.nd,fun b h1 c h2 z=>?_⟩⟩
    · rcases List.mem_append.mp w with w | w
      · exact na w
      · exact (hfa a w).1 rfl
    · subst z;exact (hfa b h2).2 h1
  · refine Mu.upd ?_ (.inl ⟨_,rfl⟩)
    rcases List.mem_cons.mp hb with w | w
    · subst w;exact .inl ⟨xs,s.st _ _ h2 trivial⟩
    · rcases List.mem_append.mp w with w | w
      · exact (hmu b (List.mem_cons_of_mem _ w)).2.same s
      · exact n.mu b w
  · show b∈(if i∈M then [] else fps i)∨_
    rw[if_neg hi.2,h3]
    rcases List.mem_cons.mp hb with w | w
    · subst w;exact .inl List.mem_cons_self
    · rcases List.mem_append.mp w with w | w
      · exact .inl (List.mem_cons_of_mem _ w)
      · refine .inr ⟨?_,fun j=>?_⟩
        · rcases n.src b w with y | ⟨j,hj,y⟩
          · exact o.b0.free y
          · exact ((o.own j (hM j hj)).2 b y).1
        · show b∉(if j∈M then [] else fps j)
          split
          · exact List.not_mem_nil
          · rename_i hj
            intro z
            rcases n.src b w with y | ⟨j',hj',y⟩
            · exact o.dom z y
            · exact o.dj j' (hM j' hj') j (fun q=>hj (by rw[q];exact hj')) b y z
  · show ∀b u,b∉(if i∈M then [] else fps i)→_
    rw[if_neg hi.2,h3]
    exact By List.mem_cons_self
theorem Rfs.set {H:Hp}{x:D}{v:V}{fp:List Addr} (r:Rf K H x v fp) (nd:fp.Nodup):∀{ds:List D}{xs:List V}{fq:List Addr}{j:Nat},Rfs K H ds xs fq→fq.Nodup→(∀a∈fp,a∉fq)→j<ds.length →
    ∃fq',Rfs K H (ds.set j x) (xs.set j v) fq'∧fq'.Nodup∧∀a∈fq',a∈fq∨a∈fp
  | [],xs,fq,j,h,_,_,hj=>by simp at hj
  | d::ds,xs,fq,j,h,hn,hd,hj=>by
    obtain ⟨y,ys,f1,f2,rfl,rfl,h1,h2⟩:=h
    obtain ⟨n1,n2,n3⟩:=List.nodup_append.mp hn
    cases j with
    | zero =>
      refine⟨fp++f2,⟨v,ys,fp,f2,rfl,rfl,r,h2⟩,List.nodup_append.mpr ⟨nd,n2,fun a ha b hb z=>?_⟩,fun a ha=>?_⟩
      · subst z;exact hd a ha (List.mem_append_right _ hb)
      · exact (List.mem_append.mp ha).elim .inr fun z=>.inl (List.mem_append_right _ z)
    | succ j =>
      obtain ⟨fq',r',nd',k'⟩:=Rfs.set r nd (j:=j) h2 n2 (fun a ha z=>hd a ha (List.mem_append_right _ z)) (by simpa using hj)
      refine⟨f1++fq',⟨y,ys.set j v,f1,fq',rfl,rfl,h1,r'⟩,List.nodup_append.mpr ⟨n1,nd',fun a ha b hb z=>?_⟩,fun a ha=>?_⟩
      · subst z
        rcases k' a hb with w | w
        · exact n3 a ha a w rfl
        · exact hd a w (List.mem_append_left _ ha)
      · rcases List.mem_append.mp ha with w | w
        · exact .inl (List.mem_append_left _ w)
        · exact (k' a w).imp (List.mem_append_right _) id
def md (i:Nat) (de dx:DE) (E:cC) (δ:Dl):Prop:=de δ fun x=>qM δ i fun ds=>dx δ fun k=>asI [k] fun n=>match ixN ds.length n with | some j=>E.nx (δ.set i (some (.lst (ds.set j x)))) | none=>False
theorem Hy {n:Nat}{i:Int}{j:Nat} (h:ixN n i=some j):j<n:=by
  unfold ixN at h
  split at h
  · split at h
    · cases h;omega
    · cases h
  · split at h
    · cases h;omega
    · cases h
theorem zJ (o:Ok K B0 Γ fps δ σ H) {i j:Nat} (hi:i∈Γ) {ds:List D}{x:D}{v:V}{fp:List Addr} (e:δ[i]?=some (some (.lst ds))) (r:Rf K H x v fp) (nd:fp.Nodup) (mu:∀a∈fp,Mu H a) (src:∀a∈fp,B0 a=none∧∀j,a∉fps j) (hj:j<ds.length) :
    ∃a xs,σ[i]?=some (some (.ref a))∧H a=some (.lst xs)∧xs.length=ds.length∧∃fps',Ok K B0 Γ fps' (δ.set i (some (.lst (ds.set j x)))) σ (upd H a (.lst (xs.set j v))):=by
  obtain ⟨a,xs,fq,h1,h2,h3,h4⟩:=o.IQ e
  have hown:=o.own i hi
  rw[h3] at hown
  obtain ⟨nd0,hmu⟩:=hown
  obtain ⟨na,ndq⟩:=List.nodup_cons.mp nd0
  have nt:=(hmu a List.mem_cons_self).2.AH
  have hfq:∀b∈fp,b∉fps i:=fun b hb=>(src b hb).2 i
  rw[h3] at hfq
  obtain ⟨fq',r',nd',k'⟩:=Rfs.set r nd h4 ndq (fun b hb z=>hfq b hb (List.mem_cons_of_mem _ z)) hj
  have naq:a∉fq':=fun z=>(k' a z).elim na fun w=>hfq a w List.mem_cons_self
  refine⟨a,xs,h1,h2,h4.length,_,o.write hi (fp':=a::fq') h1 ⟨a,xs.set j v,fq',rfl,aH,rfl,r'.upd naq nt⟩ (List.nodup_cons.mpr ⟨naq,nd'⟩) (fun b hb=>Mu.upd ?_ (.inl ⟨_,rfl⟩)) (fun b hb=>?_) ?_⟩
  · rcases List.mem_cons.mp hb with w | w
    · subst w;exact .inl ⟨xs,h2⟩
    · rcases k' b w with w | w
      · exact (hmu b (List.mem_cons_of_mem _ w)).2
      · exact mu b w
  · rw[h3]
    rcases List.mem_cons.mp hb with w | w
    · subst w;exact .inl List.mem_cons_self
    · rcases k' b w with w | w
      · exact .inl (List.mem_cons_of_mem _ w)
      · exact .inr (src b w)
  · rw[h3];exact By List.mem_cons_self
theorem jK {x:D}{P:Int→Prop} (h:asI [x] P):∃j,x=.int j∧P j:=by
  obtain ⟨j,e,h⟩:=oK h;cases e;exact⟨j,rfl,h⟩
theorem ij (i:Nat) (he:EM K Γ [] te de) (hx:ER K Γ tx dx) (hi:i∈Γ:=by decide):ST K ρ Γr Γl (qW te (JH (wW i) tx G6)) Γ Γ (md i de dx):=by
  intro B0 Dn E fps δ σ H k o h
  refine he.run o (he.mono _ _ _ (fun x z v H1 fp s r n=>?_) h)
  obtain ⟨ds,e,z⟩:=v8 z
  obtain ⟨a0,_,_,h1,_⟩:=(o.same s).IQ e
  refine⟨.ref a0,h1,hx.run (o.same s) (hx.mono _ _ _ (fun y z w H2 s2 r2=>?_) z)⟩
  obtain ⟨m,em,z9⟩:=jK z
  subst em
  cases ej:ixN ds.length m with
  | none=>rw[ej] at z9;exact z9.elim
  | some j =>
    rw[ej] at z9
    obtain ⟨a,xs,e1,e2,e3,fps',o'⟩:=zJ ((o.same s).same s2) hi e (r.same s2) n.nd (fun a ha=>(n.mu a ha).same s2) (fun a ha=>⟨o.b0.free (n.fresh a ha),fun j z=>o.dom z (n.fresh a ha)⟩) (Hy ej)
    rw[h1] at e1;cases e1
    exact⟨a0,xs,m,j,rfl,r2.int,e2,by rw[e3];exact ej,k.nx o' z9⟩
def AJ (o:Option D) (P:List D→Prop):Prop:=match o with | some (.lst es)=>P es | _=>False
theorem va {o:Option D}{P:List D→Prop} (h:AJ o P):∃es,o=some (.lst es)∧P es:=by
  unfold AJ at h;split at h
  · exact⟨_,rfl,h⟩
  · exact h.elim
def cutD (ds:List D) (lo hi:Option Int):List D:=(ds.drop (HT.sIx ds.length 0 lo)).take (HT.sIx ds.length ds.length hi - HT.sIx ds.length 0 lo)
abbrev DO:=Dl→(Option Int→Prop)→Prop
structure OR (K:PySem.W.Frag) (Γ:List Nat) (t:TO) (d:DO):Prop where
  mono:∀δ (P P':Option Int→Prop),(∀x,P x→P' x)→d δ P→d δ P'
  run:∀{B0 fps δ σ H Q},Ok K B0 Γ fps δ σ H→d δ (fun x=>∀H',Same H H'→Q x H')→t σ H Q
def xi (_u0:Dl) (P:Option Int→Prop):Prop:=P none
def Dg (d:DE) (δ:Dl) (P:Option Int→Prop):Prop:=d δ fun x=>asI [x] fun i=>P (some i)
theorem or_none:OR K Γ AB xi:=⟨fun _ _ _ k h=>k _ h,fun {_ _ _ _ H _} o q=>q H (Same.refl H)⟩
theorem or_some (h:ER K Γ te de):OR K Γ (G9 te) (Dg de):=⟨fun δ P P' k q=>h.mono _ _ _ (fun x z=>by obtain ⟨j,rfl,z⟩:=jK z;exact k _ z) q,
  fun o q=>h.run o (h.mono _ _ _ (fun x z v H' s r=>by obtain ⟨j,rfl,z⟩:=jK z;exact⟨j,r.int,z H' s⟩) q)⟩
def vSl (de:DE) (dl dh:DO) (δ:Dl) (P:DK):Prop:=de δ fun x=>dl δ fun l=>dh δ fun u=>asL x fun ds=>ds.all D.bf=true∧P (.lst (cutD ds l u))
theorem Gp {ds:List D}{lo hi:Option Int}:B9 (ds.map D.toV) lo hi=(cutD ds lo hi).map D.toV:=by
  unfold B9 cutD
  rw[List.length_map,List.map_take,List.map_drop]
theorem Du {ds:List D}{lo hi:Option Int} (h:ds.all D.bf=true):(cutD ds lo hi).all D.bf=true:=by
  unfold cutD
  rw[List.all_eq_true] at h ⊢
  exact fun x hx=>h x (List.mem_of_mem_drop (List.mem_of_mem_take hx))
theorem G7 {tl th:TO}{dl dh:DO} (he:ER K Γ te de) (hl:OR K Γ tl dl) (hh:OR K Γ th dh):EM K Γ [] (tSl (Hi K) te tl th) (vSl de dl dh) :=
  ⟨fun δ P P' k h=>he.mono _ _ _ (fun x z=>hl.mono _ _ _ (fun l z=>hh.mono _ _ _ (fun u z=>by obtain ⟨ds,e,z⟩:=cB z;exact ja e ⟨z.1,k _ z.2⟩) z) z) h,
   fun {B0 fps δ σ H Q} o h=>he.run o (he.mono _ _ _ (fun x z v H1 s1 r1=>hl.run (o.same s1) (hl.mono _ _ _ (fun l z H2 s2=>hh.run ((o.same s1).same s2) (hh.mono _ _ _ (fun u z H3 s3=>by
    obtain ⟨ds,e,z⟩:=cB z
    obtain ⟨a,xs,fq,rfl,hs,hr⟩:=(r1.same (s2.trans s3)).seq e
    obtain ⟨rfl,rfl⟩:=hr.mP z.1
    refine⟨a,_,rfl,hs,fun p hp=>?_⟩
    rw[Gp]
    have s4:Same H3 (upd H3 p (.lst ((cutD ds l u).map D.toV))):=Same.o9 hp
    refine z.2 _ _ [p] (((s1.trans s2).trans s3).trans s4) ⟨p,_,[],rfl,aH,rfl,Rfs.rN (Du z.1)⟩ ⟨by simp,fun b hb=>?_,fun b hb=>?_⟩
    · cases List.mem_singleton.mp hb;exact .inl ⟨_,aH⟩
    · cases List.mem_singleton.mp hb;exact .inl (((s1.trans s2).trans s3).free hp)) z)) z)) h)⟩
def JZ (x:D) (y:D) (P:DK):Prop:=match x,y with | .lst a,.lst b=>(a.all D.bf=true∧b.all D.bf=true∧a.length+b.length≤1000)∧P (.lst (a++b)) | _,_=>False
theorem JN {H:Hp}{p:Addr}{ds:List D} (h:ds.all D.bf=true) (hp:H p=none):Same H (upd H p (.lst (ds.map D.toV)))∧Rf K (upd H p (.lst (ds.map D.toV))) (.lst ds) (.ref p) [p]∧Nw H (upd H p (.lst (ds.map D.toV))) nf [] [p] :=
  ⟨Same.o9 hp,⟨p,_,[],rfl,aH,rfl,Rfs.rN h⟩,⟨by simp,fun b hb=>by cases List.mem_singleton.mp hb;exact .inl ⟨_,aH⟩,fun b hb=>by cases List.mem_singleton.mp hb;exact .inl hp⟩⟩
def Gr (xs:List D) (k:Nat):List D:=(List.replicate k xs).flatten
def JV (x:D) (y:D) (P:DK):Prop:=match x,y with | .lst a,.int k=>(a.all D.bf=true∧(-(2 ^ 63)≤k∧k<2 ^ 63)∧a.length*k.toNat≤1000)∧P (.lst (Gr a k.toNat)) | _,_=>False
theorem wm {d:D} (h:d.bf=true):mS d.toV=true:=by cases d<;>first | rfl | cases h
def Ca (xs:List D) (P:DK):Prop:=match xs with | [x]=>(match x with | .tup ds=>P (.int ds.length) | x=>asL x fun ds=>P (.int ds.length)) | _=>False
theorem Rps.one {H:Hp}{x:D}{vs:List V} (h:Rps K H [x] vs):∃v,vs=[v]∧Rp K H x v:=by
  obtain ⟨fp,y,r,f1,f2,rfl,_,h1,⟨rfl,_⟩⟩:=h
  exact⟨y,rfl,f1,h1⟩
theorem eh:j0 K (fun xs H Q=>∃p ys,xs=[.ref p]∧(SqL K H p ys∨SqT K H p ys)∧Q (.int ys.length) H) Ca:=⟨fun xs P P' k h=>by
    unfold Ca at h ⊢
    revert h
    split
    · split
      · exact fun h=>k _ h
      · exact fun h=>by obtain ⟨ds,e,z⟩:=cB h;exact ja e (k _ z)
    · exact id,
  fun {H xs vs Q} r h=>by
    unfold Ca at h
    split at h
    · obtain ⟨v,rfl,r0⟩:=r.one
      split at h
      · obtain ⟨a,ys,fq,rfl,hs,hr⟩:=r0.tup
        refine⟨a,ys,rfl,.inr hs,?_⟩
        rw[hr.length]
        exact h _ H [] (Same.refl H) ⟨rfl,rfl⟩ Nw.nil
      · obtain ⟨ds,e,h⟩:=cB h
        obtain ⟨a,ys,fq,rfl,hs,hr⟩:=r0.seq e
        refine⟨a,ys,rfl,.inl hs,?_⟩
        rw[hr.length]
        exact h _ H [] (Same.refl H) ⟨rfl,rfl⟩ Nw.nil
    · exact h.elim⟩
theorem x8 {ds:List D}{P:DK}:Ca [.lst ds] P↔P (.int ds.length):=Iff.rfl
theorem yP {ds:List Int}{P:DK}:Ca [.scr ds] P↔P (.int ds.length):=by
  show P (.int ((ds.map D.int).length:Nat))↔_
  rw[List.length_map]
def iZ:List D→Option (List Int)
  | []=>some []
  | .int i::ds=>(iZ ds).map (i::·)
  | _=>none
theorem jQ:∀{ns:List Int},iZ (ns.map D.int)=some ns
  | []=>rfl
  | n::ns=>by rw[List.map_cons,iZ,jQ];rfl
theorem vK:∀{ds:List D}{ns:List Int},iZ ds=some ns→ds=ns.map D.int
  | [],ns,h=>by cases h;rfl
  | .int i::ds,ns,h=>by
    rw[iZ] at h
    cases e:iZ ds with
    | none=>rw[e] at h;cases h
    | some ms=>rw[e] at h;cases h;rw[vK e];rfl
  | .non::_,_,h=>by cases h
  | .bl _::_,_,h=>by cases h
  | .str _::_,_,h=>by cases h
  | .lst _::_,_,h=>by cases h
  | .tup _::_,_,h=>by cases h
  | .dic _::_,_,h=>by cases h
  | .dit _::_,_,h=>by cases h
  | .scr _::_,_,h=>by cases h
theorem Rfs.A5 {H:Hp}{ns:List Int}{vs:List V}{fp:List Addr} (h:Rfs K H (ns.map D.int) vs fp):vs=ns.map V.int:=by
  have hs:(ns.map D.int).all D.bf=true:=by rw[List.all_map,List.all_eq_true];exact fun _ _=>rfl
  rw[(h.mP hs).1,List.map_map]
  rfl
def zd (x:D) (P:List Int→Prop):Prop:=asL x fun ds=>match iZ ds with | some ns=>P ns | none=>False
theorem iL {x:D}{P:List Int→Prop} (h:zd x P):∃ns,x.items=some (ns.map D.int)∧P ns:=by
  obtain ⟨ds,e,h⟩:=cB h
  cases q:iZ ds with
  | none=>rw[q] at h;exact h.elim
  | some ns=>rw[q] at h;rw[vK q] at e;exact⟨ns,e,h⟩
theorem rH {x:D}{ns:List Int}{P:List Int→Prop} (e:x.items=some (ns.map D.int)) (h:P ns):zd x P:=by
  refine ja e ?_
  rw[jQ];exact h
def GG (xs:List D) (P:DK):Prop:=match xs with | [x]=>zd x fun ns=>P (.int ns.sum) | _=>False
theorem AN:j0 K (fun xs H Q=>∃(a:Addr) (ns:List Int),xs=[.ref a]∧SqL K H a (ns.map V.int)∧Q (.int ns.sum) H) GG:=⟨fun xs P P' k h=>by
    unfold GG at h ⊢
    revert h
    split
    · exact fun h=>by obtain ⟨ns,e,z⟩:=iL h;exact rH e (k _ z)
    · exact id,
  fun {H xs vs Q} r h=>by
    unfold GG at h
    split at h
    · obtain ⟨v,rfl,r0⟩:=r.one
      obtain ⟨ns,e,h⟩:=iL h
      obtain ⟨a,ys,fq,rfl,hs,hr⟩:=r0.seq e
      rw[hr.A5] at hs
      exact⟨a,ns,rfl,hs,h _ H [] (Same.refl H) ⟨rfl,rfl⟩ Nw.nil⟩
    · exact h.elim⟩
def xW (xs:List D) (P:DK):Prop:=match xs with | [x]=>asL x fun ds=>ds.all D.bf=true∧P (.lst ds) | _=>False
theorem zx:j0 K (fun xs H Q=>∃p ys,xs=[.ref p]∧(SqL K H p ys∨SqT K H p ys)∧∀l,H l=none→Q (.ref l) (upd H l (.lst ys))) xW:=⟨fun xs P P' k h=>by
    unfold xW at h ⊢
    revert h
    split
    · exact fun h=>by obtain ⟨ds,e,z⟩:=cB h;exact ja e ⟨z.1,k _ z.2⟩
    · exact id,
  fun {H xs vs Q} r h=>by
    unfold xW at h
    split at h
    · obtain ⟨v,rfl,r0⟩:=r.one
      obtain ⟨ds,e,hsc,h⟩:=cB h
      obtain ⟨a,ys,fq,rfl,hs,hr⟩:=r0.seq e
      obtain ⟨rfl,_⟩:=hr.mP hsc
      refine⟨a,_,rfl,.inl hs,fun l hl=>?_⟩
      obtain ⟨n1,n2,n3⟩:=JN (K:=K) hsc hl
      exact h _ _ _ n1 n2 n3
    · exact h.elim⟩
end
end L3
namespace L3
open PySem L2
open PyProof.Rows (Ordered)
section
variable {K:PySem.W.Frag}{Γ M:List Nat}{te ta tb:TE}{de da db:DE}
theorem bL {wi:TI}{di:DI}{g:TG}{dg:D→Dl→(Dl→Prop)→Prop}{k:Nat}{idx:List Nat} (hi:IT K [] wi di) (hg:GT K [] g dg) (he:EM K [] [] te de):EM K Γ [] (ql wi g te k idx) (lW di dg Gq de k idx):=by
  rw[p7];exact wD hi hg IG he
def D.tyn:D→Option String
  | .non=>some "NoneType" | .bl _=>some "bool" | .int _=>some "int" | .str _=>some "str" | .lst _=>some "list" | .tup _=>some "tuple" | .dic _=>some "dict" | .dit _=>some "dict" | .scr _=>none | .pin _ _=>none | .mem _=>none | .raw _=>none | .ins _ _ _=>none
theorem Rp.ty {H:Hp}{d:D}{v:V}{n:String} (h:Rp K H d v) (e:d.tyn=some n):nq K H v (.type n):=by
  obtain ⟨fp,h⟩:=h
  cases d with
  | non=>cases e;obtain ⟨rfl,_⟩:=h;exact .non
  | bl b=>cases e;obtain ⟨rfl,_⟩:=h;exact .bl _
  | int b=>cases e;obtain ⟨rfl,_⟩:=h;exact .int _
  | str b=>cases e;obtain ⟨rfl,_⟩:=h;exact .str _
  | lst ds=>cases e;obtain ⟨a,xs,fq,rfl,h2,_⟩:=h;exact .lst h2
  | tup ds=>cases e;obtain ⟨a,xs,rfl,h2,_⟩:=h;exact .tup h2
  | dic ds=>cases e;obtain ⟨a,rfl,h2,_⟩:=h;exact .dK h2
  | dit ds=>cases e;obtain ⟨a,rfl,h2,_⟩:=h;exact .dT h2
  | scr ns=>cases e
  | pin a d=>cases e
  | mem φ=>cases e
  | raw w=>cases e
  | ins C ns ds=>cases e
def isB (m n:String):Bool:=m == n || (m == "bool" && n == "int")
def v7 (n:String):Prop:=∀(K:PySem.W.Frag) (d:D) (m:String),d.tyn=some m→PySem.W.kitOne K (.type m) (.type n)=some (isB m n)
theorem Ba:v7 "int":=fun K d m e=>by cases d<;>cases e<;>first | exact mK | with_unfolding_all rfl
theorem y0:v7 "bool":=fun K d m e=>by cases d<;>cases e<;>first | exact mK | with_unfolding_all rfl
theorem yT:v7 "list":=fun K d m e=>by cases d<;>cases e<;>first | exact mK | with_unfolding_all rfl
theorem kit_tuple:v7 "tuple":=fun K d m e=>by cases d<;>cases e<;>first | exact mK | with_unfolding_all rfl
theorem AL:v7 "str":=fun K d m e=>by cases d<;>cases e<;>first | exact mK | with_unfolding_all rfl
def vIs (n:String) (da:DE) (δ:Dl) (P:DK):Prop:=da δ fun x=>match x.tyn with | some m=>P (.bl (isB m n)) | none=>False
theorem eN {n:String} (hk:v7 n) (ha:ER K Γ ta da):EM K Γ [] (tCB (fun xs H Q=>∃x n t b,xs=[x,.ty n]∧nq K H x t∧PySem.W.kitOne K t (.type n)=some b∧Q (.bl b) H) (fX ta (fX (tC (.ty n)) nO))) (vIs n da) :=
  ⟨fun δ P P' k h=>ha.mono _ _ _ (fun x z=>by
      revert z;split
      · exact fun z=>k _ z
      · exact id) h,
   fun {B0 fps δ σ H Q} o h=>ha.run o (ha.mono _ _ _ (fun x z v H1 s1 r1=>by
      split at z
      · rename_i m e
        exact⟨v,n,_,_,rfl,r1.ty e,hk K x m e,z _ H1 [] s1 ⟨rfl,rfl⟩ Nw.nil⟩
      · exact z.elim) h)⟩
mutual
def D.old:D→Option L2.D
  | .non=>some .non | .bl b=>some (.bl b) | .int i=>some (.int i) | .str x=>some (.str x)
  | .lst ds=>(D.olds ds).map L2.D.lst | .tup ds=>(D.olds ds).map L2.D.tup
  | .dic _=>none | .dit _=>none | .scr _=>none | .pin _ _=>none | .mem _=>none | .raw _=>none | .ins _ _ _=>none
def D.olds:List D→Option (List L2.D)
  | []=>some []
  | d::ds=>match D.old d,D.olds ds with | some x,some xs=>some (x::xs) | _,_=>none
end
mutual
theorem Rf.old {H:Hp}:∀{d:D}{d':L2.D}{v:V}{fp:List Addr},Rf K H d v fp→d.old=some d'→L2.Rf H d' v fp
  | .non,d',v,fp,h,e=>by rw[D.old] at e;cases e;rw[L2.Rf];exact h
  | .bl _,d',v,fp,h,e=>by rw[D.old] at e;cases e;rw[L2.Rf];exact h
  | .int _,d',v,fp,h,e=>by rw[D.old] at e;cases e;rw[L2.Rf];exact h
  | .str _,d',v,fp,h,e=>by rw[D.old] at e;cases e;rw[L2.Rf];exact h
  | .lst ds,d',v,fp,h,e=>by
    rw[D.old] at e
    cases q:D.olds ds with
    | none=>rw[q] at e;cases e
    | some es =>
      rw[q] at e;cases e
      obtain ⟨a,xs,fq,e1,e2,e3,h⟩:=h
      rw[L2.Rf]
      exact⟨a,xs,fq,e1,e2,e3,Rfs.old h q⟩
  | .tup ds,d',v,fp,h,e=>by
    rw[D.old] at e
    cases q:D.olds ds with
    | none=>rw[q] at e;cases e
    | some es =>
      rw[q] at e;cases e
      obtain ⟨a,xs,e1,e2,h⟩:=h
      rw[L2.Rf]
      exact⟨a,xs,e1,e2,Rfs.old h q⟩
  | .dic _,d',v,fp,h,e=>by rw[D.old] at e;cases e
  | .dit _,d',v,fp,h,e=>by rw[D.old] at e;cases e
  | .scr _,d',v,fp,h,e=>by rw[D.old] at e;cases e
  | .pin _ _,d',v,fp,h,e=>by rw[D.old] at e;cases e
  | .mem _,d',v,fp,h,e=>by rw[D.old] at e;cases e
  | .raw _,d',v,fp,h,e=>by rw[D.old] at e;cases e
  | .ins _ _ _,d',v,fp,h,e=>by rw[D.old] at e;cases e
theorem Rfs.old {H:Hp}:∀{ds:List D}{ds':List L2.D}{vs:List V}{fp:List Addr},Rfs K H ds vs fp→D.olds ds=some ds'→L2.Rfs H ds' vs fp
  | [],ds',vs,fp,h,e=>by rw[D.olds] at e;cases e;rw[L2.Rfs];exact h
  | d::ds,ds',vs,fp,h,e=>by
    rw[D.olds] at e
    obtain ⟨x,r,f1,f2,e1,e2,h1,h2⟩:=h
    cases q1:d.old with
    | none=>rw[q1] at e;simp at e
    | some x' =>
      cases q2:D.olds ds with
      | none=>rw[q1,q2] at e;simp at e
      | some xs' =>
        rw[q1,q2] at e
        cases e
        rw[L2.Rfs]
        exact⟨x,r,f1,f2,e1,e2,Rf.old h1 q1,Rfs.old h2 q2⟩
end
abbrev dI (xs:List Int):D:=.lst (xs.map D.int)
abbrev dT (t:List (List Int)):D:=.lst (t.map dI)
def EL (neg:Bool) (x:D) (y:D) (P:DK):Prop:=∃a b,x.old=some (.lst a)∧y.old=some (.lst b)∧L2.D.fu a=true∧L2.D.fu b=true∧L2.D.gn a≤60∧P (.bl (if neg then !L2.D.lF a b else L2.D.lF a b))
theorem xX {neg:Bool}:OpV K (CW neg) (EL neg):=⟨fun x y P P' k h=>by
    obtain ⟨a,b,h1,h2,h3,h4,h5,h⟩:=h
    exact⟨a,b,h1,h2,h3,h4,h5,k _ h⟩,
  fun {H x y v w Q} ⟨f1,r1⟩ ⟨f2,r2⟩ h=>by
    obtain ⟨a,b,h1,h2,h3,h4,h5,h⟩:=h
    exact⟨a,b,⟨f1,r1.old h1⟩,⟨f2,r2.old h2⟩,h3,h4,h5,h _ H [] (Same.refl H) ⟨rfl,rfl⟩ Nw.nil⟩⟩
theorem Ja:OpV K (CW false) (EL false):=xX
theorem GV:OpV K (CW true) (EL true):=xX
theorem vZ:∀{ns:List Int},D.olds (ns.map D.int)=some (ns.map L2.D.int)
  | []=>by rw[List.map_nil,D.olds];rfl
  | n::ns=>by rw[List.map_cons,D.olds,vZ,D.old];rfl
theorem Ai {ns:List Int}:(dI ns).old=some (L2.dI ns):=by rw[D.old,vZ];rfl
theorem vX:∀{t:List (List Int)},D.olds (t.map dI)=some (t.map L2.dI)
  | []=>by rw[List.map_nil,D.olds];rfl
  | n::ns=>by rw[List.map_cons,D.olds,vX,Ai];rfl
theorem EU {t:List (List Int)}:(dT t).old=some (L2.dT t):=by rw[D.old,vX];rfl
theorem vB {neg:Bool}{xs ys:List Int}{P:DK} (h:P (.bl (if neg then !decide (xs=ys) else decide (xs=ys)))):EL neg (dI xs) (dI ys) P :=
  ⟨_,_,Ai,Ai,D.j9 _,D.j9 _,by rw[D.mh];omega,by rw[D.qa];exact h⟩
theorem Cv {neg:Bool}{xs ys:List (List Int)}{P:DK} (h:P (.bl (if neg then !decide (xs=ys) else decide (xs=ys)))):EL neg (dT xs) (dT ys) P :=
  ⟨_,_,EU,EU,D.mM _,D.mM _,Nat.le_trans (D.qJ _) (by omega),by rw[D.vg];exact h⟩
def m5 (b:Bool) (xs:List D) (P:DK):Prop:=match xs with | [x]=>zd x fun ns=>ns.length<64∧∀ms:List Int,ms.Perm ns→Ordered b ms→P (dI ms) | _=>False
theorem Rf.ofInts {H:Hp}{p:Addr}{ms:List Int} (e:H p=some (.lst (ms.map V.int))):Rf K H (dI ms) (.ref p) [p]:=⟨p,_,[],rfl,e,rfl,Rfs.ofInts⟩
theorem Nw.one {H H':Hp}{p:Addr}{xs:List V} (h:H p=none) (e:H' p=some (.lst xs)):Nw H H' nf [] [p]:=⟨by simp,fun b hb=>by cases List.mem_singleton.mp hb;exact .inl ⟨_,e⟩,fun b hb=>by cases List.mem_singleton.mp hb;exact .inl h⟩
theorem xD {u:TA}{dr:DA}{b:Bool} (hr:AR K Γ u dr):EM K Γ [] (JB (fun xs zs H Q=>∃(a:Addr) (ns:List Int) (b:Bool),xs=[.ref a]∧zs=[.bl b]∧SqL K H a (ns.map V.int)∧ns.length<64 ∧
    ∀(l:Addr) (ms:List Int),H l=none→ms.Perm ns→Ordered b ms→Q (.ref l) (upd H l (.lst (ms.map V.int)))) u (fX (tC (.bl b)) nO)) (uh (m5 b) dr):=by
  have mono:bc (m5 b):=fun xs P P' k h=>by
    unfold m5 at h ⊢
    revert h
    split
    · exact fun h=>by obtain ⟨ns,e,z⟩:=iL h;exact rH e ⟨z.1,fun ms a b=>k _ (z.2 ms a b)⟩
    · exact id
  refine⟨fun δ P P' k h=>hr.mono _ _ _ (fun y z=>mono _ _ _ k z) h,fun {B0 fps δ σ H Q} o q=>hr.run o (hr.mono _ _ _ (fun xs z vs H1 s1 r1=>?_) q)⟩
  unfold m5 at z
  split at z
  · obtain ⟨v,rfl,r0⟩:=r1.one
    obtain ⟨ns,e,z⟩:=iL z
    obtain ⟨a,ys,fq,rfl,hs,hr⟩:=r0.seq e
    rw[hr.A5] at hs
    refine⟨a,ns,b,rfl,rfl,hs,z.1,fun l ms hl hp ho=>?_⟩
    have s2:Same H1 (upd H1 l (.lst (ms.map V.int))):=Same.o9 hl
    exact z.2 ms hp ho _ _ [l] (s1.trans s2) (Rf.ofInts aH) ((Nw.one hl aH).any.later s1)
  · exact z.elim
def HD (xs:List D) (P:DK):Prop:=asI xs fun i=>P (.int (if i<0 then -i else i))
theorem Bi:j0 K (fun xs H Q=>∃i,xs=[.int i]∧Q (.int (if i<0 then -i else i)) H) HD:=⟨fun xs P P' k h=>by obtain ⟨i,rfl,z⟩:=oK h;exact k _ z,
  fun {H xs vs Q} r h=>by obtain ⟨i,rfl,z⟩:=oK h;exact⟨i,r.ints1,z _ H [] (Same.refl H) ⟨rfl,rfl⟩ Nw.nil⟩⟩
def D6 (xs:List D) (P:DK):Prop:=DC xs fun i j=>P (.int (if j>i then j else i))
def D5 (xs:List D) (P:DK):Prop:=DC xs fun i j=>P (.int (if j<i then j else i))
theorem Hs:j0 K (fun xs H Q=>∃i j,xs=[.int i,.int j]∧Q (.int (if j>i then j else i)) H) D6:=⟨fun xs P P' k h=>by obtain ⟨i,j,rfl,z⟩:=pC h;exact k _ z,
  fun {H xs vs Q} r h=>by obtain ⟨i,j,rfl,z⟩:=pC h;exact⟨i,j,r.ints2,z _ H [] (Same.refl H) ⟨rfl,rfl⟩ Nw.nil⟩⟩
theorem ID:j0 K (fun xs H Q=>∃i j,xs=[.int i,.int j]∧Q (.int (if j<i then j else i)) H) D5:=⟨fun xs P P' k h=>by obtain ⟨i,j,rfl,z⟩:=pC h;exact k _ z,
  fun {H xs vs Q} r h=>by obtain ⟨i,j,rfl,z⟩:=pC h;exact⟨i,j,r.ints2,z _ H [] (Same.refl H) ⟨rfl,rfl⟩ Nw.nil⟩⟩
def D.uk:D→Bool | .non=>true | .raw w=>decide (w=.non) | _=>false
theorem Rp.Gi {H:Hp}{d:D}{v:V} (h:Rp K H d v):decide (v=.non)=d.uk:=by
  obtain ⟨fp,h⟩:=h
  cases d with
  | non=>obtain ⟨rfl,_⟩:=h;rfl
  | bl b=>obtain ⟨rfl,_⟩:=h;rfl
  | int b=>obtain ⟨rfl,_⟩:=h;rfl
  | str b=>obtain ⟨rfl,_⟩:=h;rfl
  | lst ds=>obtain ⟨a,xs,fq,rfl,_⟩:=h;rfl
  | tup ds=>obtain ⟨a,xs,rfl,_⟩:=h;rfl
  | dic ds=>obtain ⟨a,rfl,_⟩:=h;rfl
  | dit ds=>obtain ⟨a,rfl,_⟩:=h;rfl
  | scr ns=>obtain ⟨a,rfl,_⟩:=h;rfl
  | pin a d=>obtain ⟨rfl,_⟩:=h;rfl
  | mem φ=>obtain ⟨a,rfl,_⟩:=h;rfl
  | raw w=>obtain ⟨rfl,_⟩:=h;rfl
  | ins C ns ds=>obtain ⟨a,dx,xs,fq,rfl,_⟩:=h;rfl
def Co (neg:Bool) (x:D) (y:D) (P:DK):Prop:=match y with | .non=>P (.bl (if neg then !x.uk else x.uk)) | _=>False
theorem BU {neg:Bool}:∀x y (P P':DK),(∀z,P z→P' z)→Co neg x y P→Co neg x y P':=fun x y P P' k h=>by
  unfold Co at h ⊢;revert h;split<;>first | exact k _ | exact id
theorem IX:OpV K (fun x y H Q=>y=.non∧Q (.bl (!decide (x=.non))) H) (Co true):=⟨BU,fun {H x y v w Q} r1 r2 h=>by
  unfold Co at h
  split at h
  · refine⟨r2.choose_spec.1,?_⟩
    rw[r1.Gi];exact h _ H [] (Same.refl H) ⟨rfl,rfl⟩ Nw.nil
  · exact h.elim⟩
def Jn (da db:DE) (δ:Dl) (P:List D→Prop):Prop:=da δ fun x=>db δ fun y=>asL x fun xs=>asL y fun ys=>xs.length=ys.length∧P ((xs.zip ys).map fun p=>.tup [p.1,p.2])
theorem Ei (ha:ES K Γ ta da) (hb:ES K Γ tb db):IT K Γ (HC K (fX ta (fX tb nO))) (Jn da db) :=
  ⟨fun δ P P' k h=>ha.mono _ _ _ (fun x z=>hb.mono _ _ _ (fun y z=>by
      obtain ⟨xs,e1,z⟩:=cB z;obtain ⟨ys,e2,z⟩:=cB z;exact ja e1 (ja e2 ⟨z.1,k _ z.2⟩)) z) h,
   fun {B0 fps δ σ H R} o h=>ha.run o (ha.mono _ _ _ (fun x z v H1 f1 s1 r1 n1=>hb.run (o.same s1) (hb.mono _ _ _ (fun y z w H2 f2 s2 r2 n2=>by
    obtain ⟨xs,ex,z⟩:=cB z
    obtain ⟨ys,ey,z⟩:=cB z
    have r1':=r1.same s2
    obtain ⟨a,as,fa,rfl,hsa,hra,hina⟩:=r1'.seq ex
    obtain ⟨b,bs,fb,rfl,hsb,hrb,hinb⟩:=r2.seq ey
    refine⟨a,b,rfl,⟨as,hsa⟩,⟨bs,hsb⟩,z.2 (Itz K a b) H2 (f1++f2) (s1.trans s2) (fun j hj c hc=>(List.mem_append.mp hc).elim (n1 j hj c) (n2 j hj c)) fun B sB ag im=>?_⟩
    have rBa:Rf K B x (.ref a) f1:=r1'.mono (fun c hc u e=>by rw[ag c (List.mem_append_left _ hc)];exact e) im
    have rBb:Rf K B y (.ref b) f2:=r2.mono (fun c hc u e=>by rw[ag c (List.mem_append_right _ hc)];exact e) im
    obtain ⟨a',as',fa',e1,hsa',hra',_⟩:=rBa.seq ex
    obtain ⟨b',bs',fb',e2,hsb',hrb',_⟩:=rBb.seq ey
    cases e1;cases e2
    have sq:∀{c:Addr}{zs:List V}{H3:Hp},SqL K B c zs→Same B H3→SqL K H3 c zs:=fun h s3=>s3.seq h
    have la:=hra'.length
    have lb:=hrb'.length
    have hl:=z.1
    have hlen:((xs.zip ys).map fun p=>D.tup [p.1,p.2]).length=xs.length:=by simp [hl]
    refine⟨fun {i H3} s3 hi=>?_,fun {i H3 u H4 d} s3 hy hd=>?_,fun {i H3} s3 hi=>?_⟩
    · rw[hlen] at hi
      exact⟨as',bs',as'[i]'(by omega),bs'[i]'(by omega),sq hsa' s3,sq hsb' s3,by simp [la,hi],by simp [lb,← hl,hi]⟩
    · obtain ⟨p,u1,u2,rfl,hp,rfl,h1,h2⟩:=hy
      have q1:=h1 as' (sq hsa' s3)
      have q2:=h2 bs' (sq hsb' s3)
      obtain ⟨d1,g1,e1,t1,_⟩:=hra'.get' q1
      obtain ⟨d2,g2,e2,t2,_⟩:=hrb'.get' q2
      have ez:(xs.zip ys)[i]?=some (d1,d2):=List.getElem?_zip_eq_some.mpr ⟨e1,e2⟩
      rw[List.getElem?_map,ez] at hd
      cases hd
      have s4:Same H3 (upd H3 p (.tup [u1,u2])):=Same.o9 hp
      refine⟨s4,g1++g2,⟨p,_,rfl,aH,u1,[u2],g1,g2,rfl,rfl,(t1.same s3).same s4,u2,[],g2,[],rfl,(List.append_nil _).symm,(t2.same s3).same s4,rfl,rfl⟩,fun c hc=>?_⟩
      rcases List.mem_append.mp hc with w | w
      · obtain ⟨u,hu,_⟩:=t1.dom c w;rw[hu];intro z;cases z
      · obtain ⟨u,hu,_⟩:=t2.dom c w;rw[hu];intro z;cases z
    · rw[hlen] at hi
      exact⟨as',bs',sq hsa' s3,sq hsb' s3,.inl (by omega)⟩) z)) h)⟩
end
theorem aL {K:PySem.W.Frag}{S:DSp}{n:Nat} (hS:∀ds P,S ds P→ds.length=n) {vs:List V}{H:Hp}{Q:VK}{E:XK} (h:spP K S vs H Q E):vs.length=n:=by
  obtain ⟨ds,⟨fp,r⟩,_,h⟩:=h
  rw[r.length];exact hS _ _ h
theorem GO {K:PySem.W.Frag}{S:DSp}{n:Nat} (hS:∀ds P,S ds P→ds.length=n) {vs:List V}{H:Hp}{Q:VK}{E:XK} (h:spR K S vs H Q E):vs.length=n:=by
  obtain ⟨ds,⟨fp,r⟩,_,h⟩:=h
  rw[r.length];exact hS _ _ h
theorem Fd {dg:D→Dl→(Dl→Prop)→Prop}{db:DS}{E:cC} (I:Nat→Dl→Prop) {ds:List D}{δ:Dl} (h0:I 0 δ)
    (hs:∀i d δ (N:Dl→Prop),ds[i]?=some d→I i δ→(∀δ',I (i+1) δ'→N δ')→dg d δ fun δ'=>db { nx:=N,ct:=N,bk:=E.nx,rt:=E.rt } δ')
    (hd:∀δ,I ds.length δ→E.nx δ):nv dg db E ds δ:=by
  have key:∀(n:Nat) (i:Nat) (δ:Dl),ds.length - i=n→i≤ds.length→I i δ→nv dg db E (ds.drop i) δ:=by
    intro n
    induction n with
    | zero =>
      intro i δ h1 h2 hI
      have:i=ds.length:=by omega
      subst this
      rw[List.drop_length]
      exact hd δ hI
    | succ n ih =>
      intro i δ h1 h2 hI
      have hlt:i<ds.length:=by omega
      rw[List.drop_eq_getElem_cons hlt]
      exact hs i _ δ _ (List.getElem?_eq_getElem hlt) hI fun δ' h'=>ih (i+1) δ' (by omega) hlt h'
  have:=key ds.length 0 δ (by omega) (Nat.zero_le _) h0
  rwa [List.drop_zero] at this
end L3
namespace L3
open PySem L2
end L3
namespace L3
open PySem
open L2 hiding D Rf Rfs Rp dI dT
section
variable {di:DI}{dg:D→Dl→(Dl→Prop)→Prop}{dt:DT}{de:DE}{k:Nat}{idx:List Nat}{δ:Dl}{P:DK}
theorem rT {α:Type}{as:List α}{f:α→D}{p:α→Bool}{g:α→D} (hdi:∀R:List D→Prop,R (as.map f)→di δ R) (hl:as.length≤1000)
    (hb:∀a∈as,∀R:List D→Prop,R (if p a then [g a] else [])→jG dg dt de (eS k idx δ) (f a) R) (h:P (.lst ((as.filter p).map g))):lW di dg dt de k idx δ P:=by
  refine hdi _ ⟨by rw[List.length_map];exact hl,?_⟩
  have key:∀(as:List α) (acc:List D),(∀a∈as,∀R:List D→Prop,R (if p a then [g a] else [])→jG dg dt de (eS k idx δ) (f a) R)→P (.lst (acc++(as.filter p).map g))→vO (jG dg dt de (eS k idx δ)) (as.map f) acc fun ys=>P (.lst ys):=by
    intro as
    induction as with
    | nil=>intro acc _ h;rw[List.filter_nil,List.map_nil,List.append_nil] at h;exact h
    | cons a as ih =>
      intro acc hb h
      refine hb a List.mem_cons_self _ (ih _ (fun x hx=>hb x (List.mem_cons_of_mem _ hx)) ?_)
      by_cases hp:p a=true
      · rw[if_pos hp,List.append_assoc];rwa [List.filter_cons_of_pos hp] at h
      · rw[if_neg hp,List.append_nil];rwa [List.filter_cons_of_neg hp] at h
  exact key as [] hb h
theorem dP {α:Type}{as:List α}{f:α→D}{g:α→D} (hdi:∀R:List D→Prop,R (as.map f)→di δ R) (hl:as.length≤1000)
    (hb:∀a∈as,∀R:List D→Prop,R [g a]→jG dg dt de (eS k idx δ) (f a) R) (h:P (.lst (as.map g))):lW di dg dt de k idx δ P:=by
  refine rT (p:=fun _=>true) hdi hl (fun a ha R h=>hb a ha R h) ?_
  rw[List.filter_eq_self.mpr (fun _ _=>rfl)]
  exact h
theorem qx {ns:List Int}{g:Int→D} (hdi:∀R:List D→Prop,R (ns.map D.int)→di δ R) (hl:ns.length≤1000)
    (hb:∀n∈ns,∀R:List D→Prop,R [g n]→jG dg dt de (eS k idx δ) (.int n) R) (h:P (.lst (ns.map g))):lW di dg dt de k idx δ P:=dP hdi hl hb h
theorem zW {ns:List Int}{p:Int→Bool}{g:Int→D} (hdi:∀R:List D→Prop,R (ns.map D.int)→di δ R) (hl:ns.length≤1000)
    (hb:∀n∈ns,∀R:List D→Prop,R (if p n then [g n] else [])→jG dg dt de (eS k idx δ) (.int n) R) (h:P (.lst ((ns.filter p).map g))):lW di dg dt de k idx δ P:=rT hdi hl hb h
theorem tZ {lo:Int}{n:Nat}{g:Nat→D} (hdi:∀R:List D→Prop,R (qN lo n)→di δ R) (hl:n≤1000)
    (hb:∀i,i<n→∀R:List D→Prop,R [g i]→jG dg dt de (eS k idx δ) (.int (lo+(i:Int))) R) (h:P (.lst ((List.range n).map g))):lW di dg dt de k idx δ P :=
  dP (as:=List.range n) (f:=fun (k:Nat)=>D.int (lo+(k:Int))) hdi (by rw[List.length_range];exact hl) (fun a ha=>hb a (List.mem_range.mp ha)) h
theorem BI {lo:Int}{n:Nat}{p:Nat→Bool}{g:Nat→D} (hdi:∀R:List D→Prop,R (qN lo n)→di δ R) (hl:n≤1000)
    (hb:∀i,i<n→∀R:List D→Prop,R (if p i then [g i] else [])→jG dg dt de (eS k idx δ) (.int (lo+(i:Int))) R) (h:P (.lst (((List.range n).filter p).map g))):lW di dg dt de k idx δ P :=
  rT (as:=List.range n) (f:=fun (k:Nat)=>D.int (lo+(k:Int))) hdi (by rw[List.length_range];exact hl) (fun a ha=>hb a (List.mem_range.mp ha)) h
theorem ng {t:List (List Int)}{g:List Int→D} (hdi:∀R:List D→Prop,R (t.map dI)→di δ R) (hl:t.length≤1000)
    (hb:∀r∈t,∀R:List D→Prop,R [g r]→jG dg dt de (eS k idx δ) (dI r) R) (h:P (.lst (t.map g))):lW di dg dt de k idx δ P:=dP hdi hl hb h
variable {db:DS}{E:cC}
theorem dF {α:Type}{as:List α}{f:α→D} (I:Nat→Dl→Prop) (h0:I 0 δ)
    (hs:∀i a δ (N:Dl→Prop),as[i]?=some a→I i δ→(∀δ',I (i+1) δ'→N δ')→dg (f a) δ fun δ'=>db { nx:=N,ct:=N,bk:=E.nx,rt:=E.rt } δ')
    (hd:∀δ,I as.length δ→E.nx δ):nv dg db E (as.map f) δ:=by
  refine Fd I h0 (fun i d δ N e hI hN=>?_) (fun δ hI=>hd δ (by rwa [List.length_map] at hI))
  rw[List.getElem?_map] at e
  cases q:as[i]? with
  | none=>rw[q] at e;cases e
  | some a=>rw[q] at e;cases e;exact hs i a δ N q hI hN
theorem tT {lo:Int}{n:Nat} (I:Nat→Dl→Prop) (h0:I 0 δ)
    (hs:∀i δ (N:Dl→Prop),i<n→I i δ→(∀δ',I (i+1) δ'→N δ')→dg (.int (lo+(i:Int))) δ fun δ'=>db { nx:=N,ct:=N,bk:=E.nx,rt:=E.rt } δ')
    (hd:∀δ,I n δ→E.nx δ):nv dg db E (qN lo n) δ:=by
  refine dF (as:=List.range n) (f:=fun (k:Nat)=>D.int (lo+(k:Int))) I h0 (fun i a δ N e hI hN=>?_) (fun δ hI=>hd δ (by rwa [List.length_range] at hI))
  obtain ⟨h1,h2⟩:=List.getElem?_eq_some_iff.mp e
  rw[List.getElem_range] at h2
  subst h2
  exact hs i δ N (by simpa using h1) hI hN
end
theorem Jg {ns:List Int}{i:Int} (h0:0≤i) (h:i<ns.length):atI (ns.map D.int) i=some (.int (ns.getD i.toNat 0)):=by
  unfold atI ixN
  rw[if_pos h0,List.length_map,if_pos h]
  show (ns.map D.int)[i.toNat]?=_
  rw[List.getElem?_map,List.getD_eq_getElem?_getD]
  have:i.toNat<ns.length:=by omega
  rw[List.getElem?_eq_getElem this]
  rfl
theorem nh {ns:List Int}:(ns.map D.int).all D.bf=true:=by rw[List.all_map,List.all_eq_true];exact fun _ _=>rfl
theorem j6 {n:Nat}{i:Int} (h0:0≤i) (h:i<n):ixN n i=some i.toNat:=by unfold ixN;rw[if_pos h0,if_pos h]
theorem Hq {ns:List Int}{j:Nat}{v:Int}:(ns.map D.int).set j (.int v)=(ns.set j v).map D.int:=(List.map_set ..).symm
theorem BA {ns:List Int}{v:Int}:ns.map D.int++[.int v]=(ns++[v]).map D.int:=by simp
theorem emod_lt {x n:Int} (h:0<n):0≤x % n∧x % n<n:=⟨Int.emod_nonneg x (by omega),Int.emod_lt_of_pos x h⟩
theorem yH {ns:List Int}{lo hi:Option Int}:∃ms:List Int,cutD (ns.map D.int) lo hi=ms.map D.int∧ms=(ns.drop (HT.sIx ns.length 0 lo)).take (HT.sIx ns.length ns.length hi - HT.sIx ns.length 0 lo):=by
  refine⟨_,?_,rfl⟩
  unfold cutD
  rw[List.length_map,← List.map_drop,← List.map_take]
section
variable {P:DK}
def asO (o:Option D) (P:DK):Prop:=match o with | some d=>P d | none=>False
theorem x6 {d:D}:asO (some d) P↔P d:=Iff.rfl
theorem zS {o:Option D}{d:D} (h:o=some d):asO o P↔P d:=by rw[h];rfl
theorem EI {k:Bool}{Q:Bool→Prop}:asB (.bl k) Q↔Q k:=Iff.rfl
theorem A9 {g:Int→Int→D}{i j:Int}:vI0 g (.int i) (.int j) P↔P (g i j):=Iff.rfl
theorem Ed {C:Int→Int→Prop}{g:Int→Int→D}{i j:Int}:vI C g (.int i) (.int j) P↔C i j∧P (g i j):=Iff.rfl
theorem Fq {g:Int→D}{i:Int}:vU g (.int i) P↔P (g i):=Iff.rfl
theorem wq {i:Int}{Q:Int→Prop}:asI [.int i] Q↔Q i:=Iff.rfl
theorem yM {i j:Int}{Q:Int→Int→Prop}:DC [.int i,.int j] Q↔Q i j:=Iff.rfl
theorem BH {ds:List D}{Q:List D→Prop}:asL (.lst ds) Q↔Q ds:=Iff.rfl
theorem Bj {ns:List Int}{Q:List D→Prop}:asL (.scr ns) Q↔Q (ns.map D.int):=Iff.rfl
theorem yL {ds:List D}{i:Int}:uN (.lst ds) (.int i) P↔asO (atI ds i) P:=Iff.rfl
theorem yO {ns:List Int}{i:Int}:uN (.scr ns) (.int i) P↔asO (atI (ns.map D.int) i) P:=Iff.rfl
theorem yk {ds:List D}{i:Int}:qw (.tup ds) (.int i) P↔asO (atI ds i) P:=Iff.rfl
theorem xR {ds:List D}:Ca [.tup ds] P↔P (.int ds.length):=Iff.rfl
theorem zg {neg:Bool}{x:D}:Co neg x .non P↔P (.bl (if neg then !x.uk else x.uk)):=Iff.rfl
theorem zt {a b:List D}:JZ (.lst a) (.lst b) P↔(a.all D.bf=true∧b.all D.bf=true∧a.length+b.length≤1000)∧P (.lst (a++b)):=Iff.rfl
theorem y3 {a:List D}{k:Int}:JV (.lst a) (.int k) P↔(a.all D.bf=true∧(-(2 ^ 63)≤k∧k<2 ^ 63)∧a.length*k.toNat≤1000)∧P (.lst (Gr a k.toNat)):=Iff.rfl
theorem wc {ds:List D}:xW [.lst ds] P↔ds.all D.bf=true∧P (.lst ds):=Iff.rfl
theorem vz {ns:List Int}:xW [.scr ns] P↔P (dI ns):=by
  show ((ns.map D.int).all D.bf=true∧P _)↔_
  rw[nh];exact⟨fun h=>h.2,fun h=>⟨rfl,h⟩⟩
theorem vq {ns:List Int}:GG [dI ns] P↔P (.int ns.sum):=by
  show (match iZ (ns.map D.int) with | some ns=>P (.int ns.sum) | none=>False)↔_
  rw[jQ]
theorem jx {ns:List Int}{Q:List Int→Prop}:zd (dI ns) Q↔Q ns:=by
  show (match iZ (ns.map D.int) with | some ns=>Q ns | none=>False)↔_
  rw[jQ]
theorem D3 {g:List D→Dl→(Dl→Prop)→Prop}{n:Nat}{ds:List D}{δ:Dl}{Q:Dl→Prop}:Bu n g (.tup ds) δ Q↔ds.length=n∧g ds δ Q:=Iff.rfl
theorem yw {g:D→Dl→(Dl→Prop)→Prop}{gs:List D→Dl→(Dl→Prop)→Prop}{x:D}{xs:List D}{δ:Dl}{Q:Dl→Prop}:DL g gs (x::xs) δ Q↔g x δ fun δ'=>gs xs δ' Q:=Iff.rfl
theorem Bv {δ:Dl}{Q:Dl→Prop}:G0 [] δ Q↔Q δ:=Iff.rfl
theorem AU {i:Nat}{δ:Dl}{ds:List D}{Q:List D→Prop} (h:δ[i]?=some (some (.lst ds))):qM δ i Q↔Q ds:=by unfold qM;rw[h]
theorem Bt {i:Int}:(D.int i).tyn=some "int":=rfl
theorem DZ {i:Bool}:(D.bl i).tyn=some "bool":=rfl
theorem Av {i:List D}:(D.lst i).tyn=some "list":=rfl
theorem Aw {i:List D}:(D.tup i).tyn=some "tuple":=rfl
theorem Au {i:Str}:(D.str i).tyn=some "str":=rfl
theorem Bw:D.non.tyn=some "NoneType":=rfl
theorem Eg:isB "int" "int" = true:=rfl
theorem Eh:isB "int" "bool" = false:=rfl
theorem CM:isB "list" "list" = true:=rfl
theorem D9:isB "tuple" "tuple" = true:=rfl
theorem DG:isB "str" "str" = true:=rfl
theorem EE:isB "bool" "bool" = true:=rfl
theorem DF:isB "bool" "int" = true:=rfl
theorem EJ:isB "int" "list" = false:=rfl
theorem CH:isB "NoneType" "list" = false:=rfl
end
end L3
namespace L2
open PySem PySem.Spec PyProof.Rows
section
variable {X:Cx}{K:PySem.W.Frag}
theorem Cu (hK:X.K=K) (hc:X.calm=true):fR X (.builtin "min") (fun xs H Q=>∃(a:Addr) (ns:List Int),xs=[.ref a]∧SqL K H a (ns.map V.int)∧0<ns.length∧∀M,M∈ns→(∀x∈ns,M≤x)→Q (.int M) H):=by
  subst hK
  intro pins s σ H xs us Q I r h
  obtain ⟨a,ns,rfl,hS,hne,q⟩:=h
  obtain ⟨u,rfl,ru⟩:=vals1 r
  obtain rfl:u=Value.ref a:=ru
  obtain ⟨its,rv,pl,hz⟩:=I.list hS
  have hi:=mX rv
  obtain ⟨xs',e⟩:=hi.allInts.items
  have hl:s.heap.IsList a (intItems xs'):=by rw[← e];exact pl.isList
  have hns:ns=xs'.toList.map (·.1):=by rw[← hi.numsOf,← nums_intItems,← e]
  have hsz:0<xs'.size:=by
    have h3:=hne;rw[hns,List.length_map,Array.length_toList] at h3;exact h3
  refine min_intList (I.ok.hd hc) hl hsz fun v h' tk hv hk=>?_
  obtain ⟨t,rfl⟩:=intItems_at hv
  obtain ⟨h1,h2⟩:=argBest_lt (numAt xs') (xs'.size - 1)
  refine⟨.int _,H,I.kept hk,⟨t,rfl⟩,q _ ?_ fun b hb=>?_⟩
  · rw[hns,numAt_eq];exact getD_mem (by rw[List.length_map,Array.length_toList];omega)
  · rw[hns] at hb
    obtain ⟨j,hj,rfl⟩:=mem_getD hb
    rw[List.length_map,Array.length_toList] at hj
    rw[← numAt_eq];exact h2 j (by omega)
theorem Cg (hK:X.K=K) (hc:X.calm=true):fR X (.builtin "max") (fun xs H Q=>∃(a:Addr) (ns:List Int),xs=[.ref a]∧SqL K H a (ns.map V.int)∧0<ns.length∧∀M,M∈ns→(∀x∈ns,x≤M)→Q (.int M) H):=by
  subst hK
  intro pins s σ H xs us Q I r h
  obtain ⟨a,ns,rfl,hS,hne,q⟩:=h
  obtain ⟨u,rfl,ru⟩:=vals1 r
  obtain rfl:u=Value.ref a:=ru
  obtain ⟨its,rv,pl,hz⟩:=I.list hS
  have hi:=mX rv
  obtain ⟨xs',e⟩:=hi.allInts.items
  have hl:s.heap.IsList a (intItems xs'):=by rw[← e];exact pl.isList
  have hns:ns=xs'.toList.map (·.1):=by rw[← hi.numsOf,← nums_intItems,← e]
  have hsz:0<xs'.size:=by
    have h3:=hne;rw[hns,List.length_map,Array.length_toList] at h3;exact h3
  refine max_intList (I.ok.hd hc) hl hsz fun v h' tk hv hk=>?_
  obtain ⟨t,rfl⟩:=intItems_at hv
  obtain ⟨h1,h2⟩:=argBest_gt (numAt xs') (xs'.size - 1)
  refine⟨.int _,H,I.kept hk,⟨t,rfl⟩,q _ ?_ fun b hb=>?_⟩
  · rw[hns,numAt_eq];exact getD_mem (by rw[List.length_map,Array.length_toList];omega)
  · rw[hns] at hb
    obtain ⟨j,hj,rfl⟩:=mem_getD hb
    rw[List.length_map,Array.length_toList] at hj
    rw[← numAt_eq];exact h2 j (by omega)
theorem v5:∀{bs:List Bool}{its:List Value},Vals (bs.map V.bl) its→LSm.BoolsAre its bs
  | [],_,.nil=>.nil
  | b::bs,_,.cons r t=>by
    cases (show _=Value.bool b from r)
    exact .cons b (v5 t)
theorem kI (hK:X.K=K) (hc:X.calm=true):fR X (.builtin "all") (fun xs H Q=>∃(a:Addr) (bs:List Bool),xs=[.ref a]∧SqL K H a (bs.map V.bl)∧Q (.bl (bs.all id)) H):=by
  subst hK
  intro pins s σ H xs us Q I r h
  obtain ⟨l,bs,rfl,hS,q⟩:=h
  obtain ⟨u,rfl,ru⟩:=vals1 r
  obtain rfl:u=Value.ref l:=ru
  obtain ⟨vs,rv,pl,hz⟩:=I.list hS
  have hb:=v5 rv
  have hl:=pl.isList
  have hlt:l<s.heap.objs.size:=by obtain ⟨_,e,_⟩:=hl;exact Heap.lt_size e
  refine PySem.call_all_walk (wpAny_pyIter_list hl ?_)
  refine⟨s.heap.objs.size,[s.heap.objs.size,l],[s.heap.objs.size],vs.toArray.size,_,_,fun i=>(bs[i]?).getD true,rfl,Walks.list (A:=X.A.in1) (I.ok.hd hc) _ l (Nat.ne_of_lt hlt) vs.toArray,
    ⟨⟨_,Heap.get?_push_size _ rfl,rfl,rfl⟩,hl.push _⟩,fun i v s' Q' E' hP hQ=>?_,fun h' tk hk=>?_⟩
  · obtain ⟨b,e,rfl⟩:=hb.get i v (by simpa using hP)
    simp only[e,Option.getD_some] at hQ
    exact wpAny_truthy_bool hQ
  · have e:((List.range vs.toArray.size).all fun i=>(bs[i]?).getD true)=bs.all id:=by
      rw[List.size_toArray,hb.length];exact LSm.range_all bs
    rw[e]
    exact⟨.bl _,H,I.kept (LSm.kept_iter hk),rfl,q⟩
end
end L2
namespace L2
open PySem PySem.Spec PyProof.Rows
section
variable {X:Cx}{K:PySem.W.Frag}
end
end L2
namespace L2
open PySem PySem.Spec PyProof.Rows
section
variable {X:Cx}
end
end L2
namespace L3
open PySem
open L2 hiding D Rf Rfs Rp dI dT
section
variable {K:PySem.W.Frag}{ρ:Bool}{Γr Γl Γ Γ1 Γ2 Γn M:List Nat}{t u:TS}{te ta tb tx t1 t2:TE}{de da db dx d1 d2:DE}{d e:DS}
variable {B0:Hp}{fps:Nat→List Addr}{δ:Dl}{σ:St}{H H':Hp}
def BC (xs:List D) (P:DK):Prop:=match xs with | [x]=>zd x fun ns=>0<ns.length∧∀M,M∈ns→(∀x∈ns,M≤x)→P (.int M) | _=>False
def Bc (xs:List D) (P:DK):Prop:=match xs with | [x]=>zd x fun ns=>0<ns.length∧∀M,M∈ns→(∀x∈ns,x≤M)→P (.int M) | _=>False
theorem Ie:j0 K (fun xs H Q=>∃(a:Addr) (ns:List Int),xs=[.ref a]∧SqL K H a (ns.map V.int)∧0<ns.length∧∀M,M∈ns→(∀x∈ns,M≤x)→Q (.int M) H) BC:=⟨fun xs P P' k h=>by
    unfold BC at h ⊢
    revert h
    split
    · exact fun h=>by obtain ⟨ns,e,z⟩:=iL h;exact rH e ⟨z.1,fun M a b=>k _ (z.2 M a b)⟩
    · exact id,
  fun {H xs vs Q} r h=>by
    unfold BC at h
    split at h
    · obtain ⟨v,rfl,r0⟩:=r.one
      obtain ⟨ns,e,h⟩:=iL h
      obtain ⟨a,ys,fq,rfl,hs,hr⟩:=r0.seq e
      rw[hr.A5] at hs
      exact⟨a,ns,rfl,hs,h.1,fun M h1 h2=>h.2 M h1 h2 _ H [] (Same.refl H) ⟨rfl,rfl⟩ Nw.nil⟩
    · exact h.elim⟩
theorem HH:j0 K (fun xs H Q=>∃(a:Addr) (ns:List Int),xs=[.ref a]∧SqL K H a (ns.map V.int)∧0<ns.length∧∀M,M∈ns→(∀x∈ns,x≤M)→Q (.int M) H) Bc:=⟨fun xs P P' k h=>by
    unfold Bc at h ⊢
    revert h
    split
    · exact fun h=>by obtain ⟨ns,e,z⟩:=iL h;exact rH e ⟨z.1,fun M a b=>k _ (z.2 M a b)⟩
    · exact id,
  fun {H xs vs Q} r h=>by
    unfold Bc at h
    split at h
    · obtain ⟨v,rfl,r0⟩:=r.one
      obtain ⟨ns,e,h⟩:=iL h
      obtain ⟨a,ys,fq,rfl,hs,hr⟩:=r0.seq e
      rw[hr.A5] at hs
      exact⟨a,ns,rfl,hs,h.1,fun M h1 h2=>h.2 M h1 h2 _ H [] (Same.refl H) ⟨rfl,rfl⟩ Nw.nil⟩
    · exact h.elim⟩
def iJ:List D→Option (List Bool)
  | []=>some []
  | .bl i::ds=>(iJ ds).map (i::·)
  | _=>none
theorem j7:∀{ns:List Bool},iJ (ns.map D.bl)=some ns
  | []=>rfl
  | n::ns=>by rw[List.map_cons,iJ,j7];rfl
theorem sP:∀{ds:List D}{ns:List Bool},iJ ds=some ns→ds=ns.map D.bl
  | [],ns,h=>by cases h;rfl
  | .bl i::ds,ns,h=>by
    rw[iJ] at h
    cases e:iJ ds with
    | none=>rw[e] at h;cases h
    | some ms=>rw[e] at h;cases h;rw[sP e];rfl
  | .non::_,_,h=>by cases h
  | .int _::_,_,h=>by cases h
  | .str _::_,_,h=>by cases h
  | .lst _::_,_,h=>by cases h
  | .tup _::_,_,h=>by cases h
  | .dic _::_,_,h=>by cases h
  | .dit _::_,_,h=>by cases h
  | .scr _::_,_,h=>by cases h
def FX (x:D) (P:List Bool→Prop):Prop:=asL x fun ds=>match iJ ds with | some ns=>P ns | none=>False
theorem yS {x:D}{P:List Bool→Prop} (h:FX x P):∃ns,x.items=some (ns.map D.bl)∧P ns:=by
  obtain ⟨ds,e,h⟩:=cB h
  cases q:iJ ds with
  | none=>rw[q] at h;exact h.elim
  | some ns=>rw[q] at h;rw[sP q] at e;exact⟨ns,e,h⟩
theorem Gs {x:D}{ns:List Bool}{P:List Bool→Prop} (e:x.items=some (ns.map D.bl)) (h:P ns):FX x P:=by
  refine ja e ?_
  rw[j7];exact h
theorem Rfs.Ik {ns:List Bool}{vs:List V}{fp:List Addr} (h:Rfs K H (ns.map D.bl) vs fp):vs=ns.map V.bl:=by
  have hs:(ns.map D.bl).all D.bf=true:=by rw[List.all_map,List.all_eq_true];exact fun _ _=>rfl
  rw[(h.mP hs).1,List.map_map]
  rfl
def Gm (xs:List D) (P:DK):Prop:=match xs with | [x]=>FX x fun ns=>P (.bl (ns.all id)) | _=>False
def JR (xs:List D) (P:DK):Prop:=match xs with | [x]=>FX x fun ns=>P (.bl (ns.any id)) | _=>False
theorem ux:j0 K (fun xs H Q=>∃(a:Addr) (bs:List Bool),xs=[.ref a]∧SqL K H a (bs.map V.bl)∧Q (.bl (bs.all id)) H) Gm:=⟨fun xs P P' k h=>by
    unfold Gm at h ⊢
    revert h
    split
    · exact fun h=>by obtain ⟨ns,e,z⟩:=yS h;exact Gs e (k _ z)
    · exact id,
  fun {H xs vs Q} r h=>by
    unfold Gm at h
    split at h
    · obtain ⟨v,rfl,r0⟩:=r.one
      obtain ⟨ns,e,h⟩:=yS h
      obtain ⟨a,ys,fq,rfl,hs,hr⟩:=r0.seq e
      rw[hr.Ik] at hs
      exact⟨a,ns,rfl,hs,h _ H [] (Same.refl H) ⟨rfl,rfl⟩ Nw.nil⟩
    · exact h.elim⟩
theorem fc {ns:List Bool}{P:DK}:Gm [.lst (ns.map D.bl)] P↔P (.bl (ns.all id)):=by
  show (match iJ (ns.map D.bl) with | some ns=>P (.bl (ns.all id)) | none=>False)↔_
  rw[j7]
theorem tI {ns:List Bool}{P:DK}:JR [.lst (ns.map D.bl)] P↔P (.bl (ns.any id)):=by
  show (match iJ (ns.map D.bl) with | some ns=>P (.bl (ns.any id)) | none=>False)↔_
  rw[j7]
theorem uc {ns:List Int}{P:DK}:BC [dI ns] P↔0<ns.length∧∀M,M∈ns→(∀x∈ns,M≤x)→P (.int M):=jx
theorem nU {ns:List Int}{P:DK}:Bc [dI ns] P↔0<ns.length∧∀M,M∈ns→(∀x∈ns,x≤M)→P (.int M):=jx
theorem Ok.dead (o:Ok K B0 Γ fps δ σ H) (j:Nat) (v:V) (hj:j∉Γ):Ok K B0 Γ (fun i=>if i=j then [] else fps i) (δ.set j none) (σ.set j (some v)) H:=by
  refine⟨by simp [o.len],o.b0,fun i d e=>?_,fun i h=>?_,fun i hi=>?_,fun i hi k hk a ha=>?_⟩
  · by_cases h:i=j
    · subst h
      rw[List.getElem?_set] at e
      by_cases hl:i<δ.length
      · simp [hl] at e
      · simp [hl] at e
    · rw[List.getElem?_set_ne (Ne.symm h)] at e
      rw[List.getElem?_set_ne (Ne.symm h),if_neg h]
      exact o.val i d e
  · by_cases h':i=j
    · rw[if_pos h']
    · rw[if_neg h'];exact o.non i fun d z=>h d (by rw[List.getElem?_set_ne (Ne.symm h')];exact z)
  · have h:i≠j:=fun z=>hj (by rw[← z];exact hi)
    rw[if_neg h];exact o.own i hi
  · have h:i≠j:=fun z=>hj (by rw[← z];exact hi)
    rw[if_neg h] at ha
    split
    · exact List.not_mem_nil
    · exact o.dj i hi k hk a ha
theorem xP {o:Option D}{es:List D}{Q:List D→Prop} (e:o=some (.lst es)) (h:Q es):AJ o Q:=by rw[e];exact h
def IZ (x y:D) (P:DK):Prop:=match x,y with | .lst a,.lst b=>a.length+b.length≤1000∧P (.lst (a++b)) | _,_=>False
theorem ve {a b:List D}{P:DK}:IZ (.lst a) (.lst b) P↔a.length+b.length≤1000∧P (.lst (a++b)):=Iff.rfl
def Jt (x y:D) (P:DK):Prop:=match x,y with | .lst a,.int k=>((-(2 ^ 63)≤k∧k<2 ^ 63)∧a.length*k.toNat≤1000)∧P (.lst (Gr a k.toNat)) | _,_=>False
theorem vn {a:List D}{k:Int}{P:DK}:Jt (.lst a) (.int k) P↔((-(2 ^ 63)≤k∧k<2 ^ 63)∧a.length*k.toNat≤1000)∧P (.lst (Gr a k.toNat)):=Iff.rfl
def He (xs:List D) (P:DK):Prop:=match xs with | [x]=>asL x fun ds=>P (.lst ds) | _=>False
theorem rZ {ds:List D}{P:DK}:He [.lst ds] P↔P (.lst ds):=Iff.rfl
theorem A1 {neg:Bool}{i j:Bool}{P:DK}:sr neg (.bl i) (.bl j) P↔P (.bl (if neg then !decide (i=j) else decide (i=j))):=by
  unfold sr
  simp only[D.bf,D.toV,bf,true_and,V.bl.injEq]
theorem yn {neg:Bool}{i j:Str}{P:DK}:sr neg (.str i) (.str j) P↔P (.bl (if neg then !decide (i=j) else decide (i=j))):=by
  unfold sr
  simp only[D.bf,D.toV,bf,true_and,V.str.injEq]
end
end L3
namespace L3
open PySem
open L2 hiding D Rf Rfs Rp dI dT
def kH (n m:Nat) (t:List (List Int)):Prop:=t.length=n∧∀r∈t,r.length=m
abbrev rowAt (t:List (List Int)) (i:Nat):List Int:=t.getD i []
abbrev cellAt (t:List (List Int)) (i j:Nat):Int:=(t.getD i []).getD j 0
theorem vR {t:List (List Int)}{i:Nat} (h:i<t.length):rowAt t i∈t:=by
  unfold rowAt
  rw[List.getD_eq_getElem?_getD,List.getElem?_eq_getElem h]
  exact List.getElem_mem h
theorem kH.row {n m:Nat}{t:List (List Int)} (h:kH n m t) {i:Nat} (hi:i<n):(rowAt t i).length=m:=h.2 _ (vR (by rw[h.1];exact hi))
theorem kH.set {n m:Nat}{t:List (List Int)} (h:kH n m t) {i:Nat}{r:List Int} (hr:r.length=m):kH n m (t.set i r):=by
  refine⟨by rw[List.length_set];exact h.1,fun x hx=>?_⟩
  rcases List.mem_or_eq_of_mem_set hx with z | z
  · exact h.2 x z
  · rw[z];exact hr
theorem HW {t:List (List Int)}{i:Nat} (h:i<t.length):(t.map dI)[i]?=some (dI (rowAt t i)):=by
  unfold rowAt
  rw[List.getElem?_map,List.getD_eq_getElem?_getD,List.getElem?_eq_getElem h]
  rfl
theorem Jr {t:List (List Int)}{i:Int} (h0:0≤i) (h:i<t.length):atI (t.map dI) i=some (dI (rowAt t i.toNat)):=by
  unfold atI
  rw[j6 h0 (by rw[List.length_map];exact h)]
  exact HW (by omega)
theorem IM {t:List (List Int)}{i:Nat}{r:List Int}:(t.map dI).set i (dI r)=(t.set i r).map dI:=(List.map_set ..).symm
section
variable {i j:Nat}{δ:Dl}{de d1 d2 dx:DE}{E:cC}{t:List (List Int)}{r:List Int}{a b v:Int}
theorem jo (hs:δ[i]?=some (some (dI r))) (hde:∀R:DK,R (.int v)→de δ R) (hdx:∀R:DK,R (.int a)→dx δ R) (ha:0≤a∧a<r.length) (h:E.nx (δ.set i (some (dI (r.set a.toNat v))))):md i de dx E δ:=by
  unfold md
  refine hde _ ((AU hs).mpr (hdx _ ?_))
  show match ixN (r.map D.int).length a with | some j=>E.nx (δ.set i (some (.lst ((r.map D.int).set j (.int v))))) | none=>False
  rw[j6 ha.1 (by rw[List.length_map];exact ha.2)]
  show E.nx (δ.set i (some (.lst ((r.map D.int).set a.toNat (.int v)))))
  rw[Hq];exact h
end
theorem aN {r:List Int}{a:Int}{P:DK} (ha:0≤a∧a<r.length) (h:P (.int (r.getD a.toNat 0))):asO (atI (r.map D.int) a) P:=(zS (Jg ha.1 ha.2)).mpr h
theorem mB {t:List (List Int)}{a:Int}{P:DK} (ha:0≤a∧a<t.length) (h:P (dI (rowAt t a.toNat))):asO (atI (t.map dI) a) P:=(zS (Jr ha.1 ha.2)).mpr h
theorem Hf {α:Type}{as:List α}{f:α→List Int}:as.map (fun a=>dI (f a))=(as.map f).map dI:=by rw[List.map_map];rfl
theorem lQ {α:Type}{as:List α}{f:α→Int}:as.map (fun a=>D.int (f a))=(as.map f).map D.int:=by rw[List.map_map];rfl
theorem bV {K:PySem.W.Frag}{Γ:List Nat}{ta:TE}{da:DE}{tr:TA}{dr:DA} (ha:EM K Γ [] ta da) (hr:AM K Γ [] tr dr):AM K Γ [] (fX ta tr) (wb da dr):=jq ha hr (fun _ h=>(nomatch h)) (fun _ h=>(nomatch h))
theorem wX {ds:List D}{a:Int}{P:DK} (h0:0≤a) (h:a<ds.length) (k:asO (ds[a.toNat]?) P):asO (atI ds a) P:=by
  unfold atI;rw[j6 h0 h];exact k
theorem Cz {di:DI}{dg:D→Dl→(Dl→Prop)→Prop}{dt:DT}{de:DE}{k:Nat}{idx:List Nat}{δ:Dl}{P:DK}{t:List (List Int)} (hdi:∀R:List D→Prop,R (t.map dI)→di δ R) (hl:t.length≤1000)
    (hb:∀r∈t,∀R:List D→Prop,R [dI r]→jG dg dt de (eS k idx δ) (dI r) R) (h:P (dT t)):lW di dg dt de k idx δ P:=ng (g:=dI) hdi hl hb h
end L3
namespace L3
open PySem
open L2 hiding D Rf Rfs Rp dI dT
end L3
namespace L3
open PySem
open L2 hiding D Rf Rfs Rp dI dT
theorem CQ {a:D}{ds:List D}:atI (a::ds) 0=some a:=by
  unfold atI;rw[j6 (by omega) (by rw[List.length_cons];omega)];rfl
theorem Ef {a b:D}{ds:List D}:atI (a::b::ds) 1=some b:=by
  unfold atI;rw[j6 (by omega) (by rw[List.length_cons,List.length_cons];omega)];rfl
theorem Dj {a b c:D}{ds:List D}:atI (a::b::c::ds) 2=some c:=by
  unfold atI;rw[j6 (by omega) (by rw[List.length_cons,List.length_cons,List.length_cons];omega)];rfl
theorem DR {a b c d:D}{ds:List D}:atI (a::b::c::d::ds) 3=some d:=by
  unfold atI;rw[j6 (by omega) (by rw[List.length_cons,List.length_cons,List.length_cons,List.length_cons];omega)];rfl
end L3
namespace L2
open PySem PySem.Spec PyProof.Rows
section
variable {prog:Program}{w:World}{A:Around}{E:Value→Shared→Prop}{s:Shared}
end
section
variable {X:Cx}{K:PySem.W.Frag}
def oC (k:Nat) (g:TGs):Prop:=∀x σ H Q,g x σ H Q→g x σ H fun σ2 H2=>Q σ2 H2∧σ2.length=σ.length∧∀j,k≤j→σ2[j]?=σ[j]?
theorem oC.nil {k:Nat}:oC k HY:=fun x σ H Q q=>⟨q.1,q.2,rfl,fun _ _=>rfl⟩
end
end L2
namespace Maj
open L2 (iC gK kJ bO)
def nk (xs:List Int) (k:Nat):Int:=((iC xs).take k).sum
def jn:List Bool→List Int→Int
  | true::m,x::xs=>x+jn m xs
  | false::m,_::xs=>jn m xs
  | _,_=>0
def cnt:List Bool→Nat
  | true::m=>cnt m+1
  | false::m=>cnt m
  | []=>0
theorem um:∀{k:Nat}{y:Int}{ys:List Int},(y::ys).Pairwise (·≥·)→k≤ys.length→(ys.take k).sum≤((y::ys).take k).sum
  | 0,y,ys,_,_=>by simp
  | k+1,y,[],_,h=>by simp at h
  | k+1,y,z::zs,hp,h=>by
    rw[List.take_succ_cons,List.take_succ_cons,List.sum_cons,List.sum_cons]
    obtain ⟨h1,h2⟩:=List.pairwise_cons.mp hp
    have:=um (k:=k) h2 (by simpa using h)
    have:=h1 z List.mem_cons_self
    omega
theorem mQ:∀{ys:List Int}{m:List Bool},ys.Pairwise (·≥·)→m.length=ys.length→jn m ys≤(ys.take (cnt m)).sum
  | [],[],_,_=>by simp [jn,cnt]
  | [],_::_,_,h=>by simp at h
  | _::_,[],_,h=>by simp at h
  | y::ys,true::m,hp,h=>by
    have:=mQ (List.pairwise_cons.mp hp).2 (show m.length=ys.length by simpa using h)
    rw[jn,cnt,List.take_succ_cons,List.sum_cons];omega
  | y::ys,false::m,hp,h=>by
    have hl:m.length=ys.length:=by simpa using h
    have h1:=mQ (List.pairwise_cons.mp hp).2 hl
    have h2:cnt m≤ys.length:=by
      have:∀m:List Bool,cnt m≤m.length:=fun m=>by
        induction m with
        | nil=>simp [cnt]
        | cons b m ih=>cases b<;>simp [cnt]<;>omega
      rw[← hl];exact this m
    have:=um hp h2
    rw[jn,cnt];omega
theorem vy {xs ys:List Int} (h:xs.Perm ys):∀m:List Bool,m.length=xs.length→∃m':List Bool,m'.length=ys.length∧cnt m'=cnt m∧jn m' ys=jn m xs:=by
  induction h with
  | nil=>exact fun m h=>⟨m,h,rfl,rfl⟩
  | cons x _ ih =>
    intro m h
    cases m with
    | nil=>simp at h
    | cons b m =>
      obtain ⟨m',h1,h2,h3⟩:=ih m (by simpa using h)
      refine⟨b::m',by simp [h1],?_,?_⟩
      · cases b<;>simp [cnt,h2]
      · cases b<;>simp [jn,h3]
  | swap x y l =>
    intro m h
    match m,h with
    | b::c::m,h =>
      refine⟨c::b::m,by simpa using h,?_,?_⟩
      · cases b<;>cases c<;>simp [cnt]
      · cases b<;>cases c<;>simp [jn]<;>omega
    | [_],h=>simp at h
    | [],h=>simp at h
  | trans _ _ ih1 ih2 =>
    intro m h
    obtain ⟨m1,a1,a2,a3⟩:=ih1 m h
    obtain ⟨m2,b1,b2,b3⟩:=ih2 m1 a1
    exact⟨m2,b1,b2.trans a2,b3.trans a3⟩
theorem BE {xs:List Int}{m:List Bool} (h:m.length=xs.length):jn m xs≤nk xs (cnt m):=by
  obtain ⟨m',h1,h2,h3⟩:=vy (gK xs).symm m h
  rw[← h3,← h2]
  exact mQ (kJ xs) h1
theorem wd:∀{ys:List Int}{k:Nat},k≤ys.length→∃m:List Bool,m.length=ys.length∧cnt m=k∧jn m ys=(ys.take k).sum
  | ys,0,_=>by
    refine⟨List.replicate ys.length false,List.length_replicate,?_,?_⟩
    · have:∀n,cnt (List.replicate n false)=0:=fun n=>by induction n with | zero=>rfl | succ n ih=>rw[List.replicate_succ,cnt];exact ih
      exact this _
    · rw[List.take_zero]
      have:∀ys:List Int,jn (List.replicate ys.length false) ys=0:=fun ys=>by
        induction ys with
        | nil=>rfl
        | cons y ys ih=>rw[List.length_cons,List.replicate_succ,jn];exact ih
      exact this ys
  | [],k+1,h=>by simp at h
  | y::ys,k+1,h=>by
    obtain ⟨m,h1,h2,h3⟩:=wd (ys:=ys) (k:=k) (by simpa using h)
    exact⟨true::m,by simp [h1],by simp [cnt,h2],by rw[jn,h3,List.take_succ_cons,List.sum_cons]⟩
theorem Fc {xs:List Int}{k:Nat} (h:k≤xs.length):∃m:List Bool,m.length=xs.length∧cnt m=k∧jn m xs=nk xs k:=by
  obtain ⟨m,h1,h2,h3⟩:=wd (ys:=iC xs) (k:=k) (by rw[bO];exact h)
  obtain ⟨m',a1,a2,a3⟩:=vy (gK xs) m h1
  exact⟨m',a1,a2.trans h2,a3.trans h3⟩
theorem sQ:∀{xs:List Int}{m:List Bool}{i:Nat}{v:Int},m.length=xs.length→i<xs.length→jn m (xs.set i v)=jn m xs+(if m.getD i false=true then v - xs.getD i 0 else 0)
  | x::xs,b::m,0,v,h,_=>by cases b<;>simp [jn]<;>omega
  | x::xs,b::m,i+1,v,h,hi=>by
    have:=sQ (xs:=xs) (m:=m) (i:=i) (v:=v) (by simpa using h) (by simpa using hi)
    cases b<;>simp [jn,this]<;>omega
  | x::xs,[],_,_,h,_=>by simp at h
  | [],_,_,_,_,hi=>by simp at hi
theorem pS:∀{xs:List Int}{m:List Bool}{i:Nat}{b:Bool},m.length=xs.length→i<xs.length→jn (m.set i b) xs=jn m xs+(if b=true then xs.getD i 0 else 0) - (if m.getD i false=true then xs.getD i 0 else 0)
  | x::xs,c::m,0,b,h,_=>by cases b<;>cases c<;>simp [jn]<;>omega
  | x::xs,c::m,i+1,b,h,hi=>by
    have:=pS (xs:=xs) (m:=m) (i:=i) (b:=b) (by simpa using h) (by simpa using hi)
    cases c<;>simp [jn,this]<;>omega
  | x::xs,[],_,_,h,_=>by simp at h
  | [],_,_,_,_,hi=>by simp at hi
theorem xB:∀{m:List Bool}{i:Nat}{b:Bool},i<m.length→(cnt (m.set i b):Int)=cnt m+(if b=true then 1 else 0) - (if m.getD i false=true then 1 else 0)
  | c::m,0,b,_=>by cases b<;>cases c<;>simp [cnt]<;>omega
  | c::m,i+1,b,hi=>by
    have:=xB (m:=m) (i:=i) (b:=b) (by simpa using hi)
    cases c<;>simp only[List.set_cons_succ,cnt,List.getD_cons_succ]<;>omega
  | [],_,_,hi=>by simp at hi
def Le (xs ys:List Int):Prop:=∀k,k≤xs.length→nk xs k≤nk ys k
theorem Le.refl {xs:List Int}:Le xs xs:=fun _ _=>Int.le_refl _
theorem Le.trans {xs ys zs:List Int} (a:Le xs ys) (b:Le ys zs) (h:xs.length=ys.length):Le xs zs:=fun k hk=>Int.le_trans (a k hk) (b k (by omega))
def aV (xs:List Int) (g t:Nat) (a:Int):List Int:=(xs.set g (xs.getD g 0 - a)).set t ((xs.set g (xs.getD g 0 - a)).getD t 0+a)
theorem eZ {xs:List Int}{i j:Nat}{v:Int} (h:i≠j):(xs.set i v).getD j 0=xs.getD j 0:=by
  rw[List.getD_eq_getElem?_getD,List.getD_eq_getElem?_getD,List.getElem?_set_ne h]
theorem Gb {xs:List Int}{g t:Nat}{a:Int} (hg:g<xs.length) (ht:t<xs.length) (hne:g≠t) (h1:0≤a) (h2:a≤xs.getD g 0 - xs.getD t 0):Le (aV xs g t a) xs:=by
  intro k hk
  have hl:(aV xs g t a).length=xs.length:=by unfold aV;rw[List.length_set,List.length_set]
  rw[hl] at hk
  obtain ⟨m,m1,m2,m3⟩:=Fc (xs:=aV xs g t a) (k:=k) (by rw[hl];exact hk)
  rw[hl] at m1
  rw[← m3]
  unfold aV
  rw[sQ (by rw[List.length_set];exact m1) (by rw[List.length_set];exact ht),sQ m1 hg,eZ hne]
  have base:=BE m1
  rw[m2] at base
  by_cases ct:m.getD t false=true
  · by_cases cg:m.getD g false=true
    · rw[if_pos ct,if_pos cg];omega
    · rw[if_pos ct,if_neg cg]
      have l1:(m.set g true).length=xs.length:=by rw[List.length_set];exact m1
      have e1:=pS (xs:=xs) (m:=m.set g true) (i:=t) (b:=false) l1 ht
      have e2:=pS (xs:=xs) (m:=m) (i:=g) (b:=true) m1 hg
      have gt:(m.set g true).getD t false=m.getD t false:=by rw[List.getD_eq_getElem?_getD,List.getD_eq_getElem?_getD,List.getElem?_set_ne hne]
      have c1:=xB (m:=m.set g true) (i:=t) (b:=false) (by omega)
      have c2:=xB (m:=m) (i:=g) (b:=true) (by omega)
      rw[gt,if_pos ct] at e1 c1
      rw[if_neg cg] at e2 c2
      simp only[Bool.false_eq_true,if_false,if_true] at e1 e2 c1 c2
      have top:=BE (xs:=xs) (m:=(m.set g true).set t false) (by rw[List.length_set];exact l1)
      have:cnt ((m.set g true).set t false)=k:=by omega
      rw[this] at top
      omega
  · rw[if_neg ct]
    split<;>omega
theorem sum_set:∀{xs:List Int}{i:Nat}{v:Int},i<xs.length→(xs.set i v).sum=xs.sum+v - xs.getD i 0
  | x::xs,0,v,_=>by simp;omega
  | x::xs,i+1,v,h=>by
    have:=sum_set (xs:=xs) (i:=i) (v:=v) (by simpa using h)
    simp [this];omega
  | [],_,_,h=>by simp at h
theorem D4 {xs:List Int}{g t:Nat}{a:Int} (hg:g<xs.length) (ht:t<xs.length) (hne:g≠t):(aV xs g t a).sum=xs.sum:=by
  unfold aV
  rw[sum_set (by rw[List.length_set];exact ht),sum_set hg]
  omega
theorem ma {xs:List Int}{g t:Nat}{a:Int}:(aV xs g t a).length=xs.length:=by unfold aV;rw[List.length_set,List.length_set]
def above (one other:List Int):List Nat:=(List.range one.length).filter fun p=>decide (nk other (p+1)<nk one (p+1))
theorem Cf {one other:List Int} (h:Le one other):above one other=[]:=by
  unfold above
  rw[List.filter_eq_nil_iff]
  intro p hp
  have:=h (p+1) (by have:=List.mem_range.mp hp;omega)
  simp;omega
end Maj
namespace L3
open PySem
open L2 hiding D Rf Rfs Rp dI dT
section
variable {K:PySem.W.Frag}{ρ:Bool}{Γr Γl Γ Γn:List Nat}{te:TE}{de:DE}
def HZ (i j:Nat) (da:DA) (E:cC) (δ:Dl):Prop:=da δ fun xs=>match xs with | [x,y]=>E.nx ((δ.set i (some x)).set j (some y)) | _=>False
theorem Hm {u:TA}{da:DA} (i j:Nat) (ha:AS K Γ u da) (hi:i∉Γ:=by decide) (hj:j∉Γ:=by decide):ST K ρ Γr Γl (Jk i j u) Γ Γ (HZ i j da):=by
  intro B0 Dn E fps δ σ H k o h
  refine ha.run o (ha.mono _ _ _ (fun xs z vs H' fp s r n=>?_) h)
  match xs,r,z with
  | [x,y],r,z =>
    obtain ⟨v,r1,f1,f2,rfl,rfl,h1,h2⟩:=r
    obtain ⟨w,r2,f3,f4,rfl,rfl,h3,rfl,rfl⟩:=h2
    refine⟨v,w,rfl,?_⟩
    have sub:∀{q:Nat},q∉Γ→∀a∈Γ,a∈minus Γ [q]:=fun hq a ha=>cQ.mpr ⟨ha,fun z=>hq (by rw[← List.mem_singleton.mp z];exact ha)⟩
    have o1:=(o.wo i s h1 fun a ha b hb=>n a ha b (List.mem_append_left _ hb)).sub (sub hi)
    refine k.nx ((o1.wo j (Same.refl H') h3 fun a ha b hb=>?_).sub (sub hj)) z
    rw[if_neg (fun z=>hi (by rw[← z];exact ha))]
    exact n a ha b (List.mem_append_right _ (List.mem_append_left _ hb))
  | [],_,z=>exact z.elim
  | [_],_,z=>exact z.elim
  | _::_::_::_,_,z=>exact z.elim
end
end L3
namespace L3
open PySem L2
section
variable {K:PySem.W.Frag}
def Et (xs:List D) (P:Int→Prop):Prop:=match xs with | [.int j]=>P j | [.bl b]=>P (if b then 1 else 0) | _=>False
theorem zk {i:Int}{P:Int→Prop}:Et [.int i] P↔P i:=Iff.rfl
theorem AK {b:Bool}{P:Int→Prop}:Et [.bl b] P↔P (if b then 1 else 0):=Iff.rfl
theorem ya {xs:List D}{P:Int→Prop} (h:Et xs P):(∃i,xs=[.int i]∧P i)∨∃b,xs=[.bl b]∧P (if b then 1 else 0):=by
  unfold Et at h;split at h
  · exact .inl ⟨_,rfl,h⟩
  · exact .inr ⟨_,rfl,h⟩
  · exact h.elim
def Ff (xs:List D) (P:DK):Prop:=Et xs fun i=>P (.int i)
theorem Jf:j0 K (fun xs H Q=>(∃i,xs=[.int i]∧Q (.int i) H)∨∃k,xs=[.bl k]∧Q (.int (if k then 1 else 0)) H) Ff :=
  ⟨fun xs P P' k h=>by
    rcases ya h with ⟨i,rfl,z⟩ | ⟨b,rfl,z⟩
    · exact k _ z
    · exact k _ z,
   fun {H xs vs Q} r h=>by
    rcases ya h with ⟨i,rfl,z⟩ | ⟨b,rfl,z⟩
    · exact .inl ⟨i,r.ints1,z _ H [] (Same.refl H) ⟨rfl,rfl⟩ Nw.nil⟩
    · refine .inr ⟨b,?_,z _ H [] (Same.refl H) ⟨rfl,rfl⟩ Nw.nil⟩
      obtain ⟨fp,x,r,f1,f2,rfl,_,⟨rfl,_⟩,⟨rfl,_⟩⟩:=r
      rfl⟩
end
end L3
namespace L3
open PySem
open L2 hiding D Rf Rfs Rp dI dT
theorem FR {ns:List Int} (h:1≤ns.length):atI (ns.map D.int) (-1)=some (.int (ns.getD (ns.length - 1) 0)):=by
  unfold atI
  have:ixN (ns.map D.int).length (-1)=some (ns.length - 1):=by
    unfold ixN
    rw[List.length_map,if_neg (by omega),if_pos (by omega)]
    congr 1;omega
  rw[this]
  show (ns.map D.int)[ns.length - 1]?=_
  rw[List.getElem?_map,List.getD_eq_getElem?_getD,List.getElem?_eq_getElem (by omega)];rfl
theorem Ck {ns:List Int}{P:DK} (h:1≤ns.length) (k:P (.int (ns.getD (ns.length - 1) 0))):asO (atI (ns.map D.int) (-1)) P:=(zS (FR h)).mpr k
end L3
namespace L3
open PySem L2
section
variable {K:PySem.W.Frag}{ρ:Bool}{Γr Γl Γ:List Nat}{B0:Hp}{i j m:Nat}{a0:Addr}{fps:Nat→List Addr}{δ:Dl}{σ:St}{H H':Hp}{t u:TS}{d e:Nat→DS}{te tx t1:TE}{de dx d1:DE}
end
end L3
namespace L3
open PySem
open L2 hiding D Rf Rfs Rp dI dT
section
variable {δ:Dl}{i j:Nat}{t:List (List Int)}{a b v:Int}{d1 de dx:DE}{d:Nat→DS}{E:cC}
end
end L3
namespace L3
open PySem L2
def D.flat:D→Bool
  | .tup ds=>ds.all D.bf
  | d=>d.bf
theorem Rf.flat {K:PySem.W.Frag}{H:Hp}{d:D}{v:V}{fp:List Addr} (h:Rf K H d v fp) (s:d.flat=true):fp=[]:=by
  cases d with
  | tup ds =>
    obtain ⟨a,xs,rfl,h2,h3⟩:=h
    exact (h3.mP s).2
  | _=>first | exact (h.bf s).2 | cases s
theorem zj {i:Int}:(D.int i).flat=true:=rfl
theorem Bn {b:Bool}:(D.bl b).flat=true:=rfl
theorem vw {a b c d:Int}:(D.tup [.int a,.int b,.int c,.int d]).flat=true:=rfl
theorem vA {a b c:Int}:(D.tup [.int a,.int b,.int c]).flat=true:=rfl
theorem vi {a b:Int}:(D.tup [.int a,.int b]).flat=true:=rfl
def CZ (d:DE) (δ:Dl) (P:DK):Prop:=d δ fun x=>x.flat=true∧P x
theorem ER.flat {K:PySem.W.Frag}{Γ:List Nat}{t:TE}{d:DE} (h:ER K Γ t d):EM K Γ [] t (CZ d):=⟨fun δ P P' k q=>h.mono _ _ _ (fun x z=>⟨z.1,k x z.2⟩) q,fun o q=>h.run o (h.mono _ _ _ (fun x z v H' s r=>by
  obtain ⟨fp,r⟩:=r
  have e:=r.flat z.1
  subst e
  exact z.2 v H' [] s r Nw.nil) q)⟩
end L3
namespace L3
open PySem
open L2 hiding D Rf Rfs Rp dI dT
end L3
namespace L2
open PySem PySem.Spec PyProof.Rows
section
variable {κ:Type} [DecidableEq κ]
end
section
variable {P:Program}{w:World}{H:Hp}{h:Heap}{a:Addr}
end
section
variable {X:Cx}{pins:List (Addr × Obj)}{σ:St}{H:Hp}{s:Shared}{a:Addr}{y v:V}{u r:Value}{o:Option V}{A:Around}{E:Value→Shared→Prop}
end
section
variable {X:Cx}{pins:List (Addr × Obj)}{σ:St}{H:Hp}{s:Shared}{a:Addr}{kvs:List (Key × V)}{k:Key}{u:Value}{A:Around}{E:Value→Shared→Prop}
end
section
variable {X:Cx}{o i e value:Expr}{pos pos' tpos:Pos}{td ty tv:TE}
end
section
variable {X:Cx}{pos:Pos}
end
section
variable {X:Cx}{pins:List (Addr × Obj)}{σ:St}{H:Hp}{s:Shared}{a:Addr}{y d:V}{u r:Value}{o:Option V}{A:Around}{E:Value→Shared→Prop}
end
section
variable {X:Cx}{o e f:Expr}{apos cpos:Pos}{td ty tx:TE}
end
section
variable {X:Cx}{pins:List (Addr × Obj)}{σ:St}{H:Hp}{s:Shared}{a:Addr}{kvs:List (Key × V)}{A:Around}{E:Value→Shared→Prop}
end
section
variable {X:Cx}{pins:List (Addr × Obj)}{σ:St}{H:Hp}{s:Shared}{a:Addr}{y:V}{u:Value}{A:Around}{E:Value→Shared→Prop}
end
end L2
namespace L3
open PySem L2
section
variable {K:PySem.W.Frag}{ρ:Bool}{Γr Γl Γ Γ1 Γ2 Γn M:List Nat}{t u:TS}{te ta tb tx t1 t2:TE}{de da db dx d1 d2:DE}{d e:DS}
variable {B0:Hp}{fps:Nat→List Addr}{δ:Dl}{σ:St}{H H':Hp}
def D.isRef:D→Bool | .lst _=>true | .dic _=>true | .pin _ _=>true | .ins _ _ _=>true | _=>false
end
end L3
namespace L2
open PySem PySem.Spec PyProof.Rows
section
variable {X:Cx}
end
end L2
namespace L2
open PySem PySem.Spec PyProof.Rows
section
variable {X:Cx}{K:PySem.W.Frag}
end
end L2
namespace L2
open PySem PySem.Spec PyProof.Rows
end L2
namespace L3
open PySem L2
section
variable {K:PySem.W.Frag}{ρ:Bool}{Γr Γl Γ Γ1 Γ2 Γn M:List Nat}{t u:TS}{te ta tb td ty tv:TE}{de da db dd dk dv:DE}{d e:DS}
def ofV:V→D | .non=>.non | .bl b=>.bl b | .int i=>.int i | .str x=>.str x | _=>.non
def Jd (x:D) (P:List (Key × V)→Prop):Prop:=match x with | .dic kvs=>P kvs | _=>False
theorem vL {kvs:List (Key × V)}{P:List (Key × V)→Prop}:Jd (.dic kvs) P↔P kvs:=Iff.rfl
def Jq (xs:List D) (P:DK):Prop:=match xs with | [x]=>zd x fun ns=>ns.length<64∧∀ms:List Int,ms.Perm ns→ms.Pairwise (·≤·)→P (dI ms) | _=>False
theorem ue {ns:List Int}{P:DK}:Jq [dI ns] P↔ns.length<64∧∀ms:List Int,ms.Perm ns→ms.Pairwise (·≤·)→P (dI ms):=jx
theorem vS {ds:List D}:(D.lst ds).isRef=true:=rfl
theorem vT {ds:List (Key × V)}:(D.dic ds).isRef=true:=rfl
theorem AQ {i:Int}:ofV (.int i)=.int i:=rfl
theorem EA {b:Bool}:ofV (.bl b)=.bl b:=rfl
theorem A2:ofV .non=.non:=rfl
def Ji (xs:List D) (P:DK):Prop:=match xs with | [.dic kvs]=>P (.int kvs.length) | _=>False
theorem u5 {kvs:List (Key × V)}{P:DK}:Ji [.dic kvs] P↔P (.int kvs.length):=Iff.rfl
end
end L3
namespace Mat
end Mat
namespace Mat
end Mat
namespace Mat
end Mat
namespace L2
open PySem PySem.Spec PyProof.Rows
theorem oC.cons {i k:Nat}{u:TGs} (h:i<k) (hu:oC k u):oC k (EY (jk i) u):=fun x σ H Q ⟨v,r,e,q⟩=>⟨v,r,e,by
  have q2:=hu r (σ.set i (some v)) H Q q
  have e1:(fun (σ2:St) (H2:Hp)=>Q σ2 H2∧σ2.length=(σ.set i (some v)).length∧∀j,k≤j→σ2[j]?=(σ.set i (some v))[j]?)=fun σ2 H2=>Q σ2 H2∧σ2.length=σ.length∧∀j,k≤j→σ2[j]?=σ[j]?:=by
    funext σ2 H2
    refine propext ⟨fun z=>⟨z.1,by rw[z.2.1,List.length_set],fun j hj=>by rw[z.2.2 j hj,List.getElem?_set_ne (by omega)]⟩,fun z=>⟨z.1,by rw[z.2.1,List.length_set],fun j hj=>by rw[z.2.2 j hj,List.getElem?_set_ne (by omega)]⟩⟩
  rw[e1] at q2
  exact q2⟩
theorem mR.tup {K:PySem.W.Frag}{k n:Nat}{u:TGs} (hu:oC k u):mR k (Gu K n u):=fun x σ H Q ⟨a,xs,e,hs,hl,q⟩=>⟨a,xs,e,hs,hl,hu xs σ H Q q⟩
end L2
namespace L3
open PySem L2
section
variable {K:PySem.W.Frag}{ρ:Bool}{Γr Γl Γ Γ1 Γ2 Γn M:List Nat}{t u:TS}{te ta tb:TE}{de da db:DE}{d e:DS}
end
end L3
namespace L3
open PySem L2
end L3
namespace Bir
section
variable {κ:Type} [DecidableEq κ]
end
end Bir
namespace Bir
open L3
end Bir
namespace L2
open PySem
end L2
namespace L3
open PySem L2
section
variable {K:PySem.W.Frag}{ρ:Bool}{Γr Γl Γ Γ1 Γ2 Γn M:List Nat}{t u:TS}{te ta tb td ty tv ti:TE}{de da db dd dk dv di:DE}{d e:DS}
theorem Rfs.JJ {H:Hp}:∀{ds:List D}{vs:List V}{fp:List Addr}{i:Nat}{d:D},Rfs K H ds vs fp→fp.Nodup→ds[i]?=some d→∃v f,vs[i]?=some v∧Rf K H d v f∧(∀a∈f,a∈fp)∧f.Nodup
  | [],_,_,_,_,_,_,e=>by simp at e
  | d::ds,vs,fp,0,d',h,n,e=>by
    obtain ⟨x,r,f1,f2,rfl,rfl,h1,h2⟩:=h
    simp at e;subst e
    exact⟨x,f1,rfl,h1,fun a ha=>List.mem_append_left _ ha,(List.nodup_append.mp n).1⟩
  | d::ds,vs,fp,i+1,d',h,n,e=>by
    obtain ⟨x,r,f1,f2,rfl,rfl,h1,h2⟩:=h
    obtain ⟨v,f,e1,h3,k,n'⟩:=Rfs.JJ (i:=i) h2 (List.nodup_append.mp n).2.1 (by simpa using e)
    exact⟨v,f,by simpa using e1,h3,fun a ha=>List.mem_append_right _ (k a ha),n'⟩
theorem DH {x y:D}{P:DK} (h:qw x y P):∃ds i d,x=.tup ds∧y=.int i∧atI ds i=some d∧P d:=by
  unfold qw at h
  split at h
  · split at h
    · exact⟨_,_,_,rfl,rfl,by assumption,h⟩
    · exact h.elim
  · exact h.elim
theorem Ic {ds:List D}{i:Int}{d:D}{P:DK} (e:atI ds i=some d) (h:P d):qw (.tup ds) (.int i) P:=by
  show (match atI ds i with | some d=>P d | none=>False)
  rw[e];exact h
theorem zY (ha:EM K Γ [] ta da) (hi:ER K Γ ti di):EM K Γ [] (tOp (B4 K) ta ti) (vOp qw da di) :=
  ⟨fun δ P P' k h=>ha.mono _ _ _ (fun x z=>hi.mono _ _ _ (fun y z=>by
      obtain ⟨ds,i,d,rfl,rfl,e,z1⟩:=DH z
      exact Ic e (k _ z1)) z) h,
   fun {B0 fps δ σ H Q} o h=>ha.run o (ha.mono _ _ _ (fun x z v H1 fp s1 r1 n1=>hi.run (o.same s1) (hi.mono _ _ _ (fun y z w H2 s2 r2=>by
      obtain ⟨ds,i,d,rfl,rfl,ed,z1⟩:=DH z
      obtain ⟨a,xs,rfl,ha,hr⟩:=r1
      have ei:∃j,ixN ds.length i=some j∧ds[j]?=some d:=by
        unfold atI at ed
        cases q:ixN ds.length i with
        | none=>rw[q] at ed;cases ed
        | some j=>rw[q] at ed;exact⟨j,rfl,ed⟩
      obtain ⟨j,ej,edj⟩:=ei
      obtain ⟨u,f,hu,ru,hf,hn⟩:=hr.JJ n1.nd edj
      exact⟨a,xs,i,u,rfl,r2.int,.inl (.inl (s2.st _ _ ha trivial)),by unfold atI;rw[hr.length,ej];exact hu,z1 u H2 f (s1.trans s2) (ru.same s2) ⟨hn,fun b hb=>(n1.mu b (hf b hb)).same s2,fun b hb=>n1.src b (hf b hb)⟩⟩) z)) h)⟩
def Ir (xs:List D) (P:DK):Prop:=match xs with | [x]=>asL x fun ds=>ds.all D.bf=true∧P (.tup ds) | _=>False
theorem t8 {ds:List D}{P:DK}:Ir [.lst ds] P↔ds.all D.bf=true∧P (.tup ds):=Iff.rfl
def JO (x:D) (P:List Int→Prop):Prop:=match x with | .tup ds=>(match iZ ds with | some ns=>P ns | none=>False) | _=>False
theorem AA {ns:List Int}{P:List Int→Prop}:JO (.tup (ns.map D.int)) P↔P ns:=by
  unfold JO
  show (match iZ (ns.map D.int) with | some ns=>P ns | none=>False)↔P ns
  rw[jQ]
def Jb (x:D) (P:List (List Key × V)→Prop):Prop:=match x with | .dit kvs=>P kvs | _=>False
theorem u4 {kvs:List (List Key × V)}{P:List (List Key × V)→Prop}:Jb (.dit kvs) P↔P kvs:=Iff.rfl
end
end L3
namespace L3
open PySem L2
section
variable {K:PySem.W.Frag}{Γ:List Nat}
def Jp (xs:List D) (P:DK):Prop:=match xs with | [x]=>asL x fun ds=>P (.tup ds) | _=>False
theorem u9 {ds:List D}{P:DK}:Jp [.lst ds] P↔P (.tup ds):=Iff.rfl
end
def isNum:D→Bool | .int _=>true | _=>false
def kn (d:D):Bool:=d.tyn.isSome
end L3
namespace L3
open PySem L2
section
variable {K:PySem.W.Frag}{ρ:Bool}{Γr Γl Γ:List Nat}
end
end L3
namespace L2
open PySem PySem.Spec PySem.Calls PyProof.Rows
abbrev lC (n:Nat):List Int:=(List.range n).map fun (k:Nat)=>(k:Int)
theorem As:∀{vs:List Value}{ns:List Int},vs.length=ns.length→(∀(j:Nat) v,vs[j]?=some v→∃z t,ns[j]?=some z∧v=.int z t)→IntsAre vs ns
  | [],[],_,_=>.nil
  | v::vs,n::ns,hl,h=>by
    obtain ⟨z,t,e1,rfl⟩:=h 0 v rfl
    cases e1
    exact .cons _ _ (As (by simpa using hl) fun j v hv=>h (j+1) v (by rw[List.getElem?_cons_succ];exact hv))
  | [],_::_,hl,_=>by simp at hl
  | _::_,[],hl,_=>by simp at hl
section
variable {prog:Program}{w:World}{A:Around}{E:Value→Shared→Prop}{s:Shared}
theorem xO {R:List Value→Shared→Prop}{r:Addr}{n:Nat}{t u v:Tok} (hh:A.handled=none) (hr:IsRange s.heap r 0 (n:Int) 1 t u v) (hlen:n≤2 ^ 24)
    (h:∀(h':Heap) (tk:Nat) (vs:List Value),(∀b o,s.heap.get? b=some o→h'.get? b=some o)→s.heap.objs.size<h'.objs.size→IntsAre vs (lC n)→R vs { s with heap:=h',toks:=tk }) :
    wpAny (model prog w) A (collect (.ref r)) R E s:=by
  have hsz:Builtin.Range.rangeSize 0 (n:Int) 1=n:=by unfold Builtin.Range.rangeSize;rw[if_pos (by decide)];split<;>omega
  have hsm:Builtin.Range.small 0 (n:Int) 1=true:=small_one (by decide) (by decide) (by omega) (by omega)
  have items:∀{acc:Array Value},ItemsOf (fun i v=>∃t,v=.int (0+i*1) t) acc n→IntsAre acc.toList (lC n):=fun {acc} hI=>by
    refine As (by rw[Array.length_toList,hI.1,List.length_map,List.length_range]) fun j v hv=>?_
    have hj:j<n:=by rw[← hI.1,← Array.length_toList];exact (List.getElem?_eq_some_iff.mp hv).1
    obtain ⟨t,rfl⟩:=hI.2 j v (by simpa using hv)
    exact⟨j,t,by rw[List.getElem?_map,List.getElem?_range hj];rfl,by simp⟩
  unfold collect
  refine wpAny_bind (wpAny_runValue (codeAny_builtin entry_proto_collect' ?_))
  rw[Around.under_plainId PySem.F.plain_proto_collect _]
  show wpAny _ A.in1 (newList [] >>= fun l=>again (.builtin "list.__iadd__" ⟨[l,.ref r],[]⟩)) _ _ s
  refine wpAny_bind (wpAny_newObj_type ?_)
  refine wpAny_pure ⟨plainId_quiet PySem.F.plain_list_iadd _,codeAny_builtin entry_list_iadd' ?_⟩
  rw[Around.under_plainId PySem.F.plain_list_iadd _]
  have hS₁:(s.heap.push { cls:=.type "list",data:=.seq ([]:List Value).toArray }).get? s.heap.objs.size=some { cls:=.type "list",data:=.seq #[] }:=Heap.get?_push_size _ rfl
  show wpAny _ A.in1 (Builtin.List.listExtendWith (.ref s.heap.objs.size) (.ref r) (.ref s.heap.objs.size)) _ _ _
  have key:=wpAny_extend_range (A:=A) (prog:=prog) (w:=w) (s:={ s with heap:=s.heap.push { cls:=.type "list",data:=.seq ([]:List Value).toArray } })
    (R:=fun (q:Result) (s':Shared)=>∃(h':Heap) (tk:Nat) (acc':Array Value) (c':Nat),q=.ok (.ret (.ref s.heap.objs.size))∧s'={ s with heap:=h',toks:=tk } ∧
      (∀b o,s.heap.get? b=some o→h'.get? b=some o)∧h'.get? s.heap.objs.size=some { cls:=.type "list",dict:=none,data:=.seq acc' c',slots:=#[] }∧IntsAre acc'.toList (lC n))
    hh (Heap.get?_push_of_some _ hr) hsm hsz hlen s.heap.objs.size (.ref s.heap.objs.size) 0 hS₁
    (fun h' tk acc' c' hk hS' hI=>⟨h',tk,acc',c',rfl,rfl,fun b o e=>hk b o (Nat.ne_of_lt (Heap.lt_size e)) (Heap.get?_push_of_some _ e),hS',items hI⟩)
  refine wpAny_mono key (fun fin s' x=>?_) fun e s' x=>?_
  · cases fin with
    | done f =>
      obtain ⟨h',tk,acc',c',e,rfl,hk,hS',hI⟩:=x
      cases e
      show wpAny _ A (load s.heap.objs.size >>= _) _ _ _
      refine wpAny_bind (wpAny_load hS' ?_)
      exact wpAny_pure (h h' tk acc'.toList hk (Heap.lt_size hS') hI)
    | again c₁ =>
      refine⟨x.1,codeAny_mono x.2 fun q s₂ y=>?_⟩
      obtain ⟨h',tk,acc',c',rfl,rfl,hk,hS',hI⟩:=y
      show wpAny _ A (load s.heap.objs.size >>= _) _ _ _
      refine wpAny_bind (wpAny_load hS' ?_)
      exact wpAny_pure (h h' tk acc'.toList hk (Heap.lt_size hS') hI)
  · obtain ⟨_,_,_,_,e',_⟩:=x
    cases e'
def Ah (h:Heap) (L:Addr):List (Addr × Obj):=(List.range h.objs.size).filterMap fun a=>if a=L then none else (h.get? a).map fun o=>(a,o)
theorem nR {h:Heap}{L a:Addr}{o:Obj}:(a,o)∈Ah h L↔a≠L∧h.get? a=some o:=by
  unfold Ah
  rw[List.mem_filterMap]
  constructor
  · rintro ⟨b,_,e⟩
    by_cases hb:b=L
    · rw[if_pos hb] at e;cases e
    · rw[if_neg hb] at e
      cases q:h.get? b with
      | none=>rw[q] at e;cases e
      | some o'=>rw[q] at e;cases e;exact⟨hb,q⟩
  · rintro ⟨h1,h2⟩
    exact⟨a,List.mem_range.mpr (Heap.lt_size h2),by rw[if_neg h1,h2];rfl⟩
def intOf:Value→Int
  | .int z _=>z
  | _=>0
theorem wN:∀{vs:List Value}{ns:List Int},IntsAre vs ns→∀(j:Nat) v,vs[j]?=some v→∃z t,ns[j]?=some z∧v=.int z t
  | _,_,.nil,j,v,h=>by simp at h
  | _,_,.cons n t hr,0,v,h=>by cases h;exact⟨n,t,rfl,rfl⟩
  | _,_,.cons n t hr,j+1,v,h=>by
    rw[List.getElem?_cons_succ] at h ⊢
    exact wN hr j v h
theorem intsAre_map:∀{vs:List Value},(∀v∈vs,∃t,v=.int (intOf v) t)→IntsAre vs (vs.map intOf)
  | [],_=>.nil
  | v::vs,h=>by
    obtain ⟨t,e⟩:=h v List.mem_cons_self
    rw[List.map_cons,e]
    exact .cons _ _ (intsAre_map fun x hx=>h x (List.mem_cons_of_mem _ hx))
theorem oP:∀{vs:List Value}{ns:List Int},IntsAre vs ns→vs.map intOf=ns
  | _,_,.nil=>rfl
  | _,_,.cons n t hr=>by rw[List.map_cons,oP hr];rfl
theorem zV {Q:Value→Shared→Prop}{r f L:Addr}{n:Nat}{t u v:Tok}{m:Str→Option Value}{key:Nat→Int} (hh:A.handled=none) (hr:IsRange s.heap r 0 (n:Int) 1 t u v) (h64:n<64) (hL:s.heap.Ns L m)
    (turn:∀(j:Nat) (t0:Tok) (h:Heap) (tk:Nat),j<n→(∀b o,b≠L→s.heap.get? b=some o→h.get? b=some o)→h.Ns L m →
      wpAny (model prog w) A.in1.in1 (call (.ref f) [.int (j:Int) t0]) (fun v s2=>∃h' tk' t',s2={ s with heap:=h',toks:=tk' }∧v=.int (key j) t'∧(∀b o,b≠L→h.get? b=some o→h'.get? b=some o)∧h'.Ns L m) (fun _ _=>False) { s with heap:=h,toks:=tk })
    (hQ:∀(h':Heap) (tk:Nat) (D:Addr) (out:Array Value) (c:Nat) (ms:List Int),(∀b o,b≠L→s.heap.get? b=some o→h'.get? b=some o)→h'.Ns L m→h'.get? D=some (seqObj "list" out c)→s.heap.objs.size≤D →
      IntsAre out.toList ms→ms.Perm (lC n)→ms.Pairwise (fun a b=>key a.toNat≤key b.toNat)→Q (.ref D) { s with heap:=h',toks:=tk }) :
    wpAny (model prog w) A (call (.builtin "sorted") [.ref r] [(Str.ofString "key",.ref f)]) Q E s:=by
  refine call_function_entry_kw kind_sorted plain_sorted entry_sorted (ksk_s1 _ _) ?_
  unfold Builtin.«sorted»
  refine wpAny_bind (m:=checkCount "sorted" 1 1 _) (wpAny_pure ?_)
  refine wpAny_bind (xO (A:=A.in1) hh hr (by omega) fun h1 tk1 vs k1 hgr hvs=>?_)
  have hvl:vs.length=n:=by rw[hvs.length,List.length_map,List.length_range]
  refine wpAny_bind (wpAny_newList ?_ (by rw[sizeLine_eq];omega))
  have hoL:(h1.push (seqObj "list" vs.toArray 0)).get? h1.objs.size=some (seqObj "list" vs.toArray 0):=Heap.get?_push_size _ rfl
  have k2:∀b o,s.heap.get? b=some o→(h1.push (seqObj "list" vs.toArray 0)).get? b=some o:=fun b o e=>Heap.get?_push_of_some _ (k1 b o e)
  have hle:s.heap.objs.size≤h1.objs.size:=Nat.le_of_lt hgr
  show wpAny _ _ _ _ _ { s with heap:=h1.push (seqObj "list" vs.toArray 0),toks:=tk1 }
  refine wpAny_bind (wpAny_holding (wpAny_call_entry_kw slot_list_sort ⟨_,hoL,rfl⟩ entry_list_sort ?body (ksk_l1 _ _)))
  show wpAny (model prog w) A.in1.in1 (Builtin.«list.sort» ⟨[.ref h1.objs.size],[(Str.ofString "key",.ref f)]⟩) _ _ _
  rw[ksk_t1]
  have hLn:(h1.push (seqObj "list" vs.toArray 0)).Ns L m:=by
    obtain ⟨o,es,ep,e1,e2⟩:=hL
    exact⟨o,es,ep,k2 L o e1,e2⟩
  have hLlt:L<s.heap.objs.size:=hL.lt
  have hLne:h1.objs.size≠L:=Nat.ne_of_gt (Nat.lt_of_lt_of_le hLlt hle)
  refine ksk_sort (kz:=(List.range n).map key) (h₀:=⟨#[],{}⟩) (L:=L) (m:=m) (news:=(Ah (h1.push (seqObj "list" vs.toArray 0)) L).filter fun p=>decide (p.1≠h1.objs.size)) (s:={ s with heap:=h1.push (seqObj "list" vs.toArray 0),toks:=tk1 })
    ⟨hLn,fun b o e=>by simp [Heap.get?] at e,Nat.zero_le _⟩ (fun p hp=>?_) hoL hLne (by simp [Heap.get?]) (fun p hp=>of_decide_eq_true (List.mem_filter.mp hp).2) (by rw[List.length_map,List.length_range,hvl]) (by omega) ?_ ?_
  · obtain ⟨q1,q2⟩:=nR.mp (List.mem_filter.mp hp).1
    exact⟨q2,q1,by simp [Heap.get?]⟩
  · intro i v k hv hk h tk own F N
    obtain ⟨z,t0,e1,rfl⟩:=wN hvs i v hv
    have hi:i<n:=by rw[← hvl];exact (List.getElem?_eq_some_iff.mp hv).1
    rw[List.getElem?_map,List.getElem?_range hi] at e1 hk
    cases e1
    cases hk
    have kh:∀b o,b≠L→s.heap.get? b=some o→h.get? b=some o:=fun b o hb e =>
      (N (b,o) (List.mem_append_left _ (List.mem_filter.mpr ⟨nR.mpr ⟨hb,k2 b o e⟩,decide_eq_true (Nat.ne_of_lt (Nat.lt_of_lt_of_le (Heap.lt_size e) hle))⟩))).1
    refine wpAny_mono (turn i t0 h tk hi kh F.ns) (fun v s2 ⟨h',tk',t',e1,e2,kk,nn⟩=>?_) fun _ _ z=>z
    exact⟨h',tk',t',e1,e2,⟨nn,fun b o e=>by simp [Heap.get?] at e,Nat.zero_le _⟩,fun p hp=>⟨kk _ _ (N p hp).2.1 (N p hp).1,(N p hp).2⟩⟩
  · intro h' tk out c F N ⟨ps,hp,ho,hs⟩
    refine⟨_,rfl,wpAny_pure ⟨_,rfl,?_⟩⟩
    have hz:∀p∈ps,(∃t,p.2=.int (intOf p.2) t)∧p.1=key (intOf p.2).toNat:=fun p hpm=>by
      obtain ⟨j,hj⟩:=List.mem_iff_getElem?.mp (hp.mem_iff.mp hpm)
      obtain ⟨g1,g2⟩:=List.getElem?_zip_eq_some.mp hj
      obtain ⟨z,t0,e1,e2⟩:=wN hvs j _ g2
      have hjn:j<n:=by rw[← hvl];exact (List.getElem?_eq_some_iff.mp g2).1
      rw[List.getElem?_map,List.getElem?_range hjn] at e1 g1
      cases e1
      refine⟨⟨t0,by rw[e2];rfl⟩,?_⟩
      rw[e2]
      show p.1=key (j:Int).toNat
      rw[Int.toNat_natCast]
      exact (Option.some.inj g1).symm
    refine hQ h' tk h1.objs.size out c (ps.map fun p=>intOf p.2) (fun b o hb e=>?_) F.ns (N _ List.mem_cons_self).1 hle ?_ ?_ ?_
    · exact (N (b,o) (List.mem_cons_of_mem _ (List.mem_filter.mpr ⟨nR.mpr ⟨hb,k2 b o e⟩,decide_eq_true (Nat.ne_of_lt (Nat.lt_of_lt_of_le (Heap.lt_size e) hle))⟩))).1
    · rw[ho,show (ps.map fun p=>intOf p.2)=(ps.map Prod.snd).map intOf by rw[List.map_map];rfl]
      refine intsAre_map fun v hv=>?_
      obtain ⟨p,hpm,rfl⟩:=List.mem_map.mp hv
      exact (hz p hpm).1
    · refine (hp.map fun p=>intOf p.2).trans ?_
      rw[show (((List.range n).map key).zip vs).map (fun p=>intOf p.2)=(((List.range n).map key).zip vs |>.map Prod.snd).map intOf by rw[List.map_map];rfl,List.map_snd_zip (by rw[List.length_map,List.length_range,hvl];exact Nat.le_refl _),oP hvs]
    · rw[List.pairwise_map]
      refine hs.imp_of_mem fun {a b} ha hb h=>?_
      rw[← (hz a ha).2,← (hz b hb).2]
      exact h
end
end L2
namespace L2
open PySem PySem.Spec PySem.Calls PyProof.Rows
abbrev rC (x y:Str) (p1 p2 p3 p4:Pos):Expr:=.UnaryOp .USub (.Subscript (.Name x p1) (.Name y p2) p3) p4
section
variable {prog:Program}{w:World}{A:Around}{E:Value→Shared→Prop}{s:Shared}
theorem Ds {Q:Value→Shared→Prop}{f c' cr a:Addr}{q x y:Str}{params:Arguments}{scope:Scope}{p1 p2 p3 p4:Pos}{pm ctv:Value}{t0 tz:Tok}{j:Nat}{z:Int}{items:Array Value}
    (ho:s.heap.get? f=some (PySem.W.kla_obj "<lambda>" q params (rC x y p1 p2 p3 p4) scope [(x,cr)] pm c' ctv)) (hcd:s.heap.CodeRec (.ref c') q) (hroom:A.depth<recursionLimit) (hnl:s.heap.NoLimit)
    (hcell:s.heap.IsCell cr (some (.ref a))) (hl:s.heap.IsList a items) (hx:items[j]?=some (.int z tz)) (hj:j<2 ^ 62)
    (hb:∀v:Value,bindArgs (PySem.W.kla_fn "<lambda>" q params (rC x y p1 p2 p3 p4) scope [(x,cr)] pm (.ref c') ctv) ⟨[v],[]⟩=pure [(y,v)])
    (hy:scope.names.lookup y=some .local) (hxf:scope.names.lookup x=some .free) (hnc:∀n∈scope.names,n.2≠.cell) (hk:scope.kind=.function) (hco:scope.isCoroutine=false) (hgen:scope.isGenerator=false)
    (hdx:(x == ("__debug__" : Str))=false) (hdy:(y == ("__debug__" : Str))=false) (hcx:(x == ("__classdict__" : Str))=false)
    (hQ:∀(h':Heap) (tk:Nat) (t':Tok),(∀b o,s.heap.get? b=some o→h'.get? b=some o)→Q (.int (-z) t') { s with heap:=h',toks:=tk }) :
    wpAny (model prog w) A (call (.ref f) [.int (j:Int) t0]) Q E s:=by
  refine wpAny_call (PySem.W.kla_callFunE hroom ho rfl hco hgen rfl hcd ?_)
  rw[hb]
  refine wpAny_pure (wpAny_newFunctionEnv hnc (fun p hp=>?_) (fun h₁ hns hsb=>⟨hnl.fresh _ hsb,?_⟩) hk)
  · rw[List.mem_singleton.mp hp];exact hy
  have hk₁:∀b o,s.heap.get? b=some o→h₁.get? b=some o:=fun b o e=>hsb.extBut b o (Nat.ne_of_lt (Heap.lt_size e)) (Heap.get?_push_of_some _ e)
  refine PySem.W.kla_codeExpr ?_
  refine UnaryOp_ (Subscript_ ?_)
  refine wpAny_Name (wpAny_loadName_free (c:=cr) (v:=.ref a) hk hxf ?_ (let ⟨o,e,d⟩:=hcell;⟨o,hk₁ _ o e,d⟩) ?_ hcx) hdx
  · show List.lookup x [(x,cr)]=some cr
    rw[List.lookup_cons_self]
  refine wpAny_Name (wpAny_loadName_local (v:=.int (j:Int) t0) hk hy hns ?_ ?_) hdy
  · show List.lookup y [(y,Value.int (j:Int) t0)]=_
    rw[List.lookup_cons_self]
  refine item_listR (hl.at fun o e=>hk₁ _ o e) (by omega) (by omega) (by rw[Int.toNat_natCast];exact hx) ?_
  exact neg_int (hQ _ _ _ hk₁)
end
end L2
namespace L3
open PySem L2 PySem.Calls PyProof.Rows
def Jx (te:TE):TE:=fun σ H Q=>te σ H fun x H1=>∃n:Nat,x=.int (n:Int)∧∀r,H1 r=none→Q (.ref r) (upd H1 r (.rng 0 n))
section
variable {X:Cx}
theorem Ht {e:Expr}{te:TE}{p pos:Pos} (hg:Gl X "range") (hm:X.mg "range" = none) (he:PE X e te) (hs:starEach [e] X.env=[(false,eval e X.env)]:=by rfl) :
    PE X (.Call (.Name "range" p) [e] [] pos) (Jx te):=by
  intro pins s σ H Q I h
  refine wpAny_Call_Name_kw (kS I hg hm boot_range ?_)
  refine PyProof.Rows.callWith_type1 ?_ hs rfl
  rw[hs]
  refine Calls.spliced_cons (thn (he pins s σ H _ I h) fun v s1 ⟨x,H1,I1,r1,n,ex,q⟩=>?_)
  subst ex
  obtain ⟨t,rfl⟩:=r1
  refine Calls.spliced_nil (call_range_1 ?_)
  have hn:H1 s1.heap.objs.size=none:=I1.hok.fresh (Nat.le_refl _)
  exact⟨.ref s1.heap.objs.size,_,I1.laid (o:=.rng 0 (n:Int)) (fun b o e=>Heap.get?_push_of_some _ e) (Nat.le_refl _) ⟨_,_,_,Heap.get?_push_size _ rfl⟩,rfl,q _ hn⟩
end
theorem pA {a b:Int}{t u:Tok}{c:Value}:∀{l:List Value},TriplesOk l→TriplesOk (l++[.int a t,.int b u,c])
  | [],_=>trivial
  | .int _ _::.int _ _::_::rest,h=>pA (l:=rest) h
theorem tX {pos:Pos}{a b:Int}{t u:Tok}{c cv:Value}:∀{l:List Value},TriplesOk l→codeAmong pos (l++[.int a t,.int b u,c])=some cv→codeAmong pos l=some cv∨cv=c
  | [],_,h=>by
    simp only[List.nil_append,codeAmong] at h
    split at h
    · exact .inr (Option.some.inj h).symm
    · cases h
  | .int l1 t1::.int c1 u1::x::rest,ht,h=>by
    simp only[List.cons_append,codeAmong] at h ⊢
    split at h
    · rename_i e
      rw[if_pos e];exact .inl h
    · rename_i e
      rw[if_neg e]
      exact tX (l:=rest) ht h
section
variable {X:Cx}{x y:Str}{params:Arguments}{scope:Scope}{pos p1 p2 p3 p4:Pos}{cr c P:Addr}
def xc (x y:Str) (params:Arguments) (scope:Scope) (p1 p2 p3 p4:Pos) (cr:Addr) (pm:Value) (f c':Addr):HO :=
  .ext fun h=>∃ctv,h.get? f=some (PySem.W.kla_obj "<lambda>" y4 params (rC x y p1 p2 p3 p4) scope [(x,cr)] pm c' ctv)
def BMd (base:Heap) (mg:Str→Option Value):Prop:=∃bm ob,mg "__builtins__" = some (.ref bm)∧bm≠builtinsNs∧base.get? bm=some ob∧ob.cls=.type "module"∧ob.dict=some builtinsNs∧ob.data=.plain
theorem FT {h:Heap}{c':Addr}{P:Program}{w:World}{H:Hp} (hr:h.CodeRec (.ref c') y4):eX P w H h c' (uF c'):=by
  refine⟨hr,?_,fun h1 h2 ⟨c,o,vs,t,e1,e2,e3⟩ k=>?_⟩
  · obtain ⟨c,o,vs,t,e1,e2,e3⟩:=hr
    cases e1
    exact⟨o,e2⟩
  · cases e1
    exact⟨_,o,vs,t,rfl,k o e2,e3⟩
theorem AO {h:Heap}{f c':Addr}{P:Program}{w:World}{H:Hp}{pm ctv:Value} (hf:h.get? f=some (PySem.W.kla_obj "<lambda>" y4 params (rC x y p1 p2 p3 p4) scope [(x,cr)] pm c' ctv)) :
    eX P w H h f (xc x y params scope p1 p2 p3 p4 cr pm f c'):=⟨⟨ctv,hf⟩,⟨_,hf⟩,fun h1 h2 ⟨ctv,e⟩ k=>⟨ctv,k _ e⟩⟩
def Jm (P:Addr) (F:Addr→Addr→HO):TE:=fun σ H Q=>TabAt P H∧∀f c' H',Same H H'→H f=none→H' f=some (F f c')→H' c'=some (uF c')→Q (.ref f) H'
theorem II (hcl:closureFor scope X.env=pure [(x,cr)]) (hcode:X.env.code=.ref c) (hcd:PySem.W.codeHdIn X.K c P=true) (hq:X.env.qual++"<lambda>" = y4) (hdef:defaultsOf params X.env=([],[])) (hbm:BMd X.base X.mg) :
    PE X (.Lambda params (rC x y p1 p2 p3 p4) scope pos) (Jm P (xc x y params scope p1 p2 p3 p4 cr ((X.mg "__name__").getD .none))):=by
  intro pins s σ H Q I h
  obtain ⟨⟨ps,hP,ht,hci⟩,q⟩:=h
  have hPo:s.heap.get? P=some (PySem.W.tabObj ps):=I.hok P _ hP
  have KX:X.K.In s.heap:=I.mod.kin.keeps I.bk
  have C:=PySem.W.codeHd_of_K KX hcd
  have hgs:s.heap.Ns mainGlobals X.mg:=I.mod.glob.keeps I.bk
  have hgP:mainGlobals≠P:=fun e=>by
    obtain ⟨o,es,ep,e1,e2,_⟩:=hgs
    rw[e,hPo] at e1;cases e1;cases e2
  obtain ⟨bm,ob,b1,b2,b3,b4,b5,b6⟩:=hbm
  have b3':=I.bk _ _ b3
  have hbG:bm≠mainGlobals:=fun e=>by
    obtain ⟨o,es,ep,e1,e2,_⟩:=hgs
    rw[← e,b3'] at e1;cases e1;rw[b6] at e2;cases e2
  have hbP:bm≠P:=fun e=>by rw[e,hPo] at b3';cases b3';cases b4
  refine PySem.W.kla_eval hdef ?_
  rw[hq]
  cases hf:codeAmong pos ps.toList with
  | none =>
    refine PySem.W.kla_makeFunction (mg:=X.mg) hcl I.ok.glob hgs hcode C hPo ht hf hgP ⟨bm,ob,b1,b2,hbG,hbP,b3',b4,b5,b6⟩ fun c' ctv h' tk hx hge hlt hrec htb=>?_
    have hfs:s.heap.objs.size≤h'.objs.size:=Nat.le_trans hge (Nat.le_of_lt hlt)
    have hnf:H h'.objs.size=none:=I.hok.fresh hfs
    have hnc:H c'=none:=I.hok.fresh hge
    have nPc:P≠c':=aY hP hnc
    have nPf:P≠h'.objs.size:=aY hP hnf
    have ncf:c'≠h'.objs.size:=Nat.ne_of_lt hlt
    generalize hps:ps++#[rawInt pos.line,rawInt pos.col,.ref c']=ps' at htb
    have hpl:ps'.toList=ps.toList++[rawInt pos.line,rawInt pos.col,.ref c']:=by rw[← hps,Array.toList_append]
    have keepH:∀b u,b≠P→H b=some u→upd (upd (upd H P (.tbl ps')) c' (uF c')) h'.objs.size (xc x y params scope p1 p2 p3 p4 cr ((X.mg "__name__").getD .none) h'.objs.size c') b=some u:=fun b u hb e=>by
      rw[aP (aY e hnf),aP (aY e hnc),aP hb];exact e
    have atP:upd (upd (upd H P (.tbl ps')) c' (uF c')) h'.objs.size (xc x y params scope p1 p2 p3 p4 cr ((X.mg "__name__").getD .none) h'.objs.size c') P=some (.tbl ps'):=by
      rw[aP nPf,aP nPc,aH]
    have atC:upd (upd (upd H P (.tbl ps')) c' (uF c')) h'.objs.size (xc x y params scope p1 p2 p3 p4 cr ((X.mg "__name__").getD .none) h'.objs.size c') c'=some (uF c'):=by
      rw[aP ncf,aH]
    have np:∀{b u},H b=some u→NT u→b≠P:=fun {b u} e n z=>by
      subst z;rw[hP] at e;cases e;exact n
    have sm:Same H (upd (upd (upd H P (.tbl ps')) c' (uF c')) h'.objs.size (xc x y params scope p1 p2 p3 p4 cr ((X.mg "__name__").getD .none) h'.objs.size c')):=by
      refine⟨fun b u e n=>keepH b u (np e n) e,fun b qs e=>?_,fun P' ⟨qs,e,g1,g2⟩=>?_⟩
      · by_cases z:b=P
        · subst z;exact⟨_,atP⟩
        · exact⟨qs,keepH b _ z e⟩
      · by_cases z:P'=P
        · subst z
          rw[hP] at e;cases e
          refine⟨ps',atP,by rw[hpl];exact pA g1,fun pos' cv z=>?_⟩
          rw[hpl] at z
          rcases tX g1 z with z | z
          · obtain ⟨c2,z1,z2⟩:=g2 pos' cv z
            exact⟨c2,z1,keepH c2 _ (np z2 trivial) z2⟩
          · exact⟨c',z,atC⟩
        · exact⟨qs,keepH P' _ z e,g1,fun pos' cv z=>let ⟨c2,z1,z2⟩:=g2 pos' cv z;⟨c2,z1,keepH c2 _ (np z2 trivial) z2⟩⟩
    have up:∀b o,b≠P→s.heap.get? b=some o→(h'.push (PySem.W.kla_obj "<lambda>" y4 params (rC x y p1 p2 p3 p4) scope [(x,cr)] ((X.mg "__name__").getD .none) c' ctv)).get? b=some o:=fun b o hb e=>Heap.get?_push_of_some _ (hx b o hb e)
    have nL:X.env.locals≠P:=fun e=>by
      have:=I.free
      rw[e,hP] at this;cases this
    have nn:∀{b:Addr},H b=none→b≠P:=fun {b} e z=>by subst z;rw[hP] at e;cases e
    refine⟨.ref h'.objs.size,_,?_,rfl,q h'.objs.size c' _ sm hnf aH atC⟩
    refine I.step (g':=s.gens) (d':=s.drawn) (t':=tk) (ch:=[]) (fun _ z=>nomatch z) (fun b o _ _ _ e n=>up b o (nn n) e) (fun b o _ _ _ e n=>⟨o.slots,up b o (nn n) e⟩) (fun b o _ e n=>?_) (fun b o _ e=>?_)
      (fun b xs e=>sm.st b _ e trivial) (fun b o u e=>sm.st b _ e trivial) (fun b qs e=>?_) (fun m hm=>?_) (fun b o e=>?_) I.bare
    · have hb:=Heap.lt_size e
      rw[aP (Nat.ne_of_lt (Nat.lt_of_lt_of_le hb hfs)),aP (Nat.ne_of_lt (Nat.lt_of_lt_of_le hb hge)),aP (nn n)];exact n
    · by_cases z:b=P
      · subst z;exact⟨_,Heap.get?_push_of_some _ htb⟩
      · exact⟨o,up b o z e⟩
    · by_cases z:b=P
      · subst z
        rw[hP] at e;cases e
        exact⟨#[rawInt pos.line,rawInt pos.col,.ref c'],by rw[hps];exact atP⟩
      · exact⟨#[],by rw[keepH b _ z e];simp⟩
    · obtain ⟨o,es,ep,ho,r⟩:=hm
      exact⟨o,es,ep,up _ o nL ho,r⟩
    · by_cases zf:b=h'.objs.size
      · subst zf
        rw[aH] at e;cases e
        exact AO (Heap.get?_push_size _ rfl)
      rw[aP zf] at e
      by_cases zc:b=c'
      · subst zc
        rw[aH] at e;cases e
        exact FT (let ⟨cc,o,vs,t,e1,e2,e3⟩:=hrec;⟨cc,o,vs,t,e1,Heap.get?_push_of_some _ e2,e3⟩)
      rw[aP zc] at e
      by_cases zP:b=P
      · subst zP
        rw[aH] at e;cases e
        exact Heap.get?_push_of_some _ htb
      rw[aP zP] at e
      refine (I.hok b o e).pT (fun d w' hd z=>up d w' (fun y=>?_) z) (fun d z=>sm.st d _ z trivial) fun d xs z=>sm.st d _ z trivial
      subst y
      rcases hd with hd | hd
      · exact zP hd.symm
      · rw[hP] at hd;cases hd
  | some cv =>
    obtain ⟨c',rfl,hc'⟩:=hci pos cv hf
    refine PySem.W.kla_makeFunctionHit (mg:=X.mg) hcl I.ok.glob hgs hcode C hPo ht hf ⟨bm,ob,b1,b2,hbG,hbP,b3',b4,b5,b6⟩ fun ctv h' tk hk hsz=>?_
    have hn:H h'.objs.size=none:=I.hok.fresh hsz
    have hcf:c'≠h'.objs.size:=aY hc' hn
    exact⟨.ref h'.objs.size,_,I.laid (a:=h'.objs.size) (t':=tk) (o:=xc x y params scope p1 p2 p3 p4 cr ((X.mg "__name__").getD .none) h'.objs.size c') (fun b o e=>Heap.get?_push_of_some _ (hk b o e)) hsz (AO (Heap.get?_push_size _ rfl)),rfl,
      q _ c' _ (Same.o9 hn) hn aH (by rw[aP hcf];exact hc')⟩
end
end L3
namespace L3
open PySem L2 PySem.Calls PyProof.Rows
theorem Hw {h:Heap}{L:Addr}{m m':Str→Option Value} (a:h.Ns L m) (b:h.Ns L m'):m=m':=by
  obtain ⟨o,es,ep,e1,e2,_,e3⟩:=a
  obtain ⟨o',es',ep',f1,f2,_,f3⟩:=b
  rw[e1] at f1;cases f1
  rw[e2] at f2;cases f2
  funext x
  rw[← e3 x,← f3 x]
def y7 (K:PySem.W.Frag) (P:Addr) (i:Nat):TE:=fun σ H Q=>∃(a:Addr) (ns:List Int),σ[i]?=some (some (.ref a))∧SqL K H a (ns.map V.int)∧ns.length<64∧TabAt P H ∧
  ∀(l:Addr) (H':Hp) (ms:List Int),Same H H'→H l=none→H' l=some (.lst (ms.map V.int))→ms.Perm (lC ns.length)→ms.Pairwise (fun a b=>-(ns.getD a.toNat 0)≤-(ns.getD b.toNat 0))→Q (.ref l) H'
section
variable {X:Cx}{K:PySem.W.Frag}{x y:Str}{params:Arguments}{scope:Scope}{pos p1 p2 p3 p4:Pos}{cr c P:Addr}{i:Nat}{el:Expr}{tl:TE}{ps pr q2 q3 kpos:Pos}
theorem zO (hK:X.K=K) (hc:X.calm=true) (hg:Gl X "sorted") (hm:X.mg "sorted" = none) (hg2:Gl X "range") (hm2:X.mg "range" = none) (hl:PE X el tl)
    (htl:∀σ H Q a xs,σ[i]?=some (some (.ref a))→SqL X.K H a xs→Q (.int (xs.length:Int)) H→tl σ H Q)
    (hN:X.N[i]?=some x) (hv:Vis X.env.scope x) (hkx:X.env.kindOf x=some .cell) (hcr:X.env.cells.lookup x=some cr) (hroom:X.A.in1.in1.depth<recursionLimit)
    (hcl:closureFor scope X.env=pure [(x,cr)]) (hcode:X.env.code=.ref c) (hcd:PySem.W.codeHdIn X.K c P=true) (hq:X.env.qual++"<lambda>" = y4) (hdef:defaultsOf params X.env=([],[])) (hbm:BMd X.base X.mg)
    (hb:∀(v pm ctv:Value) (c':Addr),bindArgs (PySem.W.kla_fn "<lambda>" y4 params (rC x y p1 p2 p3 p4) scope [(x,cr)] pm (.ref c') ctv) ⟨[v],[]⟩=pure [(y,v)])
    (hy:scope.names.lookup y=some .local) (hxf:scope.names.lookup x=some .free) (hnc:∀n∈scope.names,n.2≠.cell) (hk:scope.kind=.function) (hco:scope.isCoroutine=false) (hgen:scope.isGenerator=false)
    (hdx:(x == ("__debug__" : Str))=false) (hdy:(y == ("__debug__" : Str))=false) (hcx:(x == ("__classdict__" : Str))=false)
    (he:backTo q3 (starEach [Expr.Call (.Name "range" pr) [el] [] q2] X.env)=(false,eval (.Call (.Name "range" pr) [el] [] q2) X.env)::backTo q3 (starEach [] X.env):=by rfl)
    (hs:starEach [el] X.env=[(false,eval el X.env)]:=by rfl)
    (hplain:(backTo q3 (starEach [Expr.Call (.Name "range" pr) [el] [] q2] X.env)).any (·.1)=false:=by rfl)
    (hall:(backToKw q3 (keywordEach [⟨some "key",.Lambda params (rC x y p1 p2 p3 p4) scope pos,kpos⟩] X.env)).all (·.1.isSome)=true:=by rfl)
    (hkn:(backToKw q3 (keywordEach [⟨some "key",.Lambda params (rC x y p1 p2 p3 p4) scope pos,kpos⟩] X.env)).any (·.1.isNone)=false:=by rfl)
    (hks:(backToKw q3 (keywordEach [⟨some "key",.Lambda params (rC x y p1 p2 p3 p4) scope pos,kpos⟩] X.env)).filterMap (·.1)=[("key" : Str)]:=by rfl) :
    PE X (.Call (.Name "sorted" ps) [.Call (.Name "range" pr) [el] [] q2] [⟨some "key",.Lambda params (rC x y p1 p2 p3 p4) scope pos,kpos⟩] q3) (y7 K P i):=by
  subst hK
  intro pins s σ H Q I h
  obtain ⟨a,ns,hσ,hS,h64,hT,q⟩:=h
  have hpa:PA X [Expr.Call (.Name "range" pr) [el] [] q2] (fX (Jx tl) nO):=af (Ht hg2 hm2 hl hs) ak
  have hpk:PK X [⟨some "key",.Lambda params (rC x y p1 p2 p3 p4) scope pos,kpos⟩] (fX (Jm P (xc x y params scope p1 p2 p3 p4 cr ((X.mg "__name__").getD .none))) nO):=AY (II hcl hcode hcd hq hdef hbm) CV
  refine wpAny_Call_Name_kw (kS I hg hm boot_sorted ?_)
  refine callWith_kw (thn (hpa q3 pins s σ H (fun vs H1=>∃r:Addr,vs=[V.ref r]∧H r=none∧H1=upd H r (.rng 0 (ns.length:Int))) I (htl σ H _ a _ hσ hS ⟨ns.length,by rw[List.length_map],fun r hr=>⟨r,rfl,hr,rfl⟩⟩)) fun us s1 ⟨vs,H1,I1,r1,r,e1,hr,e2⟩=>?_) he hplain hall hkn
  subst e1 e2
  obtain ⟨u1,rfl,ru⟩:=vals1 r1
  obtain rfl:u1=Value.ref r:=ru
  have s01:Same H (upd H r (.rng 0 (ns.length:Int))):=Same.o9 hr
  refine thn (hpk q3 pins s1 σ _ (fun zs H2=>∃f c':Addr,zs=[V.ref f]∧Same (upd H r (.rng 0 (ns.length:Int))) H2∧H2 f=some (xc x y params scope p1 p2 p3 p4 cr ((X.mg "__name__").getD .none) f c')∧H2 c'=some (uF c')) I1 ⟨s01.ti _ hT,fun f c' H2 sm _ hf hc'=>⟨f,c',rfl,sm,hf,hc'⟩⟩) fun ws s2 ⟨zs,H2,I2,rz,f,c',e1,s12,hf,hc'⟩=>?_
  subst e1
  obtain ⟨u2,rfl,ru2⟩:=vals1 rz
  obtain rfl:u2=Value.ref f:=ru2
  rw[hks]
  have s02:=s01.trans s12
  have hS2:=s02.seq hS
  obtain ⟨m,hn,hloc⟩:=I2.loc
  obtain ⟨u,rr,look⟩:=hloc i x (.ref a) hN hσ hv
  obtain rfl:u=Value.ref a:=rr
  have hcell:s2.heap.IsCell cr (some (.ref a)):=by
    rcases look with ⟨z,_⟩ | ⟨_,c2,z1,z2⟩
    · rw[hkx] at z;cases z
    · rw[hcr] at z1;cases z1;exact z2
  have hrg:=I2.hok r _ (s12.st r _ aH trivial)
  obtain ⟨t1,t2,t3,hrg⟩:=hrg
  obtain ⟨⟨ctv,hfo⟩,_⟩:=I2.hok f _ hf
  obtain ⟨hco',_⟩:=I2.hok c' _ hc'
  obtain ⟨its,rv,pl,hz⟩:=I2.list hS2
  obtain ⟨oL,esL,epL,eL1,eL2,eL3⟩:=id hn
  have nl:∀{b:Addr}{o:Obj},s2.heap.get? b=some o→(∀es ep,o.data≠.dict es ep)→b≠X.env.locals:=fun {b o} e d z=>by
    subst z;rw[e] at eL1;cases eL1;exact d _ _ eL2
  have nH:∀{b:Addr}{o:HO},H2 b=some o→b≠X.env.locals:=fun {b o} e z=>by
    subst z;have:=I2.free;rw[e] at this;cases this
  refine zV (n:=ns.length) (L:=X.env.locals) (m:=m) (key:=fun j=>-(ns.getD j 0)) (I.ok.hd hc) hrg h64 hn (fun j t0 hh tk hj kh nn=>?_) fun h' tk D out cp ms kh nn hD hge hi hp hw=>?_
  · obtain ⟨oc,ec,dc⟩:=id hcell
    obtain ⟨w1,hw1,rw1⟩:=rv.get (show (ns.map V.int)[j]?=some (.int (ns.getD j 0)) by rw[List.getElem?_map,List.getD_eq_getElem?_getD,List.getElem?_eq_getElem hj];rfl)
    obtain ⟨tz,rfl⟩:=rw1
    obtain ⟨oa,ea,ca,na,da⟩:=id pl.isList
    refine Ds (s:={ s2 with heap:=hh,toks:=tk }) (cr:=cr) (a:=a) (items:=its.toArray) (z:=ns.getD j 0) (tz:=tz) (kh _ _ (nH hf) hfo) ?_ hroom ?_ ⟨oc,kh _ _ (nl ec (fun es ep z=>by rw[dc] at z;cases z)) ec,dc⟩ (pl.isList.at fun o e=>kh _ o (nl ea (fun es ep z=>by rw[da] at z;cases z)) e) (by simpa using hw1) (by omega) (fun v=>hb v _ _ _) hy hxf hnc hk hco hgen hdx hdy hcx fun h' tk' t' kk=>⟨h',tk',t',rfl,rfl,fun b o _ e=>kk b o e,?_⟩
    · obtain ⟨cc,o,vs,t,e1,e2,e3⟩:=hco'
      cases e1
      exact⟨_,o,vs,t,rfl,kh _ _ (nH hc') e2,e3⟩
    · exact I2.mod.nolimit.keeps fun b o e=>kh b o (fun z=>Nat.lt_irrefl b (by
        have h1:=Heap.lt_size e
        have h2:=I2.ok.bsz
        have h3:=I2.ok.above
        rw[← z] at h3
        exact Nat.lt_of_lt_of_le h1 (Nat.le_trans h2 h3))) (I2.bk b o e)
    · obtain ⟨o,es,ep,e1,e2⟩:=nn
      exact⟨o,es,ep,kk _ _ e1,e2⟩
  · have hnD:H2 D=none:=I2.hok.fresh hge
    have sD:Same H2 (upd H2 D (.lst (ms.map V.int))):=Same.o9 hnD
    refine⟨.ref D,upd H2 D (.lst (ms.map V.int)),?_,rfl,q D _ ms (s02.trans sD) (s02.free hnD) aH hp hw⟩
    have keepH:∀b u,H2 b=some u→upd H2 D (.lst (ms.map V.int)) b=some u:=fun b u e=>by rw[aP (aY e hnD)];exact e
    refine I2.step (g':=s2.gens) (d':=s2.drawn) (t':=tk) (ch:=[]) (fun _ z=>nomatch z) (fun b o hb _ _ e n=>kh b o hb e) (fun b o hb _ _ e n=>⟨o.slots,kh b o hb e⟩) (fun b o _ e n=>?_) (fun b o _ e=>?_)
      (fun b xs e=>keepH b _ e) (fun b o u e=>keepH b _ e) (fun b qs e=>⟨#[],by rw[keepH b _ e];simp⟩) (fun m' hm'=>?_) (fun b o e=>?_) I2.bare
    · rw[aP (Nat.ne_of_lt (Nat.lt_of_lt_of_le (Heap.lt_size e) hge))];exact n
    · by_cases z:b=X.env.locals
      · subst z
        obtain ⟨o',es,ep,e1,_⟩:=nn
        exact⟨o',e1⟩
      · exact⟨o,kh b o z e⟩
    · rw[Hw hm' hn];exact nn
    · by_cases zD:b=D
      · subst zD
        rw[aH] at e;cases e
        have hml:=hp.length_eq
        rw[List.length_map,List.length_range] at hml
        refine⟨by rw[List.length_map,sizeLine_eq];omega,out.toList,cp,lK hi,?_⟩
        rw[hD]
      · rw[aP zD] at e
        refine (I2.hok b o e).pT (fun d w' hd z=>kh d w' ?_ z) (fun d z=>keepH d _ z) fun d xs z=>keepH d _ z
        rcases hd with rfl | hd
        · exact nH e
        · exact nH hd
end
end L3
namespace L3
open PySem L2 PySem.Spec PyProof.Rows
def wg (P:Addr) (H:Hp):Prop:=(∀b,H b=none∨b=P∨∃o xs,H b=some (.frz o (.lst xs)))∧H P=some (.tbl #[])
theorem wg.tab {P:Addr}{H:Hp} (h:wg P H):TabAt P H:=⟨#[],h.2,trivial,fun pos cv e=>by simp [codeAmong] at e⟩
theorem Ce {P0:Program}{w:World}{K:PySem.W.Frag}{mg mb:Str→Option Value}{CX:CXT}{k:Nat}{fa a c P:Addr}{fd:FuncData}{x:Str}{sp:Sp}{s₁:Shared}{vs:List Value}{ns:List Int}
    (KX:K.In s₁.heap) (hns:s₁.heap.Ns mainGlobals mg) (hb:s₁.heap.Ns builtinsNs mb) (hbb:∀x:Str,x≠"__name__"→mb x=bootBuiltins x) (hlim:s₁.heap.NoLimit) (hg:s₁.gens=#[])
    (ha:s₁.heap.get? a=some { cls:=.type "list",data:=.seq vs.toArray }) (hi:IntsAre vs ns) (hl:ns.length≤sizeLine) (hr:jL k callerA) (hP:s₁.heap.get? P=some (PySem.W.tabObj #[])) (hKP:K.lookup P=none) (hcd:PySem.W.codeHdIn K c P=true)
    (hbm:BMd s₁.heap mg) (F:∀base:Heap,K.In base→base.Ns mainGlobals mg→BMd base mg→bE P0 w K mg base CX k fa fd [x] sp) (hbind:∀(s:Shared) (u:Value),BindsTo s fd ⟨[u],[]⟩ [(x,u)])
    (hsp:∀H:Hp,wg P H→SqL K H a (ns.map V.int)→sp [.ref a] H (fun v _=>v=.bl true) fun _ _ _=>False)
    (hCX:∀H e s',CX [] H s₁ (fun _ _ _=>False) e s'→False) :
    codeAny (model P0 w) callerA (.call (.ref fa) ⟨[.ref a],[]⟩) (fun r s'=>r=.ok (.ret (.bool true))∧OldK s₁.heap s'.heap∧s'.os=s₁.os∧AllBare s'.gens) s₁:=by
  have rv:=wj hi
  have lenV:=hi.length
  have C:=PySem.W.codeHd_of_K KX hcd
  have haP:a≠P:=fun z=>by rw[z,hP] at ha;cases ha
  have core:∀H:Hp,wg P H→SqL K H a (ns.map V.int)→HOk P0 w H s₁.heap→(∀b,H b≠none→b=a∨b=P)→(H a≠none→K.lookup a=none) →
      codeAny (model P0 w) callerA (.call (.ref fa) ⟨[.ref a],[]⟩) (fun r s'=>r=.ok (.ret (.bool true))∧OldK s₁.heap s'.heap∧s'.os=s₁.os∧AllBare s'.gens) s₁:=by
    intro H hO hS hok hA hK
    have noA:∀{b:Addr}{o:Obj}{es:Array DictEntry}{ep:Nat},s₁.heap.get? b=some o→o.data=.dict es ep→H b=none:=fun {b o es ep} e d=>by
      cases q:H b with
      | none=>rfl
      | some u =>
        rcases hA b (by rw[q];simp) with z | z
        · subst z
          rw[ha] at e;cases e
          have d':Data.seq vs.toArray _=Data.dict es ep:=d
          cases d'
        · subst z
          rw[hP] at e;cases e
          have d':Data.fields #[]=Data.dict es ep:=d
          cases d'
    have nsK:∀{b:Addr}{m:Str→Option Value},s₁.heap.Ns b m→(xy s₁.heap H).Ns b m:=fun {b m} ⟨o,es,ep,e,d,r⟩=>⟨o,es,ep,tm e (noA e d),d,r⟩
    have hKb:K.In (xy s₁.heap H):=fun b o e=>tm (KX b o e) (by
      cases q:H b with
      | none=>rfl
      | some u =>
        rcases hA b (by rw[q];simp) with z | z
        · subst z
          rw[hK (by rw[q];simp)] at e;cases e
        · subst z
          rw[hKP] at e;cases e)
    have hM:Mod K mg (xy s₁.heap H):=⟨hKb,nsK hns,⟨mb,nsK hb,hbb⟩,let ⟨mc,h1,h2⟩:=hlim;⟨mc,nsK h1,h2⟩⟩
    have e0:GP P0 w K mg (xy s₁.heap H) callerA [] s₁ H:=⟨rfl,hM,fun b o e=>Fv e,Nat.le_of_eq (BO _ _),trivial,fun b hb=>absurd (show b∈([]:List Addr) from hb) (by simp),hok,.of_eq hg⟩
    have hbm':BMd (xy s₁.heap H) mg:=by
      obtain ⟨bm,ob,b1,b2,b3,b4,b5,b6⟩:=hbm
      refine⟨bm,ob,b1,b2,tm b3 ?_,b4,b5,b6⟩
      cases q:H bm with
      | none=>rfl
      | some u =>
        rcases hA bm (by rw[q];simp) with z | z
        · subst z;rw[ha] at b3;cases b3
          exact absurd (show Value.type "list" = Value.type "module" from b4) (by decide)
        · subst z;rw[hP] at b3;cases b3;cases b4
    refine codeAny_mono ((F _ hKb (nsK hns) hbm').run callerA [] s₁ H ⟨[.ref a],[]⟩ [.ref a] [.ref a] _ _ hr e0 (hbind s₁ (.ref a)) (.cons rfl .nil) (hsp H hO hS)) fun r s' h=>?_
    cases r with
    | error e=>exact (hCX H e s' h).elim
    | ok fl =>
      cases fl with
      | next=>exact False.elim h
      | brk=>exact False.elim h
      | cont=>exact False.elim h
      | ret u =>
        obtain ⟨v,H',os,bare,un,hok',r',q⟩:=h
        have q':v=.bl true:=q
        subst q'
        obtain rfl:u=Value.bool true:=r'
        have keep:∀b o,b≠P→s₁.heap.get? b=some o→s'.heap.get? b=some o:=fun b o hbP e=>by
          cases q:H b with
          | none=>exact un.keep b o e q (by intro z;exact absurd (show b∈([]:List Addr) from z) (by simp)) (by simp)
          | some u =>
            rcases hO.1 b with z | z | ⟨ob,xs,z⟩
            · rw[q] at z;cases z
            · exact absurd z hbP
            · have z2:=un.frzs b ob _ z
              obtain ⟨e1,_⟩:=hok b _ z
              obtain ⟨e2,_⟩:=hok' b _ z2
              rw[e] at e1;cases e1
              exact e2
        obtain ⟨more,hm⟩:=un.tbls P #[] hO.2
        have hP':s'.heap.get? P=some { cls:=.none,data:=.fields (#[]++more) }:=hok' P _ hm
        refine⟨rfl,⟨fun b o e=>?_,fun b o e=>?_⟩,os,bare⟩
        · by_cases z:b=P
          · subst z
            rw[hP] at e;cases e
            exact .inr (.inl ⟨(C.tab hP).isCodeTable,rfl,#[],more,rfl,hP'⟩)
          · exact .inl (keep b o z e)
        · by_cases z:b=P
          · subst z;exact⟨_,hP'⟩
          · exact⟨o,keep b o z e⟩
  cases hk:K.lookup a with
  | some o =>
    have e:=KX a o hk
    rw[ha] at e
    cases e
    refine core (fun b=>if b=P then some (.tbl #[]) else none) ⟨fun b=>?_,if_pos rfl⟩ (.inr ⟨_,vs.toArray,_,hk,rfl,rfl,rfl,by rw[List.size_toArray,lenV];exact hl,by simpa using rv⟩) (fun b u z=>?_) (fun b z=>?_) fun z=>absurd (if_neg haP) z
    · by_cases z:b=P
      · exact .inr (.inl z)
      · exact .inl (if_neg z)
    · by_cases y:b=P
      · have z':=(if_pos y).symm.trans z
        cases z'
        subst y
        exact hP
      · have z':=(if_neg y).symm.trans z
        cases z'
    · by_cases y:b=P
      · exact .inr y
      · exact absurd (if_neg y) z
  | none =>
    refine core (fun b=>if b=a then some (.frz { cls:=.type "list",data:=.seq vs.toArray } (.lst (ns.map V.int))) else if b=P then some (.tbl #[]) else none) ⟨fun b=>?_,by show (if _ then _ else _)=_;rw[if_neg (Ne.symm haP),if_pos rfl]⟩ (.inl (.inr ⟨{ cls:=.type "list",data:=.seq vs.toArray },if_pos rfl⟩)) (fun b u z=>?_) (fun b z=>?_) fun _=>hk
    · by_cases y:b=a
      · exact .inr (.inr ⟨_,_,if_pos y⟩)
      · by_cases y2:b=P
        · exact .inr (.inl y2)
        · exact .inl (by show (if _ then _ else _)=_;rw[if_neg y,if_neg y2])
    · by_cases y:b=a
      · have z':=(if_pos y).symm.trans z
        cases z'
        subst y
        exact⟨ha,by rw[List.length_map];exact hl,vs,_,rv,ha⟩
      · have z':=(if_neg y).symm.trans z
        by_cases y2:b=P
        · have z2:=(if_pos y2).symm.trans z'
          cases z2
          subst y2
          exact hP
        · have z2:=(if_neg y2).symm.trans z'
          cases z2
    · by_cases y:b=a
      · exact .inl y
      · by_cases y2:b=P
        · exact .inr y2
        · exact absurd (by show (if _ then _ else _)=_;rw[if_neg y,if_neg y2]) z
theorem Ey {l:PySem.W.OpenLaw}{n k:Nat}{q:Program}{loose:List Str}{XP:(Str→Option Value)→Heap→Prop}{YP:World→Heap→Prop}{d:DefRec}{K:Params→PySem.W.Frag}{CX:World→CXT}{sp:World→Sp}{x:Str}{c P:Addr}
    (hn:l.most=some n) (hn2:n≤sizeLine) (hdf:d.params.defaults=[]) (hr:jL k callerA)
    (hY:∀(w:World) (h:Heap),YP w h→(K w.params).In h) (hT:∀(w:World) (h:Heap),YP w h→h.get? P=some (PySem.W.tabObj #[])) (hKP:∀w:World,(K w.params).lookup P=none) (hcd:∀w:World,PySem.W.codeHdIn (K w.params) c P=true)
    (F:∀(w:World) (mg:Str→Option Value) (fa:Addr) (h:Heap),(K w.params).In h→h.Ns mainGlobals mg→mg d.name=some (.ref fa) →
      ∃fd:FuncData,(∀(s:Shared) (u:Value),BindsTo s fd ⟨[u],[]⟩ [(x,u)]) ∧
        ∀base:Heap,(K w.params).In base→base.Ns mainGlobals mg→BMd base mg→bE l.prog w (K w.params) mg base (CX w) k fa fd [x] (sp w))
    (hsp:∀(w:World) (H:Hp) (a:Addr) (ns:List Int),ns.length≤n→wg P H→SqL (K w.params) H a (ns.map V.int)→sp w [.ref a] H (fun v _=>v=.bl true) fun _ _ _=>False)
    (hCX:∀(w:World) (H:Hp) (s:Shared) (e:Value) (s':Shared),CX w [] H s (fun _ _ _=>False) e s'→False) :
    PySem.W.WalkO q loose XP YP l.row.toRowW d [] (fun f vs=>PySem.call f vs):=by
  refine Att.xZ hn hdf fun w s₀ s₁ mg mb fa o pm cd doc a vs ns G Y ho hd hcd' hmg hobj hints hlen hg=>?_
  have KX:=hY w _ Y
  obtain ⟨fd,hb,hF⟩:=F w mg fa _ KX G.T.g hmg
  exact Ce KX G.T.g G.T.b G.T.builtins G.T.nolimit hg hobj hints (Nat.le_trans hlen hn2) hr (hT w _ Y) (hKP w) (hcd w) (let ⟨bm,ob,b1,b2,b3,b4,b5,b6⟩:=G.T.bmain;⟨bm,ob,b1,b2,b3,b4,b5,b6⟩) hF hb (fun H hO hS=>hsp w H a ns hlen hO hS) fun H e s'=>hCX w H s₁ e s'
end L3
namespace L3
open PySem L2 PyProof.Rows
section
variable {P:Program}{w:World}{K:PySem.W.Frag}{mg:Str→Option Value}{base:Heap}
theorem IP {H:Hp}{a:Addr}{xs:List V} (hO:wg uW H) (h:SqL K H a xs):Sc K H a xs:=by
  rcases h with (h | ⟨o,h⟩) | h
  · rcases hO.1 a with z | z | ⟨o,ys,z⟩
    · rw[h] at z;cases z
    · subst z
      have:=hO.2
      rw[h] at this;cases this
    · rw[h] at z;cases z
  · exact .inl ⟨o,h⟩
  · exact .inr h
def Fg (K:PySem.W.Frag) (mg:Str→Option Value) (base:Heap):Prop:=∃f fd c,mg "falling_places" = some (.ref f)∧(∃oc od sl,K.lookup f=some ⟨oc,od,.func fd,sl⟩)∧fd.code=.ref c∧PySem.W.codeHdIn K c uW=true∧BMd base mg
theorem Fun.okL {x qual:Str}{st:Stmt}{f c:Addr}{fd:FuncData}{N ps:List Str}{k:Nat}{sp:Sp} (F:Fun K x qual st f fd) (hfc:fd.code=.ref c) (S:az N ps (ai st)) (len:∀vs H Q E,sp vs H Q E→vs.length=ps.length)
    (hbody:∀(A:Around) (outer:List Env) (s:Shared) (H:Hp) (vs:List V) (Q:VK) (E:XK),jL k (A.deeper (envOfC qual (ai st) s.heap.objs.size f (.ref c)))→sp vs H Q E →
      ∃t,PSs (oj CX0 P w K mg base N qual (ai st) f (.ref c) A outer s H E).nox (ax st) t∧t { nx:=fun _ H'=>Q .non H',rt:=Q } (L2.start N vs) H):bE P w K mg base CX0 (k+1) f fd ps sp:=by
  obtain ⟨oc,od,kV,doc,pm,an,cdv,ct,osl,rfl,lk,hcd⟩:=F.ex
  obtain rfl:cdv=.ref c:=hfc
  refine A7 lk hcd S len fun A outer s H vs Q E hr hsp=>?_
  obtain ⟨t,h,q⟩:=hbody A outer s H vs Q E hr hsp
  exact⟨t,h.nox,q⟩
theorem Fg.of {f:Addr}{fd:FuncData}{st:Stmt}{ps:List Str} (T:Fg K mg base) (F:FnAt K mg "falling_places" st ps f fd):∃c,fd.code=.ref c∧PySem.W.codeHdIn K c uW=true∧BMd base mg:=by
  obtain ⟨f',fd',c,hmg,⟨oc,od,sl,lk⟩,hfc,hcd,hbm⟩:=T
  have e1:=hmg.symm.trans F.mg
  cases e1
  obtain ⟨_,_,_,_,_,_,_,_,_,rfl,lk',_⟩:=F.fn.ex
  rw[lk] at lk'
  cases lk'
  exact⟨c,hfc,hcd,hbm⟩
end
section
variable {K:PySem.W.Frag}{Γ:List Nat}{i:Nat}
theorem IW {δ:Dl}{i:Nat}{x:D}{P:DK} (e:δ[i]?=some (some x)) (h:P x):qh i δ P:=by
  unfold qh
  rw[e]
  exact h
def C9 (i:Nat):DE:=fun δ P=>qh i δ fun x=>asL x fun ds=>∃ns:List Int,ds=ns.map D.int∧ns.length<64∧∀ms:List Int,ms.Perm (lC ns.length)→ms.Pairwise (fun a b=>ns.getD b.toNat 0≤ns.getD a.toNat 0)→P (dI ms)
theorem z6 (i:Nat):EM K Γ [] (y7 K uW i) (C9 i) :=
  ⟨fun δ P P' k h=>by
    obtain ⟨x,e,z⟩:=mD h
    obtain ⟨ds,e2,ns,e3,h64,z⟩:=cB z
    exact IW e (ja e2 ⟨ns,e3,h64,fun ms h1 h2=>k _ (z ms h1 h2)⟩),
   fun {B0 fps δ σ H Q} o h=>by
    obtain ⟨x,e,z⟩:=mD h
    obtain ⟨ds,e2,ns,rfl,h64,z⟩:=cB z
    obtain ⟨v,hv,r⟩:=o.val i _ e
    obtain ⟨a,xs,fq,rfl,hs,hr,_⟩:=r.seq e2
    obtain ⟨rfl,_⟩:=hr.mP nh
    refine⟨a,ns,hv,by rw[List.map_map] at hs;exact hs,h64,o.b0.now,fun l H' ms sm hl hl' hp hw=>?_⟩
    exact z ms hp (hw.imp fun h=>by omega) _ _ [l] sm (Rf.ofInts hl') ⟨by simp,fun b hb=>by cases List.mem_singleton.mp hb;exact .inl ⟨_,hl'⟩,fun b hb=>by cases List.mem_singleton.mp hb;exact .inl hl⟩⟩
end
end L3
namespace L3
open PySem L2
section
variable {K:PySem.W.Frag}{ρ:Bool}{Γr Γl Γ:List Nat}{H:Hp}
end
end L3
namespace L2
open PySem PySem.Spec PyProof.Rows
theorem eX.there {P:Program}{w:World}{H:Hp}{h:Heap}{a:Addr}{o:HO} (x:eX P w H h a o):∃ob,h.get? a=some ob:=by
  cases o with
  | lst xs=>obtain ⟨_,_,_,_,e⟩:=x;exact⟨_,e⟩
  | tup xs=>obtain ⟨_,_,_,ob,e,_⟩:=x;exact⟨_,e⟩
  | dK kvs=>obtain ⟨_,_,_,_,o,_,_,e,_⟩:=x;exact⟨_,e⟩
  | dT kvs=>obtain ⟨_,_,_,_,o,_,_,e,_⟩:=x;exact⟨_,e⟩
  | set S n=>obtain ⟨o,_,_,_,e,_⟩:=x;exact⟨_,e⟩
  | ins C dx fs=>obtain ⟨_,_,_,e,_⟩:=x;exact⟨_,e⟩
  | own y=>exact x
  | xd fs=>obtain ⟨_,⟨_,_,_,e,_⟩,_⟩:=x;exact⟨_,e⟩
  | rng lo hi=>obtain ⟨_,_,_,e⟩:=x;exact⟨_,e⟩
  | frz ob u=>obtain ⟨e,_⟩:=x;exact⟨_,e⟩
  | tbl ps=>exact⟨_,(show h.get? a=some _ from x)⟩
  | met f y=>exact⟨_,(show h.get? a=some _ from x)⟩
  | ext φ=>obtain ⟨_,e,_⟩:=x;exact e
  | memo φ ks=>obtain ⟨_,_,_,_,_,_,_,e,_⟩:=x;exact⟨_,e⟩
def Fly (h:Heap) (H:Hp) (lo:Heap) (a:Addr) (C:Value):Prop :=
  (H a=none∧lo.get? a=none)∧∃oe vs a0 T oT ts,h.get? a=some oe∧(oe.cls=C∧vs[0]?=some a0)∧oe.data=.fields vs∧vs[1]?=some (.ref T)∧T≠a∧h.get? T=some oT∧oT.data=.fields ts∧ts[3]?=some .none∧H T=none∧lo.get? T=none
def J0 (h:Heap) (H:Hp) (lo:Heap) (a:Addr) (C:Value):Prop :=
  (H a=none∧lo.get? a=none)∧∃oe vs a0,h.get? a=some oe∧(oe.cls=C∧vs[0]?=some a0)∧oe.data=.fields vs∧vs[1]?=some .none
def CXR (P:Program) (w:World):CXT:=fun outer H s E e s'=>∃(a C:Addr) (H':Hp),e=.ref a∧s'.os=s.os∧AllBare s'.gens∧Un (frs outer) [] H H' s.heap s'.heap∧HOk P w H' s'.heap ∧
  Fly s'.heap H' s.heap a (.ref C)∧E (.ref C) none H'
section
variable {P:Program}{w:World}{K:PySem.W.Frag}{mg:Str→Option Value}{base:Heap}{N:List Str}{qual:Str}{scope:Scope}{f:Addr}{cd:Value}{A:Around}{outer:List Env}{s0:Shared}{H0:Hp}{E:XK}
variable {pins:List (Addr × Obj)}{σ:St}{H':Hp}{s':Shared}{a C:Addr}{h2:Heap}
theorem vV {as:List Addr}{a0:Value} (J:Inv (oj (CXR P w) P w K mg base N qual scope f cd A outer s0 H0 E) pins σ H' s')
    (has:∀b∈as,b∈frs (envOfC qual scope s0.heap.objs.size f cd::outer)∨(H' b=none∧s0.heap.get? b=none))
    (L:Heap.LeftW (PySem.W.hideAll s'.heap as) (envOfC qual scope s0.heap.objs.size f cd::outer) a (.ref C) a0 s'.heap h2) (ha:H' a=none∧s0.heap.get? a=none) (q:E (.ref C) none H') :
    CXR P w outer H0 s0 E (.ref a) { s' with heap:=h2 }:=by
  obtain ⟨k1,k2,k3,k4⟩:=L
  have bs:Un (frs outer) [] H0 H' s0.heap s'.heap:=J.base
  have keepB:∀b o,s'.heap.get? b=some o→b∉as→h2.get? b=some o:=fun b o e n=>k1 b o (PySem.W.hideAll_get _ e n)
  have stf:∀b∈frs (envOfC qual scope s0.heap.objs.size f cd::outer),H' b=none:=J.rM
  have sts:∀b∈frs (envOfC qual scope s0.heap.objs.size f cd::outer),b∈s0.heap.objs.size::frs outer:=J.sW
  have trk:∀b u,H' b=some u→b∉as:=fun b u e z=>by
    rcases has b z with z | ⟨z,_⟩
    · rw[stf b z] at e;cases e
    · rw[z] at e;cases e
  have nofld:∀b∈frs (envOfC qual scope s0.heap.objs.size f cd::outer),∃o,s'.heap.get? b=some o∧∀vs,o.data≠.fields vs:=fun b hb=>(J.stack.mem hb).2
  refine⟨a,C,H',rfl,J.os,J.bare,⟨fun b o e n hb hx=>?_,fun b o e n hb hx=>?_,bs.free,fun b o e hx=>?_,bs.tups,bs.frzs,bs.tbls⟩,fun c o e=>?_,⟨ha,?_⟩,q⟩
  · refine keepB b o (bs.keep b o e n hb hx) fun z=>?_
    rcases has b z with z | ⟨_,z⟩
    · rcases List.mem_cons.mp (sts b z) with z | z
      · rw[z] at e;exact absurd (Heap.lt_size e) (Nat.lt_irrefl _)
      · exact hb z
    · rw[z] at e;cases e
  · obtain ⟨sl,e1⟩:=bs.slot b o e n hb hx
    obtain ⟨_,o',e',nf⟩:=J.ok.qr.mem hb
    have e':s0.heap.get? b=some o':=e'
    rw[e] at e';cases e'
    obtain ⟨sl2,e2⟩:=k4 b { o with slots:=sl } e1 nf
    exact⟨sl2,e2⟩
  · obtain ⟨o',e1⟩:=bs.there b o e hx
    by_cases z:b∈as
    · rcases has b z with z | ⟨_,z⟩
      · obtain ⟨o2,e2,nf⟩:=nofld b z
        obtain ⟨sl,e3⟩:=k4 b o2 e2 nf
        exact⟨_,e3⟩
      · rw[z] at e;cases e
    · exact⟨o',keepB b o' e1 z⟩
  · refine (J.hok c o e).pT (fun b u hb q=>keepB b u q ?_) (fun _ q=>q) fun _ _ q=>q
    rcases hb with rfl | hb
    · exact trk _ _ e
    · exact trk _ _ hb
  · obtain ⟨oe,vs,T,oT,ts,g1,g2,g3,g4,g5,g6,g7,g8,g9⟩:=k3
    refine⟨oe,vs,a0,T,oT,ts,g1,g2,g3,g4,g6,g7,g8,g9,?_,?_⟩
    · cases r:H' T with
      | none=>rfl
      | some u =>
        obtain ⟨ob,e⟩:=(J.hok T u r).there
        rw[PySem.W.hideAll_get as e (trk T u r)] at g5
        cases g5
    · cases r:s0.heap.get? T with
      | none=>rfl
      | some u =>
        obtain ⟨o',e1⟩:=bs.there T u r (fun z=>(nomatch z))
        by_cases z:T∈as
        · rcases has T z with z | ⟨_,z⟩
          · obtain ⟨_,o2,e2,nf⟩:=k2.mem z
            rw[g7] at e2;cases e2
            exact absurd g8 (nf ts)
          · rw[z] at r;cases r
        · rw[PySem.W.hideAll_get as e1 z] at g5;cases g5
theorem Ao {H:Hp}{s:Shared} (I:Inv (oj (CXR P w) P w K mg base N qual scope f cd A outer s0 H0 E) pins σ H s) (os:s'.os=s.os) (bare:AllBare s'.gens)
    (U:Un (frs (envOfC qual scope s0.heap.objs.size f cd::outer)) [] H H' s.heap s'.heap) (ok:HOk P w H' s'.heap) (fl:J0 s'.heap H' s.heap a (.ref C)∨Fly s'.heap H' s.heap a (.ref C)) (q:E (.ref C) none H') :
    (oj (CXR P w) P w K mg base N qual scope f cd A outer s0 H0 E).xe (.ref a) s':=by
  have J:Inv (oj (CXR P w) P w K mg base N qual scope f cd A outer s0 H0 E) pins σ H' s':=I.yR os U ok bare fun b hb=>(nomatch hb)
  have up:∀b,s.heap.get? b=none→s0.heap.get? b=none:=fun b n=>by
    cases r:s0.heap.get? b with
    | none=>rfl
    | some u =>
      obtain ⟨o',e1⟩:=I.base.there b u r (fun z=>(nomatch z))
      rw[n] at e1;cases e1
  have hfr:(A.deeper (envOfC qual scope s0.heap.objs.size f cd)).frames=some (envOfC qual scope s0.heap.objs.size f cd::outer):=J.ok.frames
  have hst:s'.heap.FunFrames base (envOfC qual scope s0.heap.objs.size f cd::outer):=J.stack
  have hin:∀env∈(envOfC qual scope s0.heap.objs.size f cd::outer),∀b,env.frame=some b→b∈frs (envOfC qual scope s0.heap.objs.size f cd::outer):=fun env he b hb=>List.mem_filterMap.mpr ⟨env,he,hb⟩
  show wpAny _ _ _ _ _ _
  rcases fl with ⟨⟨na,fa⟩,oe,vs,a0,ge,⟨gc,g0⟩,gd,g1⟩ | ⟨⟨na,fa⟩,oe,vs,a0,T,oT,ts,ge,gc,gd,g1,g2,g3,g4,g5,nT,fT⟩
  · refine wpAny_leaving_firstW (base:=PySem.W.hideAll s'.heap (a::frs (envOfC qual scope s0.heap.objs.size f cd::outer))) hfr
      (PySem.W.funFrames_hide hst fun env he b hb=>List.mem_cons_of_mem _ (hin env he b hb)) rfl ge (fun b o e=>PySem.W.of_hideAll _ e) (PySem.W.hideAll_none _ (List.mem_cons_self ..)) gd g1 g0 fun h2 L=>?_
    rw[gc] at L
    refine vV J (fun b hb=>?_) L ⟨na,up a fa⟩ q
    rcases List.mem_cons.mp hb with rfl | hb
    · exact .inr ⟨na,up _ fa⟩
    · exact .inl hb
  · refine wpAny_leaving_nextW (a0:=a0) (base:=PySem.W.hideAll s'.heap (a::T::frs (envOfC qual scope s0.heap.objs.size f cd::outer))) (cls:=.ref C) hfr
      (PySem.W.funFrames_hide hst fun env he b hb=>List.mem_cons_of_mem _ (List.mem_cons_of_mem _ (hin env he b hb))) rfl
      ⟨oe,vs,T,oT,ts,ge,gc,gd,g1,PySem.W.hideAll_none _ (List.mem_cons_of_mem _ (List.mem_cons_self ..)),g2,g3,g4,g5⟩ (fun b o e=>PySem.W.of_hideAll _ e) (PySem.W.hideAll_none _ (List.mem_cons_self ..)) fun h2 L=>?_
    refine vV J (fun b hb=>?_) L ⟨na,up a fa⟩ q
    rcases List.mem_cons.mp hb with rfl | hb
    · exact .inr ⟨na,up _ fa⟩
    · rcases List.mem_cons.mp hb with rfl | hb
      · exact .inr ⟨nT,up _ fT⟩
      · exact .inl hb
theorem rR:Passes (CXR P w) (oj (CXR P w) P w K mg base N qual scope f cd A outer s0 H0 E) E:=fun pins σ H s e s' I h=>by
  obtain ⟨a,C,H',rfl,os,bare,U,ok,fl,q⟩:=h
  exact Ao I os bare U ok (.inr fl) q
end
def C3 (C:Addr) (E:XK) (ta:TA):TS:=fun _ σ H=>ta σ H fun vs H1=>vs.length≤1000∧E (.ref C) none H1
def Raises (X:Cx) (C:Addr) (E:XK):Prop:=∀(pins:List (Addr × Obj)) (σ:St) (H:Hp) (s:Shared) (h':Heap) (a:Addr) (us:List Value),Inv X pins σ H s→Heap.MadeExcOf s.heap h' a (.ref C) us→E (.ref C) none H→X.xe (.ref a) { s with heap:=h' }
theorem m8 {P:Program}{w:World}{K:PySem.W.Frag}{mg:Str→Option Value}{base:Heap}{N:List Str}{qual:Str}{scope:Scope}{f:Addr}{cd:Value}{A:Around}{outer:List Env}{s0:Shared}{H0:Hp}{E:XK}{C:Addr} :
    Raises (oj (CXR P w) P w K mg base N qual scope f cd A outer s0 H0 E) C E:=fun pins σ H s h' a us I hx q=>by
  obtain ⟨t,ht,_,_⟩:=hx.there
  refine Ao (s':={ s with heap:=h' }) I rfl I.bare (Un.kept hx.keeps) (I.hok.kept hx.keeps) (.inl ⟨⟨?_,hx.new⟩,_,_,_,ht,⟨rfl,rfl⟩,rfl,rfl⟩) q
  cases r:H a with
  | none=>rfl
  | some u =>
    obtain ⟨ob,e⟩:=(I.hok a u r).there
    rw[hx.new] at e;cases e
section
variable {X:Cx}{x:Str}{C:Addr}{bmB:List Value}{B newId initId:String}{E:XK}{e:Expr}{es:List Expr}{ta:TA}{np cpos pos:Pos}
theorem kL (O:OwnCls x C bmB newId X.mg X.base) (FB:ExcBaseFacts B newId initId bmB) (hc:X.calm=true) (hg:Gl X x) (hxe:Raises X C E) (ha:PA X (e::es) ta) (hdb:(x == ("__debug__" : Str))=false:=by decide)
    (he:starEach (e::es) X.env=(false,eval e X.env)::starEach es X.env:=by rfl) (hpl:(backTo cpos (starEach es X.env)).any (·.1)=false:=by rfl) :
    PS X (.Raise (some (.Call (.Name x np) (e::es) [] cpos)) none pos) (C3 C E ta):=by
  intro pins s σ H D I h
  obtain ⟨tl,N,nm,q,bs,hdct,sn,sub,ab,col,dd,k0,k1,k2,k3,k5,mN,hC,hN,hni,T⟩:=O.obj
  refine wpAny_Raise_call_subT (C:=C) (nm:=nm) (q:=q) (N:=N) (bs:=bs) (bm:=tl) (hdct:=hdct) (sn:=sn) (sub:=sub) (ab:=ab) (col:=col) (dd:=dd) (k0:=k0) (k1:=k1) (k2:=k2) (k3:=k3) (k5:=k5)
    FB (mN:=mN) (T.hasType FB.hasBase) (I.ok.hd hc) (by rw[he];show (false || (backTo cpos (starEach es X.env)).any (·.1))=false;rw[hpl];rfl) hni (pE I hg O.bound ⟨rfl,?_⟩ hdb)
  have h1:=ha cpos pins s σ H _ I h
  rw[he] at h1 ⊢
  refine Calls.evalArgs_plain (thn h1 fun us s1 ⟨vs,H1,I1,r,q1,q2⟩=>?_)
  exact⟨rfl,by show us.length≤_;rw[← r.length];exact Nat.le_of_lt (vQ q1),I1.bk _ _ hC,hN.keeps I1.bk,T.keeps I1.bk,fun h' a hx=>hxe pins σ H1 s1 h' a us I1 hx q2⟩
end
end L2
namespace L2
open PySem PySem.Spec PyProof.Rows
abbrev VB:List Value:=[.type "ValueError",.type "Exception",.type "BaseException",.type "object"]
def dJ (h:Heap) (C:Addr) (ups:List Addr):Prop:=∃N nm q bs hdct sn sub ab col dd k0 k1 k2 k3 k5 mN,
  h.get? C=some (excClassObj nm q C N bs (ups.map Value.ref++VB) hdct sn sub ab col dd k0 k1 k2 k3 k5 "ValueError.__new__")∧h.Ns N mN∧mN "__init__" = none∧OwnTail h VB (ups.map Value.ref++VB)
theorem dJ.keeps {h h':Heap}{C:Addr}{ups:List Addr} (O:dJ h C ups) (hk:∀b o,h.get? b=some o→h'.get? b=some o):dJ h' C ups :=
  let ⟨N,nm,q,bs,hdct,sn,sub,ab,col,dd,k0,k1,k2,k3,k5,mN,hC,hN,hni,T⟩:=O
  ⟨N,nm,q,bs,hdct,sn,sub,ab,col,dd,k0,k1,k2,k3,k5,mN,hk _ _ hC,hN.keeps hk,hni,T.keeps hk⟩
theorem dJ.own {h:Heap}{C:Addr}{ups:List Addr}{mg:Str→Option Value}{x:Str} (O:dJ h C ups) (hm:mg x=some (.ref C)):OwnCls x C VB "ValueError.__new__" mg h:=by
  obtain ⟨N,nm,q,bs,hdct,sn,sub,ab,col,dd,k0,k1,k2,k3,k5,mN,hC,hN,hni,T⟩:=O
  exact⟨hm,_,N,nm,q,bs,hdct,sn,sub,ab,col,dd,k0,k1,k2,k3,k5,mN,hC,hN,hni,T⟩
theorem tY {M:Model}{A:Around}{E:Value→Shared→Prop}{s:Shared}{C D e:Addr}{ups upD:List Addr}{oe:Obj}{Q:Bool→Shared→Prop} (OC:dJ s.heap C ups) (OD:dJ s.heap D upD)
    (he:s.heap.get? e=some oe) (hcls:oe.cls=.ref C) (hb:(C::ups).contains D=true) (hq:Q true s):wpAny M A (excMatches (.ref e) (.ref D)) Q E s:=by
  obtain ⟨h,g,d,t,os⟩:=s
  obtain ⟨N,nm,q,bs,hdct,sn,sub,ab,col,dd,k0,k1,k2,k3,k5,mN,hC,hN,hni,T⟩:=OC
  obtain ⟨N',nm',q',bs',hdct',sn',sub',ab',col',dd',l0,l1,l2,l3,l5,mN',hD,hN',hni',T'⟩:=OD
  have hcB:(Value.ref D::(upD.map Value.ref++VB)).contains (.type "BaseException")=true:=by
    rw[List.contains_cons,T'.hasType (b:=true) rfl,Bool.or_true]
  have hcC:(Value.ref C::(ups.map Value.ref++VB)).contains (.ref D)=true:=by
    rw[List.contains_iff_mem] at hb ⊢
    rcases List.mem_cons.mp hb with rfl | hb
    · exact List.mem_cons_self ..
    · exact List.mem_cons_of_mem _ (List.mem_append_left _ (List.mem_map_of_mem hb))
  have f:=tc_notTuple
  unfold excMatches
  repeat (first | (with_reducible refine wpAny_loadPart_at he ?_;rw[hcls]) | with_reducible refine wpAny_loadPart_at hD ?_ | (with_reducible refine wpAny_isSubtype_exc hD ?_;rw[hcB]) | (with_reducible refine wpAny_isSubtype_exc hC ?_;rw[hcC]) | wp_step)
  exact hq
section
variable {X:Cx}{pins:List (Addr × Obj)}{σ:St}{H H':Hp}{s s':Shared}{a C:Addr}{a0:Value}{h:Heap}
theorem sG {T:Addr} (I:Inv X pins σ H s) (os:s'.os=s.os) (bare:AllBare s'.gens) (U:Un (frs X.stack) [] H H' s.heap s'.heap) (ok:HOk X.prog X.w H' s'.heap)
    (na:H' a=none) (fa:s.heap.get? a=none) (nT:H' T=none) (fT:s.heap.get? T=none)
    (hfl:Heap.FlyingW (PySem.W.hideAll s'.heap (a::T::frs X.stack)) X.stack a (.ref C) a0 h) (hup:s'.heap.UpToSlots h) :
    ∃oe,Inv X ((a,oe)::pins) σ H' { s' with heap:=h }∧oe.cls=.ref C∧h.get? a=some oe:=by
  obtain ⟨k1,k2,k3,oe,vs,T',oT,ts,g1,⟨g2,_⟩,g3,_⟩:=hfl
  have keepB:∀b o,s'.heap.get? b=some o→b≠a→b≠T→b∉frs X.stack→h.get? b=some o:=fun b o e n1 n2 n3=>k1 b o (PySem.W.hideAll_get _ e fun z=>by
    rcases List.mem_cons.mp z with z | z
    · exact n1 z
    · rcases List.mem_cons.mp z with z | z
      · exact n2 z
      · exact n3 z)
  have old:∀b o,s.heap.get? b=some o→b≠a∧b≠T:=fun b o e=>⟨fun z=>(by rw[z,fa] at e;cases e),fun z=>(by rw[z,fT] at e;cases e)⟩
  have J:Inv X pins σ H' s':=I.yR os U ok bare fun b hb=>(nomatch hb)
  have un:Un (frs X.stack) [] H H' s.heap h:=by
    refine⟨fun b o e n hb hx=>keepB b o (U.keep b o e n hb hx) (old b o e).1 (old b o e).2 hb,fun b o e n hb hx=>?_,U.free,fun b o e hx=>?_,U.tups,U.frzs,U.tbls⟩
    · obtain ⟨sl,e1⟩:=U.slot b o e n hb hx
      obtain ⟨_,o',e',nf⟩:=I.stack.mem hb
      rw[e] at e';cases e'
      obtain ⟨sl2,e2⟩:=hup b { o with slots:=sl } e1 nf
      exact⟨sl2,e2⟩
    · obtain ⟨o',e1⟩:=U.there b o e hx
      by_cases z:b∈frs X.stack
      · obtain ⟨_,o2,e2,nf⟩:=J.stack.mem z
        obtain ⟨sl,e3⟩:=hup b o2 e2 nf
        exact⟨_,e3⟩
      · exact⟨o',keepB b o' e1 (old b o e).1 (old b o e).2 z⟩
  have trk:∀b u,H' b=some u→b≠a∧b≠T∧b∉frs X.stack:=fun b u e=>⟨fun z=>(by rw[z,na] at e;cases e),fun z=>(by rw[z,nT] at e;cases e),fun z=>(by rw[J.rM b z] at e;cases e)⟩
  have ok':HOk X.prog X.w H' h:=fun c o e=>(ok c o e).pT (fun b u hb q=>by
    have t:b≠a∧b≠T∧b∉frs X.stack:=by
      rcases hb with rfl | hb
      · exact trk _ _ e
      · exact trk _ _ hb
    exact keepB b u q t.1 t.2.1 t.2.2) (fun _ q=>q) fun _ _ q=>q
  have J6:Inv X pins σ H' { s' with heap:=h }:=I.yR (s':={ s' with heap:=h }) os un ok' bare fun b hb=>(nomatch hb)
  refine⟨oe,J6.oW fun p hp=>?_,g2,g1⟩
  rcases List.mem_cons.mp hp with rfl | hp
  · refine⟨g1,na,fun z=>?_,fun z=>?_,fun v z=>by rw[g3] at z;cases z⟩
    · obtain ⟨m,⟨o,_,_,e,_⟩,_⟩:=I.loc
      have z:a=X.env.locals:=z
      rw[← z,fa] at e;cases e
    · have z:a∈frs X.stack:=by
        rcases I.ok.stk with e | ⟨e,_⟩
        · rw[e];exact z
        · rw[e];unfold frs;rw[List.filterMap_cons]
          split
          · exact z
          · exact List.mem_cons_of_mem _ z
      obtain ⟨_,o,e,_⟩:=I.stack.mem z
      rw[fa] at e;cases e
  · exact J6.pin p (List.mem_append_right _ hp)
end
end L2
namespace L2
open PySem PySem.Spec PyProof.Rows
abbrev Cx.held (X:Cx) (a:Addr) (oe:Obj):Cx:={ X with A:=X.A.mark (some (.ref a)),calm:=false,pn:=(a,oe)::X.pn,xe:=fun _ _=>False }
section
variable {X:Cx}{pins:List (Addr × Obj)}{σ:St}{H:Hp}{s:Shared}{a:Addr}{oe:Obj}
theorem yp {A:Around}{u:Option Value}:(A.mark u).frames=A.frames:=by cases A;rfl
theorem Cx.Ok.held (ok:X.Ok):(X.held a oe).Ok :=
  ⟨ok.mod,ok.kind,ok.glob,ok.blt,ok.above,ok.inj,ok.has,ok.cab,(fun z=>absurd z (by show ¬ (false=true);decide)),yp.trans ok.frames,ok.stk,ok.exf,ok.bs,ok.bsz,ok.noex,ok.exfs,ok.qr,ok.frf⟩
theorem Inv.held (I:Inv X ((a,oe)::pins) σ H s):Inv (X.held a oe) pins σ H s :=
  ⟨I.ok.held,I.os,I.bare,I.base,I.loc,I.cell,I.free,I.freeC,fun p hp=>I.pin p (by
    have hp:p∈((a,oe)::X.pn)++pins:=hp
    simp only[List.cons_append,List.mem_cons,List.mem_append] at hp ⊢
    rcases hp with h | h | h
    · exact .inr (.inl h)
    · exact .inl h
    · exact .inr (.inr h)),I.hok,I.len⟩
theorem Inv.Hv (ok:X.Ok) (I:Inv (X.held a oe) pins σ H s):Inv X pins σ H s :=
  ⟨ok,I.os,I.bare,I.base,I.loc,I.cell,I.free,I.freeC,fun p hp=>I.pin p (List.mem_cons_of_mem _ hp),I.hok,I.len⟩
theorem Fz {M:Model}{A:Around}{E:Value→Shared→Prop}{i:Nat}{n:Str}{pos:Pos}{Q:Unit→Shared→Prop} (I:Inv X pins σ H s) (hN:X.N.Nodup) (hi:X.N[i]?=some n) (hk:X.env.scope.names.lookup n=some .local)
    (h:∀s',Inv X pins (σ.set i none) H s'→Q () s'):wpAny M A (do bindName X.env n .none;unbindBehindTheSuite X.env n pos) Q E s:=by
  obtain ⟨m,hn,hl⟩:=id I.loc
  have hcls:(X.env.scope.kind == .class || (X.env.scope.kind == .module && X.env.locals != X.env.globals))=false:=by rw[I.ok.kind];rfl
  have hiσ:i<σ.length:=by rw[I.len];exact (List.getElem?_eq_some_iff.mp hi).1
  have cne:=I.cne
  have tracked:∀{a:Addr}{h':Heap},(∃o,s.heap.get? a=some o∧H a=none)→Heap.SameBut a s.heap h'→HOk X.prog X.w H h':=fun {a h'} ha hs b ob e=>by
    obtain ⟨_,_,hfree⟩:=ha
    refine (I.hok b ob e).pT (fun c w' hc q=>(hs.2 c ?_).trans q) (fun _ q=>q) fun _ _ q=>q
    rintro rfl
    rcases hc with rfl | hc
    · rw[hfree] at e;cases e
    · rw[hfree] at hc;cases hc
  refine wpAny_nameGoes_keeps hk hn hcls fun h' v hn' hs=>?_
  obtain ⟨oL,_,_,hoL,_⟩:=id hn
  refine h _ ⟨I.ok,I.os,I.bare,⟨fun b o e n hb hx=>?_,fun b o e n hb hx=>?_,I.base.free,fun b o e hx=>?_,I.base.tups,I.base.frzs,I.base.tbls⟩,⟨_,hn',fun j y v' e1 e2 e3=>?_⟩,fun y c e=>?_,I.free,I.freeC,fun p hp=>?_,tracked ⟨oL,hoL,I.free⟩ hs,by simpa using I.len⟩
  · exact (hs.2 b (Nat.ne_of_lt (Nat.lt_of_lt_of_le (Heap.lt_size e) I.ok.above))).trans (I.base.keep b o e n hb hx)
  · obtain ⟨sl,e1⟩:=I.base.slot b o e n hb hx
    exact⟨sl,(hs.2 b (Nat.ne_of_lt (Nat.lt_of_lt_of_le (Heap.lt_size e) I.ok.above))).trans e1⟩
  · obtain ⟨o',e1⟩:=I.base.there b o e hx
    exact⟨o',(hs.2 b (Nat.ne_of_lt (Nat.lt_of_lt_of_le (Heap.lt_size e) I.ok.above))).trans e1⟩
  · by_cases hj:j=i
    · subst hj
      rw[List.getElem?_set_self hiσ] at e2
      cases e2
    · rw[List.getElem?_set_ne (Ne.symm hj)] at e2
      obtain ⟨u',r',q⟩:=hl j y v' e1 e2 e3
      refine⟨u',r',?_⟩
      rcases q with ⟨k,e⟩ | ⟨k,c,e,z⟩
      · refine .inl ⟨k,?_⟩
        have:y≠n:=fun e=>hj (tV hN e1 (e▸hi))
        simp [this,e]
      · exact .inr ⟨k,c,e,z.sameBut hs (cne y c e)⟩
  · obtain ⟨w',z⟩:=I.cell y c e
    exact⟨w',z.sameBut hs (cne y c e)⟩
  · obtain ⟨e,n,ne,nf,d⟩:=I.pin p hp
    exact⟨(hs.2 p.1 ne).trans e,n,ne,nf,d⟩
end
section
variable {X:Cx}{CX:CXT}{k:Nat}{f C D:Addr}{fd:FuncData}{ps:List Str}{sp:Sp}{E:XK}{x y n:Str}{p np cp ep hp pos:Pos}{e:Expr}{es:List Expr}{ta:TA}{b₀:Stmt}{suite:List Stmt}{i:Nat}{ups upD:List Addr}
theorem FG {XE:Value→Shared→Prop}{pins:List (Addr × Obj)}{σ:St}{H:Hp}{s:Shared}{Q:VK}{us:List Value}{vs:List V} (F:bE X.prog X.w X.K X.mg X.base CX k f fd ps sp) (hr:jL k X.A) (hb:Binds X.K fd ps [])
    (I:Inv X pins σ H s) (r:Vals vs us) (h:sp vs H Q E) (hx:∀e s',CX X.stack H s E e s'→XE e s'):wpAny (model X.prog X.w) X.A (call (.ref f) us) (EP X pins σ Q) XE s:=by
  have hl:(us++[]).length=ps.length:=by rw[List.append_nil,← r.length];exact F.len _ _ _ _ h
  have hb':=hb s us I.kIn hl
  rw[List.append_nil] at hb'
  refine wpAny_call (codeAny_mono (F.run X.A X.stack s H ⟨us,[]⟩ us vs Q E hr I.zL hb' r h) fun r s' hq=>?_)
  cases r with
  | error e=>exact hx e s' hq
  | ok fl =>
    cases fl with
    | ret u=>exact I.after hq
    | next=>exact False.elim hq
    | brk=>exact False.elim hq
    | cont=>exact False.elim hq
def Jw (i:Nat) (C:Addr) (sp:Sp) (ta:TA) (th:Addr→TS):TS:=fun Dn σ H=>ta σ H fun vs H1=>sp vs H1 (fun _ H2=>Dn.nx σ H2) fun cls _ H2=>cls=.ref C∧∀a,H2 a=none →
  th a { nx:=fun σ' H'=>Dn.nx (σ'.set i none) H',rt:=fun _ _=>False } (σ.set i (some (.ref a))) H2
theorem Fl {th:Addr→TS} (hst:X.stack=X.env::X.outer) (hfm:X.env.frame=some X.env.locals) (F:bE X.prog X.w X.K X.mg X.base (CXR X.prog X.w) k f fd ps sp) (hr:jL k X.A) (hgf:Gl X y) (hmf:X.mg y=some (.ref f))
    (hkf:PySem.W.keepIn X.K (.ref f)=true) (hb:Binds X.K fd ps []) (ha:PA X.nox (e::es) ta) (OC:dJ X.base C ups) (OD:dJ X.base D upD) (hmD:X.mg x=some (.ref D)) (hgx:Gl X x) (hcon:(C::ups).contains D=true)
    (hN:X.N.Nodup) (hi:X.N[i]?=some n) (hln:X.env.scope.names.lookup n=some .local) (hs:∀a oe,oe.cls=.ref C→PSs (X.held a oe) (b₀::suite) (th a))
    (hdx:(x == ("__debug__" : Str))=false:=by decide) (hdy:(y == ("__debug__" : Str))=false:=by decide) (he:starEach (e::es) X.env=(false,eval e X.env)::starEach es X.env:=by rfl) (hpl:(backTo cp (starEach es X.env)).any (·.1)=false:=by rfl)
    (hsw:swapsWith (.Call (.Name y p) (e::es) [] cp) none ep.line X.env=pure false:=by rfl) :
    PS X (.Try [.Expr (.Call (.Name y p) (e::es) [] cp) ep] [.ExceptHandler (some (.Name x np)) (some n) (b₀::suite) hp] [] [] pos) (Jw i C sp ta th):=by
  intro pins s σ H Dn I h
  refine wpAny_Try_except (wpAny_execs_cons (wpAny_Expr_any ?_ I.quiet hsw))
  refine wpAny_Call_Name_kw (pE I hgf hmf ?_ hdy)
  refine PySem.W.callWith_K (h₀:=X.base) I.ok.mod.kin hkf (wpAny_mono (ha cp pins s σ H _ (I.oR _) h) (fun us s1 q1=>?_) fun _ _ z=>z.elim) he hpl
  obtain ⟨vs,H1,I1,r,q⟩:=q1
  have I1:Inv X pins σ H1 s1:=I1.i5
  refine⟨I1.kIn,wpAny_mono (FG (XE:=fun ev s'=>CXR X.prog X.w X.stack H1 s1 _ ev s') F hr hb I1 r q fun _ _ z=>z) (fun u s2 z=>?_) fun ev s' z=>?_⟩
  · obtain ⟨v,H2,I2,_,q2⟩:=z
    exact wpAny_execs_nil (wpAny_execs_nil ⟨σ,H2,I2,q2⟩)
  obtain ⟨a,C',H',rfl,os,bare,U,ok,fl,qC,q⟩:=z
  cases qC
  obtain ⟨⟨na,fa⟩,oe,ws,a0,T,oT,ts,ge,gc,gd,g1,g2,g3,g4,g5,nT,fT⟩:=fl
  have J:Inv X pins σ H' s':=I1.yR os U ok bare fun b hb=>(nomatch hb)
  have hfl:Heap.FlyingW (PySem.W.hideAll s'.heap (a::T::frs X.stack)) (X.env::X.outer) a (.ref C) a0 s'.heap:=by
    refine⟨fun b o e=>PySem.W.of_hideAll _ e,PySem.W.hideAll_none _ (List.mem_cons_self ..),?_,oe,ws,T,oT,ts,ge,gc,gd,g1,PySem.W.hideAll_none _ (List.mem_cons_of_mem _ (List.mem_cons_self ..)),g2,g3,g4,g5⟩
    rw[← hst]
    exact PySem.W.funFrames_hide J.stack fun env he b hb=>List.mem_cons_of_mem _ (List.mem_cons_of_mem _ (List.mem_filterMap.mpr ⟨env,he,hb⟩))
  have hfr:X.A.frames=some (X.env::X.outer):=by rw[← hst];exact J.ok.frames
  refine wpAny_looks_onW hfr hfm hfl fun h₄ hheld₄ hsm₄=>?_
  refine wpAny_landsW hheld₄ fun h₅ hfl₅ hsm₅=>?_
  obtain ⟨oe5,I5,c5,e5⟩:=sG I1 os bare U ok na fa nT fT (by rw[hst] at hfl₅ ⊢;exact hfl₅) (hsm₄.trans hsm₅)
  have I5':Inv (X.held a oe5) pins σ H' { s' with heap:=h₅ }:=I5.held
  refine wpAny_handleBy_cons (codeAny_handlers_test (pE (X:=X.held a oe5) I5' hgx hmD ?_ hdx)) (by intro q;cases q)
  refine tY (OC.keeps I5.bk) (OD.keeps I5.bk) e5 c5 hcon ?_
  refine codeAny_handlers_suite_as ?_
  refine lands_againW hfl₅ fun h₆ hfl₆ hsm₆=>?_
  obtain ⟨oe6,I6,c6,e6⟩:=sG I1 os bare U ok na fa nT fT (by rw[hst] at hfl₆ ⊢;exact hfl₆) ((hsm₄.trans hsm₅).trans hsm₆)
  have I6':Inv (X.held a oe6) pins σ H' { s' with heap:=h₆ }:=I6.held
  refine me (X:=X.held a oe6) (v:=.ref a) I6' hN hi (.inl hln) rfl (fun s7 I7=>?_) (.inr hln)
  refine wpAny_mono (hs a oe6 c6 pins s7 _ H' _ I7 (q a na)) (fun fl s8 q8=>?_) fun _ _ z=>z.elim
  cases fl with
  | next =>
    obtain ⟨σ',H8,I8,q8⟩:=q8
    exact Fz (I8.Hv J.ok) hN hi hln fun s9 I9=>⟨_,H8,I9,q8⟩
  | brk=>obtain ⟨_,_,_,z⟩:=q8;exact False.elim z
  | cont=>obtain ⟨_,_,_,z⟩:=q8;exact False.elim z
  | ret u=>obtain ⟨_,_,_,_,_,z⟩:=q8;exact False.elim z
end
end L2
namespace L3
open PySem L2
abbrev DSX:=List D→DK→(Addr→Prop)→Prop
def gu (S:DSX):Prop:=∀xs (P P':DK) (R R':Addr→Prop),(∀z,P z→P' z)→(∀C,R C→R' C)→S xs P R→S xs P' R'
def spX (K:PySem.W.Frag) (S:DSX):Sp:=fun vs H Q E=>∃ds,Rps K H ds vs∧i9 K H∧S ds (fun x=>∀v H' fp,Same H H'→Rf K H' x v fp→Nw H H' nf [] fp→Q v H') (fun C=>∀H',Same H H'→E (.ref C) none H')
def SX (K:PySem.W.Frag) (ρ:Bool) (Γr Γl:List Nat) (R:Addr→Prop) (t:XK→TS) (Γ Γn:List Nat) (d:DS):Prop :=
  ∀⦃B0:Hp⦄ ⦃Dn:Ends⦄ ⦃E:cC⦄ ⦃Ex:XK⦄ ⦃fps:Nat→List Addr⦄ ⦃δ:Dl⦄ ⦃σ:St⦄ ⦃H:Hp⦄,(∀C H',Same B0 H'→R C→Ex (.ref C) none H')→EOk K ρ Γr Γl Γn B0 Dn E→Ok K B0 Γ fps δ σ H→d E δ→t Ex Dn σ H
section
variable {K:PySem.W.Frag}{ρ:Bool}{Γr Γl Γ Γ1 Γ2 Γn M:List Nat}{R:Addr→Prop}{t u:XK→TS}{t0:TS}{d e:DS}{C:Addr}{S:DSX}{ta:TA}{da:DA}
theorem ST.sx (h:ST K ρ Γr Γl t0 Γ Γn d):SX K ρ Γr Γl R (fun _=>t0) Γ Γn d:=fun _ _ _ _ _ _ _ _ _ k o q=>h k o q
theorem jb (h1:SX K ρ Γr Γl R t Γ Γ1 d) (h2:SX K ρ Γr Γl R u Γ1 Γ2 e):SX K ρ Γr Γl R (fun Ex=>GN (t Ex) (u Ex)) Γ Γ2 (xr d e) :=
  fun {B0 Dn E Ex fps δ σ H} x k o h=>h1 (Dn:={ Dn with nx:=u Ex Dn }) (E:={ E with nx:=e E }) x ⟨fun o h=>h2 x k o h,k.bk,k.ct,k.rt⟩ o h
theorem vF {c:TT}{dc:DT} (hc:TR K Γ c dc) (h1:SX K ρ Γr Γl R t Γ Γn d) (h2:SX K ρ Γr Γl R u Γ Γn e):SX K ρ Γr Γl R (fun Ex=>FJ c (t Ex) (u Ex)) Γ Γn (Cn dc d e) :=
  fun _ _ _ _ _ _ _ _ x k o h=>hc.run o (hc.mono _ _ _ (fun b z H' s=>dO (fun z=>h1 x k (o.same s) z) (fun z=>h2 x k (o.same s) z) z) h)
def zy (C:Addr) (R:Addr→Prop) (da:DA) (_:cC) (δ:Dl):Prop:=da δ fun xs=>xs.length≤1000∧R C
theorem kG (ha:AR K Γ ta da):SX K ρ Γr Γl R (fun Ex=>C3 C Ex ta) Γ Γn (zy C R da) :=
  fun {B0 Dn E Ex fps δ σ H} x k o h=>ha.run o (ha.mono _ _ _ (fun xs z vs H' s r=>by
    obtain ⟨fp,r⟩:=r
    exact⟨by rw[r.length];exact z.1,x C H' (o.b0.trans s) z.2⟩) h)
def z5 (S:DSX) (R:Addr→Prop) (da:DA) (E:cC) (δ:Dl):Prop:=da δ fun xs=>S xs (fun _=>E.nx δ) R
theorem xM (hS:gu S) (ha:AR K Γ ta da):SX K ρ Γr Γl R (fun Ex=>Dm (qL (spX K S) [] Ex ta)) Γ Γ (z5 S R da) :=
  fun {B0 Dn E Ex fps δ σ H} x k o h=>ha.run o (ha.mono _ _ _ (fun xs z vs H' s r=>⟨xs,by rw[List.append_nil];exact r,(o.b0.trans s).now,
    hS _ _ _ _ _ (fun _ z v H2 fp s2 _ _=>k.nx (o.same (s.trans s2)) z) (fun C z H2 s2=>x C H2 (o.b0.trans (s.trans s2)) z) z⟩) h)
def Es (S:DSX) (R:Addr→Prop) (i:Nat) (da:DA) (E:cC) (δ:Dl):Prop:=da δ fun xs=>S xs (fun x=>E.nx (δ.set i (some x))) R
theorem yg {Ex:XK}{B0:Hp}{fps:Nat→List Addr}{δ:Dl}{σ:St}{H:Hp}{Q:VK} (hS:gu S) (ha:AR K Γ ta da) (x:∀C H',Same B0 H'→R C→Ex (.ref C) none H') (o:Ok K B0 Γ fps δ σ H)
    (h:da δ fun xs=>S xs (fun z=>∀v H' fp,Same H H'→Rf K H' z v fp→Nw H H' fps [] fp→Q v H') R):qL (spX K S) [] Ex ta σ H Q :=
  ha.run o (ha.mono _ _ _ (fun xs z vs H1 s1 r1=>⟨xs,by rw[List.append_nil];exact r1,(o.b0.trans s1).now,hS _ _ _ _ _ (fun u z u' H' fp s r n=>z u' H' fp (s1.trans s) r (n.any.later s1)) (fun C z H2 s2=>x C H2 (o.b0.trans (s1.trans s2)) z) z⟩) h)
theorem Fi (i:Nat) (hS:gu S) (ha:AR K Γ ta da):SX K ρ Γr Γl R (fun Ex=>qW (qL (spX K S) [] Ex ta) (jk i)) Γ (i::minus (minus Γ []) [i]) (Es S R i da) :=
  fun {B0 Dn E Ex fps δ σ H} x k o h=>yg hS ha x o (ha.mono _ _ _ (fun xs z=>hS _ _ _ _ _ (fun y z v H' fp s r n=>k.nx (o.GX (M:=[]) i (fun _ h=>(nomatch h)) s r n) z) (fun _ z=>z) z) h)
theorem jr {N:List Str}{dR:(Addr→Prop)→DS} (hs:∀R,SX K true [] [] R t [] Γn (dR R)) (hd:∀ds P R,S ds P R→dR R (qP P) (aG N ds)) :
    ∀{vs H Q E},spX K S vs H Q E→t E { nx:=fun _ H'=>Q .non H',rt:=Q } (L2.start N vs) H:=by
  rintro vs H Q E ⟨ds,r,tv,h⟩
  obtain ⟨fps,o⟩:=sE (N:=N) r tv
  refine hs _ (E:=qP _) (Ex:=E) (fun C H' s z=>z H' s) ⟨fun {fps δ σ H'} o z=>?_,fun o (z:False)=>z.elim,fun o (z:False)=>z.elim,fun o r i z=>?_⟩ o (hd ds _ _ h)
  · exact z _ H' [] o.b0 ⟨rfl,rfl⟩ Nw.nil
  · exact z _ _ _ o.b0 r ⟨(i rfl).nd,(i rfl).mu,fun a ha=>.inl ((i rfl).nw a ha)⟩
def noX (S:DSX):DSp:=fun ds P=>S ds P fun _=>False
theorem Dr (hS:gu S):bc (noX S):=fun xs P P' k h=>hS _ _ _ _ _ k (fun _ z=>z) h
theorem mO {Ex:XK} (hS:gu S) (ha:AR K Γ ta da):EM K Γ [] (qL (spX K S) [] Ex ta) (uh (noX S) da) :=
  ⟨fun δ P P' k h=>ha.mono _ _ _ (fun y z=>Dr hS _ _ _ k z) h,fun {B0 fps δ σ H Q} o q=>yg (R:=fun _=>False) hS ha (fun _ _ _ z=>z.elim) o q⟩
theorem Ok.gone {B0:Hp}{fps:Nat→List Addr}{δ:Dl}{σ:St}{H:Hp} (o:Ok K B0 Γ fps δ σ H) (j:Nat) (hj:j∉Γ):Ok K B0 Γ (fun i=>if i=j then [] else fps i) (δ.set j none) (σ.set j none) H:=by
  have o1:=o.dead j .non hj
  refine⟨by simp [o.len],o.b0,fun i d e=>?_,o1.non,o1.own,o1.dj⟩
  obtain ⟨v,h1,h2⟩:=o1.val i d e
  refine⟨v,?_,h2⟩
  by_cases h:i=j
  · subst h
    rw[List.getElem?_set] at e
    by_cases hl:i<δ.length
    · simp [hl] at e
    · simp [hl] at e
  · rw[List.getElem?_set_ne (Ne.symm h)] at h1 ⊢
    exact h1
def Iy (i:Nat) (C:Addr) (S:DSX) (da:DA) (dh:DS) (E:cC) (δ:Dl):Prop :=
  da δ fun xs=>S xs (fun _=>E.nx δ) fun C'=>C'=C∧dh { nx:=fun δ'=>E.nx (δ'.set i none),rt:=fun _ _=>False,bk:=fun _=>False,ct:=fun _=>False } (δ.set i none)
end
end L3
namespace PySem.W
open PySem PySem.Spec PySem.Calls PyProof.Rows
section
variable {prog:Program}{w:World}{A:Around}{E:Value→Shared→Prop}{s:Shared}{K:Frag}{x C:Addr}{ox:Obj}
theorem HP {R:Result→Shared→Prop}{tp:Value} (hm:mroIn K C (.type "object")=some true) (X:K.In s.heap) (L0:Looks (model prog w) s.heap (typeOf (.ref x)) (.ref C)) (h:R (.ok (.ret (.ref C))) s) :
    codeAny (model prog w) A (.call (.builtin "getset_descriptor.__get__") ⟨[.builtin "object.__class__",.ref x,tp],[]⟩) R s:=by
  obtain ⟨hh,g,dr,t,os⟩:=s
  have hT5:(⟨hh,g,dr,t,os⟩:Shared).TypeIs (.builtin "object.__class__") "getset_descriptor":=F.typeOf_object_class
  have L1:Looks (model prog w) hh (isSubtype (.ref C) (.type (".".intercalate ("object.__class__".cutAt '.').dropLast))) true:=by
    rw[F.owner_object_class];exact looks_mroIn (M:=model prog w) X hm
  refine codeAny_call_builtin F.slot_gs_get.plain F.entry_gs_get (F.slot_gs_get.check _ _ _ _ _ _ _ _ hT5 (F.args_gs_get _ _ _) ?_)
  repeat (any_goals (first | assumption | with_reducible refine L0.at ?_ | with_reducible refine L1.at ?_ | wp_step))
  refine⟨Code.quiet_builtin _ (by decide +kernel),codeAny_builtin F.entry_object_class ?_⟩
  repeat (any_goals (first | assumption | with_reducible refine L0.at ?_ | with_reducible refine L1.at ?_ | wp_step))
theorem CT {tk:Tok}{Q:Fin→Shared→Prop} (hcl:findIn K (.ref C) "__class__" = some (some (.builtin "object.__class__"))) (hm:mroIn K C (.type "object")=some true)
    (X:K.In s.heap) (L0:Looks (model prog w) s.heap (typeOf (.ref x)) (.ref C)) (h:Q (.done (.ret (.ref C))) s):wpAny (model prog w) A (Builtin.«object.__getattribute__» ⟨[.ref x,.str "__class__" tk],[]⟩) Q E s:=by
  obtain ⟨hh,g,d,t,os⟩:=s
  have L1:=looks_findIn (M:=model prog w) X hcl
  have hT5:(⟨hh,g,d,t,os⟩:Shared).TypeIs (.builtin "object.__class__") "getset_descriptor":=F.typeOf_object_class
  have f5:=F.typeOf_object_class
  have f6:=F.slot_gs_get.lookup
  have f7:=F.slot_gs_set.lookup
  repeat (any_goals (first | assumption | with_reducible refine L0.at ?_ | with_reducible refine L1.at ?_ | wp_step))
  refine HP hm X L0 ?_
  repeat (any_goals (first | assumption | wp_step))
theorem CN {M:Model}{nameV:Value}{Q:Unit→Shared→Prop} (hmB:mroIn K C (.type "BaseException")=some true) (X:K.In s.heap) (L0:Looks M s.heap (typeOf (.ref x)) (.ref C)) (h:Q () s) :
    wpAny M A (checkBuiltinCall "BaseException.__getattribute__" ⟨[.ref x,nameV],[]⟩) Q E s:=by
  obtain ⟨hh,g,d,t,os⟩:=s
  have hk:builtinKind "BaseException.__getattribute__" = some .slot:=by decide +kernel
  have hsplit:splitId "BaseException.__getattribute__" = some ("BaseException","__getattribute__"):=by decide +kernel
  have L1:=looks_mroIn (M:=M) X hmB
  have ha:=F.args_bexc_ga (.ref x) nameV
  simp only[checkBuiltinCall,hk,hsplit]
  refine wpAny_bind ?_
  unfold isInstance
  repeat (first | with_reducible refine L0.at ?_ | with_reducible refine L1.at ?_ | wp_step)
  exact h
theorem DU {Q:Option Value→Shared→Prop} (hga:findIn K (.ref C) "__getattribute__" = some (some (.builtin "BaseException.__getattribute__"))) (hge:findIn K (.ref C) "__getattr__" = some none)
    (hcl:findIn K (.ref C) "__class__" = some (some (.builtin "object.__class__"))) (hm:mroIn K C (.type "object")=some true) (hmB:mroIn K C (.type "BaseException")=some true)
    (X:K.In s.heap) (L0:Looks (model prog w) s.heap (typeOf (.ref x)) (.ref C)) (h:Q (some (.ref C)) { s with toks:=s.toks+1 }):wpAny (model prog w) A (getAttr? (.ref x) "__class__") Q E s:=by
  obtain ⟨hh,g,d,t,os⟩:=s
  have L1:=looks_findIn (M:=model prog w) X hga
  have L2:=looks_findIn (M:=model prog w) X hge
  have f3:=F.attr_ValueError.ga.bind (.ref x)
  have hx2:(Value.builtin "BaseException.__getattribute__" == Value.builtin "object.__getattribute__")=false:=by decide +kernel
  have hx1:(onTheHeap (Value.ref C) && Value.builtin "BaseException.__getattribute__" == Value.builtin "object.__getattribute__")=false:=by rw[hx2];rfl
  unfold getAttr? getAttrBy?
  repeat (any_goals (first | assumption | with_reducible refine L0.at ?_ | with_reducible refine L1.at ?_ | with_reducible refine L2.at ?_ | wp_step))
  refine codeAny_call_builtin F.attr_ValueError.ga.plain F.entry_bexc_ga (CN hmB X L0 (CT hcl hm X L0 ?_))
  repeat (any_goals (first | assumption | wp_step))
structure B7 (K:Frag) (C:Addr):Prop where
  ga:findIn K (.ref C) "__getattribute__" = some (some (.builtin "BaseException.__getattribute__"))
  ge:findIn K (.ref C) "__getattr__" = some none
  cl:findIn K (.ref C) "__class__" = some (some (.builtin "object.__class__"))
  ob:mroIn K C (.type "object")=some true
  be:mroIn K C (.type "BaseException")=some true
  is:(clsIn K C).isSome=true
def ExcAt (x C:Addr) (h:Heap):Prop:=∃o,h.get? x=some o∧o.cls=.ref C
theorem ExcAt.ty {h:Heap} (M:Model) (p:ExcAt x C h):Looks M h (typeOf (.ref x)) (.ref C):=by
  obtain ⟨o,h1,h2⟩:=p
  exact h2▸(Looks.ld h1).andThen .now
theorem yq (k:B7 K C):KitX K (.ref x) (.ref C) (ExcAt x C) where
  ty:=fun M _ _ p=>p.ty M
  it:=fun _ _ X _=>by
    have z0:=k.is
    unfold clsIn at z0
    split at z0
    · rename_i c' d' cd' sl' ho
      intro A' Q' E' s' k q
      unfold isType loadHead
      exact wpAny_bind (wpAny_loadPart (k _ _ (X _ _ ho)) (wpAny_pure q))
    · cases z0
  ne:=fun h tp dd its n sl X htp=>by
    have z0:=k.is
    refine Bool.eq_false_iff.mpr fun q=>?_
    have e:C=tp:=Value.ref.inj (beq_iff_eq.mp q)
    subst e
    unfold clsIn at z0
    split at z0
    · rename_i c' d' cd' sl' ho
      have z:=(X _ _ ho).symm.trans htp
      cases z
    · cases z0
  ca:=fun X p q=>DU k.ga k.ge k.cl k.ob k.be X (p.ty _) q
end
end PySem.W
namespace L2
open PySem PySem.Spec PyProof.Rows
section
variable {X:Cx}{pins:List (Addr × Obj)}{σ:St}{H:Hp}{s:Shared}{a C:Addr}{oe:Obj}{i:Nat}{n x:Str}{np p cp:Pos}{b:Bool}
theorem Inv.excAt (I:Inv (X.held a oe) pins σ H s) (hc:oe.cls=.ref C):PySem.W.ExcAt a C s.heap:=⟨oe,(I.pin (a,oe) (List.mem_append_left _ (List.mem_cons_self ..))).1,hc⟩
end
end L2
namespace L2
open PySem PySem.Spec PyProof.Rows
section
variable {X:Cx}{a C:Addr}{oe:Obj}
theorem vv:∀{cs:List Addr}{us:List Value},Vals (cs.map V.ref) us→us=cs.map Value.ref
  | [],us,r=>by cases r;rfl
  | c::cs,us,r=>by
    cases r with
    | cons r rr =>
      have e:=vv rr
      have e1:_=Value.ref c:=r
      rw[e,e1];rfl
def Ho (K : PySem.W.Frag) (a C : Addr) : List V → Hp → VK → Prop := fun xs H Q => ∃ b, Q (.bl b) H ∧
    ((∃(p:Addr) (cs:List Addr),xs=[.ref a,.ref p]∧H p=some (.tup (cs.map V.ref))∧PySem.W.kitAny K (.ref C) (cs.map Value.ref)=some b)∨∃T,xs=[.ref a,.ty T]∧PySem.W.kitOne K (.ref C) (.type T)=some b)
theorem tJ (hc:oe.cls=.ref C) (k:PySem.W.B7 X.K C):fR (X.held a oe) (.builtin "isinstance") (Ho X.K a C):=by
  intro pins s σ H xs us Q I r h
  obtain ⟨b,q,⟨p,cs,rfl,hp,e⟩ | ⟨T,rfl,e⟩⟩:=h
  · obtain ⟨u,v,rfl,ru,rv⟩:=vals2 r
    obtain rfl:u=Value.ref a:=ru
    obtain rfl:v=Value.ref p:=rv
    obtain ⟨_,its,rv,ho⟩:=(show eX X.prog X.w H s.heap p (.tup (cs.map V.ref)) from I.hok p _ hp)
    obtain rfl:=vv rv
    obtain ⟨o,h1,h2,n,h3⟩:=ho
    obtain ⟨oc,od,oda,osl⟩:=o
    dsimp only at h2 h3
    subst h2 h3
    exact PySem.W.kia_tup (PySem.W.yq k) I.kIn (I.excAt hc) h1 e (fun z=>nomatch z) fun tk=>⟨.bl b,H,I.tok _,rfl,q⟩
  · obtain ⟨u,v,rfl,ru,rv⟩:=vals2 r
    obtain rfl:u=Value.ref a:=ru
    obtain rfl:v=Value.type T:=rv
    exact PySem.W.kia_one (PySem.W.yq k) I.kIn (I.excAt hc) e (fun z=>nomatch z) fun tk=>⟨.bl b,H,I.tok _,rfl,q⟩
end
section
variable {P:Program}{w:World}{K:PySem.W.Frag}{mg:Str→Option Value}{base:Heap}{CX:CXT}
theorem Fun.okX {x qual:Str}{st:Stmt}{f:Addr}{fd:FuncData}{N ps:List Str}{k:Nat}{sp:Sp} (F:Fun K x qual st f fd) (S:az N ps (ai st)) (len:∀vs H Q E,sp vs H Q E→vs.length=ps.length)
    (hbody:∀(cdv:Value) (A:Around) (outer:List Env) (s:Shared) (H:Hp) (vs:List V) (Q:VK) (E:XK),jL k (A.deeper (envOfC qual (ai st) s.heap.objs.size f cdv))→sp vs H Q E →
      ∃t,PSs (oj (CXR P w) P w K mg base N qual (ai st) f cdv A outer s H E) (ax st) t∧t { nx:=fun _ H'=>Q .non H',rt:=Q } (start N vs) H):bE P w K mg base (CXR P w) (k+1) f fd ps sp:=by
  obtain ⟨oc,od,kV,doc,pm,an,cdv,ct,osl,rfl,lk,hcd⟩:=F.ex
  exact A7 lk hcd S len fun A outer s H vs Q E hr hsp=>hbody cdv A outer s H vs Q E hr hsp
end
theorem dJ.of_lookup {K:PySem.W.Frag}{h:Heap}{C:Addr}{ups:List Addr}{mro:List Value}{dd:Option Addr}{nm qn:Str}{bs:List Value}{ns:Addr}{hd:Bool}{sn:List Str}{sub:List Value}{ab:Bool}{col:Option Bool}{k0 k1 k2 k3 k5:Option Value} (X:K.In h)
    (u:K.lookup C=some ⟨.type "type",dd,.cls ⟨nm,bs,mro,ns,qn,hd,sn,sub,ab,col,false⟩,#[k0,k1,k2,k3,some (.builtin "ValueError.__new__"),k5]⟩) (hm:mro=.ref C::(ups.map Value.ref++VB)) (v:PySem.W.excIn K C VB "ValueError.__new__" = true):dJ h C ups:=by
  subst hm
  unfold PySem.W.excIn at v
  rw[u] at v
  simp only[Bool.and_eq_true,beq_iff_eq,Bool.not_eq_true'] at v
  obtain ⟨⟨⟨_,ht⟩,hok⟩,hni⟩:=v
  exact⟨ns,nm,qn,bs,hd,sn,sub,ab,col,dd,k0,k1,k2,k3,k5,_,X _ _ u,.of_isNs (PySem.W.isNs_of_in X hok),PySem.W.nsMap_none_of_in X hok hni,PySem.W.tail_of_in X ht⟩
theorem qK {X:Cx}{P:Program}{w:World}:Passes (CXR P w) X E0:=fun _ _ _ _ _ _ _ h=>by
  obtain ⟨_,_,_,_,_,_,_,_,_,q⟩:=h
  exact q.elim
end L2
namespace L3
open PySem L2
def STi (K:PySem.W.Frag) (i:Nat) (t:Addr→TS) (Γ:List Nat) (d:DS):Prop :=
  ∀⦃a:Addr⦄ ⦃B0:Hp⦄ ⦃Dn:Ends⦄ ⦃E:cC⦄ ⦃fps:Nat→List Addr⦄ ⦃δ:Dl⦄ ⦃σ:St⦄ ⦃H:Hp⦄,(∀{fps δ σ H},Ok K B0 Γ fps δ σ H→σ[i]?=some (some (.ref a))→E.nx δ→Dn.nx σ H) →
    Ok K B0 Γ fps δ σ H→σ[i]?=some (some (.ref a))→d E δ→t a Dn σ H
section
variable {K:PySem.W.Frag}{ρ:Bool}{Γr Γl Γ:List Nat}{i:Nat}{t u:Addr→TS}{d e:DS}{C:Addr}{S:DSX}{ta:TA}{da:DA}
theorem zl:STi K i (fun _=>Dt) Γ Ay:=fun _ _ _ _ _ _ _ _ k o hi h=>k o hi h
theorem Br (h1:STi K i t Γ d) (h2:STi K i u Γ e):STi K i (fun a=>GN (t a) (u a)) Γ (xr d e) :=
  fun {a B0 Dn E fps δ σ H} k o hi h=>h1 (Dn:={ Dn with nx:=u a Dn }) (E:={ E with nx:=e E }) (fun o hi h=>h2 k o hi h) o hi h
theorem wu (j:Nat) {te:TE}{de:DE} (he:ES K Γ te de) (hj:j∉Γ:=by decide) (hij:j≠i:=by decide):STi K i (fun _=>qW te (jk j)) Γ (FQ j de) :=
  fun {a B0 Dn E fps δ σ H} k o hi h=>he.run o (he.mono _ _ _ (fun x z v H' fp s r n=>k ((o.wo j s r n).sub fun l hl=>cQ.mpr ⟨hl,fun q=>hj (by rw[← List.mem_singleton.mp q];exact hl)⟩)
    (by rw[List.getElem?_set_ne hij];exact hi) z) h)
def Dw (j:Nat) (n:Int) (E:cC) (δ:Dl):Prop:=E.nx (δ.set j (some (.int n)))
theorem DJ (j:Nat) {te:Addr→TE}{n:Int} (he:∀a σ H (Q:VK),σ[i]?=some (some (.ref a))→(∀H',Same H H'→Q (.int n) H')→te a σ H Q) (hj:j∉Γ:=by decide) (hij:j≠i:=by decide) :
    STi K i (fun a=>qW (te a) (jk j)) Γ (Dw j n) :=
  fun {a B0 Dn E fps δ σ H} k o hi h=>he a σ H _ hi fun H' s=>k ((o.wo j s (Rf.xA (d:=.int n) rfl) (fun _ _ _ z=>(nomatch z))).sub fun l hl=>cQ.mpr ⟨hl,fun q=>hj (by rw[← List.mem_singleton.mp q];exact hl)⟩)
    (by rw[List.getElem?_set_ne hij];exact hi) h
def EN (b:Bool) (d e:DS) (E:cC) (δ:Dl):Prop:=if b=true then d E δ else e E δ
theorem DQ {c:Addr→TT}{b:Bool} (hc:∀a σ H (Q:Bool→Hp→Prop),σ[i]?=some (some (.ref a))→(∀H',Same H H'→Q b H')→c a σ H Q) (h1:STi K i t Γ d) (h2:STi K i u Γ e) :
    STi K i (fun a=>FJ (c a) (t a) (u a)) Γ (EN b d e) :=
  fun {a B0 Dn E fps δ σ H} k o hi h=>hc a σ H _ hi fun H' s=>dO (fun z=>h1 k (o.same s) hi z) (fun z=>h2 k (o.same s) hi z) h
def Dk (i:Nat) (C:Addr) (S:DSX) (da:DA) (dh:DS) (E:cC) (δ:Dl):Prop:=i<δ.length∧Iy i C S da dh E δ
theorem A6 {dh:DS} (i:Nat) (hS:gu S) (ha:AR K Γ ta da) (hh:STi K i t Γ dh) (hi:i∉Γ:=by decide):ST K ρ Γr Γl (Jw i C (spX K S) ta t) Γ Γ (Dk i C S da dh) :=
  fun {B0 Dn E fps δ σ H} k o h=>ha.run o (ha.mono _ _ _ (fun xs z vs H1 s1 r1=>⟨xs,r1,(o.b0.trans s1).now,hS _ _ _ _ _ (fun _ z v H2 fp s2 _ _=>k.nx (o.same (s1.trans s2)) z)
    (fun C' z H2 s2=>⟨congrArg Value.ref z.1,fun a _=>hh (E:={ nx:=fun δ'=>E.nx (δ'.set i none),rt:=fun _ _=>False,bk:=fun _=>False,ct:=fun _=>False })
      (fun o3 _ z3=>k.nx (o3.gone i hi) z3) ((o.same (s1.trans s2)).dead i (.ref a) hi) (List.getElem?_set_self (by rw[o.len];exact h.1)) z.2⟩) z⟩) h.2)
theorem A0 {Q:VK}{b:Bool}{a:Addr}{cs:List Addr}{v:TA}{σ:St}{H:Hp} (hv:∀σ H (Q:List V→Hp→Prop),Q (cs.map V.ref) H→v σ H Q) (hl:cs.length≤1000) (e:PySem.W.kitAny K (.ref C) (cs.map Value.ref)=some b)
    (hi:σ[i]?=some (some (.ref a))) (q:∀H',Same H H'→Q (.bl b) H'):tCB (Ho K a C) (fX (wW i) (fX (HU v) nO)) σ H Q :=
  ⟨_,hi,hv _ _ _ ⟨by rw[List.length_map];exact Nat.le_of_lt (vQ hl),fun p hp=>⟨b,q _ (Same.o9 hp),.inl ⟨p,cs,rfl,aH,e⟩⟩⟩⟩
theorem Gg {Q:VK}{b:Bool}{a:Addr}{T:String}{σ:St}{H:Hp} (e:PySem.W.kitOne K (.ref C) (.type T)=some b)
    (hi:σ[i]?=some (some (.ref a))) (q:Q (.bl b) H):tCB (Ho K a C) (fX (wW i) (fX (tC (.ty T)) nO)) σ H Q:=⟨_,hi,b,q,.inr ⟨T,rfl,e⟩⟩
end
theorem js {K:PySem.W.Frag}{S:DSX}{n:Nat} (hS:∀ds P R,S ds P R→ds.length=n) {vs:List V}{H:Hp}{Q:VK}{E:XK} (h:spX K S vs H Q E):vs.length=n:=by
  obtain ⟨ds,⟨fp,r⟩,_,h⟩:=h
  rw[r.length];exact hS _ _ _ h
end L3
namespace L2
open PySem
theorem PA.nox {X:Cx}{es:List Expr}{t:TA} (h:PA X.nox es t):PA X es t:=fun pos pins s σ H Q I hw =>
  wpAny_mono (h pos pins s σ H Q (I.oR _) hw) (fun _ _ ⟨v,H',I',r,q⟩=>⟨v,H',I'.i5,r,q⟩) fun _ _ z=>False.elim z
theorem PS.nox {X:Cx}{st:Stmt}{t:TS} (h:PS X.nox st t):PS X st t:=fun pins s σ H D I hw =>
  wpAny_mono (h pins s σ H D (I.oR _) hw) (fun _ _ q=>q.i5) fun _ _ z=>False.elim z
end L2
namespace L2
open PySem PySem.Spec PyProof.Rows
structure BL (K:PySem.W.Frag) (x qual:Str) (st:Stmt) (dv:List Value) (f:Addr) (fd:FuncData):Prop where
  ex:∃(da:Addr) (oc:Value) (od:Option Addr) (kV doc pm:Value) (an:Option Addr) (cdv ct:Value) (osl:Array (Option Value)) (o:Obj) (n:Nat),
    fd=PySem.W.fnOf x qual (ay st) (ax st) (ai st) (.ref da) kV doc pm an cdv ct∧K.lookup f=some ⟨oc,od,.func fd,osl⟩∧PySem.W.codeIn K cdv qual=true∧K.lookup da=some o∧o.data=.seq dv.toArray n
  kp:PySem.W.keepIn K (.ref f)=true
section
variable {P:Program}{w:World}{K:PySem.W.Frag}{mg:Str→Option Value}{base:Heap}{x qual:Str}{st:Stmt}{dv:List Value}{f:Addr}{fd:FuncData}{N ps:List Str}{k:Nat}{sp:Sp}
theorem BL.okX (F:BL K x qual st dv f fd) (S:az N ps (ai st)) (len:∀vs H Q E,sp vs H Q E→vs.length=ps.length)
    (hbody:∀(cdv:Value) (A:Around) (outer:List Env) (s:Shared) (H:Hp) (vs:List V) (Q:VK) (E:XK),jL k (A.deeper (envOfC qual (ai st) s.heap.objs.size f cdv))→sp vs H Q E →
      ∃t,PSs (oj (CXR P w) P w K mg base N qual (ai st) f cdv A outer s H E) (ax st) t∧t { nx:=fun _ H'=>Q .non H',rt:=Q } (start N vs) H):bE P w K mg base (CXR P w) (k+1) f fd ps sp:=by
  obtain ⟨da,oc,od,kV,doc,pm,an,cdv,ct,osl,o,n,rfl,lk,hcd,_⟩:=F.ex
  exact A7 lk hcd S len fun A outer s H vs Q E hr hsp=>hbody cdv A outer s H vs Q E hr hsp
theorem BL.binds {ds:List Value} (F:BL K x qual st dv f fd)
    (h:∀(da:Addr) (kV doc pm:Value) (an:Option Addr) (cdv ct:Value) (us:List Value),(us++ds).length=ps.length →
      ∃g,bindArgs (PySem.W.fnOf x qual (ay st) (ax st) (ai st) (.ref da) kV doc pm an cdv ct) ⟨us,[]⟩=seqItems? (.ref da) >>= g∧g (some dv.toArray)=pure (ps.zip (us++ds))):Binds K fd ps ds:=by
  obtain ⟨da,oc,od,kV,doc,pm,an,cdv,ct,osl,o,n,rfl,lk,hcd,lo,ho⟩:=F.ex
  intro s us X hl
  obtain ⟨g,h1,h2⟩:=h da kV doc pm an cdv ct us hl
  exact .of_defaults rfl (X _ _ lo) ho h1 h2
end
structure zq (K:PySem.W.Frag) (mg:Str→Option Value) (x:Str) (st:Stmt) (ps:List Str) (dvs:List V) (f:Addr) (fd:FuncData):Prop where
  ex:∃dv,Vals dvs dv∧BL K x x st dv f fd∧Binds K fd ps dv
  mg:mg x=some (.ref f)
  bd:Binds K fd ps []
theorem zq.kp {K:PySem.W.Frag}{mg:Str→Option Value}{x:Str}{st:Stmt}{ps:List Str}{dvs:List V}{f:Addr}{fd:FuncData} (F:zq K mg x st ps dvs f fd):PySem.W.keepIn K (.ref f)=true:=by
  obtain ⟨dv,_,F,_⟩:=F.ex
  exact F.kp
end L2
namespace L3
open PySem L2
section
variable {K:PySem.W.Frag}{Γ:List Nat}{t:TA}{d:DA}
end
end L3
namespace L2
open PySem PySem.Spec PyProof.Rows SeqAt MeetsSeq
theorem sY (l:Addr) (items:Array Value) (n:Nat) (dd:Option Addr) (sl:Array (Option Value)) (x:Value) (e:Value→Bool) (st:Nat) (t:Tok) (j:Nat) (hj:j<items.size) (hst:st≤j) (hsmall:(j:Int)<2 ^ 63 - 1)
    (hit:e items[j]=true) (hno:∀m (hm:m<items.size),st≤m→m<j→e items[m]=false) :
    Meets (Builtin.«list.index» ⟨[.ref l,x,.int st t],[]⟩)
      (fun A R s=>s.heap.get? l=some { cls:=.type "list",dict:=dd,data:=.seq items n,slots:=sl }∧(∀y,y∈items→EqAt A.in1 s y x (e y))∧R (.ok (.ret (.int j s.toks))) { s with toks:=s.toks+1 }):=by
  intro prog w A R s h
  obtain ⟨hp,g,d,tk,os⟩:=s;obtain ⟨hl,he,h⟩:=h
  wp_walk using wpAny_loadPart' hl
  have a1:((fun i:Int=>if i<0 then max 0 (i+(items.size:Int)) else i) ((some (st:Int)).getD 0))=((st:Nat):Int):=by
    show (if (st:Int)<0 then _ else (st:Int))=_
    rw[if_neg (by omega)]
  have a2:((fun i:Int=>if i<0 then max 0 (i+(items.size:Int)) else i) ((none:Option Int).getD (2 ^ 63 - 1)))=2 ^ 63 - 1:=by simp
  rw[a1,a2]
  exact⟨plainId_quiet plain_index_loop _,codeAny_builtin entry_index_loop (by
    rw[Around.under_plainId plain_index_loop _]
    exact index_loopAt l items n dd sl x e (2 ^ 63 - 1) j hj hsmall hit _ st rfl hst hno prog w A R _ ⟨hl,he,h⟩)⟩
section
variable {X:Cx}
def BF (K:PySem.W.Frag):V→List V→Hp→VK→Prop:=fun x vs H Q=>∃(l:Addr) (xs:List V) (y:V) (k j:Nat),x=.ref l∧vs=[y,.int k]∧H l=some (.lst xs)∧mS y=true∧xs.all mS=true∧k≤j∧(∃z,xs[j]?=some z∧eqV z y=true)∧(∀m z,k≤m→m<j→xs[m]?=some z→eqV z y=false)∧Q (.int j) H
theorem BR:MtM X "list.index" (BF X.K):=by
  intro pins s σ H x vs v us Q I rx rv h
  obtain ⟨l,xs,y,k0,j,rfl,rfl,hH,fy,fs,hkj,⟨z,hz,ez⟩,hb,q⟩:=h
  cases rx
  obtain ⟨u,u2,rfl,ru,ru2⟩:=vals2 rv
  obtain ⟨t,rfl⟩:=ru2
  obtain ⟨hs,its,n,r,hl,e⟩:=I.GJ hH
  have hj:j<xs.length:=(List.getElem?_eq_some_iff.mp hz).1
  have key:∀m (hm:m<its.toArray.size) w,xs[m]?=some w→eqU y its.toArray[m]=eqV w y:=fun m hm w hw=>by
    obtain ⟨u',hu',rw'⟩:=r.get hw
    have fw:mS w=true:=List.all_eq_true.mp fs w (List.mem_of_getElem? hw)
    have:its.toArray[m]=u':=by
      have:=(List.getElem?_eq_some_iff.mp hu').2
      simpa using this
    rw[this]
    exact CG rw' fw
  have hsz:its.toArray.size=xs.length:=by simp [hl]
  refine call_meets F.slot_list_index ⟨_,e,rfl⟩ F.entry_list_index (F.args_list_index_3 _ _ _) (sY l its.toArray n none #[] u (eqU y) k0 t j (by omega) hkj ?_ ?_ (fun m hm hk hmj=>?_)) ⟨e,fun w hw=>yh ru fy r fs w (by simpa using hw),?_⟩
  · have:sizeLine<2 ^ 63 - 1:=by decide
    omega
  · rw[key j (by omega) z hz];exact ez
  · have hm':m<xs.length:=by omega
    rw[key m hm _ (List.getElem?_eq_getElem hm')]
    exact hb m _ hk hmj (List.getElem?_eq_getElem hm')
  · exact⟨.int j,H,I.tok _,⟨_,rfl⟩,q⟩
end
end L2
namespace L3
open PySem
open L2 hiding D Rf Rfs Rp dI dT
section
variable {K:PySem.W.Frag}{Γ:List Nat}
def lT:D→Bool
  | .tup ds=>ds.all D.bf
  | d=>D.bf d
theorem Rf.xQ {H:Hp}{d:D}{v:V}{fp:List Addr} (h:Rf K H d v fp) (f:lT d=true):fp=[]:=by
  cases d with
  | tup ds =>
    obtain ⟨a,xs,e1,e2,h⟩:=h
    exact (h.mP f).2
  | scr _ =>
    obtain ⟨a,e1,e2,e3⟩:=h
    exact e3
  | _=>first | exact h.2 | cases f
theorem Rfs.xQ {H:Hp}:∀{ds:List D}{vs:List V}{fp:List Addr},Rfs K H ds vs fp→ds.all lT=true→fp=[]
  | [],_,_,h,_=>h.2
  | d::ds,vs,fp,h,f=>by
    obtain ⟨x,r,f1,f2,e1,e2,h1,h2⟩:=h
    rw[List.all_cons,Bool.and_eq_true] at f
    rw[e2,h1.xQ f.1,h2.xQ f.2];rfl
def x2 (x:D) (y:D) (P:DK):Prop:=match x,y with | .lst a,.lst b=>(a.all lT=true∧b.all lT=true∧a.length+b.length≤1000)∧P (.lst (a++b)) | _,_=>False
theorem IC:OpV K Jv x2:=⟨fun x y P P' k h=>by unfold x2 at h ⊢;revert h;split<;>first | exact fun h=>⟨h.1,k _ h.2⟩ | exact id,fun {H x y v w Q} r1 r2 h=>by
  unfold x2 at h
  split at h
  · rename_i a b
    obtain ⟨⟨s1,s2,hl⟩,h⟩:=h
    obtain ⟨f1,l1,xs,q1,rfl,e1,_,hr1⟩:=r1
    obtain ⟨f2,l2,ys,q2,rfl,e2,_,hr2⟩:=r2
    obtain rfl:=hr1.xQ s1
    obtain rfl:=hr2.xQ s2
    refine⟨l1,l2,_,_,rfl,rfl,e1,e2,by rw[hr1.length,hr2.length];exact qo hl,fun p hp=>?_⟩
    exact h _ _ [p] (Same.o9 hp) ⟨p,_,[],rfl,aH,rfl,(hr1.append hr2).same (Same.o9 hp)⟩ ⟨by simp,fun b hb=>by cases List.mem_singleton.mp hb;exact .inl ⟨_,aH⟩,fun b hb=>by cases List.mem_singleton.mp hb;exact .inl hp⟩
  · exact h.elim⟩
def xn (da dk dn:DE) (δ:Dl) (P:DK):Prop:=da δ fun x=>AJ (some x) fun ds=>ds.all D.bf=true∧dk δ fun y=>y.bf=true∧dn δ fun z=>asI [z] fun n=>∃k j:Nat,n=(k:Int)∧k≤j∧(∃z,ds[j]?=some z∧eqV z.toV y.toV=true)∧(∀m z,k≤m→m<j→ds[m]?=some z→eqV z.toV y.toV=false)∧P (.int j)
theorem BQ {ta ty tn:TE}{da dk dn:DE} (ha:ER K Γ ta da) (hk:ER K Γ ty dk) (hn:ER K Γ tn dn):EM K Γ [] (tBM K "list" (BF K) ta (fX ty (fX tn nO))) (xn da dk dn) :=
  ⟨fun δ P P' k h=>ha.mono _ _ _ (fun x z=>by
      obtain ⟨ds,e,z1,z⟩:=va z
      refine xP e ⟨z1,hk.mono _ _ _ (fun y z=>?_) z⟩
      refine⟨z.1,hn.mono _ _ _ (fun u z=>?_) z.2⟩
      obtain ⟨n,rfl,k0,j,z0,z1,z2,z3,z4⟩:=jK z
      exact wq.mpr ⟨k0,j,z0,z1,z2,z3,k _ z4⟩) h,
   fun {B0 fps δ σ H Q} o h=>by
    refine ha.run o (ha.mono _ _ _ (fun x z v H1 s1 r1=>?_) h)
    obtain ⟨ds,e,z1,z'⟩:=va z
    clear z
    cases e
    obtain ⟨fp,a,xs,fq,rfl,hl,_,rs⟩:=r1
    obtain ⟨rfl,_⟩:=rs.mP z1
    refine⟨.inl ⟨rfl,_,.inl (.inl hl)⟩,hk.run (o.same s1) (hk.mono _ _ _ (fun y z w H2 s2 r2=>?_) z')⟩
    obtain ⟨z0,z⟩:=z
    obtain ⟨fp2,r2⟩:=r2
    obtain ⟨rfl,_⟩:=r2.bf z0
    refine hn.run ((o.same s1).same s2) (hn.mono _ _ _ (fun q z w3 H3 s3 r3=>?_) z)
    obtain ⟨n,rfl,k0,j,rfl,kj,⟨u,hu,eu⟩,z3,z4⟩:=jK z
    rw[r3.int]
    refine⟨a,_,_,k0,j,rfl,rfl,s3.st _ _ (s2.st _ _ hl trivial) trivial,wm z0,?_,kj,⟨u.toV,by rw[List.getElem?_map,hu];rfl,eu⟩,fun m w hk hm hw=>?_,z4 _ H3 [] ((s1.trans s2).trans s3) ⟨rfl,rfl⟩ Nw.nil⟩
    · rw[List.all_map,List.all_eq_true]
      rw[List.all_eq_true] at z1
      exact fun y hy=>wm (z1 y hy)
    · rw[List.getElem?_map] at hw
      cases q:ds[m]? with
      | none=>rw[q] at hw;cases hw
      | some d=>rw[q] at hw;cases hw;exact z3 m d hk hm q⟩
end
end L3
namespace L2
open PySem PySem.Spec PyProof.Rows PySem.Builtin PySem.Builtin.Str
section
variable {X:Cx}
theorem vk:∀(l:List (Str × Tok)),Vals ((l.map (·.1)).map V.str) (strValues l)
  | []=>.nil
  | p::r=>.cons ⟨p.2,rfl⟩ (vk r)
def C5:V→List V→Hp→VK→Prop:=fun x vs H Q=>∃(a b:Str),x=.str a∧vs=[.str b]∧(b.length == 0)=false∧a.length+2≤sizeLine∧∀p,H p=none→Q (.ref p) (upd H p (.lst ((Txt.split a b).map V.str)))
theorem split_len {a b:Str} (h:a.length+2≤sizeLine):(Txt.split a b).length≤sizeLine:=by
  have s1:(1:Nat)≤sizeLine:=by decide
  unfold Txt.split
  split
  · exact s1
  · split
    · exact s1
    · have e1:=StrLaws.occ_length_le a b 0 a.length (a.length+1)
      rw[length_partsBetween];omega
theorem sR:MtR X "str.split" C5:=by
  intro pins s σ H x vs v us Q I rx rv h
  obtain ⟨a,b,rfl,rfl,hb,hz,q⟩:=h
  obtain ⟨t,rfl⟩:=rx
  obtain ⟨u,rfl,⟨t2,rfl⟩⟩:=rv.one
  have hn:(partsBetween a (occurrences a b 0 a.length (a.length+1)) b.length).length≤sizeLine:=by
    have e1:=StrLaws.occ_length_le a b 0 a.length (a.length+1)
    rw[length_partsBetween];omega
  have key:∀(l:List (Str × Tok)) (k:Nat),l.map (·.1)=Txt.split a b→EP X pins σ Q (.ref s.heap.objs.size) { s with heap:=s.heap.push { cls:=.type "list",data:=.seq (strValues l).toArray },toks:=k }:=fun l k e=>by
    have v:=vk l
    rw[e] at v
    exact⟨.ref s.heap.objs.size,_,I.Jz (t':=k) v (by rw[List.length_map];exact split_len hz),rfl,q _ I.fresh⟩
  cases h1:(decide (a.length<b.length) || decide (strKind a<strKind b))
  · cases hf:(occurrences a b 0 a.length (a.length+1)).isEmpty
    · refine call_meets F.slot_str_split (typeIs_str _ _ _) F.entry_str_split (F.args_str_split_2 _ _) (meets_str_split_sep a b t t2 h1 hb hf (by omega) hn) ?_
      show wants _ _ _ { s with toks:=_,heap:=s.heap.push { cls:=.type "list",data:=.seq (strsFrom s.toks (partsBetween a (occurrences a b 0 a.length (a.length+1)) b.length)).toArray } }
      rw[strsFrom_eq]
      exact key (numbered s.toks _) _ ((numbered_texts _ _).trans ((if_neg (ne_true_of_eq_false h1)).trans (if_neg (ne_true_of_eq_false hf))).symm)
    · exact call_meets F.slot_str_split (typeIs_str _ _ _) F.entry_str_split (F.args_str_split_2 _ _) (meets_str_split_not_found a b t t2 h1 hb hf)
        (key [(a,t)] s.toks ((if_neg (ne_true_of_eq_false h1)).trans (if_pos hf)).symm)
  · exact call_meets F.slot_str_split (typeIs_str _ _ _) F.entry_str_split (F.args_str_split_2 _ _) (meets_str_split_cannot_occur a b t t2 h1)
      (key [(a,t)] s.toks (if_pos h1).symm)
def Bh:V→List V→Hp→VK→Prop:=fun x vs H Q=>∃(a b:Str),x=.str a∧vs=[.str b]∧Q (.bl (Txt.startswith a b)) H
theorem Cm:MtR X "str.startswith" Bh:=by
  intro pins s σ H x vs v us Q I rx rv h
  obtain ⟨a,b,rfl,rfl,q⟩:=h
  obtain ⟨t,rfl⟩:=rx
  obtain ⟨u,rfl,⟨t2,rfl⟩⟩:=rv.one
  exact call_meets F.slot_str_startswith (typeIs_str _ _ _) F.entry_str_startswith (F.args_str_startswith_2 _ _) (gives_str_startswith a b t t2).meets ⟨.bl _,H,I,rfl,q⟩
def qG (a b:Str):List Str:=match occurrences a b 0 a.length 1 with
  | i::_=>[strSub a 0 i,b,strSub a (i+b.length) a.length]
  | []=>[a,Str.empty,Str.empty]
def tS:V→List V→Hp→VK→Prop:=fun x vs H Q=>∃(a b:Str),x=.str a∧vs=[.str b]∧(b.length == 0)=false∧a.length≤sizeLine∧∀p,H p=none→Q (.ref p) (upd H p (.tup ((qG a b).map V.str)))
theorem pP:MtR X "str.partition" tS:=by
  intro pins s σ H x vs v us Q I rx rv h
  obtain ⟨a,b,rfl,rfl,hb,hz,q⟩:=h
  obtain ⟨t,rfl⟩:=rx
  obtain ⟨u,rfl,⟨t2,rfl⟩⟩:=rv.one
  refine call_meets F.slot_str_partition (typeIs_str _ _ _) F.entry_str_partition (F.args_str_partition_2 _ _) (meets_str_partition a b t t2 hb hz) ?_
  have q':=q _ I.fresh
  unfold qG at q'
  show wants _ _ (.ok (.ret (.ref s.heap.objs.size))) _
  cases e:occurrences a b 0 a.length 1 with
  | nil =>
    rw[e] at q'
    exact⟨.ref s.heap.objs.size,upd H s.heap.objs.size (.tup [.str a,.str Str.empty,.str Str.empty]),I.laid (t':=s.toks+1) (fun b u e=>Heap.get?_push_of_some _ e) (Nat.le_refl _) ⟨show 3≤sizeLine by decide,_,.cons ⟨t,rfl⟩ (.cons ⟨s.toks,rfl⟩ (.cons ⟨s.toks,rfl⟩ .nil)),⟨_,Heap.get?_push_size _ rfl,rfl,_,rfl⟩⟩,rfl,q'⟩
  | cons i r =>
    rw[e] at q'
    exact⟨.ref s.heap.objs.size,upd H s.heap.objs.size (.tup [.str (strSub a 0 i),.str b,.str (strSub a (i+b.length) a.length)]),I.laid (t':=s.toks+1+1) (fun b u e=>Heap.get?_push_of_some _ e) (Nat.le_refl _) ⟨show 3≤sizeLine by decide,_,.cons ⟨s.toks,rfl⟩ (.cons ⟨t2,rfl⟩ (.cons ⟨s.toks+1,rfl⟩ .nil)),⟨_,Heap.get?_push_size _ rfl,rfl,_,rfl⟩⟩,rfl,q'⟩
theorem iG:fR X (.type "int") (fun xs H Q=>∃(x:Str) (n:Int),xs=[.str x]∧intText? x=some n∧x.length≤640∧Q (.int n) H):=by
  intro pins s σ H xs vs Q I rv h
  obtain ⟨x,n,rfl,hn,hl,q⟩:=h
  obtain ⟨u,rfl,⟨t,rfl⟩⟩:=rv.one
  exact PySem.W.KIN.call_text hn hl ⟨.int n,H,I.tok _,⟨_,rfl⟩,q⟩
end
end L2
namespace L2
open PySem PySem.Spec PyProof.Rows PySem.Builtin PySem.Builtin.Str
section
variable {X:Cx}
theorem kU:∀{ts:List Str}{us:List Value},Vals (ts.map V.str) us→∃l:List (Str × Tok),us=strValues l∧l.map (·.1)=ts
  | [],_,.nil=>⟨[],rfl,rfl⟩
  | a::ts,_,.cons r1 r2=>by
    obtain ⟨t,rfl⟩:=r1
    obtain ⟨l,rfl,e⟩:=kU r2
    exact⟨(a,t)::l,rfl,by rw[List.map_cons,e]⟩
def rJoin (K:PySem.W.Frag):V→List V→Hp→VK→Prop:=fun x vs H Q=>∃(a:Str) (p:Addr) (ts:List Str),x=.str a∧vs=[.ref p]∧SqL K H p (ts.map V.str)∧JoinOk a ts=true∧(Str.join a ts).length≤sizeLine∧Q (.str (Str.join a ts)) H
theorem GA:MtR X "str.join" (rJoin X.K):=by
  intro pins s σ H x vs v us Q I rx rv h
  obtain ⟨a,p,ts,rfl,rfl,hH,hz,hn,q⟩:=h
  obtain ⟨t,rfl⟩:=rx
  obtain ⟨u,rfl,rfl⟩:=rv.one
  obtain ⟨its,r,pl,_⟩:=I.list hH
  obtain ⟨l,rfl,e⟩:=kU r
  subst e
  have hz':tooLong ((l.map (·.1)).toArray.foldl (·+·.length+a.length) 0)=false:=by
    unfold JoinOk at hz
    simpa using hz
  refine call_meets F.slot_str_join (typeIs_str _ _ _) F.entry_str_join (F.args_str_join_2 _ _) (meets_str_join_list a t p l hz') ⟨pl.isList,?_⟩
  rw[← StrLaws.glued_eq_join] at q hn
  unfold joinMade
  match l,q,hn with
  | [y],q,hn=>exact⟨.str _,H,I,⟨_,rfl⟩,q⟩
  | [],q,hn=>exact⟨hn,.str _,H,I.tok _,⟨_,rfl⟩,q⟩
  | y::z::r,q,hn=>exact⟨hn,.str _,H,I.tok _,⟨_,rfl⟩,q⟩
theorem yQ {K:PySem.W.Frag} (h:X.K=K):MtR X "str.join" (rJoin K):=by subst h;exact GA
def JE:V→Option Int→Option Int→Hp→VK→Prop:=fun x lo hi H Q=>∃(a:Str) (i:Int),x=.str a∧lo=some i∧hi=none∧a.length≤sizeLine∧Q (.str (Txt.slice a (some i) none)) H
theorem Hl:SlR X JE:=by
  intro pins s σ H x v vl vu lo hi sl Q I rx hs pl pu h
  obtain ⟨a,i,rfl,rfl,rfl,hz,q⟩:=h
  obtain ⟨t,rfl⟩:=rx
  cases pl
  cases pu
  rename_i ui
  refine⟨"str",_,F.slot_str_getitem.lookup,typeIs_str _ _ _,?_⟩
  refine wpAny_getItem_str_slice (l:=some (i,ui)) (u:=none) (st:=none) hs rfl (post_val_or_str ⟨Nat.le_trans (Txt.slice_le a _ _) hz,fun t' k=>?_⟩)
  exact⟨.str _,H,I.kept (t':=k) fun b o e=>e,⟨t',rfl⟩,q⟩
def Its (x:Str):It:=⟨fun i _=>i<x.cps.size,fun i H v H'=>H'=H∧∃c,x.cps[i]?=some c∧v=.str ⟨#[c]⟩,fun i _=>x.cps.size≤i⟩
theorem DV {P:Program}{w:World}{K:PySem.W.Frag}{tg:Expr} (x:Str) (t:Tok) (it:Addr):Turn P w K tg (Its x) [it] it (fun i h=>h.IsStrIter it "str_ascii_iterator" x t i) where
  mem:=by simp
  obj:=fun i h st b hb=>by
    have e:b=it:=by simpa using hb
    subst e
    obtain ⟨o,e,c,d⟩:=st
    exact⟨o,e,fun v z=>by rw[d] at z;cases z⟩
  keep:=fun i h h' st k=>by
    obtain ⟨o,e,c,d⟩:=st
    exact⟨o,k it (by simp) o e,c,d⟩
  item:=by
    intro X hP hw hK hc i pins s σ H E I hf st hg
    subst hP hw hK
    have hg:i<x.cps.size:=hg
    obtain ⟨f0,f1,f2,f3,f4,f5⟩:=hf it (by simp)
    have hx:x.cps[i]?=some x.cps[i]:=Array.getElem?_eq_getElem hg
    refine wpAny_pyNext_ascii_item st hx fun h' st' sb=>?_
    have I1:Inv X pins σ H { s with heap:=h',toks:=s.toks+1 }:=I.turned (fun b o hb e=>(sb.2 b hb).trans e) f0 f1 f3 f4 f5
    obtain ⟨o,e,c,d⟩:=id st'
    exact⟨_,rfl,EZ (s:={ s with heap:=h',toks:=s.toks+1 }) e c d (by decide) ⟨.str ⟨#[x.cps[i]]⟩,H,I1,⟨_,rfl⟩,⟨rfl,_,hx,rfl⟩,st',fun b hb=>(hf b hb).1⟩⟩
  done:=by
    intro X hP hw hK hc i pins s σ H E I hf st hg
    subst hP hw hK
    have hg:x.cps.size≤i:=hg
    obtain ⟨f0,f1,f2,f3,f4,f5⟩:=hf it (by simp)
    exact wpAny_pyNext_ascii_end (I.ok.hd hc) st (Array.getElem?_eq_none hg) fun h' eb=>⟨rfl,I.turned (t':=s.toks) (fun b o hb e=>eb b o hb e) f0 f1 f3 f4 f5⟩
  self:=fun _ _ _ _ _ st h=>wpAny_pyIter_striter_ascii st h
def Ju (tl:TE):TI:=fun σ H R=>tl σ H fun x H1=>∃z,x=.str z∧z.cps.all (· < 128)=true∧R (Its z) H1
theorem HE {tg l:Expr}{tl:TE} (hl:PE X l tl):PI X tg l (Ju tl):=by
  intro pins s σ H R I h
  refine thn (hl pins s σ H _ I h) fun v s1 ⟨x,H1,I1,r1,q1⟩=>?_
  obtain ⟨z,e,ha,q⟩:=q1
  subst e
  obtain ⟨t,rfl⟩:=r1
  refine wpAny_pyIter_ascii ha ?_
  refine⟨s1.heap.objs.size,[s1.heap.objs.size],_,_,H1,rfl,I1.kept (t':=s1.toks) fun b o e=>Heap.get?_push_of_some _ e,DV z t _,⟨_,Heap.get?_push_size _ rfl,rfl,rfl⟩,fun b hb=>?_,q⟩
  have e:b=s1.heap.objs.size:=by simpa using hb
  subst e
  exact I1.Gx (Nat.le_refl _) (I1.hok.fresh (Nat.le_refl _))
end
end L2
namespace L3
open PySem L2 PySem.Builtin PySem.Builtin.Str
section
variable {K:PySem.W.Frag}{ρ:Bool}{Γr Γl Γ Γ1 Γ2 Γn M:List Nat}{te ta tb tx t1 t2 tz:TE}{de da db dx d1 d2 dz:DE}{u:TA}{dr:DA}
variable {B0:Hp}{fps:Nat→List Addr}{δ:Dl}{σ:St}{H H':Hp}
structure B5 (K:PySem.W.Frag) (r:V→List V→Hp→VK→Prop) (S:DSp):Prop where
  mono:bc S
  run:∀{H x xs v vs Q},Rp K H (.str x) v→Rps K H xs vs→S (.str x::xs) (fun z=>∀u H' fp,Same H H'→Rf K H' z u fp→Nw H H' nf [] fp→Q u H')→r v vs H Q
def asS (x:D) (P:Str→Prop):Prop:=match x with | .str a=>P a | _=>False
theorem cV {x:D}{P:Str→Prop} (h:asS x P):∃a,x=.str a∧P a:=by
  unfold asS at h;split at h
  · exact⟨_,rfl,h⟩
  · exact h.elim
theorem wt {a:Str}{P:Str→Prop}:asS (.str a) P=P a:=rfl
def vMS (S:DSp) (da:DE) (dr:DA) (δ:Dl) (P:DK):Prop:=da δ fun x=>asS x fun a=>dr δ fun xs=>S (.str a::xs) P
theorem oZ {r:V→List V→Hp→VK→Prop}{S:DSp} (hc:B5 K r S) (ha:ER K Γ ta da) (hr:AR K Γ u dr):EM K Γ [] (tBM K "str" r ta u) (vMS S da dr) :=
  ⟨fun δ P P' k h=>ha.mono _ _ _ (fun x z=>by
      obtain ⟨a,rfl,z⟩:=cV z
      exact hr.mono _ _ _ (fun y z=>hc.mono _ _ _ k z) z) h,
   fun {B0 fps δ σ H Q} o h=>ha.run o (ha.mono _ _ _ (fun x z v H1 s1 r1=>by
    obtain ⟨a,rfl,z⟩:=cV z
    have e:v=.str a:=r1.choose_spec.1
    subst e
    refine⟨rfl,hr.run (o.same s1) (hr.mono _ _ _ (fun xs z vs H2 s2 r2=>?_) z)⟩
    exact hc.run (r1.same s2) r2 (hc.mono _ _ _ (fun u z u' H' fp s r n=>z u' H' fp ((s1.trans s2).trans s) r (n.any.later (s1.trans s2))) z)) h)⟩
theorem yD {H:Hp}{b:Str}{vs:List V} (h:Rps K H [.str b] vs):vs=[.str b]:=by
  obtain ⟨v,rfl,r⟩:=Rps.one h
  have e:v=.str b:=r.choose_spec.1
  rw[e]
theorem m6 {ts:List Str}:(ts.map D.str).all D.bf=true:=by rw[List.all_map,List.all_eq_true];exact fun _ _=>rfl
theorem oy {ts:List Str}:(ts.map D.str).map D.toV=ts.map V.str:=by rw[List.map_map];rfl
def tW:DSp:=fun xs P=>match xs with | [.str a,.str b]=>((b.length == 0)=false∧a.length+2≤sizeLine)∧P (.lst ((Txt.split a b).map D.str)) | _=>False
theorem m_split:B5 K C5 tW:=⟨fun xs P P' k h=>by
    unfold tW at h ⊢
    revert h
    split
    · exact fun h=>⟨h.1,k _ h.2⟩
    · exact id,
  fun {H x xs v vs Q} r1 r2 h=>by
    unfold tW at h
    split at h
    · rename_i a b e
      cases e
      obtain ⟨⟨h1,h2⟩,h⟩:=h
      have e:v=.str x:=r1.choose_spec.1
      subst e
      have e2:=yD r2
      subst e2
      refine⟨x,b,rfl,rfl,h1,h2,fun p hp=>?_⟩
      rw[← oy]
      obtain ⟨n1,n2,n3⟩:=JN (K:=K) (m6 (ts:=Txt.split x b)) hp
      exact h _ _ _ n1 n2 n3
    · exact h.elim⟩
def pF:DSp:=fun xs P=>match xs with | [.str a,.str b]=>P (.bl (Txt.startswith a b)) | _=>False
theorem EF:B5 K Bh pF:=⟨fun xs P P' k h=>by
    unfold pF at h ⊢
    revert h
    split
    · exact fun h=>k _ h
    · exact id,
  fun {H x xs v vs Q} r1 r2 h=>by
    unfold pF at h
    split at h
    · rename_i a b e
      cases e
      have e:v=.str x:=r1.choose_spec.1
      subst e
      have e2:=yD r2
      subst e2
      exact⟨x,b,rfl,rfl,h _ H [] (Same.refl H) ⟨rfl,rfl⟩ Nw.nil⟩
    · exact h.elim⟩
def jN:DSp:=fun xs P=>match xs with | [.str a,.str b]=>((b.length == 0)=false∧a.length≤sizeLine)∧P (.tup ((qG a b).map D.str)) | _=>False
theorem m_partition:B5 K tS jN:=⟨fun xs P P' k h=>by
    unfold jN at h ⊢
    revert h
    split
    · exact fun h=>⟨h.1,k _ h.2⟩
    · exact id,
  fun {H x xs v vs Q} r1 r2 h=>by
    unfold jN at h
    split at h
    · rename_i a b e
      cases e
      obtain ⟨⟨h1,h2⟩,h⟩:=h
      have e:v=.str x:=r1.choose_spec.1
      subst e
      have e2:=yD r2
      subst e2
      refine⟨x,b,rfl,rfl,h1,h2,fun p hp=>?_⟩
      rw[← oy]
      exact h _ _ [] (Same.o9 hp) ⟨p,_,rfl,aH,Rfs.rN m6⟩ Nw.nil
    · exact h.elim⟩
def zm:DSp:=fun xs P=>match xs with | [.str a,y]=>asL y fun ds=>∃ts:List Str,ds=ts.map D.str∧(JoinOk a ts=true∧(Str.join a ts).length≤sizeLine)∧P (.str (Str.join a ts)) | _=>False
theorem Fj:B5 K (rJoin K) zm:=⟨fun xs P P' k h=>by
    unfold zm at h ⊢
    revert h
    split
    · intro h
      obtain ⟨ds,e,ts,z1,z2,z3⟩:=cB h
      exact ja e ⟨ts,z1,z2,k _ z3⟩
    · exact id,
  fun {H x xs v vs Q} r1 r2 h=>by
    unfold zm at h
    split at h
    · rename_i a y e
      cases e
      obtain ⟨ds,e,ts,rfl,⟨z1,z2⟩,z3⟩:=cB h
      have e0:v=.str x:=r1.choose_spec.1
      subst e0
      obtain ⟨w,rfl,r0⟩:=Rps.one r2
      obtain ⟨p,ys,fq,rfl,hs,hr⟩:=r0.seq e
      obtain ⟨rfl,_⟩:=hr.mP m6
      rw[oy] at hs
      exact⟨x,p,ts,rfl,rfl,hs,z1,z2,z3 _ H [] (Same.refl H) ⟨rfl,rfl⟩ Nw.nil⟩
    · exact h.elim⟩
def Ip (de:DE) (dl dh:DO) (δ:Dl) (P:DK):Prop:=de δ fun x=>dl δ fun l=>dh δ fun u=>asS x fun a=>∃i,(l=some i∧u=none∧a.length≤sizeLine)∧P (.str (Txt.slice a (some i) none))
theorem IB {tl th:TO}{dl dh:DO} (he:ER K Γ te de) (hl:OR K Γ tl dl) (hh:OR K Γ th dh):EM K Γ [] (tSl JE te tl th) (Ip de dl dh) :=
  ⟨fun δ P P' k h=>he.mono _ _ _ (fun x z=>hl.mono _ _ _ (fun l z=>hh.mono _ _ _ (fun u z=>by obtain ⟨a,rfl,i,z1,z2⟩:=cV z;exact⟨i,z1,k _ z2⟩) z) z) h,
   fun {B0 fps δ σ H Q} o h=>he.run o (he.mono _ _ _ (fun x z v H1 s1 r1=>hl.run (o.same s1) (hl.mono _ _ _ (fun l z H2 s2=>hh.run ((o.same s1).same s2) (hh.mono _ _ _ (fun u z H3 s3=>by
    obtain ⟨a,rfl,i,⟨rfl,rfl,z1⟩,z2⟩:=cV z
    have e:v=.str a:=r1.choose_spec.1
    subst e
    exact⟨a,i,rfl,rfl,rfl,z1,z2 _ H3 [] ((s1.trans s2).trans s3) ⟨rfl,rfl⟩ Nw.nil⟩) z)) z)) h)⟩
def zh:DSp:=fun xs P=>match xs with | [.str a]=>∃n,(intText? a=some n∧a.length≤640)∧P (.int n) | _=>False
theorem wI:j0 K (fun xs H Q=>∃(x:Str) (n:Int),xs=[.str x]∧intText? x=some n∧x.length≤640∧Q (.int n) H) zh:=⟨fun xs P P' k h=>by
    unfold zh at h ⊢
    revert h
    split
    · exact fun ⟨n,h1,h2⟩=>⟨n,h1,k _ h2⟩
    · exact id,
  fun {H xs vs Q} r h=>by
    unfold zh at h
    split at h
    · obtain ⟨n,⟨h1,h2⟩,h⟩:=h
      have e:=yD r
      subst e
      exact⟨_,n,rfl,h1,h2,h _ H [] (Same.refl H) ⟨rfl,rfl⟩ Nw.nil⟩
    · exact h.elim⟩
def xY:DSp:=fun xs P=>match xs with | [.int i]=>i.natAbs.log2<1920∧P (.str (toString i)) | _=>False
theorem wB:j0 K (fun xs H Q=>∃i,xs=[.int i]∧i.natAbs.log2<1920∧Q (.str (toString i)) H) xY:=⟨fun xs P P' k h=>by
    unfold xY at h ⊢
    revert h
    split
    · exact fun h=>⟨h.1,k _ h.2⟩
    · exact id,
  fun {H xs vs Q} r h=>by
    unfold xY at h
    split at h
    · have e:=Rps.ints1 r
      subst e
      exact⟨_,rfl,h.1,h.2 _ H [] (Same.refl H) ⟨rfl,rfl⟩ Nw.nil⟩
    · exact h.elim⟩
def yb:DSp:=fun xs P=>match xs with | [.str a]=>a.length≤sizeLine∧P (.int a.length) | _=>False
theorem HV:j0 K (fun xs H Q=>∃z,xs=[.str z]∧z.length≤sizeLine∧Q (.int z.length) H) yb:=⟨fun xs P P' k h=>by
    unfold yb at h ⊢
    revert h
    split
    · exact fun h=>⟨h.1,k _ h.2⟩
    · exact id,
  fun {H xs vs Q} r h=>by
    unfold yb at h
    split at h
    · have e:=yD r
      subst e
      exact⟨_,rfl,h.1,h.2 _ H [] (Same.refl H) ⟨rfl,rfl⟩ Nw.nil⟩
    · exact h.elim⟩
def IL (x y:D) (P:DK):Prop:=asS x fun i=>asS y fun j=>P (.bl (!(occurrences j i 0 j.length 1).isEmpty))
theorem Jl:OpV K (fun x y H Q=>∃i j,x=.str i∧y=.str j∧Q (.bl (!(occurrences j i 0 j.length 1).isEmpty)) H) IL:=⟨fun x y P P' k h=>by
    obtain ⟨i,rfl,h0⟩:=cV h
    clear h
    obtain ⟨j,rfl,h⟩:=cV h0
    exact k _ h,
  fun {H x y v w Q} r1 r2 h=>by
    obtain ⟨i,rfl,h0⟩:=cV h
    clear h
    obtain ⟨j,rfl,h⟩:=cV h0
    exact⟨i,j,r1.choose_spec.1,r2.choose_spec.1,h _ H [] (Same.refl H) ⟨rfl,rfl⟩ Nw.nil⟩⟩
def D0 (x y:D) (P:DK):Prop:=asS x fun i=>asS y fun j=>i.length+j.length≤sizeLine∧P (.str (i++j))
theorem lh:OpV K (fun x y H Q=>∃i j,x=.str i∧y=.str j∧i.length+j.length≤sizeLine∧Q (.str (i++j)) H) D0:=⟨fun x y P P' k h=>by
    obtain ⟨i,rfl,h0⟩:=cV h
    clear h
    obtain ⟨j,rfl,h⟩:=cV h0
    exact⟨h.1,k _ h.2⟩,
  fun {H x y v w Q} r1 r2 h=>by
    obtain ⟨i,rfl,h0⟩:=cV h
    clear h
    obtain ⟨j,rfl,h⟩:=cV h0
    exact⟨i,j,r1.choose_spec.1,r2.choose_spec.1,h.1,h.2 _ H [] (Same.refl H) ⟨rfl,rfl⟩ Nw.nil⟩⟩
def zZ (x y:D) (P:DK):Prop:=asS x fun z=>asI [y] fun i=>∃c,(0≤i∧i<2 ^ 63∧i<z.length∧z.cps[i.toNat]?=some c)∧P (.str ⟨#[c]⟩)
theorem GB:OpV K (fun x y H Q=>∃z i c,x=.str z∧y=.int i∧0≤i∧i<2 ^ 63∧i<z.length∧z.cps[i.toNat]?=some c∧Q (.str ⟨#[c]⟩) H) zZ:=⟨fun x y P P' k h=>by
    obtain ⟨z,rfl,h0⟩:=cV h
    clear h
    obtain ⟨i,rfl,c,h1,h2⟩:=jK h0
    exact⟨c,h1,k _ h2⟩,
  fun {H x y v w Q} r1 r2 h=>by
    obtain ⟨z,rfl,h0⟩:=cV h
    clear h
    obtain ⟨i,rfl,c,⟨a1,a2,a3,a4⟩,h2⟩:=jK h0
    exact⟨z,i,c,r1.choose_spec.1,r2.int,a1,a2,a3,a4,h2 _ H [] (Same.refl H) ⟨rfl,rfl⟩ Nw.nil⟩⟩
def signs (x:Str):List D:=x.cps.toList.map fun c=>.str ⟨#[c]⟩
def IS (de:DE) (δ:Dl) (P:List D→Prop):Prop:=de δ fun x=>asS x fun a=>a.cps.all (· < 128)=true∧P (signs a)
theorem Hz (he:ER K Γ te de):IT K Γ (Ju te) (IS de) :=
  ⟨fun δ P P' k h=>he.mono _ _ _ (fun x z=>by obtain ⟨a,rfl,z1,z2⟩:=cV z;exact⟨z1,k _ z2⟩) h,
   fun {B0 fps δ σ H R} o h=>he.run o (he.mono _ _ _ (fun x z v H' s r=>by
    obtain ⟨a,rfl,z1,z2⟩:=cV z
    refine⟨a,r.choose_spec.1,z1,z2 (Its a) H' [] s (fun _ _ _ h=>nomatch h) fun B sB ag im=>?_⟩
    have hl:(signs a).length=a.cps.size:=by unfold signs;rw[List.length_map,Array.length_toList]
    refine⟨fun {i H2} s2 hi=>?_,fun {i H2 y H3 d} s2 hy hd=>?_,fun {i H2} s2 hi=>?_⟩
    · show i<a.cps.size
      omega
    · obtain ⟨rfl,c,hc,rfl⟩:=hy
      unfold signs at hd
      rw[List.getElem?_map,Array.getElem?_toList,hc] at hd
      cases hd
      exact⟨Same.refl _,[],⟨rfl,rfl⟩,fun _ h=>nomatch h⟩
    · show a.cps.size≤i
      omega) h)⟩
end
end L3
namespace L3
open PySem PySem.Builtin PySem.Builtin.Str
def mkS (l:List Nat):Str:=⟨l.toArray⟩
theorem gY {l:List Nat}:(mkS l).cps.toList=l:=rfl
theorem wQ (x:Str):mkS x.cps.toList=x:=by cases x;rfl
theorem aE {l:List Nat}:(mkS l).length=l.length:=rfl
theorem oE {a b:List Nat} (h:mkS a=mkS b):a=b:=by
  have:=congrArg (fun z:Str=>z.cps.toList) h
  exact this
theorem fI {a b:List Nat}:mkS a++mkS b=mkS (a++b):=by
  show (⟨a.toArray++b.toArray⟩:Str)=⟨(a++b).toArray⟩
  rw[List.append_toArray]
def bC (s:List Nat):List (List Nat)→List Nat
  | []=>[]
  | [p]=>p
  | p::q::r=>p++(s++bC s (q::r))
theorem pL (s:List Nat):∀ps:List (List Nat),Str.join (mkS s) (ps.map mkS)=mkS (bC s ps)
  | []=>rfl
  | [p]=>rfl
  | p::q::r=>by
    show mkS p++mkS s++Str.join (mkS s) ((q::r).map mkS)=mkS (p++(s++bC s (q::r)))
    rw[pL s (q::r),fI,fI,List.append_assoc]
theorem qe {c:Nat}{r:List Nat}:∀{p:List Nat},c∉p→(p++c::r).takeWhile (fun z=>z != c)=p∧(p++c::r).dropWhile (fun z=>z != c)=c::r
  | [],_=>by simp
  | a::p,h=>by
    have ha:a≠c:=fun e=>h (by rw[e];exact List.mem_cons_self)
    have ih:=qe (c:=c) (r:=r) (p:=p) fun z=>h (List.mem_cons_of_mem _ z)
    have e:(a != c)=true:=by simp [ha]
    rw[List.cons_append,List.takeWhile_cons,List.dropWhile_cons,e,if_pos rfl,if_pos rfl,ih.1,ih.2]
    exact⟨rfl,rfl⟩
theorem vo {c:Nat}{s:List Nat}:∀{ps qs:List (List Nat)},ps≠[]→qs≠[]→(∀p∈ps,c∉p)→(∀p∈qs,c∉p)→bC (c::s) ps=bC (c::s) qs→ps=qs
  | [],_,h,_,_,_,_=>absurd rfl h
  | _,[],_,h,_,_,_=>absurd rfl h
  | [p],[q],_,_,_,_,e=>by
    have e:p=q:=e
    rw[e]
  | [p],q::q'::r,_,_,hp,hq,e=>by
    exfalso
    have e:p=q++c::(s++bC (c::s) (q'::r)):=e
    exact hp p List.mem_cons_self (by rw[e];simp)
  | p::p'::r,[q],_,_,hp,hq,e=>by
    exfalso
    have e:p++c::(s++bC (c::s) (p'::r))=q:=e
    exact hq q List.mem_cons_self (by rw[← e];simp)
  | p::p'::r,q::q'::t,_,_,hp,hq,e=>by
    have e:p++c::(s++bC (c::s) (p'::r))=q++c::(s++bC (c::s) (q'::t)):=e
    have a:=qe (r:=s++bC (c::s) (p'::r)) (hp p List.mem_cons_self)
    have b:=qe (r:=s++bC (c::s) (q'::t)) (hq q List.mem_cons_self)
    rw[e] at a
    have e1:p=q:=a.1.symm.trans b.1
    have e2:=List.cons.inj (a.2.symm.trans b.2)
    rw[e1,vo (by simp) (by simp) (fun z hz=>hp z (List.mem_cons_of_mem _ hz)) (fun z hz=>hq z (List.mem_cons_of_mem _ hz)) (List.append_cancel_left e2.2)]
theorem yt {c:Nat}{s:List Nat} (hs:c∉s):∀{ps:List (List Nat)},(∀p∈ps,c∉p)→∀k,(bC (c::s) ps)[k]?=some c→∃r,(bC (c::s) ps).drop k=(c::s)++r
  | [],_,k,h=>by cases k<;>cases h
  | [p],hp,k,h=>absurd (List.mem_of_getElem? (show p[k]?=some c from h)) (hp p List.mem_cons_self)
  | p::q::t,hp,k,h=>by
    have e:bC (c::s) (p::q::t)=p++((c::s)++bC (c::s) (q::t)):=rfl
    rw[e] at h ⊢
    rcases Nat.lt_or_ge k p.length with h1 | h1
    · rw[List.getElem?_append_left h1] at h
      exact absurd (List.mem_of_getElem? h) (hp p List.mem_cons_self)
    · rw[List.getElem?_append_right h1] at h
      rw[List.drop_append,List.drop_of_length_le h1,List.nil_append]
      generalize k - p.length=j at h ⊢
      rcases Nat.lt_or_ge j (c::s).length with h2 | h2
      · cases j with
        | zero=>exact⟨_,rfl⟩
        | succ j =>
          rw[List.getElem?_append_left h2] at h
          exact absurd (List.mem_of_getElem? (show s[j]?=some c from h)) hs
      · rw[List.getElem?_append_right h2] at h
        rw[List.drop_append,List.drop_of_length_le h2,List.nil_append]
        exact yt hs (fun z hz=>hp z (List.mem_cons_of_mem _ hz)) _ h
theorem yz {x y:Str}{c:Nat} (hx:∀k,x.cps.toList[k]?=some c→StrLaws.At x y x.length k) {a b:Nat} (hn:∀k,a≤k→k<b→¬ StrLaws.At x y x.length k):c∉(strSub x a b).cps.toList:=fun hm=>by
  rw[StrLaws.strSub_toList] at hm
  obtain ⟨j,hj⟩:=List.getElem?_of_mem hm
  rcases Nat.lt_or_ge j (b - a) with h | h
  · rw[List.getElem?_take_of_lt h,List.getElem?_drop] at hj
    exact hn (a+j) (by omega) (by omega) (hx _ hj)
  · rw[List.getElem?_eq_none (by rw[List.length_take];omega)] at hj
    cases hj
theorem v3 {x y:Str}{c:Nat} (hx:∀k,x.cps.toList[k]?=some c→StrLaws.At x y x.length k):∀{cuts:List Nat}{a f:Nat},StrLaws.ChainG x y x.length a cuts f→(∀k,f≤k→¬ StrLaws.At x y x.length k)→∀p∈StrLaws.partsFrom x y.length a cuts,c∉p.cps.toList
  | [],a,f,g,hn,p,hp=>by
    have e:f=a:=g
    rw[List.mem_singleton.mp hp]
    exact yz hx fun k h1 _=>hn k (by omega)
  | d::r,a,f,g,hn,p,hp=>by
    rcases List.mem_cons.mp hp with e | hp
    · rw[e];exact yz hx g.2.2.1
    · exact v3 hx g.2.2.2 hn p hp
theorem En {x y:Str}:Txt.split x y≠[]:=by
  unfold Txt.split
  split
  · simp
  · split
    · simp
    · intro e
      have:=congrArg List.length e
      rw[length_partsBetween] at this
      simp at this
theorem xT {l:List Nat} (h:∀c∈l,c<128):PySem.Builtin.Str.strKind (mkS l)=PySem.Builtin.Str.strKind (mkS []):=by
  have e:(mkS l).cps.all (· < 256)=true:=by
    rw[← Array.all_toList,List.all_eq_true]
    intro c hc
    have:=h c hc
    exact decide_eq_true (by omega)
  have e2:(mkS []).cps.all (· < 256)=true:=by rw[← Array.all_toList];rfl
  unfold PySem.Builtin.Str.strKind
  rw[e,e2,if_pos rfl,if_pos rfl]
theorem ou {c:Nat}{s:List Nat}{ps:List (List Nat)} (hs:c∉s) (hne:ps≠[]) (hp:∀p∈ps,c∉p) (l1:∀z∈c::s,z<128) (l2:∀p∈ps,∀z∈p,z<128):Txt.split (mkS (bC (c::s) ps)) (mkS (c::s))=ps.map mkS:=by
  have at_:∀k,(mkS (bC (c::s) ps)).cps.toList[k]?=some c→StrLaws.At (mkS (bC (c::s) ps)) (mkS (c::s)) (mkS (bC (c::s) ps)).length k:=fun k h=>by
    obtain ⟨r,hr⟩:=yt hs hp k h
    refine⟨?_,?_⟩
    · have:=congrArg List.length hr
      rw[List.length_drop,List.length_append] at this
      have hk:=(List.getElem?_eq_some_iff.mp h).1
      rw[gY] at hk
      rw[aE,aE]
      omega
    · rw[StrLaws.subAt_eq,gY,gY,hr,aE,List.take_left]
      exact beq_self_eq_true _
  have low:∀z∈bC (c::s) ps,z<128:=by
    clear at_ hne hp
    induction ps with
    | nil=>exact fun _ h=>nomatch h
    | cons p r ih =>
      cases r with
      | nil=>exact fun z hz=>l2 p List.mem_cons_self z hz
      | cons q t =>
        intro z hz
        rcases List.mem_append.mp (show z∈p++((c::s)++bC (c::s) (q::t)) from hz) with h | h
        · exact l2 p List.mem_cons_self z h
        · rcases List.mem_append.mp h with h | h
          · exact l1 z h
          · exact ih (fun p hp=>l2 p (List.mem_cons_of_mem _ hp)) z h
  have free:∀p∈Txt.split (mkS (bC (c::s) ps)) (mkS (c::s)),c∉p.cps.toList:=by
    obtain ⟨f,g,hn⟩:=StrLaws.occ_tight (mkS (bC (c::s) ps)) (mkS (c::s)) (by rw[aE];exact Nat.succ_le_succ (Nat.zero_le _))
    have one:(∀k,¬ StrLaws.At (mkS (bC (c::s) ps)) (mkS (c::s)) (mkS (bC (c::s) ps)).length k)→c∉(mkS (bC (c::s) ps)).cps.toList:=fun no hm=>by
      obtain ⟨k,hk⟩:=List.getElem?_of_mem hm
      exact no k (at_ k hk)
    intro p hp
    unfold Txt.split at hp
    split at hp
    · rename_i h
      rw[List.mem_singleton.mp hp]
      refine one fun k hk=>?_
      rw[xT low,xT l1] at h
      have:=hk.1
      simp at h
      omega
    · split at hp
      · rename_i h
        rw[List.mem_singleton.mp hp]
        rw[List.isEmpty_iff] at h
        rw[h] at g
        have e:f=0:=g
        exact one fun k=>hn k (by omega)
      · rw[StrLaws.partsBetween_eq] at hp
        exact v3 at_ g hn p hp
  have j:=StrLaws.join_split (mkS (bC (c::s) ps)) (mkS (c::s))
  have e:Txt.split (mkS (bC (c::s) ps)) (mkS (c::s))=((Txt.split (mkS (bC (c::s) ps)) (mkS (c::s))).map fun z=>z.cps.toList).map mkS:=by
    rw[List.map_map]
    conv=>lhs;rw[← List.map_id (Txt.split (mkS (bC (c::s) ps)) (mkS (c::s)))]
    exact List.map_congr_left fun z _=>(wQ z).symm
  rw[e,pL] at j
  have k:=vo (c:=c) (s:=s) (by
      intro z
      exact En (List.map_eq_nil_iff.mp z)) hne (fun p h=>by
    obtain ⟨q,hq,rfl⟩:=List.mem_map.mp h
    exact free q hq) hp (oE j)
  rw[e,k]
def dg (n:Nat):List Nat:=(Nat.toDigits 10 n).map Char.toNat
theorem zv {n:Nat}:NumText.digitsVal (dg n)=n:=PySem.W.KIN.val_back n
theorem fV {n:Nat} (h:n<10):dg n=[(Nat.digitChar n).toNat]:=by unfold dg;rw[Nat.toDigits_of_lt_base h];rfl
theorem n0 {n:Nat} (h:10≤n):dg n=dg (n / 10)++dg (n % 10):=by
  have hm:n % 10<10:=Nat.mod_lt n (by decide)
  have t:=Nat.toDigits_append_toDigits (b:=10) (n:=n / 10) (d:=n % 10) (by decide) (by omega) hm
  rw[Nat.div_add_mod] at t
  unfold dg
  rw[← t,List.map_append]
theorem lq {n:Nat}:∀c∈dg n,48≤c∧c≤57:=by
  induction n using Nat.strongRecOn with
  | _ n ih =>
    rcases Nat.lt_or_ge n 10 with h | h
    · rw[fV h]
      intro c hc
      rw[List.mem_singleton.mp hc]
      exact (show ∀d:Nat,d<10→48≤(Nat.digitChar d).toNat∧(Nat.digitChar d).toNat≤57 by decide) n h
    · rw[n0 h]
      intro c hc
      rcases List.mem_append.mp hc with z | z
      · exact ih (n / 10) (by omega) c z
      · exact ih (n % 10) (by omega) c z
theorem uu {n:Nat}:dg n≠[]:=by
  induction n using Nat.strongRecOn with
  | _ n ih =>
    rcases Nat.lt_or_ge n 10 with h | h
    · rw[fV h];simp
    · rw[n0 h]
      intro e
      exact ih (n / 10) (by omega) (List.append_eq_nil_iff.mp e).1
theorem lG:∀{k n:Nat},n<10 ^ (k+1)→(dg n).length≤k+1
  | 0,n,h=>by rw[fV (by omega)];simp
  | k+1,n,h=>by
    rcases Nat.lt_or_ge n 10 with h1 | h1
    · rw[fV h1];simp
    · rw[n0 h1,List.length_append,fV (n:=n % 10) (by omega)]
      have:=lG (k:=k) (n:=n / 10) (by rw[Nat.pow_succ] at h;omega)
      simp
      omega
theorem FN {n:Nat} (h:n≠0):∃c r,dg n=c::r∧c≠48:=by
  induction n using Nat.strongRecOn with
  | _ n ih =>
    rcases Nat.lt_or_ge n 10 with h1 | h1
    · rw[fV h1]
      exact⟨_,[],rfl,(show ∀d:Nat,d<10→d≠0→(Nat.digitChar d).toNat≠48 by decide) n h1 h⟩
    · obtain ⟨c,r,e,hc⟩:=ih (n / 10) (by omega) (by omega)
      rw[n0 h1,e]
      exact⟨c,_,rfl,hc⟩
theorem Bo:dg 0=[48]:=by decide
theorem Ej {n:Nat}:∀c∈dg n,c<128:=fun c hc=>by have:=lq c hc;omega
def sI (i:Int):List Nat:=if i<0 then 45::dg i.natAbs else dg i.natAbs
theorem oh {n:Nat}:sI (n:Int)=dg n:=by unfold sI;rw[if_neg (by omega)];rfl
theorem HX {n:Nat}:sI (-((n+1:Nat):Int))=45::dg (n+1):=by unfold sI;rw[if_pos (by omega)];congr 1
theorem str_int (i:Int):Str.ofString (toString i)=mkS (sI i):=by
  rw[← wQ (Str.ofString (toString i))]
  congr 1
  rcases Int.lt_or_le i 0 with h | h
  · obtain ⟨m,rfl⟩:∃m:Nat,i=-((m+1:Nat):Int):=⟨(-i - 1).toNat,by omega⟩
    rw[HX,PyProof.Rows.signs_ofString]
    show (("-" : String)++Nat.repr (m+1)).toList.map Char.toNat=_
    rw[String.toList_append,List.map_append,Nat.toList_repr]
    rfl
  · obtain ⟨m,rfl⟩:=Int.eq_ofNat_of_zero_le h
    rw[PySem.W.KIN.signs_num,oh];rfl
theorem Aj {i:Int} (h:i.natAbs<10 ^ 30):(sI i).length≤31:=by
  have:=lG (k:=29) h
  unfold sI
  split
  · rw[List.length_cons];omega
  · omega
theorem tK {i:Int}:∀c∈sI i,c=45∨(48≤c∧c≤57):=fun c hc=>by
  unfold sI at hc
  split at hc
  · rcases List.mem_cons.mp hc with z | z
    · exact .inl z
    · exact .inr (lq c z)
  · exact .inr (lq c hc)
theorem zi {i:Int} (h:i.natAbs<10 ^ 30):intText? (mkS (sI i))=some i:=by
  have hl:=Aj h
  have dd:NumText.AllDigits (dg i.natAbs):=fun c hc=>lq c hc
  rcases Int.lt_or_le i 0 with h0 | h0
  · have e:sI i=45::dg i.natAbs:=by unfold sI;rw[if_pos h0]
    rw[PySem.intText_neg (x:=mkS (sI i)) (cs:=dg i.natAbs) e dd uu (by rw[aE];omega),zv]
    congr 1
    omega
  · have e:sI i=dg i.natAbs:=by unfold sI;rw[if_neg (by omega)]
    rw[e,PySem.intText_digits (x:=mkS (dg i.natAbs)) dd uu (by rw[aE];rw[e] at hl;omega)]
    rw[show (mkS (dg i.natAbs)).cps.toList=dg i.natAbs from rfl,zv]
    congr 1
    omega
end L3
namespace L3
open PySem L2 PySem.Builtin PySem.Builtin.Str
theorem zB {l:List Nat}{c k:Nat}:StrLaws.At (mkS l) (mkS [c]) (mkS l).length k↔l[k]?=some c:=StrLaws.subAt_one (mkS l) c k
theorem Gn {p q:List Nat}{c:Nat} (h:c∉p):qG (mkS (p++c::q)) (mkS [c])=[mkS p,mkS [c],mkS q]:=by
  have hA:StrLaws.At (mkS (p++c::q)) (mkS [c]) (mkS (p++c::q)).length p.length:=zB.mpr (by rw[List.getElem?_append_right (Nat.le_refl _),Nat.sub_self];rfl)
  unfold qG
  rcases StrLaws.occ_head (mkS (p++c::q)) (mkS [c]) 1 (Nat.le_refl _) with ⟨_,hn⟩ | ⟨i,r,e,hi,hn⟩
  · exact absurd hA (hn _)
  · have ei:i=p.length:=by
      rcases Nat.lt_trichotomy i p.length with z | z | z
      · have:=zB.mp hi
        rw[List.getElem?_append_left z] at this
        exact absurd (List.mem_of_getElem? this) h
      · exact z
      · exact absurd hA (hn _ z)
    subst ei
    rw[e]
    have e1:strSub (mkS (p++c::q)) 0 p.length=mkS p:=by
      rw[← wQ (strSub (mkS (p++c::q)) 0 p.length),StrLaws.strSub_toList,gY,List.drop_zero,Nat.sub_zero,List.take_left]
    have e2:strSub (mkS (p++c::q)) (p.length+(mkS [c]).length) (mkS (p++c::q)).length=mkS q:=by
      rw[← wQ (strSub (mkS (p++c::q)) _ _),StrLaws.strSub_toList,gY]
      congr 1
      have:(p++c::q).drop (p.length+(mkS [c]).length)=q:=by
        rw[show p.length+(mkS [c]).length=p.length+1 from rfl,← List.drop_drop,List.drop_left];rfl
      rw[this]
      exact List.take_of_length_le (by rw[aE,aE,List.length_append];simp;omega)
    show [strSub (mkS (p++c::q)) 0 p.length,mkS [c],strSub (mkS (p++c::q)) (p.length+(mkS [c]).length) (mkS (p++c::q)).length]=_
    rw[e1,e2]
theorem FK {p:List Nat}{c:Nat} (h:c∉p):qG (mkS p) (mkS [c])=[mkS p,mkS [],mkS []]:=by
  unfold qG
  rcases StrLaws.occ_head (mkS p) (mkS [c]) 1 (Nat.le_refl _) with ⟨e,_⟩ | ⟨i,r,e,hi,_⟩
  · rw[e];rfl
  · exact absurd (List.mem_of_getElem? (zB.mp hi)) h
theorem Ac {c:Nat}:∀{l:List Nat},Txt.startswith (mkS l) (mkS [c])=decide (l.head?=some c)
  | []=>rfl
  | a::r=>by
    unfold Txt.startswith
    rw[StrLaws.subAt_eq,gY,gY,aE,aE]
    show (decide (0+1≤r.length+1) && ([a] == [c]))=decide (some a=some c)
    rw[decide_eq_true (by omega),Bool.true_and,Bool.eq_iff_iff,decide_eq_true_eq,beq_iff_eq]
    simp
theorem B6 {a:Nat}{r:List Nat}:Txt.slice (mkS (a::r)) (some 1) none=mkS r:=by
  have:=StrLaws.sliceText_from (x:=mkS (a::r)) (i:=1) ⟨by decide,by rw[gY,List.length_cons];omega⟩
  have e:Txt.slice (mkS (a::r)) (some 1) none=StrLaws.sliceText (mkS (a::r)) (some 1) none:=rfl
  rw[e,this,gY]
  show mkS (((a::r).drop 1).take _)=mkS r
  congr 1
  exact List.take_of_length_le (by rw[List.length_cons];simp)
theorem in_text {c:Nat}{l:List Nat}:(!(occurrences (mkS l) (mkS [c]) 0 (mkS l).length 1).isEmpty)=decide (c∈l):=StrLaws.found_one (mkS l) c
theorem Fs {l:List Nat} (h:∀c∈l,c<128):(mkS l).cps.all (· < 128)=true:=by
  rw[← Array.all_toList,List.all_eq_true]
  exact fun c hc=>decide_eq_true (h c hc)
theorem sSp:Str.ofString " " = mkS [32]:=by decide
theorem G8:Str.ofString "; " = mkS [59,32]:=by decide
theorem C6:Str.ofString "/" = mkS [47]:=by decide
theorem CS:Str.ofString "-" = mkS [45]:=by decide
theorem GR:Str.ofString "0" = mkS [48]:=by decide
theorem EW:Str.ofString "" = mkS []:=by decide
theorem IY:Str.ofString "0123456789" = mkS [48,49,50,51,52,53,54,55,56,57]:=by decide
end L3
namespace L2
open PySem PySem.Spec PyProof.Rows
section
variable {P:Program}{w:World}{K:PySem.W.Frag}{mg:Str→Option Value}{base:Heap}
section
variable {CX:CXT}{N:List Str}{qual:Str}{sc:Scope}{f:Addr}{cdv:Value}{A:Around}{outer:List Env}{s s':Shared}{H H':Hp}{E:XK}{σ':St}{Q:VK}{v:V}{u:Value}
end
end
section
variable {X:Cx}{a C:Addr}
end
section
variable {X:Cx}{k:Nat}{f a C:Addr}{oe:Obj}{fd:FuncData}{ps:List Str}{sp:Addr→Sp}{E:XK}{x:Str}{p pos:Pos}{e:Expr}{es:List Expr}{t:TA}
end
end L2
namespace L3
open PySem L2
section
variable {K:PySem.W.Frag}{a C:Addr}{cs1 cs2:List Addr}{v1 v2:TA}{Q:VK}{H:Hp}{nx:St→Hp→Prop}
end
end L3
namespace L2
open PySem PySem.Spec PyProof.Rows PySem.Builtin PySem.Builtin.Str
section
variable {X:Cx}
def EH:V→List V→Hp→VK→Prop:=fun x vs H Q=>∃(a:Str) (i:Int),x=.str a∧vs=[.int i]∧PadOk i=true∧Q (.str (Txt.zfill a i)) H
theorem ED:MtR X "str.zfill" EH:=by
  intro pins s σ H x vs v us Q I rx rv h
  obtain ⟨a,i,rfl,rfl,hp,q⟩:=h
  obtain ⟨t,rfl⟩:=rx
  obtain ⟨u,rfl,⟨t2,rfl⟩⟩:=rv.one
  exact SC.zfill hp fun t' k=>⟨.str _,H,I.kept (t':=k) fun b o e=>e,⟨t',rfl⟩,q⟩
end
section
variable {prog:Program}{w:World}{A:Around}{E:Value→Shared→Prop}{s:Shared}
theorem p8 {R:Result→Shared→Prop}{it l S:Addr}{items:Array Value} (hh:A.handled=none) (hit:s.heap.IsRevIter it l ((items.size:Int) - 1)) (hl:s.heap.IsList l items) (hlen:items.size≤sizeLine)
    (hS:s.heap.get? S=some { cls:=.type "list",data:=.seq #[] }) (hSl:S≠l)
    (hR:∀h' tk acc' c',(∀b o,b≠S→b≠it→s.heap.get? b=some o→h'.get? b=some o)→h'.get? S=some { cls:=.type "list",dict:=none,data:=.seq acc' c',slots:=#[] } →
      ItemsOf (fun i v=>items[items.size - 1 - i]?=some v) acc' items.size→R (.ok (.ret (.ref S))) { s with heap:=h',toks:=tk }) :
    codeAny (model prog w) A (.builtin "list.__iadd__" ⟨[.ref S,.ref it],[]⟩) R s:=by
  refine codeAny_builtin F.entry_list_iadd ?_
  rw[Around.under_plainId F.plain_list_iadd _]
  exact pW (A:=A) hh hit hl hlen S (.ref S) 0 hS hSl hR
theorem pq {Q:List Value→Shared→Prop}{it l:Addr}{items:Array Value} (hh:A.handled=none) (hit:s.heap.IsRevIter it l ((items.size:Int) - 1)) (hl:s.heap.IsList l items) (hlen:items.size≤sizeLine)
    (hQ:∀h' tk acc,(∀b o,b≠it→s.heap.get? b=some o→h'.get? b=some o)→ItemsOf (fun i v=>items[items.size - 1 - i]?=some v) acc items.size→Q acc.toList { s with heap:=h',toks:=tk }) :
    wpAny (model prog w) A (collect (.ref it)) Q E s:=by
  have hS:(s.heap.push { cls:=.type "list",data:=.seq #[] }).get? s.heap.objs.size=some { cls:=.type "list",data:=.seq #[] }:=Heap.get?_push_size _ rfl
  obtain ⟨ol,hol,_⟩:=id hl
  unfold collect
  refine wpAny_bind (wpAny_runValue (codeAny_builtin F.entry_proto_collect ?_))
  rw[Around.under_plainId F.plain_proto_collect _]
  show wpAny _ A.in1 (newList [] >>= fun l=>again (.builtin "list.__iadd__" ⟨[l,.ref it],[]⟩)) _ _ s
  refine wpAny_bind (wpAny_newObj_type ?_)
  refine wpAny_pure ⟨plainId_quiet F.plain_list_iadd _,p8 (s:={ s with heap:=s.heap.push { cls:=.type "list",data:=.seq #[] } }) hh (hit.at fun o e=>Heap.get?_push_of_some _ e) (hl.at fun o e=>Heap.get?_push_of_some _ e) hlen hS (Nat.ne_of_gt (Heap.lt_size hol)) fun h' tk acc' c' hk hS' hacc=>?_⟩
  show wpAny _ A (load s.heap.objs.size >>= _) _ _ _
  refine wpAny_bind (wpAny_load hS' ?_)
  exact wpAny_pure (hQ h' tk acc' (fun b o hb e=>hk b o (Nat.ne_of_lt (Heap.lt_size e)) hb (Heap.get?_push_of_some _ e)) hacc)
theorem yZ (x:Str):∀(M:List (Str × Tok)),tooLong ((M.map (·.1)).toArray.foldl (·+·.length+x.length) 0)=false→Gives (joinTail x (strValues M)) (joinMade x M)
  | [],h=>gives_joinTail x [] h
  | [p],h=>gives_joinTail x [p] h
  | p::q::r,h=>gives_joinTail x (p::q::r) h
theorem rY {Q:Value→Shared→Prop}{it l:Addr}{L:List (Str × Tok)}{x:Str}{t:Tok} (hh:A.handled=none) (hit:s.heap.IsRevIter it l (((strValues L).toArray.size:Int) - 1)) (hl:s.heap.IsList l (strValues L).toArray) (hlen:(strValues L).toArray.size≤sizeLine)
    (hok:JoinOk x (L.reverse.map (·.1))=true) (hQ:∀h' tk t',(∀b o,b≠it→s.heap.get? b=some o→h'.get? b=some o)→Q (.str (Txt.join x (L.reverse.map (·.1))) t') { s with heap:=h',toks:=tk }) :
    wpAny (model prog w) A (call (.builtin "str.join") [.str x t,.ref it]) Q E s:=by
  refine wpAny_call (codeAny_call_builtin F.slot_str_join.plain F.entry_str_join (F.slot_str_join.check _ _ _ _ _ _ _ _ (typeIs_str _ _ _) (F.args_str_join_2 _ _) ?_))
  rw[join_tree_other]
  refine wpAny_bind (wpAny_typeOf (T:="list_reverseiterator") hit.typeIs ?_)
  show wpAny _ A.in1 ((pyIter (.ref it)).tryCatch _ >>= fun it=>collect it >>= fun items=>joinTail x items) _ _ s
  refine wpAny_bind (wpAny_tryCatch (wpAny_pyIter_revIter hit ?_))
  refine wpAny_bind (pq (A:=A.in1) hh hit hl hlen fun h' tk acc hk hacc=>?_)
  have e:acc.toList=strValues L.reverse:=by
    obtain ⟨a1,a2⟩:=hacc
    have e0:strValues L.reverse=(strValues L).reverse:=by unfold strValues;rw[List.map_reverse]
    rw[e0]
    refine List.ext_getElem (by simpa using a1) fun n h1 h2=>?_
    have h3:n<acc.size:=by simpa using h1
    have q:=a2 n acc[n] (Array.getElem?_eq_getElem h3)
    rw[List.getElem_reverse]
    have q':(strValues L)[(strValues L).length - 1 - n]?=some acc[n]:=by simpa using q
    obtain ⟨_,z⟩:=List.getElem?_eq_some_iff.mp q'
    rw[z]
    simp
  rw[e]
  unfold JoinOk at hok
  rw[Bool.not_eq_true'] at hok
  have g:=yZ x L.reverse hok
  exact g prog w A (wants Q E) { s with heap:=h',toks:=tk } (post_join L.reverse ⟨joinFit_length hok,fun t' k=>hQ h' k t' hk⟩)
end
section
variable {X:Cx}{K:PySem.W.Frag}{o e:Expr}{to te:TE}{p2 pos2 apos cpos:Pos}
def ye (K:PySem.W.Frag) (to te:TE):TE:=fun σ H Q=>to σ H fun x H1=>∃a,x=.str a∧te σ H1 fun y H2=>∃(p:Addr) (ts:List Str),y=.ref p∧SqL K H2 p (ts.map V.str)∧JoinOk a ts.reverse=true∧Q (.str (Txt.join a ts.reverse)) H2
theorem yi (hK:X.K=K) (hc:X.calm=true) (pa:PlainAttrs "str") (hg2:Gl X "reversed") (hm2:X.mg "reversed" = none) (ho:PE X o to) (he:PE X e te)
    (hbase:attributeBase o "join" X.env (eval o X.env)=eval o X.env:=by rfl)
    (hfew:((backTo cpos (starEach [Expr.Call (.Name "reversed" p2) [e] [] pos2] X.env)).all (fun x=>!x.1) && (backToKw cpos (keywordEach [] X.env)).all (fun x=>x.1.isSome)
      && decide (([Expr.Call (.Name "reversed" p2) [e] [] pos2]:List Expr).length+([]:List Keyword).length+(if ([]:List Keyword).isEmpty then 0 else 1)<30))=true:=by rfl)
    (hline:(apos.endLine == cpos.line)=true:=by rfl) (hs:starEach [Expr.Call (.Name "reversed" p2) [e] [] pos2] X.env=[(false,eval (.Call (.Name "reversed" p2) [e] [] pos2) X.env)]:=by rfl) (hs2:starEach [e] X.env=[(false,eval e X.env)]:=by rfl) :
    PE X (.Call (.Attribute o "join" apos) [.Call (.Name "reversed" p2) [e] [] pos2] [] cpos) (ye K to te):=by
  subst hK
  intro pins s σ H Q I h
  refine wpAny_Call_method_late hbase hfew hline rfl (thn (ho pins s σ H _ I h) fun v s1 ⟨x,H1,I1,r1,a,ex,q1⟩=>?_)
  subst ex
  obtain ⟨t,rfl⟩:=r1
  refine⟨"str","str.join",pa,F.slot_str_join,F.type_str_join,typeIs_str _ _ _,(fun _ e=>nomatch e),?_⟩
  rw[hs]
  refine Calls.callWith_builtin rfl (Calls.evalArgs_plain ?_)
  refine Calls.spliced_cons ?_
  refine wpAny_Call_Name_kw (kS I1 hg2 hm2 boot_reversed ?_)
  refine PyProof.Rows.callWith_type1 ?_ hs2 rfl
  rw[hs2]
  refine Calls.spliced_cons (thn (he pins s1 σ H1 _ I1 q1) fun v s2 ⟨y,H2,I2,r2,b,ts,ey,hS,hok,q⟩=>?_)
  subst ey
  obtain rfl:v=Value.ref b:=r2
  obtain ⟨its,rv,pl,hz⟩:=I2.list hS
  obtain ⟨L,rfl,eL⟩:=kU rv
  have hlv:=rv.length
  have er:L.reverse.map (·.1)=ts.reverse:=by rw[List.map_reverse,eL]
  refine Calls.spliced_nil (PySem.call_reversed_list pl.isList (Calls.spliced_nil ?_))
  refine rY (L:=L) (I.ok.hd hc) ⟨_,Heap.get?_push_size _ rfl,rfl,rfl⟩ (pl.isList.at fun o e=>Heap.get?_push_of_some _ e) (by simp;omega) (by rw[er];exact hok) fun h' tk t' hk=>?_
  rw[er]
  exact⟨.str _,H2,I2.kept (t':=tk) fun b o e=>hk b o (Nat.ne_of_lt (Heap.lt_size e)) (Heap.get?_push_of_some _ e),⟨t',rfl⟩,q⟩
end
end L2
namespace L3
open PySem L2 PySem.Builtin PySem.Builtin.Str
section
variable {K:PySem.W.Frag}{Γ:List Nat}{ta tb:TE}{da db:DE}
def tH:DSp:=fun xs P=>match xs with | [.str a,.int i]=>PadOk i=true∧P (.str (Txt.zfill a i)) | _=>False
theorem FW:B5 K EH tH:=⟨fun xs P P' k h=>by
    unfold tH at h ⊢
    revert h
    split
    · exact fun h=>⟨h.1,k _ h.2⟩
    · exact id,
  fun {H x xs v vs Q} r1 r2 h=>by
    unfold tH at h
    split at h
    · rename_i a i e
      cases e
      have e:v=.str x:=r1.choose_spec.1
      subst e
      have e2:=Rps.ints1 r2
      subst e2
      exact⟨x,i,rfl,rfl,h.1,h.2 _ H [] (Same.refl H) ⟨rfl,rfl⟩ Nw.nil⟩
    · exact h.elim⟩
def uj (da db:DE) (δ:Dl) (P:DK):Prop:=da δ fun x=>asS x fun a=>db δ fun y=>asL y fun ds=>∃ts:List Str,ds=ts.map D.str∧JoinOk a ts.reverse=true∧P (.str (Txt.join a ts.reverse))
theorem zT (ha:ER K Γ ta da) (hb:ER K Γ tb db):EM K Γ [] (ye K ta tb) (uj da db) :=
  ⟨fun δ P P' k h=>ha.mono _ _ _ (fun x z=>by
      obtain ⟨a,rfl,z⟩:=cV z
      exact hb.mono _ _ _ (fun y z=>by
        obtain ⟨ds,e,ts,z1,z2,z3⟩:=cB z
        exact ja e ⟨ts,z1,z2,k _ z3⟩) z) h,
   fun {B0 fps δ σ H Q} o h=>ha.run o (ha.mono _ _ _ (fun x z v H1 s1 r1=>by
    obtain ⟨a,rfl,z⟩:=cV z
    have e:v=.str a:=r1.choose_spec.1
    subst e
    refine⟨a,rfl,hb.run (o.same s1) (hb.mono _ _ _ (fun y z w H2 s2 r2=>?_) z)⟩
    obtain ⟨ds,e,ts,rfl,z2,z3⟩:=cB z
    obtain ⟨p,ys,fq,rfl,hs,hr⟩:=r2.seq e
    obtain ⟨rfl,_⟩:=hr.mP m6
    rw[oy] at hs
    exact⟨p,ts,rfl,hs,z2,z3 _ H2 [] (s1.trans s2) ⟨rfl,rfl⟩ Nw.nil⟩) h)⟩
end
end L3
namespace L3
open PySem L2 PySem.Builtin PySem.Builtin.Str
def dgK:Nat→Nat→List Nat
  | 0,_=>[]
  | k+1,n=>dgK k (n / 10)++dg (n % 10)
theorem DX {k n:Nat}:dgK (k+1) n=dgK k (n / 10)++dg (n % 10):=rfl
theorem wO:∀{k n:Nat},(dgK k n).length=k
  | 0,_=>rfl
  | k+1,n=>by unfold dgK;rw[List.length_append,wO,fV (Nat.mod_lt n (by decide))];rfl
theorem xU:∀{k:Nat},dgK k 0=List.replicate k 48
  | 0=>rfl
  | k+1=>by unfold dgK;rw[xU,List.replicate_succ',show dg (0 % 10)=[48] from by decide]
theorem C1:∀{k n:Nat},10 ^ k≤n→dg n=dg (n / 10 ^ k)++dgK k n
  | 0,n,h=>by unfold dgK;rw[Nat.pow_zero,Nat.div_one,List.append_nil]
  | k+1,n,h=>by
    have h10:10≤n:=Nat.le_trans (by rw[Nat.pow_succ];exact Nat.le_mul_of_pos_left 10 (Nat.pow_pos (by decide))) h
    have hk:10 ^ k≤n / 10:=by rw[Nat.le_div_iff_mul_le (by decide)];rw[Nat.pow_succ] at h;exact h
    rw[n0 h10,C1 hk,DX]
    rw[Nat.div_div_eq_div_mul,show 10*10 ^ k=10 ^ (k+1) by rw[Nat.pow_succ,Nat.mul_comm],List.append_assoc]
theorem Ar:∀{k n:Nat},dgK k (n % 10 ^ k)=dgK k n
  | 0,n=>rfl
  | k+1,n=>by
    unfold dgK
    have e1:n % 10 ^ (k+1) / 10=n / 10 % 10 ^ k:=by rw[Nat.pow_succ,Nat.mul_comm,Nat.mod_mul_right_div_self]
    have e2:n % 10 ^ (k+1) % 10=n % 10:=Nat.mod_mod_of_dvd n (by rw[Nat.pow_succ];exact Nat.dvd_mul_left 10 _)
    rw[e1,e2,Ar]
theorem Bb:∀{k n:Nat},n<10 ^ k→0<k→dgK k n=List.replicate (k - (dg n).length) 48++dg n
  | k+1,n,h,_=>by
    rcases Nat.lt_or_ge n 10 with h1 | h1
    · unfold dgK
      rw[show n / 10=0 by omega,xU,Nat.mod_eq_of_lt h1,fV h1]
      rfl
    · unfold dgK
      have hk:n / 10<10 ^ k:=by rw[Nat.div_lt_iff_lt_mul (by decide)];rw[Nat.pow_succ] at h;exact h
      have k0:0<k:=by
        rcases Nat.eq_zero_or_pos k with z | z
        · subst z;rw[Nat.pow_zero] at hk;omega
        · exact z
      rw[Bb hk k0,n0 h1,List.append_assoc,List.length_append,fV (n:=n % 10) (Nat.mod_lt n (by decide))]
      congr 2
      simp
theorem Fb {n k:Nat} (h:n<10 ^ k) (k0:0<k):Txt.zfill (mkS (dg n)) (k:Int)=mkS (dgK k n):=by
  have hl:(dg n).length≤k:=by
    obtain ⟨j,rfl⟩:∃j,k=j+1:=⟨k - 1,by omega⟩
    exact lG h
  have pad:=Bb h k0
  unfold Txt.zfill
  split
  · rename_i z
    rw[aE] at z
    rw[pad,show k - (dg n).length=0 by omega]
    rfl
  · rename_i z
    unfold zfilled
    obtain ⟨c,r,e⟩:∃c r,dg n=c::r:=by
      cases z:dg n with
      | nil=>exact absurd z uu
      | cons c r=>exact⟨c,r,rfl⟩
    have hc:=lq (n:=n) c (by rw[e];exact List.mem_cons_self)
    have h0:(mkS (dg n)).cps[0]?=some c:=by rw[e];rfl
    rw[h0]
    have step:padded (mkS (dg n)) ((k:Int).toNat - (mkS (dg n)).length) 0 48=mkS (dgK k n):=by
      rw[pad,aE]
      unfold padded mkS
      congr 1
      apply Array.ext'
      simp
    split
    · rename_i q;cases q;omega
    · rename_i q;cases q;omega
    · exact step
end L3
namespace L2
open PySem PySem.Spec PyProof.Rows PySem.Builtin PySem.Builtin.Str
section
variable {X:Cx}
end
end L2
namespace L3
open PySem L2 PySem.Builtin PySem.Builtin.Str
section
variable {K:PySem.W.Frag}{Γ:List Nat}{te:TE}{de:DE}
end
end L3
namespace L3
open PySem L2 PySem.Builtin PySem.Builtin.Str
theorem Ha:∀{k n:Nat},(dg n).length≤k→n<10 ^ k
  | 0,n,h=>absurd (List.eq_nil_of_length_eq_zero (Nat.le_zero.mp h)) uu
  | k+1,n,h=>by
    rcases Nat.lt_or_ge n 10 with h1 | h1
    · exact Nat.lt_of_lt_of_le h1 (by rw[Nat.pow_succ];exact Nat.le_mul_of_pos_left 10 (Nat.pow_pos (by decide)))
    · rw[n0 h1,List.length_append,fV (n:=n % 10) (Nat.mod_lt n (by decide))] at h
      have:=Ha (k:=k) (n:=n / 10) (by simp at h;omega)
      rw[Nat.pow_succ]
      omega
end L3
namespace L2
open PySem PySem.Spec PyProof.Rows
section
variable {X:Cx}{k k':Nat}{f:Addr}{fd:FuncData}{ps:List Str}{sp:Sp}{x y:Str}{st:Stmt}{e a b elt iter:Expr}{es:List Expr}{t:TA}{te ta tb:TE}{tt:TT}{p pos pos' tp py:Pos}{wi:TI}{scope:Scope}
theorem wcl (F:bE X.prog X.w X.K X.mg X.base CX0 k f fd ps sp) (hr:jL k' X.A) (E:FnAt X.K X.mg x st ps f fd) (ha:PA X (e::es) t) (hk:k≤k':=by decide) (hg:Gl X x:=by exact rfl)
    (hdb:(x == ("__debug__" : Str))=false:=by decide) (he:starEach (e::es) X.env=(false,eval e X.env)::starEach es X.env:=by rfl) (hpl:(backTo pos (starEach es X.env)).any (·.1)=false:=by rfl):PE X (.Call (.Name x p) (e::es) [] pos) (qL sp [] E0 t) :=
  eY F (hr.mono hk) hg E.mg E.fn.kp E.bd .nil JA ha hdb he hpl
theorem wst (i:Nat) (hN:X.N.Nodup) (he:PE X e te) (hi:X.N[i]?=some x:=by exact rfl) (hx:Loc X.env.scope x:=by first | exact Or.inl rfl | exact Or.inr rfl) (hs:swapsWith e (some (.Name x pos')) pos.line X.env=pure false:=by rfl)
    (hf:X.fn x=true∨X.env.scope.names.lookup x=some .local:=by first | exact .inl rfl | exact .inr rfl | assumption):PS X (.Assign [.Name x pos'] e pos) (qW te (jk i)):=Am hN hi hx he hs hf
theorem wpg (i:Nat) (hN:X.N.Nodup) (hi:X.N[i]?=some x:=by exact rfl) (hx:Loc X.env.scope x:=by first | exact Or.inl rfl | exact Or.inr rfl)
    (hf:X.fn x=true∨X.env.scope.names.lookup x=some .local:=by first | exact .inl rfl | exact .inr rfl | assumption):PG X (.Name x pos) (jk i):=iI hN hi hx hf
theorem wix (K:PySem.W.Frag) (ha:PE X a ta) (hb:PE X b tb) (h:X.K=K:=by exact rfl) (hs:wH b:=by exact fun _ _=>rfl):PE X (.Subscript a b pos) (tOp (Dq K) ta tb):=Hb (C4 h) ha hb hs
theorem wit (K:PySem.W.Frag) (ha:PE X a ta) (hb:PE X b tb) (h:X.K=K:=by exact rfl) (hs:wH b:=by exact fun _ _=>rfl):PE X (.Subscript a b pos) (tOp (B4 K) ta tb):=Hb (Ge h) ha hb hs
theorem wil {tg:Expr} (K:PySem.W.Frag) (ha:PE X a ta) (h:X.K=K:=by exact rfl):PI X tg a (Bm K ta):=Er h ha
theorem wln (K:PySem.W.Frag) (hm:X.mg "len" = none) (ha:PE X a ta) (h:X.K=K:=by exact rfl) (hg:Gl X "len":=by rfl) (he:starEach [a] X.env=(false,eval a X.env)::starEach [] X.env:=by rfl) (hpl:(backTo pos (starEach [] X.env)).any (·.1)=false:=by rfl) :
    PE X (.Call (.Name "len" p) [a] [] pos) (tCB (fun xs H Q=>∃p ys,xs=[.ref p]∧(SqL K H p ys∨SqT K H p ys)∧Q (.int ys.length) H) (fX ta nO)):=aO (B8 h) hg hm PySem.boot_len (af ha ak he) (by decide) (by decide) he hpl
theorem wfo {body:List Stmt}{g:TG}{tb:TS}{tg:Expr} (hi:PI X tg iter wi) (hg:PG X tg g) (hb:PSs X body tb) (hp:PassesOwn (model X.prog X.w) X.A X.env X.xe:=by exact PassesOwn.never) (hc:X.calm=true:=by exact rfl) (hs:∀x,foldedSetIterable iter X.env x=pure x:=by intro _;rfl):PS X (.For tg iter body [] pos) (IK wi g tb):=Ii hp hc hi hg hb hs
theorem wco (sc0:Scope) (x:Str) (cap:List Str) (idx:List Nat) (hi:PI X (.Name x tp) iter wi) (he:∀cs C fp s₀ H₀,PE (cxC X ([x]++cap) scope cs C fp s₀ H₀) elt te) (h:Ab sc0 scope [x] cap=true:=by decide +kernel) (e:X.env.scope=sc0:=by exact rfl) (ci:idx.map (fun i=>X.N[i]?)=cap.map some:=by exact rfl) (nd:qD ([x]++cap)=true:=by decide +kernel)
    (hx:∀cs C fp s₀ H₀,Loc (cxC X ([x]++cap) scope cs C fp s₀ H₀).env.scope x:=by exact fun _ _ _ _ _=>by first | exact Or.inl rfl | exact Or.inr rfl)
    (hf:∀cs C fp s₀ H₀,(cxC X ([x]++cap) scope cs C fp s₀ H₀).fn x=true∨(cxC X ([x]++cap) scope cs C fp s₀ H₀).env.scope.names.lookup x=some .local:=by exact fun _ _ _ _ _=>by first | exact .inl rfl | exact .inr rfl)
    (hcalm:X.calm=true:=by rfl) (hs:∀x,foldedSetIterable iter X.env x=pure x:=by intro _;rfl):PE X (.ListComp elt [⟨.Name x tp,iter,[],0⟩] scope pos) (ql wi (jk 0) te [x].length idx) :=
  yu (tn:=[x]) (bD.of h e ci) hi (mR.name (Nat.zero_lt_one)) (fun cs C fp s₀ H₀=>iI (i:=0) (cD nd) rfl (hx cs C fp s₀ H₀) (hf cs C fp s₀ H₀)) he hcalm hs
end
end L2
namespace Mine
open PySem L3
open L2 hiding D Rf Rfs Rp dI dT
open PyProof.Rows hiding St
local macro_rules | `(tactic| walk_at "v1") => `(tactic| simp only [xn,x2,tH,uj,vMS,wt,tW,pF,jN,Ip,zh,xY,yb,IL,D0,zZ,IS,sSp,G8,C6,CS,GR,EW,IY,Ay,xr,CI,FQ,FA,Cn,HA,wU,D3,yw,Bv,Ib,vIf,qh,vC,vOp,vUn,A9,Ed,Fq,tu,EI,vOr,Hk,EV,IF,EB,zI,Dc,wb,Hx,IA,uh,HB,El,wq,yM,BH,Bj,yL,yO,yk,xi,Dg,x8,yP,xR,qM,wC,vIs,Bt,DZ,Av,Aw,Au,Bw,Eg,Eh,CM,D9,DG,EE,DF,EJ,CH,zg,D.uk,Fo,D.bf,CZ,zj,Bn,vi,vA,vw,HD,Ff,zk,AK,D6,D5,Gq,zt,y3,wc,vz,vq,jx,m5,vSl,ve,vn,rZ,fc,tI,uc,nU,vL,ue,u5,t8,u9,AA,u4,vS,vT,AQ,EA,A2,D.toV,Option.some.injEq,forall_eq',A1,yn,HZ,Dk,Iy,Dw,EN,zy,z5,Es,noX,CQ,Ef,Dj,DR,x6,kill,List.foldl_nil,List.foldl_cons,List.set_cons_zero,List.set_cons_succ,List.getElem?_cons_zero,List.getElem?_cons_succ,List.getElem?_nil,qP,yE,Bool.false_eq_true,Bool.not_false,Bool.not_true,if_true,if_false,ite_true,ite_false,true_and,and_true,List.length_cons,List.length_nil,decide_eq_true_eq,Bool.not_eq_true',decide_eq_false_iff_not,List.length_map,Bool.true_eq_false,eq_self,not_true_eq_false,not_false_eq_true,Int.reduceToNat,Int.reduceEq,Int.reduceLT,Int.reduceLE,Int.reducePow,Int.reduceAdd,Int.reduceMul,Int.reduceSub,Int.reduceNeg,Int.toNat_natCast])
local macro_rules | `(tactic| walk_at "vb1") => `(tactic| simp only [xn,x2,tH,uj,vMS,wt,tW,pF,jN,Ip,zh,xY,yb,IL,D0,zZ,IS,sSp,G8,C6,CS,GR,EW,IY,Ay,xr,CI,FQ,FA,Cn,HA,wU,D3,yw,Bv,Ib,vIf,qh,vC,vOp,vUn,A9,Ed,Fq,tu,EI,vOr,Hk,EV,IF,EB,zI,Dc,wb,Hx,IA,uh,HB,El,wq,yM,BH,Bj,yL,yO,yk,xi,Dg,x8,yP,xR,qM,wC,vIs,Bt,DZ,Av,Aw,Au,Bw,Eg,Eh,CM,D9,DG,EE,DF,EJ,CH,zg,D.uk,Fo,D.bf,CZ,zj,Bn,vi,vA,vw,HD,Ff,zk,AK,D6,D5,Gq,zt,y3,wc,vz,vq,jx,m5,vSl,ve,vn,rZ,fc,tI,uc,nU,vL,ue,u5,t8,u9,AA,u4,vS,vT,AQ,EA,A2,D.toV,Option.some.injEq,forall_eq',A1,yn,HZ,Dk,Iy,Dw,EN,zy,z5,Es,noX,CQ,Ef,Dj,DR,x6,kill,List.foldl_nil,List.foldl_cons,List.set_cons_zero,List.set_cons_succ,List.getElem?_cons_zero,List.getElem?_cons_succ,List.getElem?_nil,qP,yE,Bool.false_eq_true,Bool.not_false,Bool.not_true,if_true,if_false,ite_true,ite_false,true_and,and_true,List.length_cons,List.length_nil,decide_eq_true_eq,Bool.not_eq_true',decide_eq_false_iff_not,List.length_map,Bool.true_eq_false,eq_self,not_true_eq_false,not_false_eq_true,Int.reduceToNat,Int.reduceEq,Int.reduceLT,Int.reduceLE,Int.reducePow,Int.reduceAdd,Int.reduceMul,Int.reduceSub,Int.reduceNeg,Int.toNat_natCast,jG,eS,List.reduceReplicate,List.replicate_succ,List.replicate_zero,List.map_cons,List.map_nil,Option.getD_some,List.cons_append,List.nil_append,Nat.reduceAdd])
local macro_rules | `(tactic| walk_at "v") => `(tactic| try (walk_at "v1"))
local macro_rules | `(tactic| walk_at "vb") => `(tactic| try (walk_at "vb1"))
local macro_rules | `(tactic| walk_at "cd") => `(tactic| first | exact ⟨by decide,100,by decide,by decide⟩ | exact ⟨by omega,100,by omega,by decide⟩ | omega | decide | rfl | exact ⟨by decide,by decide,by decide⟩ | exact ⟨64,64,by omega,by omega,by decide⟩ | exact ⟨200,200,by omega,by omega,by decide⟩ | exact nh)
local macro_rules | `(tactic| walk_at "go") => `(tactic| repeat (first | (walk_at "v1") | ((with_reducible refine And.intro ?k1 ?_); (case k1 => walk_at "cd"))))
local macro_rules | `(tactic| walk_at "gb") => `(tactic| repeat (first | (walk_at "vb1") | ((with_reducible refine And.intro ?k1 ?_); (case k1 => walk_at "cd"))))
def top (i:Nat):Stmt:=PySem.Challenge.pw_evenmix_k69_long_fractions_shown.main.body.getD i (.Pass ⟨0,0,0,0⟩)
abbrev eA:Stmt:=top 17
abbrev ml:List Str:=["thing"]
abbrev gD:List Str:=["thing"]
theorem xm:az ml gD (ai eA):=⟨rfl,rfl,rfl,by decide +kernel,rfl,by decide +kernel,by decide +kernel⟩
abbrev e9:Stmt:=top 18
abbrev nS:List Str:=["number","many"]
abbrev iu:List Str:=["number","many"]
theorem yf:az nS iu (ai e9):=⟨rfl,rfl,rfl,by decide +kernel,rfl,by decide +kernel,by decide +kernel⟩
abbrev cq:Stmt:=top 20
abbrev jS:List Str:=["bottom"]
abbrev dY:List Str:=["bottom"]
theorem qV:az jS dY (ai cq):=⟨rfl,rfl,rfl,by decide +kernel,rfl,by decide +kernel,by decide +kernel⟩
abbrev bo:Stmt:=top 21
abbrev gr:List Str:=["one","other","rest"]
abbrev bX:List Str:=["one","other"]
theorem dM:az gr bX (ai bo):=⟨rfl,rfl,rfl,by decide +kernel,rfl,by decide +kernel,by decide +kernel⟩
abbrev dD:Stmt:=top 22
abbrev lN:List Str:=["table","bottom","divisor","row","cell"]
abbrev fF:List Str:=["table","bottom"]
theorem fZ:az lN fF (ai dD):=⟨rfl,rfl,rfl,by decide +kernel,rfl,by decide +kernel,by decide +kernel⟩
abbrev b9:Stmt:=top 23
abbrev ky:List Str:=["row","divisor"]
abbrev eO:List Str:=["row","divisor"]
theorem sX:az ky eO (ai b9):=⟨rfl,rfl,rfl,by decide +kernel,rfl,by decide +kernel,by decide +kernel⟩
abbrev cj:Stmt:=top 24
abbrev kf:List Str:=["table","bottom","divisor"]
abbrev dH:List Str:=["table","bottom"]
theorem mz:az kf dH (ai cj):=⟨rfl,rfl,rfl,by decide +kernel,rfl,by decide +kernel,by decide +kernel⟩
abbrev bN:Stmt:=top 30
abbrev lA:List Str:=["text","lines","bottom"]
abbrev fH:List Str:=["text"]
theorem km:az lA fH (ai bN):=⟨rfl,rfl,rfl,by decide +kernel,rfl,by decide +kernel,by decide +kernel⟩
abbrev dy:Stmt:=top 31
abbrev mx:List Str:=["lines"]
abbrev gw:List Str:=["lines"]
theorem xf:az mx gw (ai dy):=⟨rfl,rfl,rfl,by decide +kernel,rfl,by decide +kernel,by decide +kernel⟩
abbrev cI:Stmt:=top 32
abbrev lL:List Str:=["line"]
abbrev fM:List Str:=["line"]
theorem uS:az lL fM (ai cI):=⟨rfl,rfl,rfl,by decide +kernel,rfl,by decide +kernel,by decide +kernel⟩
abbrev cf:Stmt:=top 33
abbrev kl:List Str:=["word","parts"]
abbrev eM:List Str:=["word"]
theorem mV:az kl eM (ai cf):=⟨rfl,rfl,rfl,by decide +kernel,rfl,by decide +kernel,by decide +kernel⟩
abbrev cy:Stmt:=top 34
abbrev jV:List Str:=["word"]
abbrev dW:List Str:=["word"]
theorem rA:az jV dW (ai cy):=⟨rfl,rfl,rfl,by decide +kernel,rfl,by decide +kernel,by decide +kernel⟩
abbrev cG:Stmt:=top 35
abbrev kT:List Str:=["part"]
abbrev fL:List Str:=["part"]
theorem uT:az kT fL (ai cG):=⟨rfl,rfl,rfl,by decide +kernel,rfl,by decide +kernel,by decide +kernel⟩
abbrev ek:Stmt:=top 36
abbrev mW:List Str:=["top","bottom"]
abbrev gF:List Str:=["top","bottom"]
theorem xE:az mW gF (ai ek):=⟨rfl,rfl,rfl,by decide +kernel,rfl,by decide +kernel,by decide +kernel⟩
abbrev iR:Stmt:=top 37
abbrev rX:List Str:=["word"]
abbrev kP:List Str:=["word"]
theorem Cq:az rX kP (ai iR):=⟨rfl,rfl,rfl,by decide +kernel,rfl,by decide +kernel,by decide +kernel⟩
abbrev ee:Stmt:=top 38
abbrev mJ:List Str:=["word","bottom"]
abbrev gO:List Str:=["word"]
theorem oz:az mJ gO (ai ee):=⟨rfl,rfl,rfl,by decide +kernel,rfl,by decide +kernel,by decide +kernel⟩
abbrev bS:Stmt:=top 39
abbrev jc:List Str:=["lines","common","line","word","bottom"]
abbrev dq:List Str:=["lines"]
theorem cP:az jc dq (ai bS):=⟨rfl,rfl,rfl,by decide +kernel,rfl,by decide +kernel,by decide +kernel⟩
abbrev b8:Stmt:=top 40
abbrev kg:List Str:=["line","bottom"]
abbrev eQ:List Str:=["line","bottom"]
theorem tQ:az kg eQ (ai b8):=⟨rfl,rfl,rfl,by decide +kernel,rfl,by decide +kernel,by decide +kernel⟩
abbrev cF:Stmt:=top 41
abbrev lO:List Str:=["table","bottom"]
abbrev fG:List Str:=["table","bottom"]
theorem uX:az lO fG (ai cF):=⟨rfl,rfl,rfl,by decide +kernel,rfl,by decide +kernel,by decide +kernel⟩
abbrev dB:Stmt:=top 42
abbrev mL:List Str:=["row","bottom"]
abbrev gx:List Str:=["row","bottom"]
theorem wV:az mL gx (ai dB):=⟨rfl,rfl,rfl,by decide +kernel,rfl,by decide +kernel,by decide +kernel⟩
abbrev bF:Stmt:=top 43
abbrev iw:List Str:=["cell","bottom","divisor","sign","top"]
abbrev cR:List Str:=["cell","bottom"]
theorem eW:az iw cR (ai bF):=⟨rfl,rfl,rfl,by decide +kernel,rfl,by decide +kernel,by decide +kernel⟩
abbrev cm:Stmt:=top 44
abbrev jH:List Str:=["number","pieces"]
abbrev dX:List Str:=["number"]
theorem i7:az jH dX (ai cm):=⟨rfl,rfl,rfl,by decide +kernel,rfl,by decide +kernel,by decide +kernel⟩
abbrev gA:Stmt:=top 46
abbrev qv:List Str:=["row"]
abbrev jz:List Str:=["row"]
theorem Af:az qv jz (ai gA):=⟨rfl,rfl,rfl,by decide +kernel,rfl,by decide +kernel,by decide +kernel⟩
abbrev bI:Stmt:=top 47
abbrev iq:List Str:=["row"]
abbrev cM:List Str:=["row"]
theorem pD:az iq cM (ai bI):=⟨rfl,rfl,rfl,by decide +kernel,rfl,by decide +kernel,by decide +kernel⟩
abbrev bJ:Stmt:=top 48
abbrev jO:List Str:=["one","other"]
abbrev dQ:List Str:=["one","other"]
theorem qT:az jO dQ (ai bJ):=⟨rfl,rfl,rfl,by decide +kernel,rfl,by decide +kernel,by decide +kernel⟩
abbrev fB:Stmt:=top 49
abbrev nG:List Str:=["row","heads","head","number"]
abbrev ig:List Str:=["row"]
theorem iM:az nG ig (ai fB):=⟨rfl,rfl,rfl,by decide +kernel,rfl,by decide +kernel,by decide +kernel⟩
abbrev cK:Stmt:=top 50
abbrev kE:List Str:=["one","other"]
abbrev eK:List Str:=["one","other"]
theorem sN:az kE eK (ai cK):=⟨rfl,rfl,rfl,by decide +kernel,rfl,by decide +kernel,by decide +kernel⟩
abbrev bh:Stmt:=top 51
abbrev gm:List Str:=["one","other","above"]
abbrev bW:List Str:=["one","other"]
theorem ji:az gm bW (ai bh):=⟨rfl,rfl,rfl,by decide +kernel,rfl,by decide +kernel,by decide +kernel⟩
abbrev iQ:Stmt:=top 52
abbrev si:List Str:=["one","other"]
abbrev kK:List Str:=["one","other"]
theorem BX:az si kK (ai iQ):=⟨rfl,rfl,rfl,by decide +kernel,rfl,by decide +kernel,by decide +kernel⟩
abbrev ff:Stmt:=top 54
abbrev og:List Str:=["row","step","giver","taker"]
abbrev ik:List Str:=["row","step"]
theorem mn:az og ik (ai ff):=⟨rfl,rfl,rfl,by decide +kernel,rfl,by decide +kernel,by decide +kernel⟩
abbrev eC:Stmt:=top 55
abbrev mF:List Str:=["row","step","made"]
abbrev gJ:List Str:=["row","step"]
theorem oG:az mF gJ (ai eC):=⟨rfl,rfl,rfl,by decide +kernel,rfl,by decide +kernel,by decide +kernel⟩
abbrev fo:Stmt:=top 56
abbrev nI:List Str:=["one","other","bar","steps"]
abbrev iB:List Str:=["one","other"]
theorem mj:az nI iB (ai fo):=⟨rfl,rfl,rfl,by decide +kernel,rfl,by decide +kernel,by decide +kernel⟩
abbrev dC:Stmt:=top 57
abbrev lH:List Str:=["row","steps","step"]
abbrev fC:List Str:=["row","steps"]
theorem kA:az lH fC (ai dC):=⟨rfl,rfl,rfl,by decide +kernel,rfl,by decide +kernel,by decide +kernel⟩
abbrev bQ:Stmt:=top 58
abbrev iX:List Str:=["one","other","places","goals","numbers","steps","step"]
abbrev df:List Str:=["one","other"]
theorem bY:az iX df (ai bQ):=⟨rfl,rfl,rfl,by decide +kernel,rfl,by decide +kernel,by decide +kernel⟩
abbrev bK:Stmt:=top 59
abbrev jJ:List Str:=["goals","numbers","giver","taker"]
abbrev dZ:List Str:=["goals","numbers"]
theorem jf:az jJ dZ (ai bK):=⟨rfl,rfl,rfl,by decide +kernel,rfl,by decide +kernel,by decide +kernel⟩
abbrev cu:Stmt:=top 60
abbrev jW:List Str:=["one","row","steps","place","step"]
abbrev dU:List Str:=["one","row"]
theorem eI:az jW dU (ai cu):=⟨rfl,rfl,rfl,by decide +kernel,rfl,by decide +kernel,by decide +kernel⟩
abbrev bP:Stmt:=top 61
abbrev i8:List Str:=["row","place","second"]
abbrev cY:List Str:=["row","place","second"]
theorem qk:az i8 cY (ai bP):=⟨rfl,rfl,rfl,by decide +kernel,rfl,by decide +kernel,by decide +kernel⟩
abbrev gG:Stmt:=top 63
abbrev pV:List Str:=["one","other","told","table","row","step"]
abbrev jB:List Str:=["one","other"]
theorem gv:az pV jB (ai gG):=⟨rfl,rfl,rfl,by decide +kernel,rfl,by decide +kernel,by decide +kernel⟩
abbrev ck:Stmt:=top 64
abbrev ko:List Str:=["many"]
abbrev eR:List Str:=["many"]
theorem sV:az ko eR (ai ck):=⟨rfl,rfl,rfl,by decide +kernel,rfl,by decide +kernel,by decide +kernel⟩
abbrev dA:Stmt:=top 65
abbrev mY:List Str:=["many","one"]
abbrev gH:List Str:=["many","one"]
theorem wJ:az mY gH (ai dA):=⟨rfl,rfl,rfl,by decide +kernel,rfl,by decide +kernel,by decide +kernel⟩
abbrev dw:Stmt:=top 66
abbrev mE:List Str:=["table","row","step","giver","taker","whole","kept","led"]
abbrev gM:List Str:=["table","row","step"]
theorem fE:az mE gM (ai dw):=⟨rfl,rfl,rfl,by decide +kernel,rfl,by decide +kernel,by decide +kernel⟩
abbrev dG:Stmt:=top 67
abbrev mU:List Str:=["one","parts","other","others"]
abbrev gE:List Str:=["one","parts","other","others"]
theorem xJ:az mU gE (ai dG):=⟨rfl,rfl,rfl,by decide +kernel,rfl,by decide +kernel,by decide +kernel⟩
abbrev en:Stmt:=top 69
abbrev mr:List Str:=["_law_found"]
abbrev gL:List Str:=["_law_found"]
theorem w5:az mr gL (ai en):=⟨rfl,rfl,rfl,by decide +kernel,rfl,by decide +kernel,by decide +kernel⟩
abbrev fe:Stmt:=top 70
abbrev nP:List Str:=["_law_script","_law_many","_law_found","_law_number","_law_cell","_law_k"]
abbrev iz:List Str:=["_law_script","_law_many"]
theorem fA:az nP iz (ai fe):=⟨rfl,rfl,rfl,by decide +kernel,rfl,by decide +kernel,by decide +kernel⟩
abbrev gC:Stmt:=top 71
abbrev qB:List Str:=["_law_one","_law_other"]
abbrev jy:List Str:=["_law_one","_law_other"]
theorem tL:az qB jy (ai gC):=⟨rfl,rfl,rfl,by decide +kernel,rfl,by decide +kernel,by decide +kernel⟩
abbrev bT:Stmt:=top 72
abbrev jh:List Str:=["_law_row","_law_script","_law_found","_law_cell","_law_giver","_law_taker","_law_amount"]
abbrev du:List Str:=["_law_row","_law_script"]
theorem cN:az jh du (ai bT):=⟨rfl,rfl,rfl,by decide +kernel,rfl,by decide +kernel,by decide +kernel⟩
abbrev bR:Stmt:=top 73
abbrev je:List Str:=["_law_table","_law_bottom","_law_found","_law_line","_law_number","_law_share"]
abbrev cZ:List Str:=["_law_table","_law_bottom"]
theorem d9:az je cZ (ai bR):=⟨rfl,rfl,rfl,by decide +kernel,rfl,by decide +kernel,by decide +kernel⟩
abbrev cJ:Stmt:=top 74
abbrev ki:List Str:=["_law_fractions_here","_law_wide","_law_text","_law_k","_law_top","_law_bottom"]
abbrev eP:List Str:=["_law_fractions_here","_law_wide"]
theorem cn:az ki eP (ai cJ):=⟨rfl,rfl,rfl,by decide +kernel,rfl,by decide +kernel,by decide +kernel⟩
abbrev fm:Stmt:=top 75
abbrev nZ:List Str:=["_law_found","_law_table","_law_bottom","_law_share","_law_line","_law_other","_law_one","_law_two"]
abbrev ip:List Str:=["_law_found","_law_table","_law_bottom"]
theorem fk:az nZ ip (ai fm):=⟨rfl,rfl,rfl,by decide +kernel,rfl,by decide +kernel,by decide +kernel⟩
abbrev cL:Stmt:=top 76
abbrev kD:List Str:=["_law_text","_law_got","error"]
abbrev eJ:List Str:=["_law_text"]
theorem cx:az kD eJ (ai cL):=⟨rfl,rfl,rfl,by decide +kernel,rfl,by decide +kernel,by decide +kernel⟩
abbrev ka:Stmt:=top 77
abbrev Ek:List Str:=["_law_script","_law_deck_here","_law_row","_law_found","_law_table","_law_bottom","_law_text","_law_fractions_here"]
abbrev sF:List Str:=["_law_script"]
theorem mv:az Ek sF (ai ka):=⟨rfl,rfl,rfl,by decide +kernel,rfl,by decide +kernel,by decide +kernel⟩
structure Txt (K:PySem.W.Frag) (mg:Str→Option Value) (base:Heap):Prop where
  len_:mg "len" = none
  isinstance_:mg "isinstance" = none
  int_:mg "int" = none
  bool_:mg "bool" = none
  list_:mg "list" = none
  range_:mg "range" = none
  sum_:mg "sum" = none
  sorted_:mg "sorted" = none
  tuple_:mg "tuple" = none
  str_:mg "str" = none
  min_:mg "min" = none
  max_:mg "max" = none
  all_:mg "all" = none
  reversed_:mg "reversed" = none
  abs_:mg "abs" = none
  zip_:mg "zip" = none
  ValueError_:mg "ValueError" = none
  FIGURES_:∃t,mg "FIGURES" = some (Value.str "0123456789" t)
  MOST_:∃t,mg "MOST" = some (Value.int 8 t)
  MOST_FIGURES_:∃t,mg "MOST_FIGURES" = some (Value.int 30 t)
  PIECE_:∃t,mg "PIECE" = some (Value.int 1000000000000000000 t)
  PIECE_FIGURES_:∃t,mg "PIECE_FIGURES" = some (Value.int 18 t)
  lam_:L3.Fg K mg base
structure Fns (K:PySem.W.Frag) (mg:Str→Option Value):Prop where
  h_is_number:∃f fd,FnAt K mg "is_number" eA gD f fd
  h_is_place:∃f fd,FnAt K mg "is_place" e9 iu f fd
  h_check_bottom:∃f fd,FnAt K mg "check_bottom" cq dY f fd
  h_greatest_divisor:∃f fd,FnAt K mg "greatest_divisor" bo bX f fd
  h_divisor_of:∃f fd,FnAt K mg "divisor_of" dD fF f fd
  h_divided_row:∃f fd,FnAt K mg "divided_row" b9 eO f fd
  h_least_terms:∃f fd,zq K mg "least_terms" cj dH [.int 1] f fd
  h_read_table:∃f fd,FnAt K mg "read_table" bN fH f fd
  h_is_shaped:∃f fd,FnAt K mg "is_shaped" dy gw f fd
  h_is_written:∃f fd,FnAt K mg "is_written" cI fM f fd
  h_is_fraction:∃f fd,FnAt K mg "is_fraction" cf eM f fd
  h_without_sign:∃f fd,FnAt K mg "without_sign" cy dW f fd
  h_is_figures:∃f fd,FnAt K mg "is_figures" cG fL f fd
  h_is_lowest:∃f fd,FnAt K mg "is_lowest" ek gF f fd
  h_top_of:∃f fd,FnAt K mg "top_of" iR kP f fd
  h_bottom_of:∃f fd,FnAt K mg "bottom_of" ee gO f fd
  h_common_bottom:∃f fd,FnAt K mg "common_bottom" bS dq f fd
  h_raised_tops:∃f fd,FnAt K mg "raised_tops" b8 eQ f fd
  h_show_table:∃f fd,FnAt K mg "show_table" cF fG f fd
  h_shown_row:∃f fd,FnAt K mg "shown_row" dB gx f fd
  h_shown_fraction:∃f fd,FnAt K mg "shown_fraction" bF cR f fd
  h_shown_number:∃f fd,FnAt K mg "shown_number" cm dX f fd
  h_falling:∃f fd,FnAt K mg "falling" gA jz f fd
  h_falling_places:∃f fd,FnAt K mg "falling_places" bI cM f fd
  h_places_below:∃f fd,FnAt K mg "places_below" bJ dQ f fd
  h_heads_of:∃f fd,FnAt K mg "heads_of" fB ig f fd
  h_check_alike:∃f fd,FnAt K mg "check_alike" cK eK f fd
  h_first_head_above:∃f fd,FnAt K mg "first_head_above" bh bW f fd
  h_bar_of:∃f fd,FnAt K mg "bar_of" iQ kK f fd
  h_can_step:∃f fd,FnAt K mg "can_step" ff ik f fd
  h_step_made:∃f fd,FnAt K mg "step_made" eC gJ f fd
  h_steps_to:∃f fd,FnAt K mg "steps_to" fo iB f fd
  h_row_behind:∃f fd,FnAt K mg "row_behind" dC fC f fd
  h_evening_steps:∃f fd,FnAt K mg "evening_steps" bQ df f fd
  h_evening_step:∃f fd,FnAt K mg "evening_step" bK dZ f fd
  h_exchanges_to:∃f fd,FnAt K mg "exchanges_to" cu dU f fd
  h_exchange_step:∃f fd,FnAt K mg "exchange_step" bP cY f fd
  h_lead_to:∃f fd,FnAt K mg "lead_to" gG jB f fd
  h_plain_table:∃f fd,FnAt K mg "plain_table" ck eR f fd
  h_plain_row:∃f fd,FnAt K mg "plain_row" dA gH f fd
  h_led_table:∃f fd,FnAt K mg "led_table" dw gM f fd
  h_mixed_row:∃f fd,FnAt K mg "mixed_row" dG gE f fd
  h_law_whole:∃f fd,FnAt K mg "_law_whole" en gL f fd
  h_law_deck:∃f fd,FnAt K mg "_law_deck" fe iz f fd
  h_law_gcd:∃f fd,FnAt K mg "_law_gcd" gC jy f fd
  h_law_more_even:∃f fd,FnAt K mg "_law_more_even" bT du f fd
  h_law_fractions:∃f fd,FnAt K mg "_law_fractions" bR cZ f fd
  h_law_written:∃f fd,FnAt K mg "_law_written" cJ eP f fd
  h_law_read:∃f fd,FnAt K mg "_law_read" fm ip f fd
  h_law_refused:∃f fd,FnAt K mg "_law_refused" cL eJ f fd
  h_law:∃f fd,FnAt K mg "law" ka sF f fd
structure Cs where
  (MixError NoTable NoBottom NotAlike NoStep NoMix NotEven NoSwap NoBounds NoPlace NoSums TooGreat NoNumber NoText:Addr)
structure Exs (K:PySem.W.Frag) (mg:Str→Option Value) (base:Heap) (c:Cs):Prop where
  m_MixError:mg "MixError" = some (.ref c.MixError)
  m_NoTable:mg "NoTable" = some (.ref c.NoTable)
  m_NoBottom:mg "NoBottom" = some (.ref c.NoBottom)
  m_NotAlike:mg "NotAlike" = some (.ref c.NotAlike)
  m_NoStep:mg "NoStep" = some (.ref c.NoStep)
  m_NoMix:mg "NoMix" = some (.ref c.NoMix)
  m_NotEven:mg "NotEven" = some (.ref c.NotEven)
  m_NoSwap:mg "NoSwap" = some (.ref c.NoSwap)
  m_NoBounds:mg "NoBounds" = some (.ref c.NoBounds)
  m_NoPlace:mg "NoPlace" = some (.ref c.NoPlace)
  m_NoSums:mg "NoSums" = some (.ref c.NoSums)
  m_TooGreat:mg "TooGreat" = some (.ref c.TooGreat)
  m_NoNumber:mg "NoNumber" = some (.ref c.NoNumber)
  m_NoText:mg "NoText" = some (.ref c.NoText)
  o_MixError:dJ base c.MixError []
  o_NoBottom:dJ base c.NoBottom [c.MixError]
  k_NoBottom:PySem.W.B7 K c.NoBottom
  o_NoStep:dJ base c.NoStep [c.MixError]
  k_NoStep:PySem.W.B7 K c.NoStep
  o_NoText:dJ base c.NoText [c.MixError]
  k_NoText:PySem.W.B7 K c.NoText
  o_NotAlike:dJ base c.NotAlike [c.MixError]
  k_NotAlike:PySem.W.B7 K c.NotAlike
  t1:PySem.W.kitAny K (.ref c.NoText) ([c.NoTable,c.NoBottom,c.NotAlike,c.NoStep,c.NoMix,c.NotEven].map Value.ref)=some false
  t2:PySem.W.kitAny K (.ref c.NoText) ([c.NoSwap,c.NoBounds,c.NoPlace,c.NoSums,c.TooGreat,c.NoNumber].map Value.ref)=some false
  v_NoText:PySem.W.kitOne K (.ref c.NoText) (.type "ValueError")=some true
section
variable {P:Program}{w:World}{K:PySem.W.Frag}{mg:Str→Option Value}{base:Heap}
def iy:DSp:=fun ds P=>∃ns,ds=[dI ns]∧ns.length<64∧P (dI (iC ns))
theorem kR:bc iy:=by
  intro xs P P' k h
  unfold iy at h ⊢
  grind
theorem yl:∀ds P,iy ds P→ds.length=1:=by
  intro ds P h
  obtain ⟨_,e,_⟩:=h
  rw[e];rfl
theorem uz {f:Addr}{fd:FuncData} (F:FnAt K mg "falling" gA jz f fd) (A_:Fns K mg) (T:Txt K mg base) {c:Cs} (xs:Exs K mg base c):bE P w K mg base CX0 1 f fd jz (spP K iy):=by
  refine F.fn.ok Af (fun vs H Q E h=>aL yl h) (fun cdv A outer s H vs Q E hr h=>?_)
  refine⟨_,(aq (aB (Cj (rl (K:=K) rfl) (by rfl) T.sorted_ boot_sorted (af (pv 0) ak) (AY lX CV)))),aT (Γn:=[]) (N:=qv) (aD (M:=[]) (xD (ah (ES.er (aa 0)) ao))) (fun ds P hS=>?_) h⟩
  obtain ⟨ns,rfl,hl,hP⟩:=hS
  rw[show aG qv [dI ns]=[some (dI ns)] from rfl]
  walk_at "v"
  refine⟨hl,fun ms hp ho=>?_⟩
  rw[Bg hp ho]
  exact hP
def fD:DSp:=fun ds P=>∃ns:List Int,ds=[dI ns]∧ns.length<64∧∀ms:List Int,ms.Perm (lC ns.length)→ms.Pairwise (fun a b=>ns.getD b.toNat 0≤ns.getD a.toNat 0)→P (dI ms)
theorem nu:bc fD:=by
  intro xs P P' k h
  obtain ⟨ns,e,h64,h⟩:=h
  exact⟨ns,e,h64,fun ms h1 h2=>k _ (h ms h1 h2)⟩
theorem ot:∀ds P,fD ds P→ds.length=1:=by
  intro ds P h
  obtain ⟨_,e,_⟩:=h
  rw[e];rfl
theorem oD {f:Addr}{fd:FuncData} (F:FnAt K mg "falling_places" bI cM f fd) (A_:Fns K mg) (T:Txt K mg base) {c:Cs} (xs:Exs K mg base c):bE P w K mg base CX0 1 f fd cM (spP K fD):=by
  obtain ⟨c_,hfc_,hcd_,hbm_⟩:=T.lam_.of F
  refine L3.Fun.okL F.fn hfc_ pD (fun vs H Q E h=>aL ot h) (fun A outer s H vs Q E hr h=>?_)
  refine⟨_,(aq (aB (zO (K:=K) (i:=0) (cr:=s.heap.objs.size+1) rfl rfl rfl T.sorted_ rfl T.range_ (wln K T.len_ (pv 0)) (fun σ H Q a xs e hS q=>⟨_,e,_,_,rfl,.inl hS,q⟩) rfl (Or.inr (Or.inl rfl)) rfl rfl (by have:=hr.dp;show _<_;exact Nat.lt_of_le_of_lt (Nat.le_trans (Nat.le_add_right _ _) (Nat.le_add_right _ _)) this) rfl rfl hcd_ rfl rfl hbm_ (fun _ _ _ _=>rfl) rfl rfl (by decide +kernel) rfl rfl rfl (by decide) (by decide) (by decide)))),aT (Γn:=[]) (N:=iq) (aD (M:=[]) (z6 0)) (fun ds P hS=>?_) h⟩
  obtain ⟨ns,rfl,hl,hP⟩:=hS
  rw[show aG iq [dI ns]=[some (dI ns)] from rfl]
  walk_at "v"
  exact⟨ns,rfl,hl,hP⟩
def jd (one other:List Int):List Nat:=(List.range one.length).filter fun p=>decide (one.getD p 0<other.getD p 0)
def cS:DSp:=fun ds P=>∃one other,ds=[dI one,dI other]∧one.length≤1000∧one.length=other.length∧P (dI ((jd one other).map fun (p:Nat)=>(p:Int)))
theorem ia:bc cS:=by
  intro xs P P' k h
  unfold cS at h ⊢
  grind
theorem qp:∀ds P,cS ds P→ds.length=2:=by
  intro ds P h
  obtain ⟨_,_,e,_⟩:=h
  rw[e];rfl
theorem lV {f:Addr}{fd:FuncData} (F:FnAt K mg "places_below" bJ dQ f fd) (A_:Fns K mg) (T:Txt K mg base) {c:Cs} (xs:Exs K mg base c):bE P w K mg base CX0 1 f fd dQ (spP K cS):=by
  refine F.fn.ok qT (fun vs H Q E h=>aL qp h) (fun cdv A outer s H vs Q E hr h=>?_)
  refine⟨_,(aq (aB (wz rfl (bD.of (sc0:=(ai bJ)) (tn:=["place"]) (cap:=["one","other"]) (idx:=[0,1]) (by decide +kernel) rfl rfl) (ir rfl T.range_ (af (wln K T.len_ (pv 0)) ak)) (mR.name (by decide)) (fun _ _ _ _ _=>iI (i:=0) (cD (l:=["place","one","other"]) (by decide +kernel)) rfl (by first | exact Or.inl rfl | exact Or.inr rfl) (by first | exact .inl rfl | exact .inr rfl)) (fun _ _ _ _ _=>Bs (aR vj (wix K (pv 1) (pv 0)) (wix K (pv 2) (pv 0)) (aQ _))) (fun _ _ _ _ _=>(pv 0)) (by intro _;rfl)))),aT (Γn:=[]) (N:=jO) (aD (M:=[]) (wD (kY (ah (EM.er (aS eh (ah (ES.er (aa 0)) ao))) ao)) (aI 0) (aK (EM.er (aw jZ (ES.er (aW (aa 1) (ES.er (aa 0)))) (ES.er (aW (aa 2) (ES.er (aa 0))))))) (ER.bf (ES.er (aa 0))))) (fun ds P hS=>?_) h⟩
  obtain ⟨one,other,rfl,hl,he,hP⟩:=hS
  rw[show aG jO [dI one,dI other]=[some (dI one),some (dI other)] from rfl]
  walk_at "v"
  refine BI (lo:=0) (n:=one.length) (p:=fun p=>decide (one.getD p 0<other.getD p 0)) (g:=fun (p:Nat)=>.int (p:Int)) (fun R h=>?_) hl (fun i hi R h=>?_) ?_
  · walk_at "go";exact h
  · walk_at "gb"
    rw[Int.zero_add]
    refine aN (by omega) (aN (by omega) ?_)
    walk_at "gb"
    split
    · rename_i c
      rw[decide_eq_true c] at h
      exact h
    · rename_i c
      rw[decide_eq_false c] at h
      exact h
  · rw[lQ];exact hP
def kW (ns:List Int):List Int:=(List.range ns.length).map fun (i:Nat)=>Maj.nk ns (i+1)
theorem kQ {ns:List Int}:(kW ns).length=ns.length:=by unfold kW;rw[List.length_map,List.length_range]
theorem wa {ns:List Int}{i:Nat} (h:i<ns.length):(kW ns).getD i 0=Maj.nk ns (i+1):=by
  unfold kW
  rw[List.getD_eq_getElem?_getD,List.getElem?_map,List.getElem?_range h];rfl
def iA:DSp:=fun ds P=>∃ns,ds=[dI ns]∧ns.length<64∧P (dI (kW ns))
theorem nE:bc iA:=by
  intro xs P P' k h
  unfold iA at h ⊢
  grind
theorem wG:∀ds P,iA ds P→ds.length=1:=by
  intro ds P h
  obtain ⟨_,e,_⟩:=h
  rw[e];rfl
theorem x3 {f:Addr}{fd:FuncData} (F:FnAt K mg "heads_of" fB ig f fd) (A_:Fns K mg) (T:Txt K mg base) {c:Cs} (xs:Exs K mg base c):bE P w K mg base CX0 2 f fd ig (spP K iA):=by
  obtain ⟨f0,d0,E_falling⟩:=A_.h_falling
  have G_falling:=uz (P:=P) (w:=w) E_falling A_ T xs
  refine F.fn.ok iM (fun vs H Q E h=>aL wG h) (fun cdv A outer s H vs Q E hr h=>?_)
  refine⟨_,(aj (wst 1 iM.nd (m4 ak)) (aj (wst 2 iM.nd av) (aj (wfo (wil K (wcl G_falling hr E_falling (af (pv 0) ak))) (wpg 3 iM.nd) (aj (wst 2 iM.nd (aJ i6 (pv 2) (pv 3))) (aq (gU (ie PySem.F.plainAttrs_list PySem.F.slot_list_append PySem.F.type_list_append gz (pv 1) (af (pv 2) ak)))))) (aq (aB (pv 1)))))),aT (Γn:=[1]) (N:=nG) (au (ST.post (Γn:=[1]) (bU (M:=[]) 1 (mf eV))) (au (ST.post (Γn:=[1]) (aF 2 (EM.es ar))) (au (fO (br (EM.es (aA (S:=iy) kR (ah (ES.er (aa 0)) ao)))) (aI 3) (au (ST.post (Γn:=[1]) (aF 2 (EM.es (aw fz (ES.er (aa 2)) (ES.er (aa 3)))))) (ST.post (Γn:=[1]) (gB (M:=[]) 1 (ER.bf (ES.er (aa 2))))))) (aD (M:=[1]) (fN 1))))) (fun ds P hS=>?_) h⟩
  obtain ⟨ns,rfl,hl,hP⟩:=hS
  rw[show aG nG [dI ns]=[some (dI ns),none,none,none] from rfl]
  walk_at "go"
  refine⟨ns,rfl,hl,?_⟩
  walk_at "v"
  have hfl:=bO ns
  refine dF (as:=iC ns) (f:=L3.D.int) (fun i δ=>∃o3:Option D,δ=[some (dI ns),some (dI ((List.range i).map fun (j:Nat)=>Maj.nk ns (j+1))),some (.int (Maj.nk ns i)),o3]) ⟨none,rfl⟩ ?_ ?_
  · rintro i a δ N e ⟨o3,rfl⟩ hN
    obtain ⟨h1,h2⟩:=List.getElem?_eq_some_iff.mp e
    have et:Maj.nk ns i+a=Maj.nk ns (i+1):=by
      unfold Maj.nk
      rw[List.take_add_one,e,List.sum_append];simp
    walk_at "go"
    rw[et,BA]
    have er:(List.range (i+1)).map (fun (j:Nat)=>Maj.nk ns (j+1))=(List.range i).map (fun (j:Nat)=>Maj.nk ns (j+1))++[Maj.nk ns (i+1)]:=by rw[List.range_succ,List.map_append];rfl
    exact⟨by rw[List.length_range];omega,hN _ ⟨some (.int a),by rw[er]⟩⟩
  · rintro δ ⟨o3,rfl⟩
    walk_at "v"
    rw[hfl]
    exact hP
def Alike (one other:List Int):Prop:=one.length=other.length∧one.sum=other.sum
def iF (c:Cs):DSX:=fun ds P R=>∃one other,ds=[dI one,dI other]∧(Alike one other→P .non)∧(¬ Alike one other→R c.NotAlike)
theorem pY {c:Cs}:gu (iF c):=by
  intro xs P P' R R' k kr h
  obtain ⟨one,other,e,h1,h2⟩:=h
  exact⟨one,other,e,fun z=>k _ (h1 z),fun z=>kr _ (h2 z)⟩
theorem rh {c:Cs}:∀ds P R,iF c ds P R→ds.length=2:=by
  intro ds P R h
  unfold iF at h
  grind
theorem sM {f:Addr}{fd:FuncData} (F:FnAt K mg "check_alike" cK eK f fd) (A_:Fns K mg) (T:Txt K mg base) {c:Cs} (xs:Exs K mg base c):bE P w K mg base (CXR P w) 1 f fd eK (spX K (iF c)):=by
  refine F.fn.okX sN (fun vs H Q E h=>js rh h) (fun cdv A outer s H vs Q E hr h=>?_)
  refine⟨_,(aj (cU (PT.nox (aR jF (wln K T.len_ (pv 0)) (wln K T.len_ (pv 1)) (aQ _))) (aq (kL (xs.o_NotAlike.own xs.m_NotAlike) PySem.F.excBase_ValueError rfl rfl m8 (af bA ak))) aU) (aj (cU (PT.nox (aR jF (aO (m9 (K:=K) rfl rfl) (by rfl) T.sum_ boot_sum (af (pv 0) ak)) (aO (m9 (K:=K) rfl rfl) (by rfl) T.sum_ boot_sum (af (pv 1) ak)) (aQ _))) (aq (kL (xs.o_NotAlike.own xs.m_NotAlike) PySem.F.excBase_ValueError rfl rfl m8 (af bA ak))) aU)
      aU)),jr (Γn:=[]) (N:=kE) (fun R=>(jb (vF (aK (EM.er (aw nJ (EM.er (aS eh (ah (ES.er (aa 0)) ao))) (EM.er (aS eh (ah (ES.er (aa 1)) ao)))))) (kG (ah (EM.er bq) ao)) (ST.sx aX)) (jb (vF (aK (EM.er (aw nJ (EM.er (aS AN (ah (ES.er (aa 0)) ao))) (EM.er (aS AN (ah (ES.er (aa 1)) ao)))))) (kG (ah (EM.er bq) ao)) (ST.sx aX)) (ST.sx aX)))) (fun ds P R hS=>?_) h⟩
  obtain ⟨one,other,rfl,hP,hR⟩:=hS
  rw[show aG kE [dI one,dI other]=[some (dI one),some (dI other)] from rfl]
  walk_at "v"
  by_cases h1:one.length=other.length
  · rw[if_neg (fun z=>z (by rw[h1]))]
    walk_at "v"
    by_cases h2:one.sum=other.sum
    · rw[if_neg (fun z=>z h2)]
      exact hP ⟨h1,h2⟩
    · rw[if_pos h2]
      walk_at "go"
      exact hR fun z=>h2 z.2
  · rw[if_pos (fun z=>h1 (by omega))]
    walk_at "go"
    exact hR fun z=>h1 z.1
def oY (one other:List Int):D:=match Maj.above one other with | []=>.non | p::_=>.int ((p:Int)+1)
theorem yv {one other:List Int} (h:one.length=other.length):jd (kW other) (kW one)=Maj.above one other:=by
  unfold jd Maj.above
  rw[kQ,h]
  refine List.filter_congr fun p hp=>?_
  have:=List.mem_range.mp hp
  rw[wa (by omega),wa (by omega)]
def cT:DSp:=fun ds P=>∃one other,ds=[dI one,dI other]∧one.length<64∧one.length=other.length∧P (oY one other)
theorem lZ:bc cT:=by
  intro xs P P' k h
  unfold cT at h ⊢
  grind
theorem mw:∀ds P,cT ds P→ds.length=2:=by
  intro ds P h
  obtain ⟨_,_,e,_⟩:=h
  rw[e];rfl
theorem nj {f:Addr}{fd:FuncData} (F:FnAt K mg "first_head_above" bh bW f fd) (A_:Fns K mg) (T:Txt K mg base) {c:Cs} (xs:Exs K mg base c):bE P w K mg base CX0 3 f fd bW (spP K cT):=by
  obtain ⟨f0,d0,E_places_below⟩:=A_.h_places_below
  have G_places_below:=lV (P:=P) (w:=w) E_places_below A_ T xs
  obtain ⟨f1,d1,E_heads_of⟩:=A_.h_heads_of
  have G_heads_of:=x3 (P:=P) (w:=w) E_heads_of A_ T xs
  refine F.fn.ok ji (fun vs H Q E h=>aL mw h) (fun cdv A outer s H vs Q E hr h=>?_)
  refine⟨_,(aj (wst 2 ji.nd (wcl G_places_below hr E_places_below (af (wcl G_heads_of hr E_heads_of (af (pv 1) ak)) (af (wcl G_heads_of hr E_heads_of (af (pv 0) ak)) ak)))) (aj (cU (aR (Io hr.units) (pv 2) (m4 ak) (aQ _)) (aq (aB EK)) aU) (aq (aB (aJ i6 (wix K (pv 2) av) av))))),aT (Γn:=[]) (N:=gm) (au (ST.post (Γn:=[]) (aF 2 (EM.es (aA (S:=cS) ia (ah (EM.er (aA (S:=iA) nE (ah (ES.er (aa 1)) ao))) (ah (EM.er (aA (S:=iA) nE (ah (ES.er (aa 0)) ao))) ao)))))) (au (fj (aK (EM.er (aw Ja (ES.er (aa 2)) (EM.er (mf eV))))) (aD (M:=[]) CO) aX) (aD (M:=[]) (aw fz (ES.er (aW (aa 2) (EM.er ar))) (EM.er ar))))) (fun ds P hS=>?_) h⟩
  obtain ⟨one,other,rfl,hl,he,hP⟩:=hS
  rw[show aG gm [dI one,dI other]=[some (dI one),some (dI other),none] from rfl]
  walk_at "v"
  refine⟨other,rfl,by omega,⟨one,rfl,hl,?_⟩⟩
  refine⟨kW other,kW one,rfl,by rw[kQ];omega,by rw[kQ,kQ,he],?_⟩
  rw[yv he]
  unfold oY at hP
  walk_at "go"
  refine vB (ys:=[]) ?_
  walk_at "v"
  cases e:Maj.above one other with
  | nil =>
    rw[e] at hP
    rw[if_pos (by rfl)]
    exact hP
  | cons p ps =>
    rw[e] at hP
    rw[if_neg (by simp)]
    walk_at "v"
    rw[List.map_cons,List.map_cons]
    walk_at "v"
    exact hP
def pH (c:Cs):DSX:=fun ds P R=>∃one other,ds=[dI one,dI other]∧one.length<64∧(Alike one other→P (oY one other))∧(¬ Alike one other→R c.NotAlike)
theorem y9 {c:Cs}:gu (pH c):=by
  intro xs P P' R R' k kr h
  obtain ⟨one,other,e,hl,h1,h2⟩:=h
  exact⟨one,other,e,hl,fun z=>k _ (h1 z),fun z=>kr _ (h2 z)⟩
theorem zu {c:Cs}:∀ds P R,pH c ds P R→ds.length=2:=by
  intro ds P R h
  unfold pH at h
  grind
theorem Cd {f:Addr}{fd:FuncData} (F:FnAt K mg "bar_of" iQ kK f fd) (A_:Fns K mg) (T:Txt K mg base) {c:Cs} (xs:Exs K mg base c):bE P w K mg base (CXR P w) 4 f fd kK (spX K (pH c)):=by
  obtain ⟨f0,d0,E_check_alike⟩:=A_.h_check_alike
  have G_check_alike:=sM (P:=P) (w:=w) E_check_alike A_ T xs
  obtain ⟨f1,d1,E_first_head_above⟩:=A_.h_first_head_above
  have G_first_head_above:=nj (P:=P) (w:=w) E_first_head_above A_ T xs
  refine F.fn.okX BX (fun vs H Q E h=>js zu h) (fun cdv A outer s H vs Q E hr h=>?_)
  refine⟨_,(aj (gU (eY G_check_alike (hr.mono (by decide)) rfl E_check_alike.mg E_check_alike.fn.kp E_check_alike.bd .nil rR (PA.nox (af (pv 0) (af (pv 1) ak))))) (PSs.nox (aq (aB (wcl G_first_head_above hr E_first_head_above (af (pv 0) (af (pv 1) ak))))))),jr (Γn:=[]) (N:=si) (fun R=>(jb (xM pY (ah (ES.er (aa 0)) (ah (ES.er (aa 1)) ao))) (ST.sx (aD (M:=[]) (aA (S:=cT) lZ (ah (ES.er (aa 0)) (ah (ES.er (aa 1)) ao))))))) (fun ds P R hS=>?_) h⟩
  obtain ⟨one,other,rfl,hl,hP,hR⟩:=hS
  rw[show aG si [dI one,dI other]=[some (dI one),some (dI other)] from rfl]
  walk_at "v"
  refine⟨one,other,rfl,fun h=>?_,hR⟩
  walk_at "v"
  exact⟨one,other,rfl,hl,h.1,hP h⟩
def iW:DSp:=fun ds P=>∃d,ds=[d]∧kn d=true∧P (.bl (isNum d))
theorem tO:bc iW:=by
  intro xs P P' k h
  unfold iW at h ⊢
  grind
theorem uY:∀ds P,iW ds P→ds.length=1:=by
  intro ds P h
  obtain ⟨_,e,_⟩:=h
  rw[e];rfl
theorem xq {f:Addr}{fd:FuncData} (F:FnAt K mg "is_number" eA gD f fd) (A_:Fns K mg) (T:Txt K mg base) {c:Cs} (xs:Exs K mg base c):bE P w K mg base CX0 1 f fd gD (spP K iW):=by
  refine F.fn.ok xm (fun vs H Q E h=>aL uY h) (fun cdv A outer s H vs Q E hr h=>?_)
  refine⟨_,(aq (aB (An (aO (b7 (K:=K) rfl) (by rfl) T.isinstance_ boot_isinstance (af (pv 0) (af (gP (v:=.ty "int") rfl T.int_ boot_int rfl) ak))) (sA (Di (aO (b7 (K:=K) rfl) (by rfl) T.isinstance_ boot_isinstance (af (pv 0) (af (gP (v:=.ty "bool") rfl T.bool_ boot_bool rfl) ak)))))))),aT (Γn:=[]) (N:=ml) (aD (M:=[]) (wM (EM.er (eN Ba (ES.er (aa 0)))) (BD (EM.er (eN y0 (ES.er (aa 0))))))) (fun ds P hS=>?_) h⟩
  obtain ⟨d,rfl,hk,hP⟩:=hS
  rw[show aG ml [d]=[some (d)] from rfl]
  cases d with
  | scr ns=>cases hk
  | pin a d=>cases hk
  | mem φ=>cases hk
  | raw w=>cases hk
  | ins a b c=>cases hk
  | _=>walk_at "v";exact hP
def il:DSp:=fun ds P=>∃x m,ds=[.int x,.int m]∧P (.bl (decide (0≤x∧x<m)))
theorem nB:bc il:=by
  intro xs P P' k h
  unfold il at h ⊢
  grind
theorem xk:∀ds P,il ds P→ds.length=2:=by
  intro ds P h
  obtain ⟨_,_,e,_⟩:=h
  rw[e];rfl
theorem yY {f:Addr}{fd:FuncData} (F:FnAt K mg "is_place" e9 iu f fd) (A_:Fns K mg) (T:Txt K mg base) {c:Cs} (xs:Exs K mg base c):bE P w K mg base CX0 1 f fd iu (spP K il):=by
  refine F.fn.ok yf (fun vs H Q E h=>aL xk h) (fun cdv A outer s H vs Q E hr h=>?_)
  refine⟨_,(aq (aB (x4 zo vj av (pv 0) (pv 1)))),aT (Γn:=[]) (N:=nS) (aD (M:=[]) (sv jZ jZ (EM.er ar) (ES.er (aa 0)) (ES.er (aa 1)))) (fun ds P hS=>?_) h⟩
  obtain ⟨x,m,rfl,hP⟩:=hS
  rw[show aG nS [.int x,.int m]=[some (.int x),some (.int m)] from rfl]
  walk_at "v"
  split
  · rename_i c
    have e:decide (0≤x∧x<m)=decide (x<m):=by rw[Bool.eq_iff_iff,decide_eq_true_eq,decide_eq_true_eq];exact⟨fun z=>z.2,fun z=>⟨c,z⟩⟩
    rw[e] at hP
    exact hP
  · rename_i c
    rw[decide_eq_false (fun z=>c z.1)] at hP
    exact hP
def ix (xs:List Int) (g t a:Int):Prop:=0≤g∧g<xs.length∧0≤t∧t<xs.length∧1≤a∧a≤xs.getD g.toNat 0 - xs.getD t.toNat 0
instance {xs:List Int}{g t a:Int}:Decidable (ix xs g t a):=by unfold ix;infer_instance
def dS (g t a:Int):D:=.tup [.int g,.int t,.int a]
def jY:DSp:=fun ds P=>∃xs g t a,ds=[dI xs,dS g t a]∧P (.bl (decide (ix xs g t a)))
theorem u3:bc jY:=by
  intro xs P P' k h
  unfold jY at h ⊢
  grind
theorem xF:∀ds P,jY ds P→ds.length=2:=by
  intro ds P h
  obtain ⟨_,_,_,_,e,_⟩:=h
  rw[e];rfl
theorem x5 {f:Addr}{fd:FuncData} (F:FnAt K mg "can_step" ff ik f fd) (A_:Fns K mg) (T:Txt K mg base) {c:Cs} (xs:Exs K mg base c):bE P w K mg base CX0 2 f fd ik (spP K jY):=by
  obtain ⟨f0,d0,E_is_place⟩:=A_.h_is_place
  have G_is_place:=yY (P:=P) (w:=w) E_is_place A_ T xs
  refine F.fn.ok mn (fun vs H Q E h=>aL xF h) (fun cdv A outer s H vs Q E hr h=>?_)
  refine⟨_,(aj (wst 2 mn.nd (wit K (pv 1) av)) (aj (wst 3 mn.nd (wit K (pv 1) av)) (aj (cU (PW.pt (jj (fv (eE (wcl G_is_place hr E_is_place (af (pv 2) (af (wln K T.len_ (pv 0)) ak))))) (i3 (fv (eE (wcl G_is_place hr E_is_place (af (pv 3) (af (wln K T.len_ (pv 0)) ak)))))))) (aq (aB lX)) aU) (aq (aB (x4 zo zo av (wit K (pv 1) av) (aJ jX (wix K (pv 0) (pv 2)) (wix K (pv 0) (pv 3))))))))),aT (Γn:=[]) (N:=og) (au (ST.post (Γn:=[]) (aF 2 (bM (aa 1) (EM.er ar)))) (au (ST.post (Γn:=[]) (aF 3 (bM (aa 1) (EM.er ar)))) (au (fj (jm (fh (mC (EM.er (aA (S:=il) nB (ah (ES.er (aa 2)) (ah (EM.er (aS eh (ah (ES.er (aa 0)) ao))) ao)))))) (fh (mC (EM.er (aA (S:=il) nB (ah (ES.er (aa 3)) (ah (EM.er (aS eh (ah (ES.er (aa 0)) ao))) ao))))))) (aD (M:=[]) mT) aX) (aD (M:=[]) (sv jZ jZ (EM.er ar) (ES.er (bM (aa 1) (EM.er ar))) (EM.er (aw fz (ES.er (aW (aa 0) (ES.er (aa 2)))) (ES.er (aW (aa 0) (ES.er (aa 3))))))))))) (fun ds P hS=>?_) h⟩
  obtain ⟨xs,g,t,a,rfl,hP⟩:=hS
  rw[show aG og [dI xs,dS g t a]=[some (dI xs),some (dS g t a),none,none] from rfl]
  unfold dS
  walk_at "v"
  refine⟨_,_,rfl,?_⟩
  by_cases hg:0≤g∧g<(xs.length:Int)
  · rw[decide_eq_true hg]
    walk_at "v"
    refine⟨_,_,rfl,?_⟩
    by_cases ht:0≤t∧t<(xs.length:Int)
    · rw[decide_eq_true ht]
      walk_at "v"
      split
      · rename_i ha
        refine aN hg (aN ht ?_)
        walk_at "v"
        have e:decide (ix xs g t a)=decide (a≤xs.getD g.toNat 0 - xs.getD t.toNat 0):=by
          rw[Bool.eq_iff_iff,decide_eq_true_eq,decide_eq_true_eq]
          exact⟨fun z=>z.2.2.2.2.2,fun z=>⟨hg.1,hg.2,ht.1,ht.2,ha,z⟩⟩
        rw[e] at hP;exact hP
      · rename_i ha
        rw[decide_eq_false (fun z=>ha z.2.2.2.2.1)] at hP;exact hP
    · rw[decide_eq_false ht]
      walk_at "v"
      rw[decide_eq_false (fun z=>ht ⟨z.2.2.1,z.2.2.2.1⟩)] at hP;exact hP
  · rw[decide_eq_false hg]
    walk_at "v"
    rw[decide_eq_false (fun z=>hg ⟨z.1,z.2.1⟩)] at hP;exact hP
def ke (c:Cs):DSX:=fun ds P R=>∃xs g t a,ds=[dI xs,dS g t a]∧(ix xs g t a→P (dI (Maj.aV xs g.toNat t.toNat a)))∧(¬ ix xs g t a→R c.NoStep)
theorem gX {c:Cs}:gu (ke c):=by
  intro xs P P' R R' k kr h
  obtain ⟨ys,g,t,a,e,h1,h2⟩:=h
  exact⟨ys,g,t,a,e,fun z=>k _ (h1 z),fun z=>kr _ (h2 z)⟩
theorem uI {c:Cs}:∀ds P R,ke c ds P R→ds.length=2:=by
  intro ds P R h
  unfold ke at h
  grind
theorem ju {f:Addr}{fd:FuncData} (F:FnAt K mg "step_made" eC gJ f fd) (A_:Fns K mg) (T:Txt K mg base) {c:Cs} (xs:Exs K mg base c):bE P w K mg base (CXR P w) 3 f fd gJ (spX K (ke c)):=by
  obtain ⟨f0,d0,E_can_step⟩:=A_.h_can_step
  have G_can_step:=x5 (P:=P) (w:=w) E_can_step A_ T xs
  refine F.fn.okX oG (fun vs H Q E h=>js uI h) (fun cdv A outer s H vs Q E hr h=>?_)
  refine⟨_,(aj (cU (PT.nox (fv (eE (wcl G_can_step hr E_can_step (af (pv 0) (af (pv 1) ak)))))) (aq (kL (xs.o_NoStep.own xs.m_NoStep) PySem.F.excBase_ValueError rfl rfl m8 (af bA ak))) aU) (PSs.nox (aj (wst 2 oG.nd (cO (nM (K:=K) rfl) (by rfl) T.list_ boot_list (af (pv 0) ak))) (aj (oq (aJ jX (wix K (pv 2) (wit K (pv 1) av)) (wit K (pv 1) av)) (pR (pv 2) (wit K (pv 1) av) set_list)) (aj (oq (aJ i6 (wix K (pv 2) (wit K (pv 1) av)) (wit K (pv 1) av)) (pR (pv 2) (wit K (pv 1) av) set_list)) (aq (aB (pv 2)))))))),jr (Γn:=[2]) (N:=mF) (fun R=>(jb (vF (fh (mC (EM.er (aA (S:=jY) u3 (ah (ES.er (aa 0)) (ah (ES.er (aa 1)) ao)))))) (kG (ah (EM.er bq) ao)) (ST.sx aX)) (ST.sx (au (ST.post (Γn:=[2]) (bU (M:=[]) 2 (aS zx (ah (ES.er (aa 0)) ao)))) (au (ij 2 (aw fz (kZ (cH 2) (ES.er (bM (aa 1) (EM.er ar)))) (ES.er (bM (aa 1) (EM.er ar)))) (ES.er (bM (aa 1) (EM.er ar)))) (au (ij 2 (aw fz (kZ (cH 2) (ES.er (bM (aa 1) (EM.er ar)))) (ES.er (bM (aa 1) (EM.er ar)))) (ES.er (bM (aa 1) (EM.er ar)))) (aD (M:=[2]) (fN 2)))))))) (fun ds P R hS=>?_) h⟩
  obtain ⟨xs,g,t,a,rfl,hP,hR⟩:=hS
  rw[show aG mF [dI xs,dS g t a]=[some (dI xs),some (dS g t a),none] from rfl]
  walk_at "v"
  refine⟨xs,g,t,a,rfl,?_⟩
  by_cases h:ix xs g t a
  · rw[decide_eq_true h]
    obtain ⟨g1,g2,t1,t2,a1,a2⟩:=id h
    have hP:=hP h
    walk_at "go"
    refine jo (r:=xs) (a:=g) (v:=xs.getD g.toNat 0 - a) rfl (fun R h=>?_) (fun R h=>?_) (by omega) ?_
    · unfold dS
      walk_at "v"
      refine aN (by omega) ?_
      walk_at "v"
      exact h
    · unfold dS
      walk_at "v"
      exact h
    · walk_at "v"
      refine jo (r:=xs.set g.toNat (xs.getD g.toNat 0 - a)) (a:=t) (v:=(xs.set g.toNat (xs.getD g.toNat 0 - a)).getD t.toNat 0+a) rfl (fun R h=>?_) (fun R h=>?_) (by rw[List.length_set];omega) ?_
      · unfold dS
        walk_at "v"
        refine aN (by rw[List.length_set];omega) ?_
        walk_at "v"
        exact h
      · unfold dS
        walk_at "v"
        exact h
      · walk_at "v"
        exact hP
  · rw[decide_eq_false h]
    walk_at "go"
    exact hR h
def exS (xs:List Int) (p q:Nat):D:=if xs.getD q 0<xs.getD p 0 then dS p q (xs.getD p 0 - xs.getD q 0) else dS q p (xs.getD q 0 - xs.getD p 0)
def eG:DSp:=fun ds P=>∃(xs:List Int) (p q:Nat),ds=[dI xs,.int p,.int q]∧p<xs.length∧q<xs.length∧P (exS xs p q)
theorem nF:bc eG:=by
  intro xs P P' k h
  unfold eG at h ⊢
  grind
theorem oU:∀ds P,eG ds P→ds.length=3:=by
  intro ds P h
  obtain ⟨_,_,_,e,_⟩:=h
  rw[e];rfl
theorem qd {f:Addr}{fd:FuncData} (F:FnAt K mg "exchange_step" bP cY f fd) (A_:Fns K mg) (T:Txt K mg base) {c:Cs} (xs:Exs K mg base c):bE P w K mg base CX0 1 f fd cY (spP K eG):=by
  refine F.fn.ok qk (fun vs H Q E h=>aL oU h) (fun cdv A outer s H vs Q E hr h=>?_)
  refine⟨_,(aj (cU (aR qQ (wix K (pv 0) (pv 1)) (wix K (pv 0) (pv 2)) (aQ _)) (aq (aB (iY (af (pv 1) (af (pv 2) (af (aJ jX (wix K (pv 0) (pv 1)) (wix K (pv 0) (pv 2))) ak)))))) aU) (aq (aB (iY (af (pv 2) (af (pv 1) (af (aJ jX (wix K (pv 0) (pv 2)) (wix K (pv 0) (pv 1))) ak))))))),aT (Γn:=[]) (N:=i8) (au (fj (aK (EM.er (aw jZ (ES.er (aW (aa 0) (ES.er (aa 1)))) (ES.er (aW (aa 0) (ES.er (aa 2))))))) (aD (M:=[]) (kq (bV (ER.bf (ES.er (aa 1))) (bV (ER.bf (ES.er (aa 2))) (bV (aw fz (ES.er (aW (aa 0) (ES.er (aa 1)))) (ES.er (aW (aa 0) (ES.er (aa 2))))) eV))))) aX) (aD (M:=[]) (kq (bV (ER.bf (ES.er (aa 2))) (bV (ER.bf (ES.er (aa 1))) (bV (aw fz (ES.er (aW (aa 0) (ES.er (aa 2)))) (ES.er (aW (aa 0) (ES.er (aa 1))))) eV)))))) (fun ds P hS=>?_) h⟩
  obtain ⟨xs,p,q,rfl,hp,hq,hP⟩:=hS
  rw[show aG i8 [dI xs,.int p,.int q]=[some (dI xs),some (.int p),some (.int q)] from rfl]
  unfold exS at hP
  walk_at "go"
  refine aN (by omega) ?_
  refine aN (by omega) ?_
  rw[Int.toNat_natCast,Int.toNat_natCast]
  walk_at "go"
  by_cases h:xs.getD q 0<xs.getD p 0
  · rw[if_pos h] at hP ⊢
    refine aN (by omega) ?_
    refine aN (by omega) ?_
    rw[Int.toNat_natCast,Int.toNat_natCast]
    walk_at "go"
    exact hP
  · rw[if_neg h] at hP ⊢
    refine aN (by omega) ?_
    refine aN (by omega) ?_
    rw[Int.toNat_natCast,Int.toNat_natCast]
    walk_at "go"
    exact hP
def Sg (m:Nat) (f:Nat→Int):Int:=((List.range m).map f).sum
theorem m7 {f:Nat→Int}:Sg 0 f=0:=rfl
theorem bZ {m:Nat}{f:Nat→Int}:Sg (m+1) f=Sg m f+f m:=by
  unfold Sg
  rw[List.range_succ,List.map_append,List.sum_append]
  simp
theorem bG {m:Nat}{f g:Nat→Int} (h:∀j,j<m→f j=g j):Sg m f=Sg m g:=by
  unfold Sg
  exact congrArg List.sum (List.map_congr_left fun j hj=>h j (List.mem_range.mp hj))
theorem DN {f g:Nat→Int}:∀{m:Nat},Sg m (fun j=>f j+g j)=Sg m f+Sg m g
  | 0=>rfl
  | m+1=>by rw[bZ,bZ,bZ,DN];omega
theorem DM {f g:Nat→Int}:∀{m:Nat},(∀j,j<m→f j≤g j)→Sg m f≤Sg m g
  | 0,_=>Int.le_refl _
  | m+1,h=>by
    rw[bZ,bZ]
    have:=DM (m:=m) fun j hj=>h j (by omega)
    have:=h m (by omega)
    omega
theorem vm:∀{m:Nat},Sg m (fun _=>0)=0
  | 0=>rfl
  | m+1=>by rw[bZ,vm];rfl
theorem wK {f:Nat→Int}{p:Nat}{v:Int}:∀{m:Nat},p<m→Sg m (fun j=>if j=p then v else f j)=Sg m f+v - f p
  | 0,h=>by omega
  | m+1,h=>by
    rw[bZ,bZ]
    by_cases e:p=m
    · subst e
      rw[if_pos rfl,bG (g:=f) fun j hj=>if_neg (by omega)]
      omega
    · rw[if_neg (fun z=>e z.symm),wK (by omega)]
      omega
structure Dom (n:Nat) (g x:Nat→Int):Prop where
  le:∀k,k≤n→Sg k g≤Sg k x
  eq:Sg n g=Sg n x
def Fal (n:Nat) (x:Nat→Int):Prop:=∀i,i+1<n→x (i+1)≤x i
theorem Fal.to {n:Nat}{x:Nat→Int} (h:Fal n x) {i:Nat}:∀{j:Nat},i≤j→j<n→x j≤x i
  | 0, h1, h2 => by have : i = 0 := by omega
                    subst this;exact Int.le_refl _
  | j+1,h1,h2=>by
    by_cases e:i=j+1
    · subst e;exact Int.le_refl _
    · exact Int.le_trans (h j h2) (h.to (j:=j) (by omega) (by omega))
theorem qH {g x:Nat→Int}:∀{n:Nat},(∀j,j<n→x j≤g j)→Sg n g≤Sg n x→∀j,j<n→x j=g j
  | 0,_,_,j,hj=>by omega
  | n+1,h,e,j,hj=>by
    rw[bZ,bZ] at e
    have h1:=DM (m:=n) (f:=x) (g:=g) fun j hj=>h j (by omega)
    have h2:=h n (by omega)
    by_cases q:j=n
    · subst q;omega
    · exact qH (n:=n) (fun j hj=>h j (by omega)) (by omega) j (by omega)
theorem mZ {f:Nat→Int}{a:Nat}:∀{b:Nat},Sg (a+b) f=Sg a f+Sg b fun j=>f (a+j)
  | 0=>by rw[m7];simp
  | b+1=>by rw[← Nat.add_assoc,bZ,bZ,mZ];omega
structure Gives (n:Nat) (g x:Nat→Int) (p t:Nat):Prop where
  pt:p<t
  tn:t<n
  gp:g p<x p
  gt:x t<g t
  mid:∀j,p<j→j<t→x j=g j
theorem FY {P:Nat→Prop} [DecidablePred P]:∀{n:Nat},(∃j,j<n∧P j)→∃p,p<n∧P p∧∀j,p<j→j<n→¬ P j
  | 0,h=>by obtain ⟨j,hj,_⟩:=h;omega
  | n+1,h=>by
    by_cases q:P n
    · exact⟨n,by omega,q,fun j h1 h2=>by omega⟩
    · obtain ⟨j,hj,pj⟩:=h
      have:j≠n:=fun z=>q (z▸pj)
      obtain ⟨p,h1,h2,h3⟩:=FY (n:=n) ⟨j,by omega,pj⟩
      refine⟨p,by omega,h2,fun k k1 k2=>?_⟩
      by_cases e:k=n
      · subst e;exact q
      · exact h3 k k1 (by omega)
theorem Dom.giver {n:Nat}{g x:Nat→Int} (h:Dom n g x) (hne:∃j,j<n∧x j≠g j):∃p,p<n∧g p<x p:=by
  apply Classical.byContradiction
  intro z
  obtain ⟨j,hj,e⟩:=hne
  refine e (qH (fun j hj=>?_) (by rw[h.eq];exact Int.le_refl _) j hj)
  have:¬ g j<x j:=fun q=>z ⟨j,hj,q⟩
  omega
theorem Dom.taker {n p:Nat}{g x:Nat→Int} (h:Dom n g x) (hp:p<n) (gp:g p<x p):∃t,p<t∧t<n∧x t<g t:=by
  apply Classical.byContradiction
  intro z
  have h1:=h.le p (by omega)
  have h2:=h.eq
  obtain ⟨b,rfl⟩:∃b,n=(p+1)+b:=⟨n - (p+1),by omega⟩
  rw[mZ (f:=g) (a:=p+1) (b:=b),mZ (f:=x) (a:=p+1) (b:=b),bZ (f:=g) (m:=p),bZ (f:=x) (m:=p)] at h2
  have h3:=DM (m:=b) (f:=fun j=>g (p+1+j)) (g:=fun j=>x (p+1+j)) fun j hj=>by
    have:¬ x (p+1+j)<g (p+1+j):=fun q=>z ⟨p+1+j,by omega,by omega,q⟩
    show g (p+1+j)≤x (p+1+j)
    omega
  omega
theorem Dom.gives {n p t:Nat}{g x:Nat→Int} (hp:p<n) (gp:g p<x p) (last:∀j,p<j→j<n→¬ g j<x j) (pt:p<t) (tn:t<n) (gt:x t<g t) (first:∀j,p<j→j<t→¬ x j<g j):Gives n g x p t :=
  ⟨pt,tn,gp,gt,fun j h1 h2=>by have:=last j h1 (by omega);have:=first j h1 h2;omega⟩
def lY (x:Nat→Int) (p t:Nat) (a:Int):Nat→Int:=fun j=>if j=p then x p - a else if j=t then x t+a else x j
theorem p9 {x:Nat→Int}{p t:Nat}{a:Int} (hpt:p<t):∀k,Sg k (lY x p t a)=Sg k x+(if p<k then -a else 0)+(if t<k then a else 0)
  | 0=>by rw[m7,m7];simp
  | k+1=>by
    rw[bZ,bZ,p9 hpt k]
    unfold lY
    by_cases e:k=p
    · subst e
      (repeat' split)<;>omega
    · by_cases e2:k=t
      · subst e2
        (repeat' split)<;>omega
      · (repeat' split)<;>omega
theorem Gives.head {n p t:Nat}{g x:Nat→Int} (h:Gives n g x p t) (d:Dom n g x) {k:Nat} (h1:p<k) (h2:k≤t):Sg k g+(x p - g p)≤Sg k x:=by
  obtain ⟨b,rfl⟩:∃b,k=(p+1)+b:=⟨k - (p+1),by omega⟩
  have:=d.le p (by have:=h.pt;have:=h.tn;omega)
  rw[mZ (f:=g) (a:=p+1) (b:=b),mZ (f:=x) (a:=p+1) (b:=b),bZ (f:=g) (m:=p),bZ (f:=x) (m:=p),bG (m:=b) (f:=fun j=>x (p+1+j)) (g:=fun j=>g (p+1+j)) fun j hj=>h.mid (p+1+j) (by omega) (by omega)]
  omega
theorem Gives.dom {n p t:Nat}{g x:Nat→Int}{a:Int} (h:Gives n g x p t) (d:Dom n g x) (a1:a≤x p - g p):Dom n g (lY x p t a):=by
  have pt:=h.pt
  have tn:=h.tn
  refine⟨fun k hk=>?_,?_⟩
  · rw[p9 pt]
    have:=d.le k hk
    by_cases q1:p<k
    · rw[if_pos q1]
      by_cases q2:t<k
      · rw[if_pos q2];omega
      · rw[if_neg q2]
        have:=h.head d q1 (by omega)
        omega
    · rw[if_neg q1,if_neg (by omega)];omega
  · rw[p9 pt,if_pos (by omega),if_pos (by omega)]
    have:=d.eq
    omega
theorem Gives.fal {n p t:Nat}{g x:Nat→Int}{a:Int} (h:Gives n g x p t) (fg:Fal n g) (fx:Fal n x) (a0:0≤a) (a1:a≤x p - g p) (a2:a≤g t - x t):Fal n (lY x p t a):=by
  have pt:=h.pt
  have tn:=h.tn
  intro i hi
  have f1:=fx i hi
  have f2:=fg i hi
  unfold lY
  by_cases e1:i+1=p
  · rw[if_pos e1,if_neg (by omega),if_neg (by omega)]
    subst e1;omega
  · rw[if_neg e1]
    by_cases e2:i=p
    · subst e2
      rw[if_pos rfl]
      by_cases e3:i+1=t
      · subst e3
        rw[if_pos rfl];omega
      · rw[if_neg e3]
        have:=h.mid (i+1) (by omega) (by omega)
        omega
    · rw[if_neg e2]
      by_cases e3:i+1=t
      · subst e3
        rw[if_pos rfl,if_neg (by omega)]
        by_cases e4:p<i
        · have:=h.mid i e4 (by omega)
          omega
        · omega
      · rw[if_neg e3]
        by_cases e4:i=t
        · subst e4
          rw[if_pos rfl];omega
        · rw[if_neg e4];exact f1
theorem Gives.can {n p t:Nat}{g x:Nat→Int}{a:Int} (h:Gives n g x p t) (fg:Fal n g) (a1:a≤x p - g p) (a2:a≤g t - x t):a≤x p - x t:=by
  have:=fg.to (i:=p) (j:=t) (by have:=h.pt;omega) h.tn
  have:=h.gp
  have:=h.gt
  omega
def kF (g x:Nat→Int):Nat→Nat
  | 0=>0
  | n+1=>kF g x n+(if x n=g n then 0 else 1)
theorem wR {g x y:Nat→Int}:∀{n:Nat},(∀j,j<n→x j=g j→y j=g j)→kF g y n≤kF g x n
  | 0,_=>Nat.le_refl _
  | n+1,h=>by
    have h1:=wR (n:=n) fun j hj=>h j (by omega)
    have h2:=h n (by omega)
    show kF g y n+_≤kF g x n+_
    by_cases e:x n=g n
    · rw[if_pos e,if_pos (h2 e)];omega
    · rw[if_neg e];split<;>omega
theorem o8 {g x y:Nat→Int}{p:Nat}:∀{n:Nat},(∀j,j<n→x j=g j→y j=g j)→p<n→x p≠g p→y p=g p→kF g y n<kF g x n
  | 0,_,hp,_,_=>by omega
  | n+1,h,hp,h1,h2=>by
    show kF g y n+_<kF g x n+_
    by_cases e:p=n
    · subst e
      have:=wR (n:=p) fun j hj=>h j (by omega)
      rw[if_pos h2,if_neg h1];omega
    · have:=o8 (n:=n) (fun j hj=>h j (by omega)) (by omega) h1 h2
      have h3:=h n (by omega)
      by_cases q:x n=g n
      · rw[if_pos q,if_pos (h3 q)];omega
      · rw[if_neg q];split<;>omega
theorem yK {g x:Nat→Int}:∀{n:Nat},kF g x n≤n
  | 0=>Nat.le_refl _
  | n+1=>by have:=yK (g:=g) (x:=x) (n:=n);show kF g x n+_≤n+1;split<;>omega
theorem Cr {g x:Nat→Int}:∀{n:Nat},kF g x n=0→∀j,j<n→x j=g j
  | 0,_,j,hj=>by omega
  | n+1,h,j,hj=>by
    have h':kF g x n+(if x n=g n then 0 else 1)=0:=h
    by_cases q:x n=g n
    · by_cases e:j=n
      · subst e;exact q
      · exact Cr (n:=n) (by omega) j (by omega)
    · rw[if_neg q] at h';omega
theorem DB {g x:Nat→Int}{p t:Nat}{n:Nat} (hp:p<t) (ht:t<n) (h1:x p≠g p) (h2:x t≠g t):2≤kF g x n:=by
  have a:=o8 (g:=g) (x:=x) (y:=fun j=>if j=p then g p else x j) (p:=p) (n:=n) (fun j _ e=>by by_cases q:j=p<;>simp [q,e]) (by omega) h1 (by simp)
  have b:=o8 (g:=g) (x:=fun j=>if j=p then g p else x j) (y:=g) (p:=t) (n:=n) (fun j _ e=>rfl) ht (by rw[if_neg (by omega)];exact h2) rfl
  omega
theorem Gives.Jy {n p t:Nat}{g x:Nat→Int} (h:Gives n g x p t):kF g (lY x p t (min (x p - g p) (g t - x t))) n+1≤kF g x n∧2≤kF g x n:=by
  have pt:=h.pt
  have tn:=h.tn
  have gp:=h.gp
  have gt:=h.gt
  have keep:∀j,j<n→x j=g j→lY x p t (min (x p - g p) (g t - x t)) j=g j:=fun j _ e=>by
    unfold lY
    by_cases q1:j=p
    · subst q1;omega
    · rw[if_neg q1]
      by_cases q2:j=t
      · subst q2;omega
      · rw[if_neg q2];exact e
  refine⟨?_,DB pt tn (by omega) (by omega)⟩
  by_cases e:x p - g p≤g t - x t
  · exact o8 keep (p:=p) (by omega) (by omega) (by unfold lY;rw[if_pos rfl];omega)
  · exact o8 keep (p:=t) tn (by omega) (by unfold lY;rw[if_neg (by omega),if_pos rfl];omega)
theorem BK {L:List Nat} (h:L≠[]) (pw:L.Pairwise (· < ·)):∃p:Nat,(L.map fun (p:Nat)=>(p:Int)).getD ((L.map fun (p:Nat)=>(p:Int)).length - 1) 0=(p:Int)∧p∈L∧∀j∈L,j≤p:=by
  have hl:0<L.length:=List.length_pos_iff.mpr h
  refine⟨L[L.length - 1]'(by omega),?_,List.getElem_mem _,fun j hj=>?_⟩
  · rw[List.length_map,List.getD_eq_getElem?_getD,List.getElem?_map,List.getElem?_eq_getElem (by omega)];rfl
  · obtain ⟨i,hi,rfl⟩:=List.mem_iff_getElem.mp hj
    by_cases e:i=L.length - 1
    · subst e;exact Nat.le_refl _
    · exact Nat.le_of_lt (List.pairwise_iff_getElem.mp pw i (L.length - 1) hi (by omega) (by omega))
theorem jD {one other:List Int}{p:Nat}:p∈jd one other↔p<one.length∧one.getD p 0<other.getD p 0:=by
  unfold jd
  rw[List.mem_filter,List.mem_range,decide_eq_true_eq]
theorem Ee {one other:List Int}:(jd one other).Pairwise (· < ·):=by
  unfold jd
  exact List.pairwise_lt_range.sublist List.filter_sublist
def atF (xs:List Int):Nat→Int:=fun j=>xs.getD j 0
def gS:DSp:=fun ds P=>∃gs xs:List Int,ds=[dI gs,dI xs]∧gs.length=xs.length∧xs.length<64∧Dom xs.length (atF gs) (atF xs)∧(∃j,j<xs.length∧atF xs j≠atF gs j)∧∀p t:Nat,Gives xs.length (atF gs) (atF xs) p t→P (dS p t (min (atF xs p - atF gs p) (atF gs t - atF xs t)))
theorem oS:bc gS:=by
  intro xs P P' k h
  obtain ⟨gs,ys,e,h1,h2,h3,h4,h⟩:=h
  exact⟨gs,ys,e,h1,h2,h3,h4,fun p t z=>k _ (h p t z)⟩
theorem qf:∀ds P,gS ds P→ds.length=2:=by
  intro ds P h
  obtain ⟨_,_,e,_⟩:=h
  rw[e];rfl
theorem qX {f:Addr}{fd:FuncData} (F:FnAt K mg "evening_step" bK dZ f fd) (A_:Fns K mg) (T:Txt K mg base) {c:Cs} (xs:Exs K mg base c):bE P w K mg base CX0 2 f fd dZ (spP K gS):=by
  obtain ⟨f0,d0,E_places_below⟩:=A_.h_places_below
  have G_places_below:=lV (P:=P) (w:=w) E_places_below A_ T xs
  refine F.fn.ok jf (fun vs H Q E h=>aL qf h) (fun cdv A outer s H vs Q E hr h=>?_)
  refine⟨_,(aj (wst 2 jf.nd (wix K (wcl G_places_below hr E_places_below (af (pv 0) (af (pv 1) ak))) (Jo Iq av))) (aj (wst 3 jf.nd (aO (Cu (K:=K) rfl rfl) (by rfl) T.min_ boot_min (af (wz rfl (bD.of (sc0:=(ai bK)) (tn:=["place"]) (cap:=["giver"]) (idx:=[2]) (by decide +kernel) rfl rfl) (wil K (wcl G_places_below hr E_places_below (af (pv 1) (af (pv 0) ak)))) (mR.name (by decide)) (fun _ _ _ _ _=>iI (i:=0) (cD (l:=["place","giver"]) (by decide +kernel)) rfl (by first | exact Or.inl rfl | exact Or.inr rfl) (by first | exact .inl rfl | exact .inr rfl)) (fun _ _ _ _ _=>Bs (aR qQ (pv 0) (pv 1) (aQ _))) (fun _ _ _ _ _=>(pv 0)) (by intro _;rfl)) ak))) (aq (aB (iY (af (pv 2) (af (pv 3) (af (aO (Cc rfl) (by rfl) T.min_ boot_min (af (aJ jX (wix K (pv 1) (pv 2)) (wix K (pv 0) (pv 2))) (af (aJ jX (wix K (pv 0) (pv 3)) (wix K (pv 1) (pv 3))) ak))) ak)))))))),aT (Γn:=[3,2]) (N:=jJ) (au (ST.post (Γn:=[2]) (bU (M:=[]) 2 (ER.bf (ES.er (aW (EM.es (aA (S:=cS) ia (ah (ES.er (aa 0)) (ah (ES.er (aa 1)) ao)))) (EM.er (Jh JG (EM.er ar)))))))) (au (ST.post (Γn:=[3,2]) (bU (M:=[]) 3 (aS Ie (ah (EM.er (wD (br (EM.es (aA (S:=cS) ia (ah (ES.er (aa 1)) (ah (ES.er (aa 0)) ao))))) (aI 0) (aK (EM.er (aw jZ (ES.er (aa 0)) (ES.er (aa 1))))) (ER.bf (ES.er (aa 0))))) ao)))) (aD (M:=[2,3]) (kq (jq (fN 2) (jq (fN 3) (bV (aS ID (ah (EM.er (aw fz (ES.er (aW (aa 1) (cH 2))) (ES.er (aW (aa 0) (cH 2))))) (ah (EM.er (aw fz (ES.er (aW (aa 0) (cH 3))) (ES.er (aW (aa 1) (cH 3))))) ao))) eV))))))) (fun ds P hS=>?_) h⟩
  obtain ⟨gs,xs,rfl,hl,h64,hD,hne,hP⟩:=hS
  rw[show aG jJ [dI gs,dI xs]=[some (dI gs),some (dI xs),none,none] from rfl]
  obtain ⟨p0,hp0,hgp0⟩:=hD.giver hne
  obtain ⟨p,ep,hpL,hpmax⟩:=BK (L:=jd gs xs) (List.ne_nil_of_mem (jD.mpr ⟨by omega,hgp0⟩)) Ee
  obtain ⟨hpn,hgp⟩:=jD.mp hpL
  have len1:1≤((jd gs xs).map fun (p:Nat)=>(p:Int)).length:=by rw[List.length_map];exact List.length_pos_of_mem hpL
  walk_at "go"
  refine⟨gs,xs,rfl,by omega,hl,?_⟩
  walk_at "go"
  refine Ck len1 ?_
  rw[ep]
  refine⟨rfl,?_⟩
  have len2:((jd xs gs).map fun (p:Nat)=>(p:Int)).length≤1000:=by
    rw[List.length_map]
    unfold jd
    have:=List.length_filter_le (fun p=>decide (xs.getD p 0<gs.getD p 0)) (List.range xs.length)
    rw[List.length_range] at this
    omega
  refine zW (ns:=(jd xs gs).map fun (p:Nat)=>(p:Int)) (p:=fun z=>decide ((p:Int)<z)) (g:=fun z=>.int z) (fun R h=>?_) len2 (fun z hz R h=>?_) ?_
  · exact⟨xs,gs,rfl,by omega,hl.symm,h⟩
  · walk_at "gb"
    split
    · rename_i c
      rw[decide_eq_true c] at h
      exact h
    · rename_i c
      rw[decide_eq_false c] at h
      exact h
  · obtain ⟨t0,t1,t2,t3⟩:=hD.taker (by omega) hgp
    refine jx.mpr ⟨List.length_pos_of_mem (List.mem_filter.mpr ⟨List.mem_map.mpr ⟨t0,jD.mpr ⟨t2,t3⟩,rfl⟩,decide_eq_true (by omega)⟩),fun M hM hmin=>?_⟩
    obtain ⟨hM1,hM2⟩:=List.mem_filter.mp hM
    obtain ⟨t,ht,rfl⟩:=List.mem_map.mp hM1
    obtain ⟨htn,htg⟩:=jD.mp ht
    have hpt:=of_decide_eq_true hM2
    have hG:Gives xs.length (atF gs) (atF xs) p t:=Dom.gives (by omega) hgp (fun j h1 h2 z=>by
      have:=hpmax j (jD.mpr ⟨by omega,z⟩)
      omega) (by omega) htn htg fun j h1 h2 z=>by
      have:=hmin (j:Int) (List.mem_filter.mpr ⟨List.mem_map.mpr ⟨j,jD.mpr ⟨by omega,z⟩,rfl⟩,decide_eq_true (by omega)⟩)
      omega
    have hQ:=hP p t hG
    walk_at "go"
    refine aN (by omega) ?_
    refine aN (by omega) ?_
    rw[Int.toNat_natCast]
    walk_at "go"
    refine aN (by omega) ?_
    refine aN (by omega) ?_
    rw[Int.toNat_natCast]
    walk_at "go"
    have em:∀i j:Int,(if j<i then j else i)=min i j:=fun i j=>by split<;>omega
    try refine⟨by omega,?_⟩
    rw[em]
    exact hQ
def Walk:List Int→List (Int × Int × Int)→List Int→Prop
  | xs,[],ys=>xs=ys
  | xs,(g,t,a)::r,ys=>ix xs g t a∧Walk (Maj.aV xs g.toNat t.toNat a) r ys
theorem Walk.snoc {g t a:Int}:∀{ss:List (Int × Int × Int)}{xs ys:List Int},Walk xs ss ys→ix ys g t a→Walk xs (ss++[(g,t,a)]) (Maj.aV ys g.toNat t.toNat a)
  | [],xs,ys,h,hs=>by
    have h':xs=ys:=h
    subst h'
    exact⟨hs,rfl⟩
  | (g0,t0,a0)::r,xs,ys,h,hs=>⟨h.1,Walk.snoc h.2 hs⟩
theorem fJ {xs:List Int}{p t j:Nat}{a:Int} (hp:p<xs.length) (ht:t<xs.length) (hpt:p≠t):(Maj.aV xs p t a).getD j 0=if j=p then xs.getD p 0 - a else if j=t then xs.getD t 0+a else xs.getD j 0:=by
  have self:∀{ys:List Int}{i:Nat}{v:Int},i<ys.length→(ys.set i v).getD i 0=v:=fun {ys i v} h=>by
    rw[List.getD_eq_getElem?_getD,List.getElem?_set_self h];rfl
  unfold Maj.aV
  by_cases e1:j=p
  · subst e1
    rw[if_pos rfl,Maj.eZ (Ne.symm hpt),self hp]
  · rw[if_neg e1]
    by_cases e2:j=t
    · subst e2
      rw[if_pos rfl,self (by rw[List.length_set];exact ht),Maj.eZ hpt]
    · rw[if_neg e2,Maj.eZ (Ne.symm e2),Maj.eZ (Ne.symm e1)]
theorem ph {ys:List Int}{k:Nat} (hk:k≤ys.length):Sg k (atF ys)=(ys.take k).sum:=by
  unfold Sg atF
  congr 1
  refine List.ext_getElem (by simp;omega) fun j h1 h2=>?_
  rw[List.getElem_map,List.getElem_range,List.getElem_take,List.getD_eq_getElem?_getD,List.getElem?_eq_getElem (by rw[List.length_map,List.length_range] at h1;omega)]
  rfl
theorem uy {xs ys:List Int} (hl:xs.length=ys.length) (h:∀j,j<xs.length→atF xs j=atF ys j):xs=ys:=by
  refine List.ext_getElem hl fun j h1 h2=>?_
  have:=h j h1
  unfold atF at this
  rw[List.getD_eq_getElem?_getD,List.getD_eq_getElem?_getD,List.getElem?_eq_getElem h1,List.getElem?_eq_getElem h2] at this
  exact this
theorem vM {ns:List Int}:((lC ns.length).map fun p=>ns.getD p.toNat 0)=ns:=by
  unfold lC
  rw[List.map_map]
  refine List.ext_getElem (by rw[List.length_map,List.length_range]) fun j h1 h2=>?_
  rw[List.getElem_map,List.getElem_range]
  show ns.getD ((j:Int).toNat) 0=_
  rw[Int.toNat_natCast,List.getD_eq_getElem?_getD,List.getElem?_eq_getElem h2];rfl
structure lJ (n:Nat) (fp zs xs:List Int):Prop where
  lz:zs.length=n
  lx:xs.length=n
  at_:∀i,i<n→zs.getD (fp.getD i 0).toNat 0=xs.getD i 0
theorem lJ.perm {n:Nat}{fp zs xs:List Int} (h:lJ n fp zs xs) (hp:fp.Perm (lC n)):zs.Perm xs:=by
  have lf:fp.length=n:=by rw[hp.length_eq];unfold lC;rw[List.length_map,List.length_range]
  have e:(fp.map fun p=>zs.getD p.toNat 0)=xs:=by
    refine List.ext_getElem (by rw[List.length_map,lf,h.lx]) fun j h1 h2=>?_
    have:=h.at_ j (by rw[h.lx] at h2;exact h2)
    rw[List.getElem_map]
    rw[List.getD_eq_getElem?_getD (l:=fp),List.getElem?_eq_getElem (by rw[List.length_map] at h1;exact h1),List.getD_eq_getElem?_getD (l:=xs),List.getElem?_eq_getElem h2] at this
    exact this
  have:=hp.map fun p=>zs.getD p.toNat 0
  rw[e,← h.lz,vM] at this
  exact this.symm
theorem lJ.step {n p t:Nat}{fp zs xs:List Int}{a:Int} (h:lJ n fp zs xs) (hp:fp.Perm (lC n)) (pn:p<n) (tn:t<n) (hpt:p≠t) (a1:1≤a) (a2:a≤xs.getD p 0 - xs.getD t 0) :
    ix zs (fp.getD p 0) (fp.getD t 0) a∧lJ n fp (Maj.aV zs (fp.getD p 0).toNat (fp.getD t 0).toNat a) (Maj.aV xs p t a):=by
  have lf:fp.length=n:=by rw[hp.length_eq];unfold lC;rw[List.length_map,List.length_range]
  have nd:fp.Nodup:=hp.nodup_iff.mpr (by unfold lC;exact List.Pairwise.map _ (fun a b hab=>by show (a:Int)≠b;omega) List.nodup_range)
  have bd:∀i,i<n→0≤fp.getD i 0∧fp.getD i 0<n:=fun i hi=>by
    rw[List.getD_eq_getElem?_getD,List.getElem?_eq_getElem (by omega)]
    have:=hp.mem_iff.mp (List.getElem_mem (l:=fp) (n:=i) (by omega))
    unfold lC at this
    obtain ⟨k,hk,e⟩:=List.mem_map.mp this
    have:=List.mem_range.mp hk
    show 0≤fp[i]∧fp[i]<n
    omega
  have inj:∀i j,i<n→j<n→fp.getD i 0=fp.getD j 0→i=j:=fun i j hi hj e=>by
    rw[List.getD_eq_getElem?_getD,List.getD_eq_getElem?_getD,List.getElem?_eq_getElem (by omega),List.getElem?_eq_getElem (by omega)] at e
    exact (List.getElem_inj nd).mp e
  have bp:=bd p pn
  have bt:=bd t tn
  have hne:(fp.getD p 0).toNat≠(fp.getD t 0).toNat:=fun z=>hpt (inj p t pn tn (by omega))
  refine⟨⟨bp.1,by rw[h.lz];exact bp.2,bt.1,by rw[h.lz];exact bt.2,a1,by rw[h.at_ p pn,h.at_ t tn];exact a2⟩,⟨by rw[Maj.ma,h.lz],by rw[Maj.ma,h.lx],fun i hi=>?_⟩⟩
  have bi:=bd i hi
  rw[fJ (by rw[h.lz];omega) (by rw[h.lz];omega) hne,fJ (by rw[h.lx];exact pn) (by rw[h.lx];exact tn) hpt,h.at_ p pn,h.at_ t tn,h.at_ i hi]
  by_cases e1:i=p
  · subst e1;rw[if_pos rfl,if_pos rfl]
  · rw[if_neg e1,if_neg (fun z=>e1 (inj i p hi pn (by omega)))]
    by_cases e2:i=t
    · subst e2;rw[if_pos rfl,if_pos rfl]
    · rw[if_neg e2,if_neg (fun z=>e2 (inj i t hi tn (by omega)))]
theorem BV {rows fp:List Int} (hp:fp.Perm (lC rows.length)) (ho:fp.Pairwise fun a b=>rows.getD b.toNat 0≤rows.getD a.toNat 0):iC rows=fp.map fun p=>rows.getD p.toNat 0:=by
  refine (Bg ?_ ?_).symm
  · have:=hp.map fun p=>rows.getD p.toNat 0
    rw[vM] at this
    exact this
  · exact List.Pairwise.map _ (fun a b h=>h) ho
theorem su {a b:List Int} (h:a.Perm b):a.sum=b.sum:=by
  induction h with
  | nil=>rfl
  | cons x _ ih=>rw[List.sum_cons,List.sum_cons,ih]
  | swap x y l=>rw[List.sum_cons,List.sum_cons,List.sum_cons,List.sum_cons];omega
  | trans _ _ h1 h2=>exact h1.trans h2
theorem lJ.begin {rows fp:List Int} (hp:fp.Perm (lC rows.length)) (ho:fp.Pairwise fun a b=>rows.getD b.toNat 0≤rows.getD a.toNat 0):lJ rows.length fp rows (iC rows):=by
  have lf:fp.length=rows.length:=by rw[hp.length_eq];unfold lC;rw[List.length_map,List.length_range]
  refine⟨rfl,bO rows,fun i hi=>?_⟩
  rw[BV hp ho,List.getD_eq_getElem?_getD (l:=fp),List.getD_eq_getElem?_getD (l:=fp.map _),List.getElem?_map,List.getElem?_eq_getElem (by omega)]
  rfl
theorem EG {xs:List Int}{n:Nat} (hl:xs.length=n) (h:xs.Pairwise (·≥·)):Fal n (atF xs):=fun i hi=>by
  have:=List.pairwise_iff_getElem.mp h i (i+1) (by omega) (by omega) (by omega)
  unfold atF
  rw[List.getD_eq_getElem?_getD,List.getD_eq_getElem?_getD,List.getElem?_eq_getElem (by omega),List.getElem?_eq_getElem (by omega)]
  exact this
theorem Ia {one other:List Int} (hl:one.length=other.length) (hs:one.sum=other.sum) (h:Maj.Le one other):Dom other.length (atF (iC one)) (atF (iC other)):=by
  refine⟨fun k hk=>?_,?_⟩
  · rw[ph (by rw[bO];omega),ph (by rw[bO];omega)]
    exact h k (by omega)
  · rw[ph (by rw[bO];omega),ph (by rw[bO];omega),List.take_of_length_le (by rw[bO];omega),List.take_of_length_le (by rw[bO];omega),su (gK one),su (gK other),hs]
theorem Dom.congr {n:Nat}{g x y:Nat→Int} (h:Dom n g x) (e:∀j,j<n→x j=y j):Dom n g y:=by
  refine⟨fun k hk=>?_,?_⟩
  · rw[← bG (m:=k) (f:=x) (g:=y) fun j hj=>e j (by omega)];exact h.le k hk
  · rw[← bG (m:=n) (f:=x) (g:=y) e];exact h.eq
theorem Fal.congr {n:Nat}{x y:Nat→Int} (h:Fal n x) (e:∀j,j<n→x j=y j):Fal n y:=fun i hi=>by
  rw[← e i (by omega),← e (i+1) hi];exact h i hi
theorem zX {g x y:Nat→Int}{n:Nat} (e:∀j,j<n→x j=y j):kF g y n≤kF g x n:=wR fun j hj z=>by rw[← e j hj];exact z
theorem Dx {xs:List Int}{p t j:Nat}{a:Int} (hp:p<xs.length) (ht:t<xs.length) (hpt:p≠t):lY (atF xs) p t a j=atF (Maj.aV xs p t a) j:=(fJ hp ht hpt).symm
def dS3 (q:Int × Int × Int):D:=dS q.1 q.2.1 q.2.2
def gk:DSp:=fun ds P=>∃one other:List Int,ds=[dI one,dI other]∧one.length=other.length∧1≤other.length∧other.length<64∧one.sum=other.sum∧Maj.Le one other∧∀(ss:List (Int × Int × Int)) (ys:List Int),ss.length+1≤other.length→Walk other ss ys→ys.Perm one→(one=other→ss=[])→P (.lst (ss.map dS3))
theorem nV:bc gk:=by
  intro xs P P' k h
  obtain ⟨gs,ys,e,h1,h2,h3,h4,h5,h⟩:=h
  exact⟨gs,ys,e,h1,h2,h3,h4,h5,fun p t a b z y=>k _ (h p t a b z y)⟩
theorem pN:∀ds P,gk ds P→ds.length=2:=by
  intro ds P h
  obtain ⟨_,_,e,_⟩:=h
  rw[e];rfl
theorem qt {f:Addr}{fd:FuncData} (F:FnAt K mg "evening_steps" bQ df f fd) (A_:Fns K mg) (T:Txt K mg base) {c:Cs} (xs:Exs K mg base c):bE P w K mg base CX0 4 f fd df (spP K gk):=by
  obtain ⟨f0,d0,E_falling_places⟩:=A_.h_falling_places
  have G_falling_places:=oD (P:=P) (w:=w) E_falling_places A_ T xs
  obtain ⟨f1,d1,E_falling⟩:=A_.h_falling
  have G_falling:=uz (P:=P) (w:=w) E_falling A_ T xs
  obtain ⟨f2,d2,E_evening_step⟩:=A_.h_evening_step
  have G_evening_step:=qX (P:=P) (w:=w) E_evening_step A_ T xs
  obtain ⟨f3,d3,E_step_made⟩:=A_.h_step_made
  have G_step_made:=ju (P:=P) (w:=w) E_step_made A_ T xs
  refine F.fn.ok bY (fun vs H Q E h=>aL pN h) (fun cdv A outer s H vs Q E hr h=>?_)
  refine⟨_,(aj (wst 2 bY.nd (wcl G_falling_places hr E_falling_places (af (pv 1) ak))) (aj (wst 3 bY.nd (wcl G_falling hr E_falling (af (pv 0) ak))) (aj (wst 4 bY.nd (wcl G_falling hr E_falling (af (pv 1) ak))) (aj (wst 5 bY.nd (m4 ak)) (aj (pJ PassesOwn.never (aR (C0 hr.units) (pv 4) (pv 3) (aQ _)) (aj (wst 6 bY.nd (wcl G_evening_step hr E_evening_step (af (pv 3) (af (pv 4) ak)))) (aj (wst 4 bY.nd (eY G_step_made (hr.mono (by decide)) rfl E_step_made.mg E_step_made.fn.kp E_step_made.bd .nil qK (af (pv 4) (af (pv 6) ak)))) (aq (gU (ie PySem.F.plainAttrs_list PySem.F.slot_list_append PySem.F.type_list_append gz (pv 5) (af (iY (af (wix K (pv 2) (wit K (pv 6) av)) (af (wix K (pv 2) (wit K (pv 6) av)) (af (wit K (pv 6) av) ak)))) ak))))))) (aq (aB (pv 5)))))))),aT (Γn:=[5]) (N:=iX) (au (ST.post (Γn:=[]) (aF 2 (EM.es (aA (S:=fD) nu (ah (ES.er (aa 1)) ao))))) (au (ST.post (Γn:=[]) (aF 3 (EM.es (aA (S:=iy) kR (ah (ES.er (aa 0)) ao))))) (au (ST.post (Γn:=[]) (aF 4 (EM.es (aA (S:=iy) kR (ah (ES.er (aa 1)) ao))))) (au (ST.post (Γn:=[5]) (bU (M:=[]) 5 (mf eV))) (au (oB (aK (EM.er (aw GV (ES.er (aa 4)) (ES.er (aa 3))))) (au (ST.post (Γn:=[5]) (aF 6 (EM.es (aA (S:=gS) oS (ah (ES.er (aa 3)) (ah (ES.er (aa 4)) ao)))))) (au (ST.post (Γn:=[5]) (aF 4 (EM.es (mO gX (ah (ES.er (aa 4)) (ah (ES.er (aa 6)) ao)))))) (ST.post (Γn:=[5]) (gB (M:=[]) 5 (kq (bV (ER.bf (ES.er (aW (aa 2) (ES.er (bM (aa 6) (EM.er ar)))))) (bV (ER.bf (ES.er (aW (aa 2) (ES.er (bM (aa 6) (EM.er ar)))))) (bV (ER.bf (ES.er (bM (aa 6) (EM.er ar)))) eV))))))))) (aD (M:=[5]) (fN 5))))))) (fun ds P hS=>?_) h⟩
  obtain ⟨one,other,rfl,hl,h1,h64,hsum,hle,hP⟩:=hS
  rw[show aG iX [dI one,dI other]=[some (dI one),some (dI other),none,none,none,none,none] from rfl]
  walk_at "go"
  refine⟨other,rfl,h64,fun fp q1 q2=>?_⟩
  refine⟨one,rfl,by omega,?_⟩
  refine⟨other,rfl,h64,?_⟩
  refine⟨by omega,?_⟩
  have lg:=bO one
  have lx:=bO other
  have fg:Fal other.length (atF (iC one)):=EG (by omega) (kJ one)
  have om:=yK (g:=atF (iC one)) (x:=atF (iC other)) (n:=other.length)
  refine⟨fun m δ=>∃(ss:List (Int × Int × Int)) (zs xs:List Int) (o6:Option D),δ=[some (dI one),some (dI other),some (dI fp),some (dI (iC one)),some (dI xs),some (.lst (ss.map dS3)),o6]∧m=kF (atF (iC one)) (atF xs) other.length∧Dom other.length (atF (iC one)) (atF xs)∧Fal other.length (atF xs)∧ss.length+(m - 1)+1≤other.length∧Walk other ss zs∧lJ other.length fp zs xs∧(one=other→ss=[]∧xs=iC one),
    ⟨_,[],other,iC other,none,rfl,rfl,Ia hl hsum hle,EG lx (kJ other),by show 0+_+1≤_;omega,rfl,lJ.begin q1 q2,fun z=>⟨rfl,by rw[z]⟩⟩,?_⟩
  rintro m δ ⟨ss,zs,xs,o6,rfl,hm,hD,hF,hbd,hW,hL,hZ⟩
  have hxl:=hL.lx
  walk_at "go"
  refine vB ?_
  by_cases e:xs=iC one
  · rw[decide_eq_true e]
    simp only[if_true,Bool.not_true]
    walk_at "go"
    exact hP ss zs (by omega) hW ((hL.perm q1).trans (e▸gK one)) fun z=>(hZ z).1
  · rw[decide_eq_false e]
    simp only[if_true,Bool.not_false]
    walk_at "go"
    have hne:∃j,j<xs.length∧atF xs j≠atF (iC one) j:=Classical.byContradiction fun z=>e (uy (by omega) fun j hj=>Classical.byContradiction fun y=>z ⟨j,hj,y⟩)
    refine⟨iC one,xs,rfl,by omega,by omega,by rw[hxl];exact hD,hne,fun p t hG=>?_⟩
    rw[hxl] at hG
    have pt:=hG.pt
    have tn:=hG.tn
    have gp:=hG.gp
    have gt:=hG.gt
    generalize ha:min (atF xs p - atF (iC one) p) (atF (iC one) t - atF xs t)=a
    have can:=hG.can (a:=a) fg (by omega) (by omega)
    have fw:=hG.Jy
    rw[ha] at fw
    have hs:=hL.step (a:=a) q1 (by omega) tn (by omega) (by omega) can
    have lf:fp.length=other.length:=by rw[q1.length_eq];unfold lC;rw[List.length_map,List.length_range]
    have ef:∀j,j<other.length→lY (atF xs) p t a j=atF (Maj.aV xs p t a) j:=fun j _=>Dx (by omega) (by omega) (by omega)
    have oc:=zX (g:=atF (iC one)) ef
    walk_at "go"
    refine⟨xs,p,t,a,rfl,fun _=>?_,fun z=>absurd ⟨by omega,by omega,by omega,by omega,by omega,by rw[Int.toNat_natCast,Int.toNat_natCast];exact can⟩ z⟩
    rw[Int.toNat_natCast,Int.toNat_natCast]
    unfold dS
    walk_at "go"
    refine aN (by omega) ?_
    refine⟨rfl,?_⟩
    walk_at "go"
    refine aN (by omega) ?_
    refine⟨rfl,?_⟩
    walk_at "go"
    refine⟨_,?_,ss++[(fp.getD p 0,fp.getD t 0,a)],_,Maj.aV xs p t a,some (L3.D.tup [L3.D.int p,L3.D.int t,L3.D.int a]),?_,rfl,(hG.dom hD (a:=a) (by omega)).congr ef,(hG.fal fg hF (by omega) (by omega) (by omega)).congr ef,?_,hW.snoc hs.1,hs.2,fun z=>absurd (hZ z).2 e⟩
    · omega
    · rw[List.map_append];rfl
    · rw[List.length_append,List.length_singleton];omega
def gW:DSp:=fun ds P=>∃(xs ys:List Int) (ss:List (Int × Int × Int)),ds=[dI xs,.lst (ss.map dS3)]∧ss.length≤1000∧Walk xs ss ys∧P (dI ys)
theorem qS:bc gW:=by
  intro xs P P' k h
  unfold gW at h ⊢
  grind
theorem t6:∀ds P,gW ds P→ds.length=2:=by
  intro ds P h
  obtain ⟨_,_,_,e,_⟩:=h
  rw[e];rfl
theorem uK {f:Addr}{fd:FuncData} (F:FnAt K mg "row_behind" dC fC f fd) (A_:Fns K mg) (T:Txt K mg base) {c:Cs} (xs:Exs K mg base c):bE P w K mg base CX0 4 f fd fC (spR K gW):=by
  obtain ⟨f0,d0,E_step_made⟩:=A_.h_step_made
  have G_step_made:=ju (P:=P) (w:=w) E_step_made A_ T xs
  refine F.fn.ok kA (fun vs H Q E h=>GO t6 h) (fun cdv A outer s H vs Q E hr h=>?_)
  refine⟨_,(aj (wfo (wil K (pv 1)) (wpg 2 kA.nd) (aq (wst 0 kA.nd (eY G_step_made (hr.mono (by decide)) rfl E_step_made.mg E_step_made.fn.kp E_step_made.bd .nil qK (af (pv 0) (af (pv 2) ak)))))) (aq (aB (pv 0)))),Fu (Γn:=[]) (N:=lH) (au (fO (br (aa 1)) (aI 2) (ST.post (Γn:=[]) (aF 0 (EM.es (mO gX (ah (ES.er (aa 0)) (ah (ES.er (aa 2)) ao))))))) (Gv (ES.er (aa 0)))) (fun ds P hS=>?_) h⟩
  obtain ⟨xs,ys,ss,rfl,hl,hW,hP⟩:=hS
  rw[show aG lH [dI xs,.lst (ss.map dS3)]=[some (dI xs),some (.lst (ss.map dS3)),none] from rfl]
  walk_at "go"
  refine dF (as:=ss) (f:=dS3) (fun i δ=>∃(zs:List Int) (o2:Option D),δ=[some (dI zs),some (.lst (ss.map dS3)),o2]∧Walk zs (ss.drop i) ys) ⟨xs,none,rfl,hW⟩ ?_ ?_
  · rintro i ⟨g,t,a⟩ δ N e ⟨zs,o2,rfl,hW⟩ hN
    obtain ⟨h1,h2⟩:=List.getElem?_eq_some_iff.mp e
    rw[List.drop_eq_getElem_cons h1,h2] at hW
    walk_at "go"
    refine⟨zs,g,t,a,rfl,fun _=>hN _ ⟨_,_,rfl,hW.2⟩,fun z=>absurd hW.1 z⟩
  · rintro δ ⟨zs,o2,rfl,hW⟩
    rw[List.drop_length] at hW
    have e:zs=ys:=hW
    subst e
    walk_at "go"
    exact hP
theorem tG {p:Nat→Prop} [DecidablePred p]:∀(d k n:Nat),n - k=d→k≤n→p n→∃j,k≤j∧j≤n∧p j∧∀m,k≤m→m<j→¬ p m
  | 0,k,n,e,h,hp=>⟨n,by omega,Nat.le_refl _,hp,fun m h1 h2=>by omega⟩
  | d+1,k,n,e,h,hp=>by
    by_cases c:p k
    · exact⟨k,Nat.le_refl _,h,c,fun m h1 h2=>by omega⟩
    · obtain ⟨j,j1,j2,j3,j4⟩:=tG d (k+1) n (by omega) (by omega) hp
      refine⟨j,by omega,j2,j3,fun m h1 h2=>?_⟩
      by_cases q:m=k
      · rw[q];exact c
      · exact j4 m (by omega) h2
theorem Fx {zs one:List Int}{i:Nat} (hp:zs.Perm one) (hi:i<one.length) (he:∀j,j<i→zs.getD j 0=one.getD j 0) (hne:zs.getD i 0≠one.getD i 0) :
    ∃j,i+1≤j∧j<one.length∧zs.getD j 0=one.getD i 0∧∀m,i+1≤m→m<j→zs.getD m 0≠one.getD i 0:=by
  have hl:=hp.length_eq
  have gd:∀{ys:List Int}{j:Nat} (h:j<ys.length),ys.getD j 0=ys[j]:=fun h=>by
    rw[List.getD_eq_getElem?_getD,List.getElem?_eq_getElem h];rfl
  have et:zs.take i=one.take i:=List.ext_getElem (by rw[List.length_take,List.length_take];omega) fun j h1 h2=>by
    rw[List.length_take] at h1 h2
    rw[List.getElem_take,List.getElem_take]
    have:=he j (by omega)
    rw[gd (by omega),gd (by omega)] at this
    exact this
  have hd:(zs.drop i).Perm (one.drop i):=by
    have h:(zs.take i++zs.drop i).Perm (one.take i++one.drop i):=by rw[List.take_append_drop,List.take_append_drop];exact hp
    rw[et] at h
    exact (List.perm_append_left_iff _).mp h
  have hm:one[i]∈one.drop i:=by rw[List.drop_eq_getElem_cons hi];exact List.mem_cons_self
  obtain ⟨k,hk,e⟩:=List.mem_iff_getElem.mp (hd.mem_iff.mpr hm)
  rw[List.getElem_drop] at e
  rw[List.length_drop] at hk
  have k0:k≠0:=fun z=>by
    subst z
    exact hne (by rw[gd (by omega),gd hi];exact e)
  obtain ⟨j,j1,j2,j3,j4⟩:=tG (p:=fun j=>zs.getD j 0=one.getD i 0) _ (i+1) (i+k) rfl (by omega) (by show zs.getD (i+k) 0=_;rw[gd (by omega),gd hi];exact e)
  exact⟨j,j1,by omega,j3,j4⟩
theorem Hn {zs:List Int}{p q:Nat} (hp:p<zs.length) (hq:q<zs.length) (hpq:p≠q) :
    (Maj.aV zs p q (zs.getD p 0 - zs.getD q 0)).Perm zs∧∀j,(Maj.aV zs p q (zs.getD p 0 - zs.getD q 0)).getD j 0=if j=p then zs.getD q 0 else if j=q then zs.getD p 0 else zs.getD j 0:=by
  have gd:∀{ys:List Int}{j:Nat} (h:j<ys.length),ys.getD j 0=ys[j]:=fun h=>by
    rw[List.getD_eq_getElem?_getD,List.getElem?_eq_getElem h];rfl
  refine⟨?_,fun j=>?_⟩
  · have e:Maj.aV zs p q (zs.getD p 0 - zs.getD q 0)=(zs.set p zs[q]).set q zs[p]:=by
      unfold Maj.aV
      rw[Maj.eZ hpq,gd hp,gd hq]
      congr 2<;>omega
    rw[e]
    exact List.set_set_perm hp hq
  · rw[fJ hp hq hpq]
    split
    · omega
    · split
      · omega
      · rfl
theorem Ft {zs:List Int}{m:Nat}{z:D} (h:(zs.map L3.D.int)[m]?=some z):z=.int (zs.getD m 0)∧m<zs.length:=by
  rw[List.getElem?_map] at h
  cases q:zs[m]? with
  | none=>rw[q] at h;cases h
  | some v =>
    rw[q] at h
    cases h
    exact⟨by rw[List.getD_eq_getElem?_getD,q];rfl,(List.getElem?_eq_some_iff.mp q).1⟩
theorem Eo {zs:List Int}{m:Nat} (h:m<zs.length):(zs.map L3.D.int)[m]?=some (.int (zs.getD m 0)):=by
  rw[List.getElem?_map,List.getElem?_eq_getElem h,List.getD_eq_getElem?_getD,List.getElem?_eq_getElem h];rfl
theorem xl {a:Int}:eqV (V.int a) (V.int a)=true:=by simp [eqV]
theorem Ak {a b:Int} (h:a≠b):eqV (V.int a) (V.int b)=false:=by simp [eqV,h]
theorem Ew {zs one:List Int}{i j p q:Nat} (hp:zs.Perm one) (he:∀k,k<i→zs.getD k 0=one.getD k 0) (j3:zs.getD j 0=one.getD i 0) (j1:i+1≤j) (j2:j<zs.length) (hpq:p=i∧q=j∨p=j∧q=i) (h:zs.getD q 0<zs.getD p 0) :
    ix zs p q (zs.getD p 0 - zs.getD q 0)∧(Maj.aV zs p q (zs.getD p 0 - zs.getD q 0)).Perm one∧∀k,k<i+1→(Maj.aV zs p q (zs.getD p 0 - zs.getD q 0)).getD k 0=one.getD k 0:=by
  have s:=Hn (zs:=zs) (p:=p) (q:=q) (by omega) (by omega) (by omega)
  refine⟨⟨by omega,by omega,by omega,by omega,by omega,by rw[Int.toNat_natCast,Int.toNat_natCast];exact Int.le_refl _⟩,s.1.trans hp,fun k hk=>?_⟩
  rw[s.2 k]
  rcases hpq with ⟨rfl,rfl⟩ | ⟨rfl,rfl⟩
  · by_cases e:k=p
    · rw[if_pos e,e];exact j3
    · rw[if_neg e,if_neg (by omega)];exact he k (by omega)
  · rw[if_neg (by omega)]
    by_cases e:k=q
    · rw[if_pos e,e];exact j3
    · rw[if_neg e];exact he k (by omega)
def hX:DSp:=fun ds P=>∃one xs:List Int,ds=[dI one,dI xs]∧1≤one.length∧one.length<64∧xs.Perm one∧∀ss:List (Int × Int × Int),ss.length+1≤one.length→Walk xs ss one→(xs=one→ss=[])→P (.lst (ss.map dS3))
theorem pf:bc hX:=by
  intro xs P P' k h
  obtain ⟨gs,ys,e,h1,h2,h3,h⟩:=h
  exact⟨gs,ys,e,h1,h2,h3,fun p t a b=>k _ (h p t a b)⟩
theorem qi:∀ds P,hX ds P→ds.length=2:=by
  intro ds P h
  obtain ⟨_,_,e,_⟩:=h
  rw[e];rfl
theorem rd {f:Addr}{fd:FuncData} (F:FnAt K mg "exchanges_to" cu dU f fd) (A_:Fns K mg) (T:Txt K mg base) {c:Cs} (xs:Exs K mg base c):bE P w K mg base CX0 4 f fd dU (spP K hX):=by
  obtain ⟨f0,d0,E_exchange_step⟩:=A_.h_exchange_step
  have G_exchange_step:=qd (P:=P) (w:=w) E_exchange_step A_ T xs
  obtain ⟨f1,d1,E_step_made⟩:=A_.h_step_made
  have G_step_made:=ju (P:=P) (w:=w) E_step_made A_ T xs
  refine F.fn.ok eI (fun vs H Q E h=>aL qi h) (fun cdv A outer s H vs Q E hr h=>?_)
  refine⟨_,(aj (wst 2 eI.nd (m4 ak)) (aj (wfo (ir rfl T.range_ (af (wln K T.len_ (pv 0)) ak)) (wpg 3 eI.nd) (aq (cU (aR jF (wix K (pv 1) (pv 3)) (wix K (pv 0) (pv 3)) (aQ _)) (aj (wst 4 eI.nd (wcl G_exchange_step hr E_exchange_step (af (pv 1) (af (pv 3) (af (ie PySem.F.plainAttrs_list PySem.F.slot_list_index PySem.F.type_list_index BR (pv 1) (af (wix K (pv 0) (pv 3)) (af (aJ i6 (pv 3) av) ak))) ak))))) (aj (wst 1 eI.nd (eY G_step_made (hr.mono (by decide)) rfl E_step_made.mg E_step_made.fn.kp E_step_made.bd .nil qK (af (pv 1) (af (pv 4) ak)))) (aq (gU (ie PySem.F.plainAttrs_list PySem.F.slot_list_append PySem.F.type_list_append gz (pv 2) (af (pv 4) ak)))))) aU))) (aq (aB (pv 2))))),aT (Γn:=[2]) (N:=jW) (au (ST.post (Γn:=[2]) (bU (M:=[]) 2 (mf eV))) (au (fO (kY (ah (EM.er (aS eh (ah (ES.er (aa 0)) ao))) ao)) (aI 3) (fj (aK (EM.er (aw nJ (ES.er (aW (aa 1) (ES.er (aa 3)))) (ES.er (aW (aa 0) (ES.er (aa 3))))))) (au (ST.post (Γn:=[2]) (aF 4 (EM.es (aA (S:=eG) nF (ah (ES.er (aa 1)) (ah (ES.er (aa 3)) (ah (EM.er (BQ (ES.er (aa 1)) (ES.er (aW (aa 0) (ES.er (aa 3)))) (EM.er (aw fz (ES.er (aa 3)) (EM.er ar))))) ao))))))) (au (ST.post (Γn:=[2]) (aF 1 (EM.es (mO gX (ah (ES.er (aa 1)) (ah (ES.er (aa 4)) ao)))))) (ST.post (Γn:=[2]) (gB (M:=[]) 2 (ER.flat (ES.er (aa 4))))))) aX)) (aD (M:=[2]) (fN 2)))) (fun ds P hS=>?_) h⟩
  obtain ⟨one,xs,rfl,h1,h64,hp,hP⟩:=hS
  rw[show aG jW [dI one,dI xs]=[some (dI one),some (dI xs),none,none,none] from rfl]
  walk_at "go"
  refine tT (lo:=0) (n:=one.length) (fun i δ=>∃(ss:List (Int × Int × Int)) (zs:List Int) (o3 o4:Option D),δ=[some (dI one),some (dI zs),some (.lst (ss.map dS3)),o3,o4]∧Walk xs ss zs∧zs.Perm one∧(∀j,j<i→zs.getD j 0=one.getD j 0)∧ss.length≤i∧ss.length+1≤one.length∧(xs=one→ss=[]∧zs=one)) ⟨[],xs,none,none,rfl,rfl,hp,fun j hj=>absurd hj (by omega),Nat.le_refl _,h1,fun e=>⟨rfl,e⟩⟩ ?_ ?_
  · rintro i δ N hi ⟨ss,zs,o3,o4,rfl,hW,hp,he,hl1,hl2,hz⟩ hN
    have hl:=hp.length_eq
    walk_at "go"
    refine aN (by omega) ?_
    refine aN (by omega) ?_
    rw[Int.zero_add,Int.toNat_natCast]
    walk_at "go"
    by_cases e:zs.getD i 0=one.getD i 0
    · rw[if_neg (fun z=>z e)]
      refine hN _ ⟨ss,zs,_,_,rfl,hW,hp,fun j hj=>?_,by omega,hl2,hz⟩
      by_cases q:j=i
      · rw[q];exact e
      · exact he j (by omega)
    · obtain ⟨j,j1,j2,j3,j4⟩:=Fx hp hi he e
      rw[if_pos e]
      refine xP (es:=zs.map L3.D.int) rfl ⟨nh,aN (by omega) ?_⟩
      rw[Int.toNat_natCast]
      refine⟨rfl,i+1,j,by omega,j1,⟨.int (zs.getD j 0),Eo (by omega),by rw[j3];exact xl⟩,fun m z hm hm2 q=>?_,?_⟩
      · obtain ⟨rfl,_⟩:=Ft q
        exact Ak (j4 m hm hm2)
      refine⟨zs,i,j,rfl,by omega,by omega,?_⟩
      have nz:¬ xs=one:=fun z=>e (by rw[(hz z).2])
      unfold exS
      by_cases h:zs.getD j 0<zs.getD i 0
      · rw[if_pos h]
        have q:=Ew (p:=i) (q:=j) hp he j3 j1 (by omega) (.inl ⟨rfl,rfl⟩) h
        refine⟨zs,i,j,_,rfl,fun _=>?_,fun z=>absurd q.1 z⟩
        rw[Int.toNat_natCast,Int.toNat_natCast]
        exact⟨rfl,by omega,hN _ ⟨ss++[((i:Int),(j:Int),zs.getD i 0 - zs.getD j 0)],_,_,_,by rw[List.map_append];rfl,hW.snoc q.1,q.2.1,q.2.2,by rw[List.length_append];exact Nat.succ_le_succ hl1,by rw[List.length_append,List.length_singleton];omega,fun z=>absurd z nz⟩⟩
      · rw[if_neg h]
        have h':zs.getD i 0<zs.getD j 0:=by rw[j3] at h ⊢;omega
        have q:=Ew (p:=j) (q:=i) hp he j3 j1 (by omega) (.inr ⟨rfl,rfl⟩) h'
        refine⟨zs,j,i,_,rfl,fun _=>?_,fun z=>absurd q.1 z⟩
        rw[Int.toNat_natCast,Int.toNat_natCast]
        exact⟨rfl,by omega,hN _ ⟨ss++[((j:Int),(i:Int),zs.getD j 0 - zs.getD i 0)],_,_,_,by rw[List.map_append];rfl,hW.snoc q.1,q.2.1,q.2.2,by rw[List.length_append];exact Nat.succ_le_succ hl1,by rw[List.length_append,List.length_singleton];omega,fun z=>absurd z nz⟩⟩
  · rintro δ ⟨ss,zs,o3,o4,rfl,hW,hp,he,hl1,hl2,hz⟩
    walk_at "go"
    have e:zs=one:=uy hp.length_eq fun j hj=>he j (by rw[hp.length_eq] at hj;exact hj)
    subst e
    exact hP ss hl2 hW fun z=>(hz z).1
theorem Walk.app:∀{ss tt:List (Int × Int × Int)}{xs ys zs:List Int},Walk xs ss ys→Walk ys tt zs→Walk xs (ss++tt) zs
  | [],_,xs,ys,_,h,k=>by
    have h':xs=ys:=h
    subst h'
    exact k
  | (_,_,_)::_,_,_,_,_,h,k=>⟨h.1,Walk.app h.2 k⟩
theorem BJ {one other:List Int} (hl:one.length=other.length) (h:oY one other=.non):Maj.Le one other:=by
  have e:Maj.above one other=[]:=by
    unfold oY at h
    cases q:Maj.above one other with
    | nil=>rfl
    | cons p ps=>rw[q] at h;cases h
  intro k hk
  match k with
  | 0=>exact Int.le_refl _
  | k+1 =>
    unfold Maj.above at e
    have:=List.filter_eq_nil_iff.mp e k (List.mem_range.mpr (by omega))
    rw[decide_eq_true_eq] at this
    omega
theorem AZ {ss:List (Int × Int × Int)}:(ss.map dS3).all L3.lT=true:=by
  rw[List.all_map,List.all_eq_true];exact fun _ _=>rfl
theorem BY (one other:List Int):oY one other=.non∨∃i,oY one other=.int i:=by
  unfold oY
  split
  · exact Or.inl rfl
  · exact Or.inr ⟨_,rfl⟩
def lI (c:Cs):DSX:=fun ds P R=>∃one other:List Int,ds=[dI one,dI other]∧1≤one.length∧one.length<64∧(Alike one other→(∀i,oY one other=.int i→P (.tup [.str "bar",.int i]))∧(oY one other=.non→∀ss:List (Int × Int × Int),ss.length+2≤2*one.length→Walk other ss one→(one=other→ss=[])→P (.tup [.str "steps",.lst (ss.map dS3)])))∧(¬ Alike one other→R c.NotAlike)
theorem uO {c:Cs}:gu (lI c):=by
  intro xs P P' R R' k kr h
  obtain ⟨one,other,e,h1,h2,h3,h4⟩:=h
  exact⟨one,other,e,h1,h2,fun z=>⟨fun i y=>k _ ((h3 z).1 i y),fun y ss a b d=>k _ ((h3 z).2 y ss a b d)⟩,fun z=>kr _ (h4 z)⟩
theorem wY {c:Cs}:∀ds P R,lI c ds P R→ds.length=2:=by
  intro ds P R h
  unfold lI at h
  grind
theorem zp {f:Addr}{fd:FuncData} (F:FnAt K mg "steps_to" fo iB f fd) (A_:Fns K mg) (T:Txt K mg base) {c:Cs} (xs:Exs K mg base c):bE P w K mg base (CXR P w) 5 f fd iB (spX K (lI c)):=by
  obtain ⟨f0,d0,E_bar_of⟩:=A_.h_bar_of
  have G_bar_of:=Cd (P:=P) (w:=w) E_bar_of A_ T xs
  obtain ⟨f1,d1,E_evening_steps⟩:=A_.h_evening_steps
  have G_evening_steps:=qt (P:=P) (w:=w) E_evening_steps A_ T xs
  obtain ⟨f2,d2,E_exchanges_to⟩:=A_.h_exchanges_to
  have G_exchanges_to:=rd (P:=P) (w:=w) E_exchanges_to A_ T xs
  obtain ⟨f3,d3,E_row_behind⟩:=A_.h_row_behind
  have G_row_behind:=uK (P:=P) (w:=w) E_row_behind A_ T xs
  refine F.fn.okX mj (fun vs H Q E h=>js wY h) (fun cdv A outer s H vs Q E hr h=>?_)
  refine⟨_,(aj (Am (i:=2) mj.nd rfl (by first | exact Or.inl rfl | exact Or.inr rfl) (eY G_bar_of (hr.mono (by decide)) rfl E_bar_of.mg E_bar_of.fn.kp E_bar_of.bd .nil rR (PA.nox (af (pv 0) (af (pv 1) ak))))) (PSs.nox (aj (cU (aR GQ (pv 2) EK (aQ _)) (aq (aB (iY (af bA (af (pv 2) ak))))) aU) (aj (wst 3 mj.nd (wcl G_evening_steps hr E_evening_steps (af (pv 0) (af (pv 1) ak)))) (aq (aB (iY (af bA (af (aJ Hc (pv 3) (wcl G_exchanges_to hr E_exchanges_to (af (pv 0) (af (wcl G_row_behind hr E_row_behind (af (pv 1) (af (pv 3) ak))) ak)))) ak))))))))),jr (Γn:=[2]) (N:=nI) (fun R=>(jb (Fi 2 y9 (ah (ES.er (aa 0)) (ah (ES.er (aa 1)) ao))) (ST.sx (au (fj (aK (EM.er (aw IX (cH 2) (EM.er CO)))) (aD (M:=[2]) (kq (jq bq (jq (fN 2) eV)))) aX) (au (ST.post (Γn:=[2]) (aF 3 (EM.es (aA (S:=gk) nV (ah (ES.er (aa 0)) (ah (ES.er (aa 1)) ao)))))) (aD (M:=[]) (kq (bV bq (bV (aw IC (ES.er (aa 3)) (EM.er (aA (S:=hX) pf (ah (ES.er (aa 0)) (ah (FO (S:=gW) qS (ah (ES.er (aa 1)) (ah (ES.er (aa 3)) ao))) ao))))) eV))))))))) (fun ds P R hS=>?_) h⟩
  obtain ⟨one,other,rfl,h1,h64,hP,hR⟩:=hS
  rw[show aG nI [dI one,dI other]=[some (dI one),some (dI other),none,none] from rfl]
  walk_at "v"
  refine⟨one,other,rfl,h64,fun ha=>?_,hR⟩
  obtain ⟨hP1,hP2⟩:=hP ha
  rcases BY one other with e | ⟨i,e⟩<;>rw[e]
  · have hP:=hP2 e
    walk_at "v"
    refine⟨one,other,rfl,ha.1,by have:=ha.1;omega,by have:=ha.1;omega,ha.2,BJ ha.1 e,fun ss ys l1 w1 p1 z1=>?_⟩
    walk_at "go"
    refine⟨other,ys,ss,rfl,by have:=ha.1;omega,w1,?_⟩
    refine⟨one,ys,rfl,h1,h64,p1,fun tt l2 w2 z2=>?_⟩
    refine⟨⟨AZ,AZ,by have:=ha.1;rw[List.length_map,List.length_map];omega⟩,by decide,?_⟩
    rw[← List.map_append]
    refine hP _ (by have:=ha.1;rw[List.length_append];omega) (w1.app w2) fun z=>?_
    have e1:=z1 z
    subst e1
    have w1':other=ys:=w1
    rw[z2 (w1'.symm.trans z.symm)];rfl
  · have hP:=hP1 i e
    walk_at "go"
    exact hP
def A4:D→Bool | .int b=>decide (1≤b) | _=>false
def jP (c:Cs):DSX:=fun ds P R=>∃d,ds=[d]∧kn d=true∧(A4 d=true→P .non)∧(A4 d=false→R c.NoBottom)
theorem kc {c:Cs}:gu (jP c):=by
  intro xs P P' R R' k kr h
  obtain ⟨d,e,h0,h1,h2⟩:=h
  exact⟨d,e,h0,fun a=>k _ (h1 a),fun z=>kr _ (h2 z)⟩
theorem qj {c:Cs}:∀ds P R,jP c ds P R→ds.length=1:=by
  intro ds P R h
  obtain ⟨d,e,_⟩:=h
  rw[e];rfl
theorem lS {f:Addr}{fd:FuncData} (F:FnAt K mg "check_bottom" cq dY f fd) (A_:Fns K mg) (T:Txt K mg base) {c:Cs} (xs:Exs K mg base c):bE P w K mg base (CXR P w) 2 f fd dY (spX K (jP c)):=by
  obtain ⟨f0,d0,E_is_number⟩:=A_.h_is_number
  have G_is_number:=xq (P:=P) (w:=w) E_is_number A_ T xs
  refine F.fn.okX qV (fun vs H Q E h=>js qj h) (fun cdv A outer s H vs Q E hr h=>?_)
  refine⟨_,(aj (cU (PT.nox (PW.pt (jj (fv (eE (wcl G_is_number hr E_is_number (af (pv 0) ak)))) (i3 (aR vj (pv 0) av (aQ _)))))) (aq (kL (xs.o_NoBottom.own xs.m_NoBottom) PySem.F.excBase_ValueError rfl rfl m8 (af bA ak))) aU)
      aU),jr (Γn:=[]) (N:=jS) (fun R=>(jb (vF (jm (fh (mC (EM.er (aA (S:=iW) tO (ah (ES.er (aa 0)) ao))))) (aK (EM.er (aw jZ (ES.er (aa 0)) (EM.er ar))))) (kG (ah (EM.er bq) ao)) (ST.sx aX)) (ST.sx aX))) (fun ds P R hS=>?_) h⟩
  obtain ⟨d,rfl,hk,hP,hR⟩:=hS
  rw[show aG jS [d]=[some (d)] from rfl]
  walk_at "v"
  refine⟨d,rfl,hk,?_⟩
  cases d with
  | scr ns=>cases hk
  | pin a d=>cases hk
  | ins a b c=>cases hk
  | int b =>
    walk_at "v"
    rw[show isNum (.int b)=true from rfl]
    walk_at "v"
    by_cases h:b<1
    · rw[if_pos h]
      exact⟨by decide,hR (decide_eq_false (by omega))⟩
    · rw[if_neg h]
      exact hP (decide_eq_true (by omega))
  | _ =>
    walk_at "v"
    rw[if_pos (show isNum _=false from rfl)]
    exact⟨by decide,hR rfl⟩
def bj:DSp:=fun ds P=>∃a b:Nat,ds=[.int a,.int b]∧P (.int (Nat.gcd a b:Nat))
theorem cW:bc bj:=by
  intro xs P P' k h
  unfold bj at h ⊢
  grind
theorem mi:∀ds P,bj ds P→ds.length=2:=by
  intro ds P h
  obtain ⟨_,_,e,_⟩:=h
  rw[e];rfl
theorem dN {f:Addr}{fd:FuncData} (F:FnAt K mg "greatest_divisor" bo bX f fd) (A_:Fns K mg) (T:Txt K mg base) {c:Cs} (xs:Exs K mg base c):bE P w K mg base CX0 1 f fd bX (spP K bj):=by
  refine F.fn.ok dM (fun vs H Q E h=>aL mi h) (fun cdv A outer s H vs Q E hr h=>?_)
  refine⟨_,(aj (pJ PassesOwn.never (aR jF (pv 1) av (aQ _)) (aj (wst 2 dM.nd (aJ jT (pv 0) (pv 1))) (aj (wst 0 dM.nd (pv 1)) (aq (wst 1 dM.nd (pv 2)))))) (aq (aB (pv 0)))),aT (Γn:=[]) (N:=gr) (au (oB (aK (EM.er (aw nJ (ES.er (aa 1)) (EM.er ar)))) (au (ST.post (Γn:=[]) (aF 2 (EM.es (aw aZ (ES.er (aa 0)) (ES.er (aa 1)))))) (au (ST.post (Γn:=[]) (aF 0 (aa 1))) (ST.post (Γn:=[]) (aF 1 (aa 2)))))) (aD (M:=[]) (ER.bf (ES.er (aa 0))))) (fun ds P hS=>?_) h⟩
  obtain ⟨a,b,rfl,hP⟩:=hS
  rw[show aG gr [.int a,.int b]=[some (.int a),some (.int b),none] from rfl]
  walk_at "go"
  refine⟨fun m δ=>∃(x y:Nat) (o:Option D),δ=[some (.int x),some (.int y),o]∧Nat.gcd x y=Nat.gcd a b∧m=y,⟨b,a,b,none,rfl,rfl,rfl⟩,?_⟩
  rintro m δ ⟨x,y,o,rfl,hg,rfl⟩
  walk_at "go"
  by_cases h0:m=0
  · subst h0
    rw[if_neg (by simp)]
    rw[Nat.gcd_zero_right] at hg
    rw[hg]
    exact hP
  · rw[if_pos (by omega)]
    refine⟨by omega,x % m,Nat.mod_lt _ (by omega),m,x % m,_,by rw[Int.natCast_emod],?_,rfl⟩
    rw[← hg,Nat.gcd_comm x m,Nat.gcd_rec m x,Nat.gcd_comm]
def gR (g:Nat) (r:List Int):Nat:=r.foldl (fun g c=>Nat.gcd g c.natAbs) g
def gT (g:Nat) (t:List (List Int)):Nat:=t.foldl gR g
def Small (t:List (List Int)):Prop:=t.length≤8∧∀r∈t,r.length≤8
def gQ:DSp:=fun ds P=>∃(t:List (List Int)) (b:Nat),ds=[dT t,.int b]∧Small t∧P (.int (gT b t:Nat))
theorem qY:bc gQ:=by
  intro xs P P' k h
  unfold gQ at h ⊢
  grind
theorem sT:∀ds P,gQ ds P→ds.length=2:=by
  intro ds P h
  obtain ⟨_,_,e,_⟩:=h
  rw[e];rfl
theorem uD {f:Addr}{fd:FuncData} (F:FnAt K mg "divisor_of" dD fF f fd) (A_:Fns K mg) (T:Txt K mg base) {c:Cs} (xs:Exs K mg base c):bE P w K mg base CX0 2 f fd fF (spP K gQ):=by
  obtain ⟨f0,d0,E_greatest_divisor⟩:=A_.h_greatest_divisor
  have G_greatest_divisor:=dN (P:=P) (w:=w) E_greatest_divisor A_ T xs
  refine F.fn.ok fZ (fun vs H Q E h=>aL sT h) (fun cdv A outer s H vs Q E hr h=>?_)
  refine⟨_,(aj (wst 2 fZ.nd (pv 1)) (aj (wfo (wil K (pv 0)) (wpg 3 fZ.nd) (aq (wfo (wil K (pv 3)) (wpg 4 fZ.nd) (aq (wst 2 fZ.nd (wcl G_greatest_divisor hr E_greatest_divisor (af (pv 2) (af (aO oN (by rfl) T.abs_ boot_abs (af (pv 4) ak)) ak)))))))) (aq (aB (pv 2))))),aT (Γn:=[2]) (N:=lN) (au (ST.post (Γn:=[2]) (bU (M:=[]) 2 (ER.bf (ES.er (aa 1))))) (au (fO (br (aa 0)) (aI 3) (fO (br (aa 3)) (aI 4) (ST.post (Γn:=[2]) (bU (M:=[]) 2 (aA (S:=bj) cW (ah (cH 2) (ah (EM.er (aS Bi (ah (ES.er (aa 4)) ao))) ao))))))) (aD (M:=[2]) (fN 2)))) (fun ds P hS=>?_) h⟩
  obtain ⟨t,b,rfl,hs,hP⟩:=hS
  rw[show aG lN [dT t,.int b]=[some (dT t),some (.int b),none,none,none] from rfl]
  walk_at "go"
  refine dF (as:=t) (f:=dI) (fun i δ=>∃(o3 o4:Option D),δ=[some (dT t),some (.int b),some (.int ((t.take i).foldl gR b:Nat)),o3,o4]) ⟨none,none,rfl⟩ ?_ ?_
  · rintro i r δ N e ⟨o3,o4,rfl⟩ hN
    have hr:r∈t:=List.mem_of_getElem? e
    walk_at "go"
    refine dF (as:=r) (f:=L3.D.int) (fun j δ=>∃(o4:Option D),δ=[some (dT t),some (.int b),some (.int ((r.take j).foldl (fun g c=>Nat.gcd g c.natAbs) ((t.take i).foldl gR b):Nat)),some (dI r),o4]) ⟨_,rfl⟩ ?_ ?_
    · rintro j c δ N' e' ⟨o4,rfl⟩ hN'
      have hc:c∈r:=List.mem_of_getElem? e'
      walk_at "go"
      rw[show (if c<0 then -c else c)=(c.natAbs:Int) by split<;>omega]
      refine⟨_,c.natAbs,rfl,?_⟩
      walk_at "go"
      refine hN' _ ⟨some (.int c),?_⟩
      rw[List.take_add_one,e',Option.toList_some,List.foldl_append]
      rfl
    · rintro δ ⟨o4,rfl⟩
      refine hN _ ⟨some (dI r),o4,?_⟩
      rw[List.take_add_one,e,Option.toList_some,List.foldl_append,List.take_length]
      rfl
  · rintro δ ⟨o3,o4,rfl⟩
    rw[List.take_length]
    walk_at "v"
    exact hP
def B17:Nat:=2 ^ 1700
theorem G5 {c:Int}{g:Nat} (g1:1≤g) (g2:g<B17):qF c (g:Int):=⟨by omega,1700,by rw[Int.natAbs_natCast];exact g2,by decide⟩
def fU:DSp:=fun ds P=>∃(r:List Int) (g:Nat),ds=[dI r,.int g]∧r.length≤8∧1≤g∧g<B17∧P (dI (r.map fun c=>c / (g:Int)))
theorem qu:bc fU:=by
  intro xs P P' k h
  unfold fU at h ⊢
  grind
theorem rf:∀ds P,fU ds P→ds.length=2:=by
  intro ds P h
  obtain ⟨_,_,e,_⟩:=h
  rw[e];rfl
theorem tE {f:Addr}{fd:FuncData} (F:FnAt K mg "divided_row" b9 eO f fd) (A_:Fns K mg) (T:Txt K mg base) {c:Cs} (xs:Exs K mg base c):bE P w K mg base CX0 1 f fd eO (spP K fU):=by
  refine F.fn.ok sX (fun vs H Q E h=>aL rf h) (fun cdv A outer s H vs Q E hr h=>?_)
  refine⟨_,(aq (aB (wco (ai b9) "cell" ["divisor"] [1] (wil K (pv 0)) (fun _ _ _ _ _=>(aJ eF (pv 0) (pv 1)))))),aT (Γn:=[]) (N:=ky) (aD (M:=[]) (bL (br (aa 0)) (aI 0) (aw aZ (ES.er (aa 0)) (ES.er (aa 1))))) (fun ds P hS=>?_) h⟩
  obtain ⟨r,g,rfl,hl,g1,g2,hP⟩:=hS
  rw[show aG ky [dI r,.int g]=[some (dI r),some (.int g)] from rfl]
  have hc:∀c:Int,qF c (g:Int):=fun c=>G5 g1 g2
  walk_at "v"
  refine qx (ns:=r) (g:=fun x=>.int (x / (g:Int))) (fun R h=>h) (by omega) (fun x hx R h=>?_) ?_
  · walk_at "gb"
    exact⟨hc x,h⟩
  · rw[lQ];exact hP
theorem Ea:∀(r:List Int) (g:Nat),gR g r ∣ g∧∀c∈r,gR g r ∣ c.natAbs
  | [],g=>⟨Nat.dvd_refl _,fun _ h=>(nomatch h)⟩
  | c::r,g=>by
    have ih:=Ea r (Nat.gcd g c.natAbs)
    refine⟨Nat.dvd_trans ih.1 (Nat.gcd_dvd_left ..),fun x hx=>?_⟩
    rcases List.mem_cons.mp hx with z | z
    · rw[z];exact Nat.dvd_trans ih.1 (Nat.gcd_dvd_right ..)
    · exact ih.2 x z
theorem sL:∀(t:List (List Int)) (g:Nat),gT g t ∣ g∧∀r∈t,∀c∈r,gT g t ∣ c.natAbs
  | [],g=>⟨Nat.dvd_refl _,fun _ h=>(nomatch h)⟩
  | r::t,g=>by
    have ih:=sL t (gR g r)
    have h0:=Ea r g
    refine⟨Nat.dvd_trans ih.1 h0.1,fun x hx c hc=>?_⟩
    rcases List.mem_cons.mp hx with z | z
    · rw[z] at hc;exact Nat.dvd_trans ih.1 (h0.2 c hc)
    · exact ih.2 x z c hc
theorem Dv (k:Nat):∀(r:List Int) (g:Nat),gR (k*g) (r.map fun c=>(k:Int)*c)=k*gR g r
  | [],g=>rfl
  | c::r,g=>by
    show gR (Nat.gcd (k*g) ((k:Int)*c).natAbs) (r.map fun c=>(k:Int)*c)=k*gR (Nat.gcd g c.natAbs) r
    rw[Int.natAbs_mul,Int.natAbs_natCast,Nat.gcd_mul_left,Dv k r]
theorem C7 (k:Nat):∀(t:List (List Int)) (g:Nat),gT (k*g) (t.map fun r=>r.map fun c=>(k:Int)*c)=k*gT g t
  | [],g=>rfl
  | r::t,g=>by
    show gT (gR (k*g) (r.map fun c=>(k:Int)*c)) (t.map fun r=>r.map fun c=>(k:Int)*c)=k*gT (gR g r) t
    rw[Dv,C7 k t]
abbrev lU (g:Nat) (t:List (List Int)):List (List Int):=t.map fun r=>r.map fun c=>c / (g:Int)
theorem BN {t:List (List Int)}{g:Nat} (h:∀r∈t,∀c∈r,g ∣ c.natAbs):(lU g t).map (fun r=>r.map fun c=>(g:Int)*c)=t:=by
  unfold lU
  rw[List.map_map]
  conv=>rhs;rw[← List.map_id t]
  refine List.map_congr_left fun r hr=>?_
  show (r.map fun c=>c / (g:Int)).map (fun c=>(g:Int)*c)=r
  rw[List.map_map]
  conv=>rhs;rw[← List.map_id r]
  refine List.map_congr_left fun c hc=>?_
  exact Int.mul_ediv_cancel' (Int.ofNat_dvd_left.mpr (h r hr c hc))
theorem zM {t:List (List Int)}{b:Nat} (h:1≤b):1≤gT b t∧gT b t≤b:=⟨Nat.pos_of_dvd_of_pos (sL t b).1 h,Nat.le_of_dvd h (sL t b).1⟩
theorem JT {t:List (List Int)}{b:Nat} (h:1≤b):gT (b / gT b t) (lU (gT b t) t)=1:=by
  have d:=sL t b
  have p:=zM (t:=t) h
  have m:=C7 (gT b t) (lU (gT b t) t) (b / gT b t)
  rw[BN d.2,Nat.mul_div_cancel' d.1] at m
  exact Nat.eq_of_mul_eq_mul_left (Nat.lt_of_lt_of_le Nat.zero_lt_one p.1) (by rw[← m,Nat.mul_one])
def kv (c:Cs):DSX:=fun ds P R=>∃(t:List (List Int)) (d:D),ds=[dT t,d]∧kn d=true∧Small t∧(∀b:Nat,d=.int b→1≤b→b<B17∧P (.tup [dT (lU (gT b t) t),.int (b / gT b t:Nat)]))∧(A4 d=false→R c.NoBottom)
theorem pX {c:Cs}:gu (kv c):=by
  intro xs P P' R R' k kr h
  obtain ⟨t,d,e,h0,hs,h1,h2⟩:=h
  exact⟨t,d,e,h0,hs,fun b a h=>⟨(h1 b a h).1,k _ (h1 b a h).2⟩,fun z=>kr _ (h2 z)⟩
theorem rF {c:Cs}:∀ds P R,kv c ds P R→ds.length=2:=by
  intro ds P R h
  obtain ⟨t,d,e,_⟩:=h
  rw[e];rfl
theorem tf {f:Addr}{fd:FuncData} (F:zq K mg "least_terms" cj dH [.int 1] f fd) (A_:Fns K mg) (T:Txt K mg base) {c:Cs} (xs:Exs K mg base c):bE P w K mg base (CXR P w) 3 f fd dH (spX K (kv c)):=by
  obtain ⟨f0,d0,E_check_bottom⟩:=A_.h_check_bottom
  have G_check_bottom:=lS (P:=P) (w:=w) E_check_bottom A_ T xs
  obtain ⟨f1,d1,E_divisor_of⟩:=A_.h_divisor_of
  have G_divisor_of:=uD (P:=P) (w:=w) E_divisor_of A_ T xs
  obtain ⟨f2,d2,E_divided_row⟩:=A_.h_divided_row
  have G_divided_row:=tE (P:=P) (w:=w) E_divided_row A_ T xs
  obtain ⟨_,_,FD,_⟩:=F.ex
  refine FD.okX mz (fun vs H Q E h=>js rF h) (fun cdv A outer s H vs Q E hr h=>?_)
  refine⟨_,(aj (gU (eY G_check_bottom (hr.mono (by decide)) rfl E_check_bottom.mg E_check_bottom.fn.kp E_check_bottom.bd .nil rR (PA.nox (af (pv 1) ak)))) (PSs.nox (aj (wst 2 mz.nd (wcl G_divisor_of hr E_divisor_of (af (pv 0) (af (pv 1) ak)))) (aq (aB (iY (af (wco (ai cj) "row" ["divisor"] [2] (wil K (pv 0)) (fun _ _ _ _ _=>(wcl G_divided_row hr E_divided_row (af (pv 0) (af (pv 1) ak))))) (af (aJ eF (pv 1) (pv 2)) ak)))))))),jr (Γn:=[]) (N:=kf) (fun R=>(jb (xM kc (ah (ES.er (aa 1)) ao)) (ST.sx (au (ST.post (Γn:=[]) (aF 2 (EM.es (aA (S:=gQ) qY (ah (ES.er (aa 0)) (ah (ES.er (aa 1)) ao)))))) (aD (M:=[]) (kq (bV (bL (br (aa 0)) (aI 0) (aA (S:=fU) qu (ah (ES.er (aa 0)) (ah (ES.er (aa 1)) ao)))) (bV (aw aZ (ES.er (aa 1)) (ES.er (aa 2))) eV)))))))) (fun ds P R hS=>?_) h⟩
  obtain ⟨t,d,rfl,hk,hs,hP,hR⟩:=hS
  rw[show aG kf [dT t,d]=[some (dT t),some (d),none] from rfl]
  walk_at "v"
  refine⟨d,rfl,hk,fun hg=>?_,fun hg=>?_⟩
  · cases d with
    | int z =>
      have z1:1≤z:=of_decide_eq_true hg
      obtain ⟨b,rfl⟩:∃b:Nat,z=b:=⟨z.toNat,by omega⟩
      have hb:1≤b:=by omega
      obtain ⟨h40,hP⟩:=hP b rfl hb
      have p:=zM (t:=t) hb
      walk_at "go"
      refine⟨t,b,rfl,hs,?_⟩
      walk_at "go"
      refine ng (t:=t) (g:=fun r=>dI (r.map fun c=>c / (gT b t:Int))) (fun R h=>h) (by have:=hs.1;omega) (fun r hr R h=>?_) ?_
      · walk_at "gb"
        exact⟨r,gT b t,rfl,hs.2 r hr,p.1,by omega,h⟩
      refine⟨G5 (by omega) (by omega),by decide,?_⟩
      rw[show (t.map fun r=>dI (r.map fun c=>c / (gT b t:Int)))=(lU (gT b t) t).map dI by rw[lU,List.map_map];rfl]
      exact hP
    | _=>cases hg
  · exact hR hg
def oM (n p:Nat):List Int:=(List.range n).map fun (j:Nat)=>if j=p then 1 else 0
def iV:DSp:=fun ds P=>∃n p:Nat,ds=[.int n,.int p]∧n≤8∧P (dI (oM n p))
theorem sJ:bc iV:=by
  intro xs P P' k h
  unfold iV at h ⊢
  grind
theorem uZ:∀ds P,iV ds P→ds.length=2:=by
  intro ds P h
  obtain ⟨_,_,e,_⟩:=h
  rw[e];rfl
theorem wF {f:Addr}{fd:FuncData} (F:FnAt K mg "plain_row" dA gH f fd) (A_:Fns K mg) (T:Txt K mg base) {c:Cs} (xs:Exs K mg base c):bE P w K mg base CX0 1 f fd gH (spP K iV):=by
  refine F.fn.ok wJ (fun vs H Q E h=>aL uZ h) (fun cdv A outer s H vs Q E hr h=>?_)
  refine⟨_,(aq (aB (wco (ai dA) "place" ["one"] [1] (ir rfl T.range_ (af (pv 0) ak)) (fun _ _ _ _ _=>(oO (aR lR (pv 0) (pv 1) (aQ _)) av av))))),aT (Γn:=[]) (N:=mY) (aD (M:=[]) (bL (kY (ah (ES.er (aa 0)) ao)) (aI 0) (AG (aK (EM.er (aw rm (ES.er (aa 0)) (ES.er (aa 1))))) ar ar))) (fun ds P hS=>?_) h⟩
  obtain ⟨n,p,rfl,hn,hP⟩:=hS
  rw[show aG mY [.int n,.int p]=[some (.int n),some (.int p)] from rfl]
  walk_at "go"
  refine tZ (lo:=0) (n:=n) (g:=fun (j:Nat)=>.int (if j=p then 1 else 0)) (fun R h=>?_) (by omega) (fun j hj R h=>?_) ?_
  · walk_at "go"
    exact h
  · walk_at "gb"
    rw[Int.zero_add]
    by_cases c:j=p
    · rw[if_pos c] at h
      rw[if_pos (by omega)]
      exact h
    · rw[if_neg c] at h
      rw[if_neg (by omega)]
      exact h
  · rw[show (List.range n).map (fun (j:Nat)=>L3.D.int (if j=p then 1 else 0))=(oM n p).map L3.D.int from lQ]
    exact hP
def nA (n:Nat):List (List Int):=(List.range n).map fun (p:Nat)=>oM n p
def gf:DSp:=fun ds P=>∃n:Nat,ds=[.int n]∧n≤8∧P (dT (nA n))
theorem qy:bc gf:=by
  intro xs P P' k h
  unfold gf at h ⊢
  grind
theorem ra:∀ds P,gf ds P→ds.length=1:=by
  intro ds P h
  obtain ⟨_,e,_⟩:=h
  rw[e];rfl
theorem tD {f:Addr}{fd:FuncData} (F:FnAt K mg "plain_table" ck eR f fd) (A_:Fns K mg) (T:Txt K mg base) {c:Cs} (xs:Exs K mg base c):bE P w K mg base CX0 2 f fd eR (spP K gf):=by
  obtain ⟨f0,d0,E_plain_row⟩:=A_.h_plain_row
  have G_plain_row:=wF (P:=P) (w:=w) E_plain_row A_ T xs
  refine F.fn.ok sV (fun vs H Q E h=>aL ra h) (fun cdv A outer s H vs Q E hr h=>?_)
  refine⟨_,(aq (aB (wco (ai ck) "place" ["many"] [0] (ir rfl T.range_ (af (pv 0) ak)) (fun _ _ _ _ _=>(wcl G_plain_row hr E_plain_row (af (pv 1) (af (pv 0) ak))))))),aT (Γn:=[]) (N:=ko) (aD (M:=[]) (bL (kY (ah (ES.er (aa 0)) ao)) (aI 0) (aA (S:=iV) sJ (ah (ES.er (aa 1)) (ah (ES.er (aa 0)) ao))))) (fun ds P hS=>?_) h⟩
  obtain ⟨n,rfl,hn,hP⟩:=hS
  rw[show aG ko [.int n]=[some (.int n)] from rfl]
  walk_at "go"
  refine tZ (lo:=0) (n:=n) (g:=fun (p:Nat)=>dI (oM n p)) (fun R h=>?_) (by omega) (fun p hp R h=>?_) ?_
  · walk_at "go"
    exact h
  · walk_at "gb"
    rw[Int.zero_add]
    exact⟨n,p,rfl,hn,h⟩
  · rw[Hf];exact hP
def Bk (k:Nat) (xs:List Int):Prop:=∀j,(xs.getD j 0).natAbs<2 ^ k
def iU (p:Int) (xs:List Int) (q:Int) (ys:List Int):List Int:=(List.range xs.length).map fun (j:Nat)=>p*xs.getD j 0+q*ys.getD j 0
theorem pG {p q:Int}{xs ys:List Int}:(iU p xs q ys).length=xs.length:=by unfold iU;rw[List.length_map,List.length_range]
theorem rP {p q:Int}{xs ys:List Int}{j:Nat} (h:j<xs.length):(iU p xs q ys).getD j 0=p*xs.getD j 0+q*ys.getD j 0:=by
  unfold iU
  rw[List.getD_eq_getElem?_getD,List.getElem?_map,List.getElem?_range h];rfl
theorem zA {k:Nat}:0<2 ^ k:=Nat.pow_pos (by decide)
theorem Bk.mix {p q:Int}{xs ys:List Int}{k:Nat} (hp:p.natAbs<2 ^ 100) (hq:q.natAbs<2 ^ 100) (hx:Bk k xs) (hy:Bk k ys):Bk (k+101) (iU p xs q ys):=fun j=>by
  rcases Nat.lt_or_ge j xs.length with h | h
  · rw[rP h]
    have a1:(p*xs.getD j 0).natAbs<2 ^ 100*2 ^ k:=by rw[Int.natAbs_mul];exact Nat.mul_lt_mul'' hp (hx j)
    have a2:(q*ys.getD j 0).natAbs<2 ^ 100*2 ^ k:=by rw[Int.natAbs_mul];exact Nat.mul_lt_mul'' hq (hy j)
    have a3:=Int.natAbs_add_le (p*xs.getD j 0) (q*ys.getD j 0)
    rw[show k+101=100+k+1 by omega,Nat.pow_succ,Nat.pow_add]
    generalize 2 ^ 100*2 ^ k=z at *
    omega
  · rw[List.getD_eq_getElem?_getD,List.getElem?_eq_none (by rw[pG];exact h)]
    exact zA
def gN:DSp:=fun ds P=>∃(xs ys:List Int) (p q:Int) (k:Nat),ds=[dI xs,.int p,dI ys,.int q]∧xs.length≤8∧ys.length=xs.length∧p.natAbs<2 ^ 100∧q.natAbs<2 ^ 100∧k≤5000∧Bk k xs∧Bk k ys∧P (dI (iU p xs q ys))
theorem jU:bc gN:=by
  intro xs P P' k h
  obtain ⟨a,b,p,q,n,e,h1,h2,h3,h4,h5,h6,h7,h⟩:=h
  exact⟨a,b,p,q,n,e,h1,h2,h3,h4,h5,h6,h7,k _ h⟩
theorem uJ:∀ds P,gN ds P→ds.length=4:=by
  intro ds P h
  obtain ⟨_,_,_,_,_,e,_⟩:=h
  rw[e];rfl
theorem xH {f:Addr}{fd:FuncData} (F:FnAt K mg "mixed_row" dG gE f fd) (A_:Fns K mg) (T:Txt K mg base) {c:Cs} (xs:Exs K mg base c):bE P w K mg base CX0 1 f fd gE (spP K gN):=by
  refine F.fn.ok xJ (fun vs H Q E h=>aL uJ h) (fun cdv A outer s H vs Q E hr h=>?_)
  refine⟨_,(aq (aB (wco (ai dG) "place" ["one","parts","other","others"] [0,1,2,3] (ir rfl T.range_ (af (wln K T.len_ (pv 0)) ak)) (fun _ _ _ _ _=>(aJ i6 (aJ iH (pv 2) (wix K (pv 1) (pv 0))) (aJ iH (pv 4) (wix K (pv 3) (pv 0)))))))),aT (Γn:=[]) (N:=mU) (aD (M:=[]) (bL (kY (ah (EM.er (aS eh (ah (ES.er (aa 0)) ao))) ao)) (aI 0) (aw fz (EM.er (aw aZ (ES.er (aa 2)) (ES.er (aW (aa 1) (ES.er (aa 0)))))) (EM.er (aw aZ (ES.er (aa 4)) (ES.er (aW (aa 3) (ES.er (aa 0))))))))) (fun ds P hS=>?_) h⟩
  obtain ⟨xs,ys,p,q,k,rfl,hl,hy,hp,hq,hk,b1,b2,hP⟩:=hS
  rw[show aG mU [dI xs,.int p,dI ys,.int q]=[some (dI xs),some (.int p),some (dI ys),some (.int q)] from rfl]
  walk_at "go"
  refine tZ (lo:=0) (n:=xs.length) (g:=fun (j:Nat)=>.int (p*xs.getD j 0+q*ys.getD j 0)) (fun R h=>?_) (by omega) (fun j hj R h=>?_) ?_
  · walk_at "go"
    exact h
  · walk_at "gb"
    rw[Int.zero_add]
    refine aN (by omega) ?_
    rw[Int.toNat_natCast]
    refine⟨⟨100,k,hp,b1 j,by omega⟩,?_⟩
    refine aN (by omega) ?_
    rw[Int.toNat_natCast]
    exact⟨⟨100,k,hq,b2 j,by omega⟩,h⟩
  · rw[show (List.range xs.length).map (fun (j:Nat)=>L3.D.int (p*xs.getD j 0+q*ys.getD j 0))=(iU p xs q ys).map L3.D.int from lQ]
    exact hP
theorem nN {f:Nat→Int}{p:Int}:∀{m:Nat},Sg m (fun j=>p*f j)=p*Sg m f
  | 0=>by rw[m7,m7,Int.mul_zero]
  | m+1=>by rw[bZ,bZ,nN,Int.mul_add]
theorem sS {f g:Nat→Int}{p q:Int}{m:Nat}:Sg m (fun j=>p*f j+q*g j)=p*Sg m f+q*Sg m g:=by
  rw[DN (f:=fun j=>p*f j) (g:=fun j=>q*g j),nN,nN]
structure ic (n:Nat) (F:Nat→Nat→Int) (b:Int) (z x:Nat→Int):Prop where
  nn:∀i j,i<n→j<n→0≤F i j
  rs:∀i,i<n→Sg n (fun j=>F i j)=b
  cs:∀j,j<n→Sg n (fun i=>F i j)=b
  dt:∀i,i<n→Sg n (fun j=>F i j*z j)=x i*b
def zz (F:Nat→Nat→Int) (g t:Nat) (w a:Int):Nat→Nat→Int:=fun i j=>if i=g then (w - a)*F g j+a*F t j else if i=t then (w - a)*F t j+a*F g j else w*F i j+0*F i j
theorem ic.led {n:Nat}{F:Nat→Nat→Int}{b:Int}{z x:Nat→Int} (h:ic n F b z x) {g t:Nat}{w a:Int} (hg:g<n) (ht:t<n) (hgt:g≠t) (a1:1≤a) (a2:a≤w) (hw:w=x g - x t) :
    ic n (zz F g t w a) (w*b) z (fun i=>if i=g then x g - a else if i=t then x t+a else x i):=by
  have mm:∀u v:Int,0≤u→0≤v→0≤u*v:=fun u v=>Int.mul_nonneg
  refine⟨fun i j hi hj=>?_,fun i hi=>?_,fun j hj=>?_,fun i hi=>?_⟩
  · unfold zz
    have f1:=h.nn g j hg hj
    have f2:=h.nn t j ht hj
    have f3:=h.nn i j hi hj
    have e1:=mm (w - a) (F g j) (by omega) f1
    have e2:=mm a (F t j) (by omega) f2
    have e3:=mm (w - a) (F t j) (by omega) f2
    have e4:=mm a (F g j) (by omega) f1
    have e5:=mm w (F i j) (by omega) f3
    split
    · exact Int.add_nonneg e1 e2
    · split
      · exact Int.add_nonneg e3 e4
      · rw[Int.zero_mul,Int.add_zero];exact e5
  · unfold zz
    by_cases c1:i=g
    · rw[bG (g:=fun j=>(w - a)*F g j+a*F t j) fun j _=>if_pos c1,sS,h.rs g hg,h.rs t ht,← Int.add_mul]
      congr 1;omega
    · by_cases c2:i=t
      · rw[bG (g:=fun j=>(w - a)*F t j+a*F g j) fun j _=>(if_neg c1).trans (if_pos c2),sS,h.rs g hg,h.rs t ht,← Int.add_mul]
        congr 1;omega
      · rw[bG (g:=fun j=>w*F i j+0*F i j) fun j _=>(if_neg c1).trans (if_neg c2),sS,h.rs i hi,Int.zero_mul,Int.add_zero]
  · unfold zz
    rw[wK (f:=fun i=>if i=t then (w - a)*F t j+a*F g j else w*F i j+0*F i j) hg]
    rw[wK (f:=fun i=>w*F i j+0*F i j) ht,if_neg hgt,sS,h.cs j hj,Int.zero_mul,Int.zero_mul,Int.zero_mul,Int.sub_mul,Int.sub_mul]
    generalize w*b=A
    generalize w*F t j=B
    generalize a*F t j=D
    generalize w*F g j=E
    generalize a*F g j=G
    omega
  · unfold zz
    show Sg n (fun j=>(if i=g then (w - a)*F g j+a*F t j else if i=t then (w - a)*F t j+a*F g j else w*F i j+0*F i j)*z j)=(if i=g then x g - a else if i=t then x t+a else x i)*(w*b)
    have key:∀u v:Nat,u<n→v<n→Sg n (fun j=>((w - a)*F u j+a*F v j)*z j)=(w - a)*(x u*b)+a*(x v*b):=fun u v hu hv=>by
      rw[bG (g:=fun j=>(w - a)*(F u j*z j)+a*(F v j*z j)) fun j _=>by rw[Int.add_mul,Int.mul_assoc,Int.mul_assoc],sS,h.dt u hu,h.dt v hv]
    by_cases c1:i=g
    · rw[bG (g:=fun j=>((w - a)*F g j+a*F t j)*z j) fun j _=>by rw[if_pos c1],key g t hg ht,if_pos c1]
      subst hw
      rw[← Int.mul_assoc,← Int.mul_assoc,← Int.add_mul,← Int.mul_assoc]
      congr 1
      rw[Int.sub_mul,Int.mul_comm (x g - x t) (x g),Int.sub_mul (x g) a,Int.mul_sub a]
      omega
    · rw[if_neg c1]
      by_cases c2:i=t
      · rw[bG (g:=fun j=>((w - a)*F t j+a*F g j)*z j) fun j _=>by rw[if_neg c1,if_pos c2],key t g ht hg,if_pos c2]
        subst hw
        rw[← Int.mul_assoc,← Int.mul_assoc,← Int.add_mul,← Int.mul_assoc]
        congr 1
        rw[Int.sub_mul,Int.mul_comm (x g - x t) (x t),Int.add_mul (x t) a,Int.mul_sub a]
        omega
      · rw[if_neg c2,bG (g:=fun j=>w*(F i j*z j)) fun j _=>by rw[if_neg c1,if_neg c2,Int.zero_mul,Int.add_zero,Int.mul_assoc],nN,h.dt i hi,← Int.mul_assoc,← Int.mul_assoc,Int.mul_comm w]
theorem ic.down {n:Nat}{F G:Nat→Nat→Int}{b c d:Int}{z x:Nat→Int} (h:ic n F b z x) (d1:1≤d) (e:∀i j,i<n→j<n→F i j=d*G i j) (eb:b=d*c):ic n G c z x:=by
  have can:∀{u v:Int},d*u=d*v→u=v:=fun h=>Int.eq_of_mul_eq_mul_left (by omega) h
  refine⟨fun i j hi hj=>?_,fun i hi=>can ?_,fun j hj=>can ?_,fun i hi=>can ?_⟩
  · have:=h.nn i j hi hj
    rw[e i j hi hj] at this
    exact Int.nonneg_of_mul_nonneg_right this (by omega)
  · rw[← nN,← eb,← h.rs i hi];exact (bG fun j hj=>e i j hi hj).symm
  · rw[← nN,← eb,← h.cs j hj];exact (bG fun i hi=>e i j hi hj).symm
  · rw[← nN,← Int.mul_assoc,Int.mul_comm d,Int.mul_assoc,← eb,← h.dt i hi]
    exact (bG fun j hj=>by rw[e i j hi hj,Int.mul_assoc]).symm
theorem ic.congr {n:Nat}{F G:Nat→Nat→Int}{b:Int}{z x y:Nat→Int} (h:ic n F b z x) (e:∀i j,i<n→j<n→F i j=G i j) (ex:∀i,i<n→x i=y i):ic n G b z y :=
  ⟨fun i j hi hj=>e i j hi hj▸h.nn i j hi hj,fun i hi=>(bG fun j hj=>e i j hi hj).symm.trans (h.rs i hi),fun j hj=>(bG fun i hi=>e i j hi hj).symm.trans (h.cs j hj),fun i hi=>((bG fun j hj=>by rw[e i j hi hj]).symm.trans (h.dt i hi)).trans (by rw[ex i hi])⟩
theorem xo {p:Nat}:∀{m:Nat},p<m→∀f:Nat→Int,Sg m (fun j=>(if j=p then 1 else 0)*f j)=f p:=fun {m} h f=>by
  rw[bG (g:=fun j=>if j=p then f p else 0) fun j _=>by
    by_cases c:j=p
    · rw[if_pos c,if_pos c,Int.one_mul,c]
    · rw[if_neg c,if_neg c,Int.zero_mul],wK (f:=fun _=>0) h,vm]
  omega
theorem BZ {n:Nat}{z:Nat→Int}:ic n (fun i j=>if j=i then 1 else 0) 1 z z:=by
  refine⟨fun i j _ _=>by split<;>decide,fun i hi=>?_,fun j hj=>?_,fun i hi=>?_⟩
  · exact Eq.trans (bG fun j _=>(Int.mul_one _).symm) (xo hi (fun _=>1))
  · refine Eq.trans (bG fun i _=>?_) (xo hj (fun _=>1))
    rw[Int.mul_one]
    by_cases c:i=j
    · rw[if_pos c,if_pos c.symm]
    · rw[if_neg c,if_neg (fun z=>c z.symm)]
  · rw[Int.mul_one];exact xo hi z
def BkT (k:Nat) (t:List (List Int)):Prop:=∀i,Bk k (rowAt t i)
theorem vD {t:List (List Int)}{i j:Nat}{r:List Int} (h:i<t.length):rowAt (t.set i r) j=if j=i then r else rowAt t j:=by
  unfold rowAt
  rw[List.getD_eq_getElem?_getD,List.getElem?_set]
  by_cases c:j=i
  · subst c;rw[if_pos rfl,if_pos rfl,if_pos h];rfl
  · rw[if_neg (fun z=>c z.symm),if_neg c,← List.getD_eq_getElem?_getD]
theorem vJ {t:List (List Int)}{i:Nat}{f:List Int→List Int} (h:i<t.length):rowAt (t.map f) i=f (rowAt t i):=by
  unfold rowAt
  rw[List.getD_eq_getElem?_getD,List.getElem?_map,List.getElem?_eq_getElem h,List.getD_eq_getElem?_getD,List.getElem?_eq_getElem h];rfl
theorem lE {t:List (List Int)}{i:Nat} (h:t.length≤i):rowAt t i=[]:=by
  unfold rowAt
  rw[List.getD_eq_getElem?_getD,List.getElem?_eq_none h];rfl
def yA (t:List (List Int)) (g u:Nat) (w a:Int):List (List Int):=((t.map fun r=>iU w r 0 r).set g (iU (w - a) (rowAt t g) a (rowAt t u))).set u (iU (w - a) (rowAt t u) a (rowAt t g))
theorem vN {n:Nat}{t:List (List Int)}{g u:Nat}{w a:Int} (hR:kH n n t) (hg:g<n) (hu:u<n):kH n n (yA t g u w a):=by
  have h0:kH n n (t.map fun r=>iU w r 0 r):=⟨by rw[List.length_map];exact hR.1,fun r hr=>by
    obtain ⟨q,hq,rfl⟩:=List.mem_map.mp hr
    rw[pG];exact hR.2 q hq⟩
  exact (h0.set (by rw[pG];exact hR.row hg)).set (by rw[pG];exact hR.row hu)
theorem yB {n:Nat}{t:List (List Int)}{g u i:Nat}{w a:Int} (hR:kH n n t) (hg:g<n) (hu:u<n) (hgu:g≠u) (hi:i<n):rowAt (yA t g u w a) i=if i=g then iU (w - a) (rowAt t g) a (rowAt t u) else if i=u then iU (w - a) (rowAt t u) a (rowAt t g) else iU w (rowAt t i) 0 (rowAt t i):=by
  have hl:=hR.1
  unfold yA
  rw[vD (by rw[List.length_set,List.length_map];omega),vD (by rw[List.length_map];omega)]
  by_cases c1:i=g
  · rw[if_pos c1,if_neg (by omega),if_pos c1]
  · rw[if_neg c1]
    by_cases c2:i=u
    · rw[if_pos c2,if_neg c1]
      first | rfl | rw[if_pos c2]
    · rw[if_neg c2,if_neg c1,if_neg c2]
      exact vJ (f:=fun r=>iU w r 0 r) (by omega)
theorem BS {n:Nat}{t:List (List Int)}{g u i j:Nat}{w a:Int} (hR:kH n n t) (hg:g<n) (hu:u<n) (hgu:g≠u) (hi:i<n) (hj:j<n):zz (cellAt t) g u w a i j=cellAt (yA t g u w a) i j:=by
  show _=(rowAt (yA t g u w a) i).getD j 0
  rw[yB hR hg hu hgu hi]
  unfold zz
  split
  · rw[rP (by rw[hR.row hg];exact hj)]
  · split
    · rw[rP (by rw[hR.row hu];exact hj)]
    · rw[rP (by rw[hR.row hi];exact hj)]
theorem GD {n k:Nat}{t:List (List Int)}{g u:Nat}{w a:Int} (hR:kH n n t) (hg:g<n) (hu:u<n) (hgu:g≠u) (hw:w.natAbs<2 ^ 100) (ha:a.natAbs<2 ^ 100) (hwa:(w - a).natAbs<2 ^ 100) (hT:BkT k t):BkT (k+101) (yA t g u w a):=fun i=>by
  rcases Nat.lt_or_ge i n with h | h
  · rw[yB hR hg hu hgu h]
    split
    · exact Bk.mix hwa ha (hT g) (hT u)
    · split
      · exact Bk.mix hwa ha (hT u) (hT g)
      · exact Bk.mix hw (by decide) (hT i) (hT i)
  · rw[lE (by rw[(vN hR hg hu).1];exact h)]
    exact fun j=>zA
theorem AW {n:Nat}{r:List Int} (h:r.length=n):r.sum=Sg n (fun j=>r.getD j 0):=by
  have:=ph (ys:=r) (k:=n) (by omega)
  rw[List.take_of_length_le (by omega)] at this
  exact this.symm
theorem Ax {M:Int}{f:Nat→Int}:∀{m:Nat},(∀j,j<m→f j≤M)→Sg m f≤(m:Int)*M
  | 0,_=>by rw[m7];simp
  | m+1,h=>by
    have ih:=Ax (M:=M) (f:=f) (m:=m) fun j hj=>h j (by omega)
    have e:=h m (by omega)
    rw[bZ,Int.natCast_succ,Int.add_mul,Int.one_mul]
    omega
theorem ic.bot {n k:Nat}{t:List (List Int)}{b:Int}{z x:Nat→Int} (h:ic n (cellAt t) b z x) (n1:1≤n) (n8:n≤8) (hT:BkT k t):b<2 ^ (k+4):=by
  have:=h.rs 0 (by omega)
  have m:=Ax (M:=2 ^ k) (f:=fun j=>cellAt t 0 j) (m:=n) fun j hj=>by
    have:=hT 0 j
    have p:((2 ^ k:Nat):Int)=2 ^ k:=by norm_cast
    show (rowAt t 0).getD j 0≤_
    omega
  rw[this] at m
  have p:(0:Int)<2 ^ k:=Int.pow_pos (by decide)
  rw[Int.pow_add]
  generalize (2:Int) ^ k=y at *
  have:(n:Int)*y≤8*y:=Int.mul_le_mul_of_nonneg_right (by omega) (by omega)
  omega
theorem yd {t:List (List Int)}{d i:Nat}:rowAt (lU d t) i=(rowAt t i).map fun c=>c / (d:Int):=by
  rcases Nat.lt_or_ge i t.length with h | h
  · exact vJ (f:=fun r=>r.map fun c=>c / (d:Int)) h
  · rw[lE h,lE (by rw[List.length_map];exact h)];rfl
theorem vP {r:List Int}{d j:Nat}:(r.map fun c=>c / (d:Int)).getD j 0=r.getD j 0 / (d:Int):=by
  rw[List.getD_eq_getElem?_getD,List.getD_eq_getElem?_getD,List.getElem?_map]
  cases r[j]? with
  | none=>show (0:Int)=0 / d;rw[Int.zero_ediv]
  | some v=>rfl
theorem Ct {n m d:Nat}{t:List (List Int)} (h:kH n m t):kH n m (lU d t):=⟨by rw[List.length_map];exact h.1,fun r hr=>by
  obtain ⟨q,hq,rfl⟩:=List.mem_map.mp hr
  rw[List.length_map];exact h.2 q hq⟩
theorem GK {k d:Nat}{t:List (List Int)} (h:BkT k t):BkT k (lU d t):=fun i j=>by
  rw[yd,vP]
  exact Nat.lt_of_le_of_lt (Int.natAbs_ediv_le_natAbs _ _) (h i j)
theorem ET {n d i j:Nat}{t:List (List Int)} (hR:kH n n t) (h:∀r∈t,∀c∈r,d ∣ c.natAbs) (hi:i<n) (hj:j<n):cellAt t i j=(d:Int)*cellAt (lU d t) i j:=by
  show (rowAt t i).getD j 0=(d:Int)*(rowAt (lU d t) i).getD j 0
  rw[yd,vP]
  have hm:(rowAt t i).getD j 0∈rowAt t i:=by
    rw[List.getD_eq_getElem?_getD,List.getElem?_eq_getElem (by rw[hR.row hi];exact hj)]
    exact List.getElem_mem _
  exact (Int.mul_ediv_cancel' (Int.ofNat_dvd_left.mpr (h _ (vR (by rw[hR.1];exact hi)) _ hm))).symm
def j8:DSp:=fun ds P=>∃(t:List (List Int)) (row:List Int) (g u a b:Int) (n k:Nat) (z:Nat→Int),ds=[dT t,dI row,dS g u a]∧kH n n t∧1≤n∧n≤8∧row.length=n∧ic n (cellAt t) b z (atF row)∧1≤b∧ix row g u a∧Bk 98 row∧BkT k t∧k≤1500∧∀(t':List (List Int)) (b':Int),kH n n t'→ic n (cellAt t') b' z (atF (Maj.aV row g.toNat u.toNat a))→1≤b'→BkT (k+101) t'→P (dT t')
theorem oA {i:Nat}{δ:Dl}{de dx:DE}{E:cC}{t:List (List Int)}{r:List Int}{a:Int} (hs:δ[i]?=some (some (dT t))) (hde:∀R:DK,R (dI r)→de δ R) (hdx:∀R:DK,R (.int a)→dx δ R) (ha:0≤a∧a<t.length) (h:E.nx (δ.set i (some (dT (t.set a.toNat r))))):md i de dx E δ:=by
  unfold md
  refine hde _ ((AU hs).mpr (hdx _ ?_))
  show match ixN (t.map dI).length a with | some j=>E.nx (δ.set i (some (.lst ((t.map dI).set j (dI r))))) | none=>False
  rw[j6 ha.1 (by rw[List.length_map];exact ha.2)]
  show E.nx (δ.set i (some (.lst ((t.map dI).set a.toNat (dI r)))))
  rw[IM];exact h
theorem tR:bc j8:=by
  intro xs P P' k h
  obtain ⟨t,row,g,u,a,b,n,m,z,e,h1,h2,h3,h4,h5,h6,h7,h8,h9,h10,h⟩:=h
  exact⟨t,row,g,u,a,b,n,m,z,e,h1,h2,h3,h4,h5,h6,h7,h8,h9,h10,fun p q x y v w=>k _ (h p q x y v w)⟩
theorem uA:∀ds P,j8 ds P→ds.length=3:=by
  intro ds P h
  obtain ⟨_,_,_,_,_,_,_,_,_,e,_⟩:=h
  rw[e];rfl
theorem xp {f:Addr}{fd:FuncData} (F:FnAt K mg "led_table" dw gM f fd) (A_:Fns K mg) (T:Txt K mg base) {c:Cs} (xs:Exs K mg base c):bE P w K mg base CX0 4 f fd gM (spP K j8):=by
  obtain ⟨f0,d0,E_mixed_row⟩:=A_.h_mixed_row
  have G_mixed_row:=xH (P:=P) (w:=w) E_mixed_row A_ T xs
  obtain ⟨f1,d1,E_least_terms⟩:=A_.h_least_terms
  have G_least_terms:=tf (P:=P) (w:=w) E_least_terms A_ T xs
  refine F.fn.ok fE (fun vs H Q E h=>aL uA h) (fun cdv A outer s H vs Q E hr h=>?_)
  refine⟨_,(aj (wst 3 fE.nd (wit K (pv 2) av)) (aj (wst 4 fE.nd (wit K (pv 2) av)) (aj (wst 5 fE.nd (aJ jX (wix K (pv 1) (pv 3)) (wix K (pv 1) (pv 4)))) (aj (wst 6 fE.nd (aJ jX (pv 5) (wit K (pv 2) av))) (aj (pk (i:=7) (bD.of (sc0:=(ai dw)) (tn:=["line"]) (cap:=["whole"]) (idx:=[5]) (by decide +kernel) rfl rfl) fE.nd rfl (by first | exact Or.inl rfl | exact Or.inr rfl) (wil K (pv 0)) (mR.name (by decide)) (fun _ _ _ _ _=>iI (i:=0) (cD (l:=["line","whole"]) (by decide +kernel)) rfl (by first | exact Or.inl rfl | exact Or.inr rfl) (by first | exact .inl rfl | exact .inr rfl)) (fun _ _ _ _ _=>(wcl G_mixed_row hr E_mixed_row (af (pv 0) (af (pv 1) (af (pv 0) (af av ak))))))) (aj (oq (wcl G_mixed_row hr E_mixed_row (af (wix K (pv 0) (pv 3)) (af (pv 6) (af (wix K (pv 0) (pv 4)) (af (wit K (pv 2) av) ak))))) (pR (pv 7) (pv 3) set_list)) (aj (oq (wcl G_mixed_row hr E_mixed_row (af (wix K (pv 0) (pv 4)) (af (pv 6) (af (wix K (pv 0) (pv 3)) (af (wit K (pv 2) av) ak))))) (pR (pv 7) (pv 4) set_list)) (aq (aB (wit K (eY G_least_terms (hr.mono (by decide)) rfl E_least_terms.mg E_least_terms.kp E_least_terms.bd .nil qK (af (pv 7) (af (aO (m9 (K:=K) rfl rfl) (by rfl) T.sum_ boot_sum (af (wix K (pv 7) av) ak)) ak))) av)))))))))),aT (Γn:=[7]) (N:=mE) (au (ST.post (Γn:=[]) (aF 3 (bM (aa 2) (EM.er ar)))) (au (ST.post (Γn:=[]) (aF 4 (bM (aa 2) (EM.er ar)))) (au (ST.post (Γn:=[]) (aF 5 (EM.es (aw fz (ES.er (aW (aa 1) (ES.er (aa 3)))) (ES.er (aW (aa 1) (ES.er (aa 4)))))))) (au (ST.post (Γn:=[]) (aF 6 (EM.es (aw fz (ES.er (aa 5)) (ES.er (bM (aa 2) (EM.er ar))))))) (au (ST.post (Γn:=[7]) (bU (M:=[]) 7 (bL (br (aa 0)) (aI 0) (aA (S:=gN) jU (ah (ES.er (aa 0)) (ah (ES.er (aa 1)) (ah (ES.er (aa 0)) (ah (EM.er ar) ao)))))))) (au (ij 7 (aA (S:=gN) jU (ah (ES.er (aW (aa 0) (ES.er (aa 3)))) (ah (ES.er (aa 6)) (ah (ES.er (aW (aa 0) (ES.er (aa 4)))) (ah (ES.er (bM (aa 2) (EM.er ar))) ao))))) (ES.er (aa 3))) (au (ij 7 (aA (S:=gN) jU (ah (ES.er (aW (aa 0) (ES.er (aa 4)))) (ah (ES.er (aa 6)) (ah (ES.er (aW (aa 0) (ES.er (aa 3)))) (ah (ES.er (bM (aa 2) (EM.er ar))) ao))))) (ES.er (aa 4))) (aD (M:=[]) (zY (mO pX (ah (cH 7) (ah (EM.er (aS AN (ah (kZ (cH 7) (EM.er ar)) ao))) ao))) (EM.er ar)))))))))) (fun ds P hS=>?_) h⟩
  obtain ⟨t,row,g,u,a,b,n,k,z,rfl,hR,n1,n8,hl,hL,b1,hs,hB,hT,hk,hP⟩:=hS
  rw[show aG mE [dT t,dI row,dS g u a]=[some (dT t),some (dI row),some (dS g u a),none,none,none,none,none] from rfl]
  obtain ⟨g0,g1,u0,u1,a1,a2⟩:=id hs
  obtain ⟨g',rfl⟩:∃g':Nat,g=g':=⟨g.toNat,by omega⟩
  obtain ⟨u',rfl⟩:∃u':Nat,u=u':=⟨u.toNat,by omega⟩
  rw[Int.toNat_natCast,Int.toNat_natCast] at a2 hP
  have ht:=hR.1
  have hg:g' < n:=by omega
  have hu:u' < n:=by omega
  have hgu:g'≠u':=fun e=>by rw[e] at a2;omega
  have bg:=hB g'
  have bu:=hB u'
  have p98:4*2 ^ 98=2 ^ 100:=by decide
  unfold dS
  walk_at "go"
  refine aN (by omega) (aN (by omega) ?_)
  rw[Int.toNat_natCast,Int.toNat_natCast]
  walk_at "go"
  generalize hw:row.getD g' 0 - row.getD u' 0=w at a2 ⊢
  have w100:w.natAbs<2 ^ 100:=by omega
  have a100:a.natAbs<2 ^ 100:=by omega
  have wa100:(w - a).natAbs<2 ^ 100:=by omega
  walk_at "go"
  refine ng (t:=t) (g:=fun r=>dI (iU w r 0 r)) (fun R h=>h) (by omega) (fun r hr R h=>?_) ?_
  · walk_at "gb"
    obtain ⟨i,hi,rfl⟩:=List.mem_iff_getElem.mp hr
    have bi:Bk k t[i]:=by
      have:=hT i
      unfold rowAt at this
      rw[List.getD_eq_getElem?_getD,List.getElem?_eq_getElem hi] at this
      exact this
    exact⟨_,_,w,0,k,rfl,by rw[hR.2 _ hr];exact n8,rfl,w100,by decide,by omega,bi,bi,h⟩
  rw[show t.map (fun r=>dI (iU w r 0 r))=(t.map fun r=>iU w r 0 r).map dI by rw[List.map_map];rfl]
  have lg:=hR.row hg
  have lu:=hR.row hu
  refine oA (t:=t.map fun r=>iU w r 0 r) (a:=g') (r:=iU (w - a) (rowAt t g') a (rowAt t u')) rfl (fun R h=>?_) (fun R h=>?_) (by rw[List.length_map];omega) ?_
  · walk_at "go"
    refine mB (by omega) (mB (by omega) ?_)
    rw[Int.toNat_natCast,Int.toNat_natCast]
    exact⟨rowAt t g',rowAt t u',w - a,a,k,rfl,by omega,by omega,wa100,a100,by omega,hT g',hT u',h⟩
  · walk_at "go"
    exact h
  walk_at "v"
  refine oA (t:=(t.map fun r=>iU w r 0 r).set g' (iU (w - a) (rowAt t g') a (rowAt t u'))) (a:=u') (r:=iU (w - a) (rowAt t u') a (rowAt t g')) rfl (fun R h=>?_) (fun R h=>?_) (by rw[List.length_set,List.length_map];omega) ?_
  · walk_at "go"
    refine mB (by omega) (mB (by omega) ?_)
    rw[Int.toNat_natCast,Int.toNat_natCast]
    exact⟨rowAt t u',rowAt t g',w - a,a,k,rfl,by omega,by omega,wa100,a100,by omega,hT u',hT g',h⟩
  · walk_at "go"
    exact h
  walk_at "v"
  have e:((t.map fun r=>iU w r 0 r).set g' (iU (w - a) (rowAt t g') a (rowAt t u'))).set u' (iU (w - a) (rowAt t u') a (rowAt t g'))=yA t g' u' w a:=rfl
  rw[e]
  have hR2:=vN (w:=w) (a:=a) hR hg hu
  have hL2:=(hL.led hg hu hgu a1 a2 hw.symm).congr (fun i j hi hj=>BS hR hg hu hgu hi hj) (y:=atF (Maj.aV row g' u' a)) fun i hi=>(fJ (by omega) (by omega) hgu).symm
  have hT2:=GD hR hg hu hgu w100 a100 wa100 hT
  generalize yA t g' u' w a=t2 at *
  have bb:1≤w*b:=by
    have:=Int.mul_pos (show 0<w by omega) (show 0<b by omega)
    omega
  have b17:=hL2.bot n1 n8 hT2
  generalize w*b=b2 at *
  have l2:=hR2.1
  walk_at "go"
  refine mB (by omega) ?_
  walk_at "go"
  have hsum:(rowAt t2 0).sum=b2:=(AW (hR2.row (by omega))).trans (hL2.rs 0 (by omega))
  have es:(rowAt t2 (0:Int).toNat).sum=b2:=hsum
  refine⟨t2,_,rfl,rfl,⟨by omega,fun r hr=>by rw[hR2.2 r hr];exact n8⟩,fun bn e1 e2=>⟨?_,?_⟩,fun z=>?_⟩
  · have e3:(rowAt t2 0).sum=bn:=L3.D.int.inj e1
    have e4:(bn:Int)<2 ^ (k+101+4):=by rw[← e3,hsum];exact b17
    have e5:bn<2 ^ (k+101+4):=by exact_mod_cast e4
    exact Nat.lt_of_lt_of_le e5 (Nat.pow_le_pow_right (by decide) (by omega))
  · have e3:(rowAt t2 0).sum=bn:=L3.D.int.inj e1
    have dv:=sL t2 bn
    have gp:=zM (t:=t2) e2
    walk_at "go"
    refine hP _ ((bn / gT bn t2:Nat):Int) (Ct hR2) (hL2.down (d:=(gT bn t2:Int)) (by omega) (fun i j hi hj=>ET hR2 dv.2 hi hj) ?_) ?_ (GK hT2)
    · rw[← hsum,e3,← Int.natCast_mul,Nat.mul_div_cancel' dv.1]
    · have:=Nat.div_pos gp.2 (show 0<gT bn t2 by omega)
      omega
  · have:decide (1≤(rowAt t2 0).sum)=false:=z
    rw[hsum,decide_eq_true bb] at this
    cases this
theorem Bk.step {xs:List Int}{g u:Nat}{a:Int} (h:Bk 98 xs) (hs:ix xs g u a):Bk 98 (Maj.aV xs g u a):=fun j=>by
  obtain ⟨g0,g1,u0,u1,a1,a2⟩:=hs
  rw[Int.toNat_natCast,Int.toNat_natCast] at a2
  have hg:=h g
  have hu:=h u
  rw[fJ (by omega) (by omega) (fun e=>by rw[e] at a2;omega)]
  split
  · omega
  · split
    · omega
    · exact h j
theorem uq {n:Nat}:kH n n (nA n):=⟨by unfold nA;rw[List.length_map,List.length_range],fun r hr=>by
  unfold nA at hr
  obtain ⟨p,_,rfl⟩:=List.mem_map.mp hr
  unfold oM
  rw[List.length_map,List.length_range]⟩
theorem wk {n i:Nat} (hi:i<n):rowAt (nA n) i=oM n i:=by
  unfold rowAt nA
  rw[List.getD_eq_getElem?_getD,List.getElem?_map,List.getElem?_range hi];rfl
theorem yN {n i j:Nat} (hj:j<n):(oM n i).getD j 0=if j=i then 1 else 0:=by
  unfold oM
  rw[List.getD_eq_getElem?_getD,List.getElem?_map,List.getElem?_range hj];rfl
theorem Aa {n i j:Nat} (hi:i<n) (hj:j<n):(if j=i then 1 else 0:Int)=cellAt (nA n) i j:=by
  show _=(rowAt (nA n) i).getD j 0
  rw[wk hi,yN hj]
theorem EC {n:Nat}:BkT 1 (nA n):=fun i j=>by
  rcases Nat.lt_or_ge i n with h | h
  · rw[wk h]
    rcases Nat.lt_or_ge j n with h2 | h2
    · rw[yN h2];split<;>decide
    · rw[List.getD_eq_getElem?_getD,List.getElem?_eq_none (by unfold oM;rw[List.length_map,List.length_range];exact h2)]
      decide
  · rw[lE (by rw[uq.1];exact h)];exact zA
theorem BkT.mono {k l:Nat}{t:List (List Int)} (h:BkT k t) (hk:k≤l):BkT l t:=fun i j=>Nat.lt_of_lt_of_le (h i j) (Nat.pow_le_pow_right (by decide) hk)
def nc (c:Cs):DSX:=fun ds P R=>∃one other:List Int,ds=[dI one,dI other]∧1≤one.length∧one.length≤8∧(Alike one other→Bk 98 other)∧(Alike one other→(∀i,oY one other=.int i→P (.tup [.str "bar",.int i]))∧(oY one other=.non→∀(t:List (List Int)) (b:Int),kH one.length one.length t→ic one.length (cellAt t) b (atF other) (atF one)→1≤b→BkT 1500 t→P (.tup [.str "table",dT t])))∧(¬ Alike one other→R c.NotAlike)
theorem w4 {c:Cs}:gu (nc c):=by
  intro xs P P' R R' k kr h
  obtain ⟨one,other,e,h1,h2,h3,h4,h5⟩:=h
  exact⟨one,other,e,h1,h2,h3,fun z=>⟨fun i y=>k _ ((h4 z).1 i y),fun y t b p q r s=>k _ ((h4 z).2 y t b p q r s)⟩,fun z=>kr _ (h5 z)⟩
theorem yX {c:Cs}:∀ds P R,nc c ds P R→ds.length=2:=by
  intro ds P R h
  unfold nc at h
  grind
theorem zG {f:Addr}{fd:FuncData} (F:FnAt K mg "lead_to" gG jB f fd) (A_:Fns K mg) (T:Txt K mg base) {c:Cs} (xs:Exs K mg base c):bE P w K mg base (CXR P w) 6 f fd jB (spX K (nc c)):=by
  obtain ⟨f0,d0,E_steps_to⟩:=A_.h_steps_to
  have G_steps_to:=zp (P:=P) (w:=w) E_steps_to A_ T xs
  obtain ⟨f1,d1,E_plain_table⟩:=A_.h_plain_table
  have G_plain_table:=tD (P:=P) (w:=w) E_plain_table A_ T xs
  obtain ⟨f2,d2,E_led_table⟩:=A_.h_led_table
  have G_led_table:=xp (P:=P) (w:=w) E_led_table A_ T xs
  obtain ⟨f3,d3,E_step_made⟩:=A_.h_step_made
  have G_step_made:=ju (P:=P) (w:=w) E_step_made A_ T xs
  refine F.fn.okX gv (fun vs H Q E h=>js yX h) (fun cdv A outer s H vs Q E hr h=>?_)
  refine⟨_,(aj (Am (i:=2) gv.nd rfl (by first | exact Or.inl rfl | exact Or.inr rfl) (eY G_steps_to (hr.mono (by decide)) rfl E_steps_to.mg E_steps_to.fn.kp E_steps_to.bd .nil rR (PA.nox (af (pv 0) (af (pv 1) ak))))) (PSs.nox (aj (cU (aR lR (wit K (pv 2) av) bA (aQ _)) (aq (aB (pv 2))) aU) (aj (wst 3 gv.nd (wcl G_plain_table hr E_plain_table (af (wln K T.len_ (pv 1)) ak))) (aj (wst 4 gv.nd (pv 1)) (aj (wfo (wil K (wit K (pv 2) av)) (wpg 5 gv.nd) (aj (wst 3 gv.nd (wcl G_led_table hr E_led_table (af (pv 3) (af (pv 4) (af (pv 5) ak))))) (aq (wst 4 gv.nd (eY G_step_made (hr.mono (by decide)) rfl E_step_made.mg E_step_made.fn.kp E_step_made.bd .nil qK (af (pv 4) (af (pv 5) ak))))))) (aq (aB (iY (af bA (af (pv 3) ak))))))))))),jr (Γn:=[3]) (N:=pV) (fun R=>(jb (Fi 2 uO (ah (ES.er (aa 0)) (ah (ES.er (aa 1)) ao))) (ST.sx (au (fj (aK (EM.er (aw rm (Hg (cH 2) (EM.er ar)) (EM.er bq)))) (aD (M:=[2]) (fN 2)) aX) (au (ST.post (Γn:=[3,2]) (bU (M:=[]) 3 (aA (S:=gf) qy (ah (EM.er (aS eh (ah (ES.er (aa 1)) ao))) ao)))) (au (ST.post (Γn:=[3,2]) (aF 4 (aa 1))) (au (ST.pre (Γ1:=[3]) (fO (br (bM (aa 2) (EM.er ar))) (aI 5) (au (ST.post (Γn:=[3]) (bU (M:=[]) 3 (aA (S:=j8) tR (ah (cH 3) (ah (ES.er (aa 4)) (ah (ES.er (aa 5)) ao)))))) (ST.post (Γn:=[3]) (aF 4 (EM.es (mO gX (ah (ES.er (aa 4)) (ah (ES.er (aa 5)) ao))))))))) (aD (M:=[3]) (kq (jq bq (jq (fN 3) eV))))))))))) (fun ds P R hS=>?_) h⟩
  obtain ⟨one,other,rfl,h1,h8,hB,hP,hR⟩:=hS
  rw[show aG pV [dI one,dI other]=[some (dI one),some (dI other),none,none,none,none] from rfl]
  walk_at "v"
  refine⟨one,other,rfl,h1,by omega,fun ha=>⟨fun i e=>?_,fun e ss hl hW _=>?_⟩,hR⟩
  · have hP:=(hP ha).1 i e
    walk_at "go"
    exact hP
  · have hP:=(hP ha).2 e
    have la:=ha.1
    walk_at "go"
    refine⟨other.length,rfl,by omega,?_⟩
    walk_at "go"
    rw[← la]
    refine dF (as:=ss) (f:=dS3) (fun i δ=>∃(zs:List Int) (t:List (List Int)) (b:Int) (o5:Option D),δ=[some (dI one),some (dI other),some (.tup [.str "steps",.lst (ss.map dS3)]),some (dT t),some (dI zs),o5]∧Walk zs (ss.drop i) one∧zs.length=one.length∧Bk 98 zs∧kH one.length one.length t∧ic one.length (cellAt t) b (atF other) (atF zs)∧1≤b∧BkT (1+101*i) t) ⟨other,nA one.length,1,none,rfl,hW,la.symm,hB ha,uq,BZ.congr (fun i j hi hj=>Aa hi hj) (fun i _=>rfl),by decide,EC⟩ ?_ ?_
    · rintro i ⟨g,u,a⟩ δ N e ⟨zs,t,b,o5,rfl,hW,lz,bz,hT,hL,b1,bt⟩ hN
      obtain ⟨q1,q2⟩:=List.getElem?_eq_some_iff.mp e
      rw[List.drop_eq_getElem_cons q1,q2] at hW
      obtain ⟨hs,hW⟩:=hW
      have hs':=id hs
      obtain ⟨g0,g1,u0,u1,a1,a2⟩:=hs'
      walk_at "go"
      refine⟨t,zs,g,u,a,b,one.length,1+101*i,atF other,rfl,hT,h1,h8,lz,hL,b1,hs,bz,bt,by omega,fun t' b' hT' hL' b1' bt'=>?_⟩
      walk_at "go"
      refine⟨zs,g,u,a,rfl,fun _=>?_,fun z=>absurd hs z⟩
      refine hN _ ⟨_,t',b',_,rfl,hW,by rw[Maj.ma];exact lz,?_,hT',hL',b1',by rw[show 1+101*(i+1)=1+101*i+101 by omega];exact bt'⟩
      exact Bk.step bz (by rw[Int.toNat_of_nonneg g0,Int.toNat_of_nonneg u0];exact hs)
    · rintro δ ⟨zs,t,b,o5,rfl,hW,lz,bz,hT,hL,b1,bt⟩
      rw[List.drop_length] at hW
      have e2:zs=one:=hW
      subst e2
      walk_at "go"
      exact hP t b hT hL b1 (bt.mono (by omega))
abbrev Cell:=Int × Int
def Good (q:Cell):Prop:=q.1.natAbs<10 ^ 30∧1≤q.2∧q.2<10 ^ 30∧Nat.gcd q.1.natAbs q.2.natAbs=1
def cE (q:Cell):List Nat:=if q.2=1 then sI q.1 else sI q.1++47::dg q.2.natAbs
def cX (q:Cell):Str:=mkS (cE q)
theorem GY {q:Cell} (h:q.2=1):cE q=sI q.1:=if_pos h
theorem GZ {q:Cell} (h:¬ q.2=1):cE q=sI q.1++47::dg q.2.natAbs:=if_neg h
theorem GU {i:Int}{c:Nat} (h:c≠45) (h2:c<48):c∉sI i:=fun z=>by have:=tK c z;omega
theorem JD {n c:Nat} (h:c<48):c∉dg n:=fun z=>by have:=lq c z;omega
theorem kN:(1000:Nat)≤sizeLine:=by decide
theorem yG {q:Cell} (h:Good q):(cE q).length≤62:=by
  have a:=Aj h.1
  have b:=lG (k:=29) (n:=q.2.natAbs) (by have:=h.2.1;have:=h.2.2.1;omega)
  unfold cE
  split
  · omega
  · rw[List.length_append,List.length_cons];omega
def W15:Nat:=2 ^ 1510
def Wide (q:Cell):Prop:=q.1.natAbs<W15∧1≤q.2∧q.2.natAbs<W15∧Nat.gcd q.1.natAbs q.2.natAbs=1
def gdB (q:Cell):Bool:=decide (q.1.natAbs<10 ^ 30∧q.2.natAbs<10 ^ 30)
theorem Gz:W15≤10 ^ 468:=by
  have a:W15≤2 ^ (13*117):=Nat.pow_le_pow_right (by decide) (by decide)
  have b:(2 ^ 13) ^ 117≤(10 ^ 4) ^ 117:=Nat.pow_le_pow_left (by decide) 117
  rw[← Nat.pow_mul,← Nat.pow_mul] at b
  exact Nat.le_trans a b
theorem iT {n:Nat} (h:n<W15):(dg n).length≤468:=lG (k:=467) (Nat.lt_of_lt_of_le h Gz)
theorem wx {i:Int} (h:i.natAbs<W15):(sI i).length≤469:=by
  have:=iT h
  unfold sI
  split
  · rw[List.length_cons];omega
  · omega
theorem jC {q:Cell} (h:Wide q):(cE q).length≤940:=by
  have a:=wx h.1
  have b:=iT h.2.2.1
  unfold cE
  split
  · omega
  · rw[List.length_append,List.length_cons];omega
theorem B2 {q:Cell} (h:Wide q) (g:gdB q=true):Good q:=by
  obtain ⟨a,b⟩:=of_decide_eq_true g
  exact⟨a,h.2.1,by omega,h.2.2.2⟩
theorem oJ {n:Nat} (h:n<W15):n.log2<1920:=by
  rcases Nat.eq_zero_or_pos n with z | z
  · subst z;decide
  · have:=(Nat.log2_lt (k:=1510) (by omega)).mpr h
    omega
def iN:DSp:=fun ds P=>∃a b:Nat,ds=[.int a,.int b]∧2≤b∧Nat.gcd a b=1∧P (.bl true)
theorem sZ:bc iN:=by
  intro xs P P' k h
  unfold iN at h ⊢
  grind
theorem uH:∀ds P,iN ds P→ds.length=2:=by
  intro ds P h
  obtain ⟨_,_,e,_⟩:=h
  rw[e];rfl
theorem xu {f:Addr}{fd:FuncData} (F:FnAt K mg "is_lowest" ek gF f fd) (A_:Fns K mg) (T:Txt K mg base) {c:Cs} (xs:Exs K mg base c):bE P w K mg base CX0 2 f fd gF (spP K iN):=by
  obtain ⟨f0,d0,E_greatest_divisor⟩:=A_.h_greatest_divisor
  have G_greatest_divisor:=dN (P:=P) (w:=w) E_greatest_divisor A_ T xs
  refine F.fn.ok xE (fun vs H Q E h=>aL uH h) (fun cdv A outer s H vs Q E hr h=>?_)
  refine⟨_,(aq (aB (An (hV Ez (pv 1) av (aQ _)) (sA (hV lR (wcl G_greatest_divisor hr E_greatest_divisor (af (pv 0) (af (pv 1) ak))) av (aQ _)))))),aT (Γn:=[]) (N:=mW) (aD (M:=[]) (wM (EM.er (aw jZ (ES.er (aa 1)) (EM.er ar))) (aw rm (EM.er (aA (S:=bj) cW (ah (ES.er (aa 0)) (ah (ES.er (aa 1)) ao)))) (EM.er ar)))) (fun ds P hS=>?_) h⟩
  obtain ⟨a,b,rfl,hb,hg,hP⟩:=hS
  rw[show aG mW [.int a,.int b]=[some (.int a),some (.int b)] from rfl]
  walk_at "go"
  rw[if_pos (by omega)]
  refine⟨a,b,rfl,?_⟩
  walk_at "go"
  rw[hg,decide_eq_true (by decide)]
  exact hP
def ft:DSp:=fun ds P=>∃q:Cell,ds=[.str (cX q)]∧Wide q∧P (.str (cX ((q.1.natAbs:Int),q.2)))
theorem Dz {q:Cell} (h:q.1<0):cE q=45::cE ((q.1.natAbs:Int),q.2):=by
  have e:sI q.1=45::sI (q.1.natAbs:Int):=by rw[oh];unfold sI;rw[if_pos h]
  unfold cE
  split
  · exact e
  · rw[e];rfl
theorem Eb {q:Cell} (h:0≤q.1):((q.1.natAbs:Int),q.2)=q:=by
  have:(q.1.natAbs:Int)=q.1:=by omega
  rw[this]
theorem Cy {q:Cell} (h:0≤q.1):∃c r,cE q=c::r∧48≤c∧c≤57:=by
  have e:sI q.1=dg q.1.natAbs:=by unfold sI;rw[if_neg (by omega)]
  obtain ⟨c,r,hc⟩:∃c r,dg q.1.natAbs=c::r:=by
    cases z:dg q.1.natAbs with
    | nil=>exact absurd z uu
    | cons c r=>exact⟨c,r,rfl⟩
  have hd:=lq (n:=q.1.natAbs) c (by rw[hc];exact List.mem_cons_self)
  unfold cE
  split
  · exact⟨c,r,by rw[e,hc],hd⟩
  · exact⟨c,r++47::dg q.2.natAbs,by rw[e,hc];rfl,hd⟩
theorem oH:bc ft:=by
  intro xs P P' k h
  unfold ft at h ⊢
  grind
theorem p5:∀ds P,ft ds P→ds.length=1:=by
  intro ds P h
  obtain ⟨_,e,_⟩:=h
  rw[e];rfl
theorem rE {f:Addr}{fd:FuncData} (F:FnAt K mg "without_sign" cy dW f fd) (A_:Fns K mg) (T:Txt K mg base) {c:Cs} (xs:Exs K mg base c):bE P w K mg base CX0 1 f fd dW (spP K ft):=by
  refine F.fn.ok rA (fun vs H Q E h=>aL p5 h) (fun cdv A outer s H vs Q E hr h=>?_)
  refine⟨_,(aq (aB (oO (eE (ie PySem.F.plainAttrs_str PySem.F.slot_str_startswith PySem.F.type_str_startswith Cm (pv 0) (af bA ak))) (uo Hl (pv 0) (rG av) BB) (pv 0)))),aT (Γn:=[]) (N:=jV) (aD (M:=[]) (AG (mC (EM.er (oZ EF (ES.er (aa 0)) (ah (EM.er bq) ao)))) (IB (ES.er (aa 0)) (or_some (EM.er ar)) or_none) (ER.bf (ES.er (aa 0))))) (fun ds P hS=>?_) h⟩
  obtain ⟨q,rfl,hg,hP⟩:=hS
  rw[show aG jV [.str (cX q)]=[some (.str (cX q))] from rfl]
  have hl:=jC hg
  have s1:=kN
  unfold cX at hP ⊢
  walk_at "go"
  rw[Ac]
  rcases Int.lt_or_le q.1 0 with h | h
  · rw[Dz h] at hl ⊢
    rw[decide_eq_true (by rfl),if_pos rfl]
    refine⟨1,⟨rfl,by rw[aE];omega⟩,?_⟩
    rw[B6]
    exact hP
  · obtain ⟨c,r,e,h1,h2⟩:=Cy h
    rw[decide_eq_false (by rw[e];simp;omega)]
    rw[Eb h] at hP
    walk_at "go"
    exact hP
def hU:DSp:=fun ds P=>∃n:Nat,ds=[.str (mkS (dg n))]∧n<W15∧P (.bl (decide (n<10 ^ 30)))
theorem Ig {c:Nat} (h:48≤c∧c≤57):c∈[48,49,50,51,52,53,54,55,56,57]:=by simp;omega
theorem qZ:bc hU:=by
  intro xs P P' k h
  unfold hU at h ⊢
  grind
theorem uv:∀ds P,hU ds P→ds.length=1:=by
  intro ds P h
  obtain ⟨_,e,_⟩:=h
  rw[e];rfl
theorem uB {f:Addr}{fd:FuncData} (F:FnAt K mg "is_figures" cG fL f fd) (A_:Fns K mg) (T:Txt K mg base) {c:Cs} (xs:Exs K mg base c):bE P w K mg base CX0 1 f fd fL (spP K hU):=by
  refine F.fn.ok uT (fun vs H Q E h=>aL uv h) (fun cdv A outer s H vs Q E hr h=>?_)
  refine⟨_,(aj (cU (PW.pt (jj (fv (Fm zo zo av (aO w6 (by rfl) T.len_ PySem.boot_len (af (pv 0) ak)) (cA (v:=.int 30) rfl T.MOST_FIGURES_.choose_spec ⟨_,rfl⟩))) (i3 (fv (eE (aO (kI (K:=K) rfl rfl) (by rfl) T.all_ boot_all (af (wco (ai cG) "sign" [] [] (HE (pv 0)) (fun _ _ _ _ _=>(hV Cp (pv 0) (cA (v:=.str "0123456789") rfl T.FIGURES_.choose_spec ⟨_,rfl⟩) (by with_unfolding_all rfl)))) ak))))))) (aq (aB lX)) aU) (aq (aB (GW (hV lR (pv 0) bA (aQ _)) (sA (hV jF (ze (pv 0) av (fun _ _=>rfl)) bA (aQ _))))))),aT (Γn:=[]) (N:=kT) (au (fj (jm (fh (aK (EM.er (sv jZ jZ (EM.er ar) (EM.er (aS HV (ah (ES.er (aa 0)) ao))) (EM.er ar))))) (fh (mC (EM.er (aS ux (ah (EM.er (bL (Hz (ES.er (aa 0))) (aI 0) (aw Jl (ES.er (aa 0)) (EM.er bq)))) ao)))))) (aD (M:=[]) mT) aX) (aD (M:=[]) (CK (EM.er (aw rm (ES.er (aa 0)) (EM.er bq))) (aw nJ (EM.er (aw GB (ES.er (aa 0)) (EM.er ar))) (EM.er bq))))) (fun ds P hS=>?_) h⟩
  obtain ⟨n,rfl,hw,hP⟩:=hS
  rw[show aG kT [.str (mkS (dg n))]=[some (.str (mkS (dg n)))] from rfl]
  have hl9:=iT hw
  have hl0:1≤(dg n).length:=List.length_pos_iff.mpr uu
  have s1:=kN
  walk_at "go"
  refine⟨by rw[aE];omega,?_⟩
  by_cases hn:n<10 ^ 30
  · rw[decide_eq_true hn] at hP
    have hl:=lG (k:=29) hn
    rw[aE,if_pos (by omega),if_neg (by omega)]
    refine dP (as:=dg n) (f:=fun c=>L3.D.str (mkS [c])) (g:=fun _=>.bl true) (fun R h=>?_) (by omega) (fun c hc R h=>?_) ?_
    · walk_at "go"
      exact⟨Fs Ej,h⟩
    · walk_at "gb"
      rw[in_text,decide_eq_true (Ig (lq c hc))]
      exact h
    rw[show (dg n).map (fun _=>L3.D.bl true)=((dg n).map fun _=>true).map L3.D.bl by rw[List.map_map];rfl]
    refine fc.mpr ?_
    rw[show (((dg n).map fun _=>true).all id)=true by rw[List.all_map,List.all_eq_true];exact fun _ _=>rfl]
    walk_at "go"
    by_cases h0:n=0
    · subst h0
      rw[if_pos (by rw[Bo])]
      exact hP
    · obtain ⟨c,r,e,hc⟩:=FN h0
      rw[if_neg (fun z=>by have:=oE z;rw[e] at this;exact hc (List.cons.inj this).1)]
      refine⟨c,⟨by omega,by rw[e];rfl⟩,?_⟩
      have nz:¬ (({ cps:=#[c] }:Str)=mkS [48]):=fun z=>hc (List.cons.inj (oE (show mkS [c]=mkS [48] from z))).1
      rw[decide_eq_false nz]
      exact hP
  · rw[decide_eq_false hn] at hP
    have:30<(dg n).length:=Nat.lt_of_not_le fun z=>hn (Ha z)
    rw[aE,if_pos (by omega),if_pos (by omega)]
    exact hP
theorem zN {q:Cell}:Txt.split (cX ((q.1.natAbs:Int),q.2)) (mkS [47])=(if q.2=1 then [q.1.natAbs] else [q.1.natAbs,q.2.natAbs]).map fun n=>mkS (dg n):=by
  have free:∀p∈(if q.2=1 then [q.1.natAbs] else [q.1.natAbs,q.2.natAbs]).map dg,47∉p:=fun p hp=>by
    obtain ⟨n,_,rfl⟩:=List.mem_map.mp hp
    exact JD (by decide)
  have low:∀p∈(if q.2=1 then [q.1.natAbs] else [q.1.natAbs,q.2.natAbs]).map dg,∀z∈p,z<128:=fun p hp=>by
    obtain ⟨n,_,rfl⟩:=List.mem_map.mp hp
    exact Ej
  have e:cE ((q.1.natAbs:Int),q.2)=bC [47] ((if q.2=1 then [q.1.natAbs] else [q.1.natAbs,q.2.natAbs]).map dg):=by
    unfold cE
    split
    · rw[oh];rfl
    · rw[oh];rfl
  unfold cX
  rw[e,ou (by simp) (by split<;>simp) free (by simp) low,List.map_map]
  rfl
theorem t7 {n:Nat} (h:n<10 ^ 30):intText? (mkS (dg n))=some (n:Int):=by
  have:=zi (i:=(n:Int)) (by omega)
  rw[oh] at this
  exact this
def fQ:DSp:=fun ds P=>∃q:Cell,ds=[.str (cX q)]∧Wide q∧P (.bl (gdB q))
theorem lP {n:Nat}:mkS (dg n)=mkS [48]↔n=0:=⟨fun h=>by
  have:=congrArg NumText.digitsVal (oE h)
  rw[zv] at this
  exact this,fun h=>by rw[h,Bo]⟩
theorem qb:bc fQ:=by
  intro xs P P' k h
  unfold fQ at h ⊢
  grind
theorem rD:∀ds P,fQ ds P→ds.length=1:=by
  intro ds P h
  obtain ⟨_,e,_⟩:=h
  rw[e];rfl
theorem ug {f:Addr}{fd:FuncData} (F:FnAt K mg "is_fraction" cf eM f fd) (A_:Fns K mg) (T:Txt K mg base) {c:Cs} (xs:Exs K mg base c):bE P w K mg base CX0 3 f fd eM (spP K fQ):=by
  obtain ⟨f0,d0,E_is_lowest⟩:=A_.h_is_lowest
  have G_is_lowest:=xu (P:=P) (w:=w) E_is_lowest A_ T xs
  obtain ⟨f1,d1,E_without_sign⟩:=A_.h_without_sign
  have G_without_sign:=rE (P:=P) (w:=w) E_without_sign A_ T xs
  obtain ⟨f2,d2,E_is_figures⟩:=A_.h_is_figures
  have G_is_figures:=uB (P:=P) (w:=w) E_is_figures A_ T xs
  refine F.fn.ok mV (fun vs H Q E h=>aL rD h) (fun cdv A outer s H vs Q E hr h=>?_)
  refine⟨_,(aj (wst 1 mV.nd (ie PySem.F.plainAttrs_str PySem.F.slot_str_split PySem.F.type_str_split sR (wcl G_without_sign hr E_without_sign (af (pv 0) ak)) (af bA ak))) (aj (cU (PW.pt (jj (aR qQ (wln K T.len_ (pv 1)) av (aQ _)) (i3 (fv (eE (aO (kI (K:=K) rfl rfl) (by rfl) T.all_ boot_all (af (wco (ai cf) "part" [] [] (wil K (pv 1)) (fun _ _ _ _ _=>(wcl G_is_figures hr E_is_figures (af (pv 0) ak)))) ak))))))) (aq (aB lX)) aU) (aj (cU (aR lR (wix K (pv 1) av) bA (aQ _)) (aq (aB (hV lR (pv 0) bA (aQ _)))) aU) (aq (aB (GW (hV lR (wln K T.len_ (pv 1)) av (aQ _)) (sA (wcl G_is_lowest hr E_is_lowest (af (cO iG (by rfl) T.int_ boot_int (af (wix K (pv 1) av) ak)) (af (cO iG (by rfl) T.int_ boot_int (af (wix K (pv 1) av) ak)) ak)))))))))),aT (Γn:=[]) (N:=kl) (au (ST.post (Γn:=[]) (aF 1 (EM.es (oZ m_split (EM.er (aA (S:=ft) oH (ah (ES.er (aa 0)) ao))) (ah (EM.er bq) ao))))) (au (fj (jm (aK (EM.er (aw jZ (EM.er (aS eh (ah (ES.er (aa 1)) ao))) (EM.er ar)))) (fh (mC (EM.er (aS ux (ah (EM.er (bL (br (aa 1)) (aI 0) (aA (S:=hU) qZ (ah (ES.er (aa 0)) ao)))) ao)))))) (aD (M:=[]) mT) aX) (au (fj (aK (EM.er (aw rm (ES.er (aW (aa 1) (EM.er ar))) (EM.er bq)))) (aD (M:=[]) (aw rm (ES.er (aa 0)) (EM.er bq))) aX) (aD (M:=[]) (CK (EM.er (aw rm (EM.er (aS eh (ah (ES.er (aa 1)) ao))) (EM.er ar))) (aA (S:=iN) sZ (ah (EM.er (aS wI (ah (ES.er (aW (aa 1) (EM.er ar))) ao))) (ah (EM.er (aS wI (ah (ES.er (aW (aa 1) (EM.er ar))) ao))) ao)))))))) (fun ds P hS=>?_) h⟩
  obtain ⟨q,rfl,hg,hP⟩:=hS
  rw[show aG kl [.str (cX q)]=[some (.str (cX q)),none] from rfl]
  have hl:=jC hg
  obtain ⟨t,b⟩:=q
  obtain ⟨g1,g2,g3,g4⟩:=id hg
  have hg':Wide ((t.natAbs:Int),b):=⟨by exact g1,g2,g3,g4⟩
  have hl':=jC hg'
  have s1:=kN
  have ed:gdB (t,b)=(decide (t.natAbs<10 ^ 30) && decide (b.natAbs<10 ^ 30)):=Bool.decide_and ..
  walk_at "go"
  refine⟨(t,b),rfl,hg,?_⟩
  walk_at "go"
  refine⟨⟨rfl,by show (cE _).length+2≤_;omega⟩,?_⟩
  rw[zN (q:=(t,b))]
  by_cases hb:b=1
  · rw[if_pos hb]
    subst hb
    simp only[List.map_cons,List.map_nil]
    walk_at "go"
    rw[if_neg (by decide)]
    refine dP (as:=[t.natAbs]) (f:=fun n=>L3.D.str (mkS (dg n))) (g:=fun n=>.bl (decide (n<10 ^ 30))) (fun R h=>h) (Nat.le_of_ble_eq_true rfl) (fun n hn R h=>?_) ?_
    · walk_at "gb"
      exact⟨n,rfl,by rw[List.mem_singleton.mp hn];exact g1,h⟩
    refine fc (ns:=[decide (t.natAbs<10 ^ 30)]).mpr ?_
    rw[show ([decide (t.natAbs<10 ^ 30)].all id)=decide (t.natAbs<10 ^ 30) from Bool.and_true _]
    rw[ed,show decide ((1:Int).natAbs<10 ^ 30)=true from by decide,Bool.and_true] at hP
    cases hd:decide (t.natAbs<10 ^ 30)
    · rw[hd] at hP
      walk_at "go"
      exact hP
    rw[hd] at hP
    walk_at "go"
    by_cases h0:t.natAbs=0
    · rw[if_pos (lP.mpr h0)]
      have e:t=0:=by omega
      subst e
      rw[decide_eq_true (by decide)]
      exact hP
    · rw[if_neg (fun z=>h0 (lP.mp z)),if_pos (by decide)]
      exact hP
  · rw[if_neg hb]
    simp only[List.map_cons,List.map_nil]
    walk_at "go"
    rw[if_neg (by decide)]
    refine dP (as:=[t.natAbs,b.natAbs]) (f:=fun n=>L3.D.str (mkS (dg n))) (g:=fun n=>.bl (decide (n<10 ^ 30))) (fun R h=>h) (Nat.le_of_ble_eq_true rfl) (fun n hn R h=>?_) ?_
    · walk_at "gb"
      refine⟨n,rfl,?_,h⟩
      simp only[List.mem_cons,List.not_mem_nil,or_false] at hn
      rcases hn with z | z
      · rw[z];exact g1
      · rw[z];exact g3
    refine fc (ns:=[decide (t.natAbs<10 ^ 30),decide (b.natAbs<10 ^ 30)]).mpr ?_
    rw[show ([decide (t.natAbs<10 ^ 30),decide (b.natAbs<10 ^ 30)].all id)=(decide (t.natAbs<10 ^ 30) && decide (b.natAbs<10 ^ 30)) from congrArg (_ && ·) (Bool.and_true _)]
    rw[ed] at hP
    cases hd:(decide (t.natAbs<10 ^ 30) && decide (b.natAbs<10 ^ 30))
    · rw[hd] at hP
      walk_at "go"
      exact hP
    rw[hd] at hP
    obtain ⟨d1,d2⟩:=Bool.and_eq_true_iff.mp hd
    have d1:=of_decide_eq_true d1
    have b30:=of_decide_eq_true d2
    walk_at "go"
    have h0:t.natAbs≠0:=fun z=>by
      have g4:Nat.gcd t.natAbs b.natAbs=1:=g4
      rw[z,Nat.gcd_zero_left] at g4
      have g2:1≤b:=g2
      omega
    rw[if_neg (fun z=>h0 (lP.mp z)),if_neg (by decide)]
    have g2:1≤b:=g2
    refine⟨t.natAbs,⟨t7 d1,?_⟩,b.natAbs,⟨t7 b30,?_⟩,t.natAbs,b.natAbs,rfl,by omega,g4,hP⟩
    · have:=lG (k:=29) (n:=t.natAbs) d1
      rw[aE];omega
    · have:=lG (k:=29) b30
      rw[aE];omega
def fY (qs:List Cell):D:=.lst (qs.map fun q=>.str (cX q))
theorem pM {qs:List Cell}:fY qs=.lst (qs.map fun q=>.str (cX q)):=rfl
def gZ:DSp:=fun ds P=>∃qs:List Cell,ds=[fY qs]∧qs.length≤8∧(∀q∈qs,Wide q)∧P (.bl (qs.all gdB))
theorem rk:bc gZ:=by
  intro xs P P' k h
  unfold gZ at h ⊢
  grind
theorem tN:∀ds P,gZ ds P→ds.length=1:=by
  intro ds P h
  obtain ⟨_,e,_⟩:=h
  rw[e];rfl
theorem uE {f:Addr}{fd:FuncData} (F:FnAt K mg "is_written" cI fM f fd) (A_:Fns K mg) (T:Txt K mg base) {c:Cs} (xs:Exs K mg base c):bE P w K mg base CX0 4 f fd fM (spP K gZ):=by
  obtain ⟨f0,d0,E_is_fraction⟩:=A_.h_is_fraction
  have G_is_fraction:=ug (P:=P) (w:=w) E_is_fraction A_ T xs
  refine F.fn.ok uS (fun vs H Q E h=>aL tN h) (fun cdv A outer s H vs Q E hr h=>?_)
  refine⟨_,(aq (aB (aO (kI (K:=K) rfl rfl) (by rfl) T.all_ boot_all (af (wco (ai cI) "word" [] [] (wil K (pv 0)) (fun _ _ _ _ _=>(wcl G_is_fraction hr E_is_fraction (af (pv 0) ak)))) ak)))),aT (Γn:=[]) (N:=lL) (aD (M:=[]) (aS ux (ah (EM.er (bL (br (aa 0)) (aI 0) (aA (S:=fQ) qb (ah (ES.er (aa 0)) ao)))) ao))) (fun ds P hS=>?_) h⟩
  obtain ⟨qs,rfl,hl,hg,hP⟩:=hS
  rw[show aG lL [fY qs]=[some (fY qs)] from rfl]
  unfold fY
  walk_at "go"
  refine dP (as:=qs) (f:=fun q=>L3.D.str (cX q)) (g:=fun q=>.bl (gdB q)) (fun R h=>h) (by omega) (fun q hq R h=>?_) ?_
  · walk_at "gb"
    exact⟨q,rfl,hg q hq,h⟩
  rw[show qs.map (fun q=>L3.D.bl (gdB q))=(qs.map gdB).map L3.D.bl by rw[List.map_map];rfl]
  refine fc.mpr ?_
  rw[show ((qs.map gdB).all id)=qs.all gdB by rw[List.all_map];rfl]
  exact hP
def Shape (w:Nat) (cs:List (List Cell)):Prop:=1≤cs.length∧cs.length≤8∧1≤w∧w≤8∧(∀qs∈cs,qs.length=w)∧∀qs∈cs,∀q∈qs,Good q
def ShW (w:Nat) (cs:List (List Cell)):Prop:=1≤cs.length∧cs.length≤8∧1≤w∧w≤8∧(∀qs∈cs,qs.length=w)∧∀qs∈cs,∀q∈qs,Wide q
theorem JF {α:Type} (as:List α):((as.map fun _=>true).all id)=true:=by rw[List.all_map,List.all_eq_true];exact fun _ _=>rfl
def mq (cs:List (List Cell)):D:=.lst (cs.map fY)
def iO:DSp:=fun ds P=>∃(cs:List (List Cell)) (w:Nat),ds=[mq cs]∧ShW w cs∧P (.bl true)
theorem xV {cs:List (List Cell)}{P:DK} (h0:1≤cs.length) (h:∀qs∈cs,P (fY qs)):asO (atI (cs.map fY) 0) P:=by
  refine wX (by decide) (by rw[List.length_map];omega) ?_
  show asO ((cs.map fY)[0]?) P
  rw[List.getElem?_map,List.getElem?_eq_getElem (by omega)]
  exact h _ (List.getElem_mem _)
theorem sf:bc iO:=by
  intro xs P P' k h
  unfold iO at h ⊢
  grind
theorem uV:∀ds P,iO ds P→ds.length=1:=by
  intro ds P h
  obtain ⟨_,_,e,_⟩:=h
  rw[e];rfl
theorem xI {f:Addr}{fd:FuncData} (F:FnAt K mg "is_shaped" dy gw f fd) (A_:Fns K mg) (T:Txt K mg base) {c:Cs} (xs:Exs K mg base c):bE P w K mg base CX0 1 f fd gw (spP K iO):=by
  refine F.fn.ok xf (fun vs H Q E h=>aL uV h) (fun cdv A outer s H vs Q E hr h=>?_)
  refine⟨_,(aj (cU (PW.pt (jj (aR qQ (wln K T.len_ (pv 0)) (cA (v:=.int 8) rfl T.MOST_.choose_spec ⟨_,rfl⟩) (aQ _)) (i3 (aR qQ (wln K T.len_ (wix K (pv 0) av)) (cA (v:=.int 8) rfl T.MOST_.choose_spec ⟨_,rfl⟩) (aQ _))))) (aq (aB lX)) aU) (aq (aB (aO (kI (K:=K) rfl rfl) (by rfl) T.all_ boot_all (af (wco (ai dy) "line" ["lines"] [0] (wil K (pv 0)) (fun _ _ _ _ _=>(hV lR (wln K T.len_ (pv 0)) (wln K T.len_ (wix K (pv 1) av)) (aQ _)))) ak))))),aT (Γn:=[]) (N:=mx) (au (fj (jm (aK (EM.er (aw jZ (EM.er (aS eh (ah (ES.er (aa 0)) ao))) (EM.er ar)))) (aK (EM.er (aw jZ (EM.er (aS eh (ah (ES.er (aW (aa 0) (EM.er ar))) ao))) (EM.er ar))))) (aD (M:=[]) mT) aX) (aD (M:=[]) (aS ux (ah (EM.er (bL (br (aa 0)) (aI 0) (aw rm (EM.er (aS eh (ah (ES.er (aa 0)) ao))) (EM.er (aS eh (ah (ES.er (aW (aa 1) (EM.er ar))) ao)))))) ao)))) (fun ds P hS=>?_) h⟩
  obtain ⟨cs,w,rfl,⟨h1,h8,w1,w8,hr,hg⟩,hP⟩:=hS
  rw[show aG mx [mq cs]=[some (mq cs)] from rfl]
  unfold mq
  walk_at "go"
  rw[if_neg (by omega)]
  refine xV h1 fun q0 hq0=>?_
  have l0:=hr q0 hq0
  rw[pM]
  walk_at "go"
  rw[if_neg (by omega)]
  refine dP (as:=cs) (f:=fY) (g:=fun _=>.bl true) (fun R h=>h) (by omega) (fun qs hq R h=>?_) ?_
  · rw[pM]
    walk_at "gb"
    refine xV h1 fun q1 hq1=>?_
    rw[pM]
    walk_at "gb"
    have e1:=hr qs hq
    have e2:=hr q1 hq1
    rw[decide_eq_true (by omega)]
    exact h
  rw[show cs.map (fun _=>L3.D.bl true)=(cs.map fun _=>true).map L3.D.bl by rw[List.map_map];rfl]
  refine fc.mpr ?_
  rw[JF]
  exact hP
theorem we {q:Cell}:qG (cX q) (mkS [47])=[mkS (sI q.1),(if q.2=1 then mkS [] else mkS [47]),(if q.2=1 then mkS [] else mkS (dg q.2.natAbs))]:=by
  unfold cX cE
  split
  · exact FK (GU (by decide) (by decide))
  · exact Gn (GU (by decide) (by decide))
def mG:DSp:=fun ds P=>∃q:Cell,ds=[.str (cX q)]∧Good q∧P (.int q.1)
theorem ym:bc mG:=by
  intro xs P P' k h
  unfold mG at h ⊢
  grind
theorem z7:∀ds P,mG ds P→ds.length=1:=by
  intro ds P h
  obtain ⟨_,e,_⟩:=h
  rw[e];rfl
theorem BM {f:Addr}{fd:FuncData} (F:FnAt K mg "top_of" iR kP f fd) (A_:Fns K mg) (T:Txt K mg base) {c:Cs} (xs:Exs K mg base c):bE P w K mg base CX0 1 f fd kP (spP K mG):=by
  refine F.fn.ok Cq (fun vs H Q E h=>aL z7 h) (fun cdv A outer s H vs Q E hr h=>?_)
  refine⟨_,(aq (aB (cO iG (by rfl) T.int_ boot_int (af (wit K (ie PySem.F.plainAttrs_str PySem.F.slot_str_partition PySem.F.type_str_partition pP (pv 0) (af bA ak)) av) ak)))),aT (Γn:=[]) (N:=rX) (aD (M:=[]) (aS wI (ah (EM.er (zY (oZ m_partition (ES.er (aa 0)) (ah (EM.er bq) ao)) (EM.er ar))) ao))) (fun ds P hS=>?_) h⟩
  obtain ⟨q,rfl,hg,hP⟩:=hS
  rw[show aG rX [.str (cX q)]=[some (.str (cX q))] from rfl]
  have hl:=yG hg
  have s1:=kN
  have hs:=Aj hg.1
  walk_at "go"
  refine⟨⟨rfl,by show (cE q).length≤_;omega⟩,?_⟩
  rw[we]
  simp only[List.map_cons,List.map_nil]
  walk_at "go"
  exact⟨q.1,⟨zi hg.1,by rw[aE];omega⟩,hP⟩
def gI:DSp:=fun ds P=>∃q:Cell,ds=[.str (cX q)]∧Good q∧P (.int q.2)
theorem my:bc gI:=by
  intro xs P P' k h
  unfold gI at h ⊢
  grind
theorem uC:∀ds P,gI ds P→ds.length=1:=by
  intro ds P h
  obtain ⟨_,e,_⟩:=h
  rw[e];rfl
theorem pQ {f:Addr}{fd:FuncData} (F:FnAt K mg "bottom_of" ee gO f fd) (A_:Fns K mg) (T:Txt K mg base) {c:Cs} (xs:Exs K mg base c):bE P w K mg base CX0 1 f fd gO (spP K gI):=by
  refine F.fn.ok oz (fun vs H Q E h=>aL uC h) (fun cdv A outer s H vs Q E hr h=>?_)
  refine⟨_,(aj (wst 1 oz.nd (wit K (ie PySem.F.plainAttrs_str PySem.F.slot_str_partition PySem.F.type_str_partition pP (pv 0) (af bA ak)) av)) (aq (aB (oO (aR jF (pv 1) bA (aQ _)) (cO iG (by rfl) T.int_ boot_int (af (pv 1) ak)) av)))),aT (Γn:=[]) (N:=mJ) (au (ST.post (Γn:=[]) (aF 1 (EM.es (zY (oZ m_partition (ES.er (aa 0)) (ah (EM.er bq) ao)) (EM.er ar))))) (aD (M:=[]) (AG (aK (EM.er (aw nJ (ES.er (aa 1)) (EM.er bq)))) (aS wI (ah (ES.er (aa 1)) ao)) ar))) (fun ds P hS=>?_) h⟩
  obtain ⟨q,rfl,hg,hP⟩:=hS
  rw[show aG mJ [.str (cX q)]=[some (.str (cX q)),none] from rfl]
  have hl:=yG hg
  have s1:=kN
  have b30:q.2.natAbs<10 ^ 30:=by have:=hg.2.1;have:=hg.2.2.1;omega
  have hb:=lG (k:=29) b30
  walk_at "go"
  refine⟨⟨rfl,by show (cE q).length≤_;omega⟩,?_⟩
  rw[we]
  simp only[List.map_cons,List.map_nil]
  walk_at "go"
  by_cases h:q.2=1
  · rw[if_pos h]
    walk_at "go"
    rw[h] at hP
    exact hP
  · rw[if_neg h]
    walk_at "go"
    rw[if_pos (fun z=>uu (oE z))]
    refine⟨q.2,⟨?_,by rw[aE];omega⟩,hP⟩
    rw[t7 b30]
    have:=hg.2.1
    congr 1
    omega
def kB (a:Nat) (q:Cell):Nat:=a / Nat.gcd a q.2.natAbs*q.2.natAbs
def nX (a:Nat) (qs:List Cell):Nat:=qs.foldl kB a
def e7 (cs:List (List Cell)):Nat:=cs.foldl nX 1
theorem wA {a:Nat}{q:Cell} (h:Good q):1≤Nat.gcd a q.2.natAbs∧Nat.gcd a q.2.natAbs<2 ^ 100:=by
  have hb:0<q.2.natAbs:=by have:=h.2.1;omega
  have h2:q.2.natAbs<10 ^ 30:=by have:=h.2.1;have:=h.2.2.1;omega
  have:=Nat.le_of_dvd hb (Nat.gcd_dvd_right a q.2.natAbs)
  exact⟨Nat.gcd_pos_of_pos_right _ hb,Nat.lt_of_le_of_lt this (Nat.lt_trans h2 (by decide))⟩
theorem Gj {a k:Nat}{q:Cell} (h:Good q) (ha:a<2 ^ k):kB a q<2 ^ (k+100):=by
  have h2:q.2.natAbs<2 ^ 100:=by have:=h.2.1;have:=h.2.2.1;exact Nat.lt_trans (show q.2.natAbs<10 ^ 30 by omega) (by decide)
  unfold kB
  rw[Nat.pow_add]
  exact Nat.mul_lt_mul'' (Nat.lt_of_le_of_lt (Nat.div_le_self _ _) ha) h2
def gi:DSp:=fun ds P=>∃(cs:List (List Cell)) (w:Nat),ds=[mq cs]∧Shape w cs∧(e7 cs<2 ^ 6401→P (.int (e7 cs:Nat)))
theorem ow:bc gi:=by
  intro xs P P' k h
  obtain ⟨cs,w,e,h1,h⟩:=h
  exact⟨cs,w,e,h1,fun z=>k _ (h z)⟩
theorem oV:∀ds P,gi ds P→ds.length=1:=by
  intro ds P h
  obtain ⟨_,_,e,_⟩:=h
  rw[e];rfl
theorem qc {f:Addr}{fd:FuncData} (F:FnAt K mg "common_bottom" bS dq f fd) (A_:Fns K mg) (T:Txt K mg base) {c:Cs} (xs:Exs K mg base c):bE P w K mg base CX0 2 f fd dq (spP K gi):=by
  obtain ⟨f0,d0,E_bottom_of⟩:=A_.h_bottom_of
  have G_bottom_of:=pQ (P:=P) (w:=w) E_bottom_of A_ T xs
  obtain ⟨f1,d1,E_greatest_divisor⟩:=A_.h_greatest_divisor
  have G_greatest_divisor:=dN (P:=P) (w:=w) E_greatest_divisor A_ T xs
  refine F.fn.ok cP (fun vs H Q E h=>aL oV h) (fun cdv A outer s H vs Q E hr h=>?_)
  refine⟨_,(aj (wst 1 cP.nd av) (aj (wfo (wil K (pv 0)) (wpg 2 cP.nd) (aq (wfo (wil K (pv 2)) (wpg 3 cP.nd) (aj (wst 4 cP.nd (wcl G_bottom_of hr E_bottom_of (af (pv 3) ak))) (aq (wst 1 cP.nd (aJ iH (aJ eF (pv 1) (wcl G_greatest_divisor hr E_greatest_divisor (af (pv 1) (af (pv 4) ak)))) (pv 4)))))))) (aq (aB (pv 1))))),aT (Γn:=[1]) (N:=jc) (au (ST.post (Γn:=[1]) (bU (M:=[]) 1 ar)) (au (fO (br (aa 0)) (aI 2) (fO (br (aa 2)) (aI 3) (au (ST.post (Γn:=[1]) (aF 4 (EM.es (aA (S:=gI) my (ah (ES.er (aa 3)) ao))))) (ST.post (Γn:=[1]) (bU (M:=[]) 1 (aw aZ (EM.er (aw aZ (cH 1) (EM.er (aA (S:=bj) cW (ah (cH 1) (ah (ES.er (aa 4)) ao)))))) (ES.er (aa 4)))))))) (aD (M:=[1]) (fN 1)))) (fun ds P hS=>?_) h⟩
  obtain ⟨cs,w,rfl,⟨h1,h8,w1,w8,hr,hg⟩,hP⟩:=hS
  rw[show aG jc [mq cs]=[some (mq cs),none,none,none,none] from rfl]
  unfold mq
  walk_at "go"
  refine dF (as:=cs) (f:=fY) (fun i δ=>∃(o2 o3 o4:Option D),δ=[some (.lst (cs.map fY)),some (.int ((cs.take i).foldl nX 1:Nat)),o2,o3,o4]∧(cs.take i).foldl nX 1<2 ^ (800*i+1)) ⟨none,none,none,rfl,by show (1:Nat)<2 ^ 1;decide⟩ ?_ ?_
  · rintro i qs δ N e ⟨o2,o3,o4,rfl,hb⟩ hN
    obtain ⟨q1,q2⟩:=List.getElem?_eq_some_iff.mp e
    have hm:=List.mem_of_getElem? e
    have hw:=hr qs hm
    have hgq:=hg qs hm
    have et:(cs.take (i+1)).foldl nX 1=qs.foldl kB ((cs.take i).foldl nX 1):=by
      rw[List.take_succ_eq_append_getElem q1,List.foldl_append,q2];rfl
    generalize (cs.take i).foldl nX 1=a at *
    rw[pM]
    walk_at "go"
    refine dF (as:=qs) (f:=fun q=>L3.D.str (cX q)) (fun j δ=>∃(o3 o4:Option D),δ=[some (.lst (cs.map fY)),some (.int ((qs.take j).foldl kB a:Nat)),some (fY qs),o3,o4]∧(qs.take j).foldl kB a<2 ^ (800*i+1+100*j)) ⟨_,_,rfl,hb⟩ ?_ ?_
    · rintro j q δ N' e' ⟨o3,o4,rfl,hb'⟩ hN'
      obtain ⟨p1,p2⟩:=List.getElem?_eq_some_iff.mp e'
      have hq:=hgq q (List.mem_of_getElem? e')
      have ej:(qs.take (j+1)).foldl kB a=kB ((qs.take j).foldl kB a) q:=by
        rw[List.take_succ_eq_append_getElem p1,List.foldl_append,p2];rfl
      generalize (qs.take j).foldl kB a=b at *
      have bw:=Gj hq hb'
      have gp:=wA (a:=b) hq
      have q2p:=hq.2.1
      have q2n:(q.2.natAbs:Int)=q.2:=by omega
      have q100:q.2.natAbs<2 ^ 100:=Nat.lt_trans (show q.2.natAbs<10 ^ 30 by have:=hq.2.2.1;omega) (by decide)
      walk_at "go"
      refine⟨q,rfl,hq,?_⟩
      walk_at "go"
      refine⟨b,q.2.natAbs,by rw[q2n],?_⟩
      walk_at "go"
      refine⟨⟨800*i+1+100*j,100,?_,q100,by omega⟩,?_⟩
      · rw[← Int.natCast_ediv,Int.natAbs_natCast]
        exact Nat.lt_of_le_of_lt (Nat.div_le_self _ _) hb'
      · refine hN' _ ⟨some (.str (cX q)),some (.int q.2),?_,?_⟩
        · rw[ej]
          unfold kB
          rw[Int.natCast_mul,Int.natCast_ediv,q2n]
        · rw[ej,show 800*i+1+100*(j+1)=800*i+1+100*j+100 by omega];exact bw
    · rintro δ ⟨o3,o4,rfl,hb'⟩
      rw[List.take_of_length_le (Nat.le_refl _)] at hb' ⊢
      refine hN _ ⟨some (fY qs),o3,o4,by rw[et],?_⟩
      rw[et]
      exact Nat.lt_of_lt_of_le hb' (Nat.pow_le_pow_right (by decide) (by omega))
  · rintro δ ⟨o2,o3,o4,rfl,hb⟩
    rw[List.take_of_length_le (Nat.le_refl _)] at hb ⊢
    walk_at "go"
    exact hP (Nat.lt_of_lt_of_le hb (Nat.pow_le_pow_right (by decide) (by omega)))
def zC (B:Nat) (qs:List Cell):List Int:=qs.map fun q=>q.1*((B:Int) / q.2)
def gh:DSp:=fun ds P=>∃(qs:List Cell) (B:Nat),ds=[fY qs,.int B]∧qs.length≤8∧(∀q∈qs,Good q)∧B<2 ^ 6401∧P (dI (zC B qs))
theorem Gf {B:Nat}{q:Cell} (h:Good q) (hB:B<2 ^ 6401):G3 q.1 ((B:Int) / q.2):=by
  refine⟨100,6401,Nat.lt_trans h.1 (by decide),?_,by decide⟩
  exact Nat.lt_of_le_of_lt (Int.natAbs_ediv_le_natAbs _ _) (by rw[Int.natAbs_natCast];exact hB)
theorem GL {B:Nat}{q:Cell} (h:Good q):qF (B:Int) q.2:=⟨by have:=h.2.1;omega,100,Nat.lt_trans (show q.2.natAbs<10 ^ 30 by have:=h.2.1;have:=h.2.2.1;omega) (by decide),by decide⟩
theorem qE:bc gh:=by
  intro xs P P' k h
  unfold gh at h ⊢
  grind
theorem rb:∀ds P,gh ds P→ds.length=2:=by
  intro ds P h
  obtain ⟨_,_,e,_⟩:=h
  rw[e];rfl
theorem so {f:Addr}{fd:FuncData} (F:FnAt K mg "raised_tops" b8 eQ f fd) (A_:Fns K mg) (T:Txt K mg base) {c:Cs} (xs:Exs K mg base c):bE P w K mg base CX0 2 f fd eQ (spP K gh):=by
  obtain ⟨f0,d0,E_top_of⟩:=A_.h_top_of
  have G_top_of:=BM (P:=P) (w:=w) E_top_of A_ T xs
  obtain ⟨f1,d1,E_bottom_of⟩:=A_.h_bottom_of
  have G_bottom_of:=pQ (P:=P) (w:=w) E_bottom_of A_ T xs
  refine F.fn.ok tQ (fun vs H Q E h=>aL rb h) (fun cdv A outer s H vs Q E hr h=>?_)
  refine⟨_,(aq (aB (wco (ai b8) "word" ["bottom"] [1] (wil K (pv 0)) (fun _ _ _ _ _=>(aJ iH (wcl G_top_of hr E_top_of (af (pv 0) ak)) (aJ eF (pv 1) (wcl G_bottom_of hr E_bottom_of (af (pv 0) ak)))))))),aT (Γn:=[]) (N:=kg) (aD (M:=[]) (bL (br (aa 0)) (aI 0) (aw aZ (EM.er (aA (S:=mG) ym (ah (ES.er (aa 0)) ao))) (EM.er (aw aZ (ES.er (aa 1)) (EM.er (aA (S:=gI) my (ah (ES.er (aa 0)) ao)))))))) (fun ds P hS=>?_) h⟩
  obtain ⟨qs,B,rfl,hl,hg,hB,hP⟩:=hS
  rw[show aG kg [fY qs,.int B]=[some (fY qs),some (.int B)] from rfl]
  rw[pM]
  walk_at "go"
  refine dP (as:=qs) (f:=fun q=>L3.D.str (cX q)) (g:=fun q=>.int (q.1*((B:Int) / q.2))) (fun R h=>h) (by omega) (fun q hq R h=>?_) ?_
  · walk_at "gb"
    refine⟨q,rfl,hg q hq,?_⟩
    walk_at "gb"
    refine⟨q,rfl,hg q hq,?_⟩
    walk_at "gb"
    exact⟨GL (hg q hq),Gf (hg q hq) hB,h⟩
  · rw[show qs.map (fun q=>L3.D.int (q.1*((B:Int) / q.2)))=(zC B qs).map L3.D.int from lQ]
    exact hP
def jl (qs:List Cell):List Nat:=bC [32] (qs.map cE)
def kM (cs:List (List Cell)):List Nat:=bC [59,32] (cs.map jl)
def jv (cs:List (List Cell)):List (List Int):=cs.map (zC (e7 cs))
theorem vc {s:List Nat}:∀{ps:List (List Nat)}{c:Nat},c∈bC s ps→c∈s∨∃p∈ps,c∈p
  | [p],c,h=>.inr ⟨p,List.mem_cons_self,h⟩
  | p::q::r,c,h=>by
    rcases List.mem_append.mp (show c∈p++(s++bC s (q::r)) from h) with z | z
    · exact .inr ⟨p,List.mem_cons_self,z⟩
    · rcases List.mem_append.mp z with z | z
      · exact .inl z
      · rcases vc z with z | ⟨t,ht,z⟩
        · exact .inl z
        · exact .inr ⟨t,List.mem_cons_of_mem _ ht,z⟩
theorem p6 {s:List Nat}{B:Nat}:∀{ps:List (List Nat)},(∀p∈ps,p.length≤B)→(bC s ps).length≤ps.length*(B+s.length)
  | [],_=>Nat.zero_le _
  | [p],h=>by have:=h p List.mem_cons_self;show p.length≤1*_;omega
  | p::q::r,h=>by
    have a:=h p List.mem_cons_self
    have b:=p6 (s:=s) (B:=B) (ps:=q::r) fun z hz=>h z (List.mem_cons_of_mem _ hz)
    show (p++(s++bC s (q::r))).length≤_
    rw[List.length_append,List.length_append,List.length_cons,Nat.succ_mul]
    omega
theorem nW {q:Cell}:∀c∈cE q,c=45∨c=47∨(48≤c∧c≤57):=fun c hc=>by
  unfold cE at hc
  split at hc
  · rcases tK c hc with z | z
    · exact .inl z
    · exact .inr (.inr z)
  · rcases List.mem_append.mp hc with z | z
    · rcases tK c z with z | z
      · exact .inl z
      · exact .inr (.inr z)
    · rcases List.mem_cons.mp z with z | z
      · exact .inr (.inl z)
      · exact .inr (.inr (lq c z))
theorem sC {qs:List Cell}:∀c∈jl qs,c=32∨c=45∨c=47∨(48≤c∧c≤57):=fun c hc=>by
  rcases vc hc with z | ⟨p,hp,z⟩
  · exact .inl (List.mem_singleton.mp z)
  · obtain ⟨q,_,rfl⟩:=List.mem_map.mp hp
    exact .inr (nW c z)
theorem Ad {qs:List Cell} (h:qs≠[]):Txt.split (mkS (jl qs)) (mkS [32])=qs.map cX:=by
  unfold jl
  rw[ou (by simp) (by simpa using h) (fun p hp=>by
    obtain ⟨q,_,rfl⟩:=List.mem_map.mp hp
    exact fun z=>by have:=nW _ z;omega) (by simp) (fun p hp z hz=>by
    obtain ⟨q,_,rfl⟩:=List.mem_map.mp hp
    have:=nW z hz;omega),List.map_map]
  rfl
theorem Ae {cs:List (List Cell)} (h:cs≠[]):Txt.split (mkS (kM cs)) (mkS [59,32])=cs.map fun qs=>mkS (jl qs):=by
  unfold kM
  rw[ou (by simp) (by simpa using h) (fun p hp=>by
    obtain ⟨q,_,rfl⟩:=List.mem_map.mp hp
    exact fun z=>by have:=sC _ z;omega) (by simp) (fun p hp z hz=>by
    obtain ⟨q,_,rfl⟩:=List.mem_map.mp hp
    have:=sC z hz;omega),List.map_map]
  rfl
theorem pB {qs:List Cell} (h8:qs.length≤8) (hg:∀q∈qs,Wide q):(jl qs).length≤7528:=by
  have:=p6 (s:=[32]) (B:=940) (ps:=qs.map cE) fun p hp=>by
    obtain ⟨q,hq,rfl⟩:=List.mem_map.mp hp
    exact jC (hg q hq)
  rw[List.length_map] at this
  have m:qs.length*(940+1)≤8*941:=Nat.mul_le_mul_right _ h8
  exact Nat.le_trans this m
theorem text_len {cs:List (List Cell)}{w:Nat} (h:ShW w cs):(kM cs).length≤60240:=by
  obtain ⟨h1,h8,w1,w8,hr,hg⟩:=h
  have:=p6 (s:=[59,32]) (B:=7528) (ps:=cs.map jl) fun p hp=>by
    obtain ⟨qs,hq,rfl⟩:=List.mem_map.mp hp
    exact pB (by rw[hr qs hq];exact w8) (hg qs hq)
  rw[List.length_map] at this
  have m:cs.length*(7528+2)≤8*7530:=Nat.mul_le_mul_right _ h8
  exact Nat.le_trans this m
theorem oQ:(70000:Nat)≤sizeLine:=by decide
def gdT (cs:List (List Cell)):Bool:=cs.all fun qs=>qs.all gdB
theorem yo {w:Nat}{cs:List (List Cell)} (h:ShW w cs) (g:gdT cs=true):Shape w cs:=by
  obtain ⟨h1,h8,w1,w8,hr,hg⟩:=h
  exact⟨h1,h8,w1,w8,hr,fun qs hq q hq2=>B2 (hg qs hq q hq2) (List.all_eq_true.mp (List.all_eq_true.mp g qs hq) q hq2)⟩
def kX (c:Cs):DSX:=fun ds P R=>∃(cs:List (List Cell)) (w:Nat),ds=[.str (mkS (kM cs))]∧ShW w cs∧(gdT cs=true→P (.tup [dT (jv cs),.int (e7 cs:Nat)]))∧(gdT cs=false→R c.NoText)
theorem jg {c:Cs}:gu (kX c):=by
  intro xs P P' R R' k kr h
  obtain ⟨cs,w,e,h1,h2,h3⟩:=h
  exact⟨cs,w,e,h1,fun z=>k _ (h2 z),fun z=>kr _ (h3 z)⟩
theorem sH {c:Cs}:∀ds P R,kX c ds P R→ds.length=1:=by
  intro ds P R h
  obtain ⟨cs,w,e,_⟩:=h
  rw[e];rfl
theorem ny {f:Addr}{fd:FuncData} (F:FnAt K mg "read_table" bN fH f fd) (A_:Fns K mg) (T:Txt K mg base) {c:Cs} (xs:Exs K mg base c):bE P w K mg base (CXR P w) 5 f fd fH (spX K (kX c)):=by
  obtain ⟨f0,d0,E_common_bottom⟩:=A_.h_common_bottom
  have G_common_bottom:=qc (P:=P) (w:=w) E_common_bottom A_ T xs
  obtain ⟨f1,d1,E_is_shaped⟩:=A_.h_is_shaped
  have G_is_shaped:=xI (P:=P) (w:=w) E_is_shaped A_ T xs
  obtain ⟨f2,d2,E_raised_tops⟩:=A_.h_raised_tops
  have G_raised_tops:=so (P:=P) (w:=w) E_raised_tops A_ T xs
  obtain ⟨f3,d3,E_is_written⟩:=A_.h_is_written
  have G_is_written:=uE (P:=P) (w:=w) E_is_written A_ T xs
  refine F.fn.okX km (fun vs H Q E h=>js sH h) (fun cdv A outer s H vs Q E hr h=>?_)
  refine⟨_,(aj (cU (PT.nox (fv (eE (aO (b7 (K:=K) rfl) (by rfl) T.isinstance_ boot_isinstance (af (pv 0) (af (gP (v:=.ty "str") rfl T.str_ boot_str rfl) ak)))))) (aq (kL (xs.o_NoText.own xs.m_NoText) PySem.F.excBase_ValueError rfl rfl m8 (af bA ak))) aU) (aj (PS.nox (pk (i:=1) (bD.of (sc0:=(ai bN)) (tn:=["line"]) (cap:=[]) (idx:=[]) (by decide +kernel) rfl rfl) km.nd rfl (by first | exact Or.inl rfl | exact Or.inr rfl) (wil K (ie PySem.F.plainAttrs_str PySem.F.slot_str_split PySem.F.type_str_split sR (pv 0) (af bA ak))) (mR.name (by decide)) (fun _ _ _ _ _=>iI (i:=0) (cD (l:=["line"]) (by decide +kernel)) rfl (by first | exact Or.inl rfl | exact Or.inr rfl) (by first | exact .inl rfl | exact .inr rfl)) (fun _ _ _ _ _=>(ie PySem.F.plainAttrs_str PySem.F.slot_str_split PySem.F.type_str_split sR (pv 0) (af bA ak))))) (aj (cU (PT.nox (PW.pt (jj (fv (eE (wcl G_is_shaped hr E_is_shaped (af (pv 1) ak)))) (i3 (fv (eE (aO (kI (K:=K) rfl rfl) (by rfl) T.all_ boot_all (af (wco (ai bN) "line" [] [] (wil K (pv 1)) (fun _ _ _ _ _=>(wcl G_is_written hr E_is_written (af (pv 0) ak)))) ak)))))))) (aq (kL (xs.o_NoText.own xs.m_NoText) PySem.F.excBase_ValueError rfl rfl m8 (af bA ak))) aU) (PSs.nox (aj (wst 2 km.nd (wcl G_common_bottom hr E_common_bottom (af (pv 1) ak))) (aq (aB (iY (af (wco (ai bN) "line" ["bottom"] [2] (wil K (pv 1)) (fun _ _ _ _ _=>(wcl G_raised_tops hr E_raised_tops (af (pv 0) (af (pv 1) ak))))) (af (pv 2) ak)))))))))),jr (Γn:=[2]) (N:=lA) (fun R=>(jb (vF (fh (mC (EM.er (eN AL (ES.er (aa 0)))))) (kG (ah (EM.er bq) ao)) (ST.sx aX)) (jb (ST.sx (ST.post (Γn:=[]) (aF 1 (EM.es (bL (br (EM.es (oZ m_split (ES.er (aa 0)) (ah (EM.er bq) ao)))) (aI 0) (oZ m_split (ES.er (aa 0)) (ah (EM.er bq) ao))))))) (jb (vF (jm (fh (mC (EM.er (aA (S:=iO) sf (ah (ES.er (aa 1)) ao))))) (fh (mC (EM.er (aS ux (ah (EM.er (bL (br (aa 1)) (aI 0) (aA (S:=gZ) rk (ah (ES.er (aa 0)) ao)))) ao)))))) (kG (ah (EM.er bq) ao)) (ST.sx aX)) (ST.sx (au (ST.post (Γn:=[2]) (bU (M:=[]) 2 (aA (S:=gi) ow (ah (ES.er (aa 1)) ao)))) (aD (M:=[2]) (kq (jq (bL (br (aa 1)) (aI 0) (aA (S:=gh) qE (ah (ES.er (aa 0)) (ah (ES.er (aa 1)) ao)))) (jq (fN 2) eV)))))))))) (fun ds P R hS=>?_) h⟩
  obtain ⟨cs,w,rfl,hS,hP,hR⟩:=hS
  rw[show aG lA [.str (mkS (kM cs))]=[some (.str (mkS (kM cs))),none,none] from rfl]
  obtain ⟨h1,h8,w1,w8,hr,hg⟩:=id hS
  have tl:=text_len hS
  have s5:=oQ
  have ne:cs≠[]:=fun z=>by rw[z] at h1;exact absurd h1 (by decide)
  walk_at "go"
  refine dP (as:=cs) (f:=fun qs=>L3.D.str (mkS (jl qs))) (g:=fY) (fun R h=>?_) (by omega) (fun qs hq R h=>?_) ?_
  · walk_at "go"
    refine⟨⟨rfl,by rw[aE];omega⟩,?_⟩
    rw[Ae ne,List.map_map]
    exact h
  · walk_at "gb"
    have ll:=pB (by rw[hr qs hq];exact w8) (hg qs hq)
    refine⟨⟨rfl,by rw[aE];omega⟩,?_⟩
    rw[Ad (fun z=>by have:=hr qs hq;rw[z] at this;simp at this;omega),List.map_map]
    exact h
  refine⟨cs,w,rfl,hS,?_⟩
  walk_at "go"
  refine dP (as:=cs) (f:=fY) (g:=fun qs=>.bl (qs.all gdB)) (fun R h=>h) (by omega) (fun qs hq R h=>?_) ?_
  · walk_at "gb"
    exact⟨qs,rfl,by rw[hr qs hq];exact w8,hg qs hq,h⟩
  rw[show cs.map (fun qs=>L3.D.bl (qs.all gdB))=(cs.map fun qs=>qs.all gdB).map L3.D.bl by rw[List.map_map];rfl]
  refine fc.mpr ?_
  rw[show ((cs.map fun qs=>qs.all gdB).all id)=gdT cs by rw[List.all_map];rfl]
  cases hd:gdT cs
  · walk_at "go"
    exact hR hd
  have hP:=hP hd
  have hS:=yo hS hd
  have hg:=hS.2.2.2.2.2
  walk_at "go"
  refine⟨cs,w,rfl,hS,fun hB=>?_⟩
  refine dP (as:=cs) (f:=fY) (g:=fun qs=>dI (zC (e7 cs) qs)) (fun R h=>h) (by omega) (fun qs hq R h=>?_) ?_
  · walk_at "gb"
    exact⟨qs,e7 cs,rfl,by rw[hr qs hq];exact w8,hg qs hq,hB,h⟩
  rw[show cs.map (fun qs=>dI (zC (e7 cs) qs))=(jv cs).map dI by unfold jv;rw[List.map_map];rfl]
  exact⟨by decide,hP⟩
theorem xw {s:Str}{ts:List Str}{B:Nat} (hB:∀y∈ts,y.length≤B) (h:ts.length*B+ts.length*s.length≤16777216):JoinOk s ts=true:=by
  have:=StrLaws.joinFits hB h
  unfold JoinOk
  simpa using this
theorem vE:∀{ps:List (List Nat)},bC [] ps=ps.flatten
  | []=>rfl
  | [p]=>by show p=p++[];rw[List.append_nil]
  | p::q::r=>by
    show p++([]++bC [] (q::r))=p++(q::r).flatten
    rw[vE];rfl
def cz:DSp:=fun ds P=>∃n:Nat,ds=[.int n]∧n<W15∧P (.str (mkS (dg n)))
theorem j5:bc cz:=by
  intro xs P P' k h
  unfold cz at h ⊢
  grind
theorem pU:∀ds P,cz ds P→ds.length=1:=by
  intro ds P h
  obtain ⟨_,e,_⟩:=h
  rw[e];rfl
theorem rg {f:Addr}{fd:FuncData} (F:FnAt K mg "shown_number" cm dX f fd) (A_:Fns K mg) (T:Txt K mg base) {c:Cs} (xs:Exs K mg base c):bE P w K mg base CX0 1 f fd dX (spP K cz):=by
  refine F.fn.ok i7 (fun vs H Q E h=>aL pU h) (fun cdv A outer s H vs Q E hr h=>?_)
  refine⟨_,(aj (wst 1 i7.nd (m4 ak)) (aj (pJ PassesOwn.never (aR Ez (pv 0) (cA (v:=.int 1000000000000000000) rfl T.PIECE_.choose_spec ⟨_,rfl⟩) (aQ _)) (aj (gU (ie PySem.F.plainAttrs_list PySem.F.slot_list_append PySem.F.type_list_append gz (pv 1) (af (ie PySem.F.plainAttrs_str PySem.F.slot_str_zfill PySem.F.type_str_zfill ED (cO jt (by rfl) T.str_ boot_str (af (aJ jT (pv 0) (cA (v:=.int 1000000000000000000) rfl T.PIECE_.choose_spec ⟨_,rfl⟩)) ak)) (af (cA (v:=.int 18) rfl T.PIECE_FIGURES_.choose_spec ⟨_,rfl⟩) ak)) ak))) (aq (wst 0 i7.nd (aJ eF (pv 0) (cA (v:=.int 1000000000000000000) rfl T.PIECE_.choose_spec ⟨_,rfl⟩)))))) (aj (gU (ie PySem.F.plainAttrs_list PySem.F.slot_list_append PySem.F.type_list_append gz (pv 1) (af (cO jt (by rfl) T.str_ boot_str (af (pv 0) ak)) ak))) (aq (aB (yi (K:=K) rfl rfl PySem.F.plainAttrs_str rfl T.reversed_ bA (pv 1))))))),aT (Γn:=[1]) (N:=jH) (au (ST.post (Γn:=[1]) (bU (M:=[]) 1 (mf eV))) (au (oB (aK (EM.er (aw jZ (ES.er (aa 0)) (EM.er ar)))) (au (ST.post (Γn:=[1]) (gB (M:=[]) 1 (oZ FW (EM.er (aS wB (ah (EM.er (aw aZ (ES.er (aa 0)) (EM.er ar))) ao))) (ah (EM.er ar) ao)))) (ST.post (Γn:=[1]) (aF 0 (EM.es (aw aZ (ES.er (aa 0)) (EM.er ar))))))) (au (ST.post (Γn:=[1]) (gB (M:=[]) 1 (aS wB (ah (ES.er (aa 0)) ao)))) (aD (M:=[]) (zT (EM.er bq) (cH 1)))))) (fun ds P hS=>?_) h⟩
  obtain ⟨n,rfl,hn,hP⟩:=hS
  rw[show aG jH [.int n]=[some (.int n),none] from rfl]
  walk_at "go"
  refine⟨fun m δ=>∃ps:List (List Nat),δ=[some (.int (m:Nat)),some (.lst ((ps.map mkS).map L3.D.str))]∧dg m++ps.reverse.flatten=dg n∧(dg m).length+18*ps.length=(dg n).length∧(∀p∈ps,p.length=18)∧m≤n,⟨n,[],rfl,List.append_nil _,rfl,fun p z=>absurd z List.not_mem_nil,Nat.le_refl _⟩,?_⟩
  have hl:=iT hn
  rintro m δ ⟨ps,rfl,e,el,hp,hm⟩
  walk_at "go"
  by_cases h:(1000000000000000000:Int)≤(m:Int)
  · rw[if_pos h]
    have h18:10 ^ 18≤m:=by omega
    have e1:(m:Int) % 1000000000000000000=((m % 10 ^ 18:Nat):Int):=by omega
    have e2:(m:Int) / 1000000000000000000=((m / 10 ^ 18:Nat):Int):=by omega
    have hm18:m % 10 ^ 18<10 ^ 18:=Nat.mod_lt _ (by decide)
    have hc:=C1 (k:=18) h18
    have hcl:=congrArg List.length hc
    rw[List.length_append,wO] at hcl
    rw[e1,e2,str_int,oh,show Txt.zfill (mkS (dg (m % 10 ^ 18))) 18=mkS (dgK 18 m) from (Fb (k:=18) hm18 (by decide)).trans (congrArg mkS Ar)]
    refine⟨oJ (Nat.lt_of_lt_of_le (show m % 10 ^ 18<10 ^ 18 from hm18) ?_),by decide,by omega,⟨by decide,100,by decide,by decide⟩,m / 10 ^ 18,by omega,ps++[dgK 18 m],?_,?_,?_,?_,by omega⟩
    · exact Nat.le_trans (show 10 ^ 18≤2 ^ 60 by decide) (Nat.pow_le_pow_right (by decide) (by decide))
    · rw[List.map_append,List.map_append];rfl
    · rw[List.reverse_append]
      show dg (m / 10 ^ 18)++(dgK 18 m++ps.reverse.flatten)=_
      rw[← List.append_assoc,← hc];exact e
    · rw[List.length_append,List.length_singleton];omega
    · intro p z
      rcases List.mem_append.mp z with z | z
      · exact hp p z
      · rw[List.mem_singleton.mp z];exact wO
  · rw[if_neg h,str_int,oh]
    have hml:=iT (Nat.lt_of_le_of_lt hm hn)
    refine⟨oJ (Nat.lt_of_le_of_lt hm hn),by omega,ps.map mkS++[mkS (dg m)],by rw[List.map_append];rfl,xw (B:=468) (fun y hy=>?_) ?_,?_⟩
    · rcases List.mem_append.mp (List.mem_reverse.mp hy) with z | z
      · obtain ⟨p,hq,rfl⟩:=List.mem_map.mp z
        rw[aE,hp p hq];decide
      · rw[List.mem_singleton.mp z,aE];exact hml
    · rw[List.length_reverse,List.length_append,List.length_map,aE]
      show (ps.length+1)*468+(ps.length+1)*0≤_
      omega
    · rw[show (ps.map mkS++[mkS (dg m)]).reverse=(dg m::ps.reverse).map mkS by rw[List.reverse_append,← List.map_reverse];rfl,show Txt.join (mkS []) ((dg m::ps.reverse).map mkS)=mkS (bC [] (dg m::ps.reverse)) from (StrLaws.glued_eq_join _ _).trans (pL [] _),vE,show (dg m::ps.reverse).flatten=dg m++ps.reverse.flatten from rfl,e]
      exact hP
def fK:DSp:=fun ds P=>∃(q:Cell) (m:Nat),ds=[.int (q.1*m),.int (q.2*m)]∧1≤m∧m<2 ^ 6500∧Wide q∧P (.str (cX q))
theorem nr:bc fK:=by
  intro xs P P' k h
  obtain ⟨q,m,e,h1,h2,h3,h⟩:=h
  exact⟨q,m,e,h1,h2,h3,k _ h⟩
theorem n4:∀ds P,fK ds P→ds.length=2:=by
  intro ds P h
  obtain ⟨_,_,e,_⟩:=h
  rw[e];rfl
theorem pb {f:Addr}{fd:FuncData} (F:FnAt K mg "shown_fraction" bF cR f fd) (A_:Fns K mg) (T:Txt K mg base) {c:Cs} (xs:Exs K mg base c):bE P w K mg base CX0 2 f fd cR (spP K fK):=by
  obtain ⟨f0,d0,E_greatest_divisor⟩:=A_.h_greatest_divisor
  have G_greatest_divisor:=dN (P:=P) (w:=w) E_greatest_divisor A_ T xs
  obtain ⟨f1,d1,E_shown_number⟩:=A_.h_shown_number
  have G_shown_number:=rg (P:=P) (w:=w) E_shown_number A_ T xs
  refine F.fn.ok eW (fun vs H Q E h=>aL n4 h) (fun cdv A outer s H vs Q E hr h=>?_)
  refine⟨_,(aj (wst 2 eW.nd (wcl G_greatest_divisor hr E_greatest_divisor (af (pv 1) (af (aO oN (by rfl) T.abs_ boot_abs (af (pv 0) ak)) ak)))) (aj (wst 3 eW.nd (oO (aR vj (pv 0) av (aQ _)) bA bA)) (aj (wst 4 eW.nd (wcl G_shown_number hr E_shown_number (af (aJ eF (aO oN (by rfl) T.abs_ boot_abs (af (pv 0) ak)) (pv 2)) ak))) (aj (cU (aR lR (pv 2) (pv 1) (aQ _)) (aq (aB (aJ eD (pv 3) (pv 4)))) aU) (aq (aB (aJ eD (aJ eD (aJ eD (pv 3) (pv 4)) bA) (wcl G_shown_number hr E_shown_number (af (aJ eF (pv 1) (pv 2)) ak))))))))),aT (Γn:=[]) (N:=iw) (au (ST.post (Γn:=[]) (aF 2 (EM.es (aA (S:=bj) cW (ah (ES.er (aa 1)) (ah (EM.er (aS Bi (ah (ES.er (aa 0)) ao))) ao)))))) (au (ST.post (Γn:=[]) (aF 3 (EM.es (AG (aK (EM.er (aw jZ (ES.er (aa 0)) (EM.er ar)))) bq bq)))) (au (ST.post (Γn:=[]) (aF 4 (EM.es (aA (S:=cz) j5 (ah (EM.er (aw aZ (EM.er (aS Bi (ah (ES.er (aa 0)) ao))) (ES.er (aa 2)))) ao))))) (au (fj (aK (EM.er (aw rm (ES.er (aa 2)) (ES.er (aa 1))))) (aD (M:=[]) (aw lh (ES.er (aa 3)) (ES.er (aa 4)))) aX) (aD (M:=[]) (aw lh (EM.er (aw lh (EM.er (aw lh (ES.er (aa 3)) (ES.er (aa 4)))) (EM.er bq))) (EM.er (aA (S:=cz) j5 (ah (EM.er (aw aZ (ES.er (aa 1)) (ES.er (aa 2)))) ao))))))))) (fun ds P hS=>?_) h⟩
  obtain ⟨q,m,rfl,m1,m2,hg,hP⟩:=hS
  rw[show aG iw [.int (q.1*m),.int (q.2*m)]=[some (.int (q.1*m)),some (.int (q.2*m)),none,none,none] from rfl]
  walk_at "go"
  have q2:=hg.2.1
  have qn:(q.2.natAbs:Int)=q.2:=by omega
  have b30:=hg.2.2.1
  have s1:=kN
  have hs:=iT hg.1
  have hb:=iT b30
  have eg:Nat.gcd (q.2.natAbs*m) (q.1.natAbs*m)=m:=by
    rw[Nat.gcd_mul_right,Nat.gcd_comm,hg.2.2.2,Nat.one_mul]
  have ea:(if q.1*(m:Int)<0 then -(q.1*(m:Int)) else q.1*(m:Int))=((q.1.natAbs*m:Nat):Int):=by
    rw[Int.natCast_mul]
    have h0:((q.1*(m:Int)).natAbs:Int)=(q.1.natAbs:Int)*(m:Int):=by rw[Int.natAbs_mul,Int.natAbs_natCast,Int.natCast_mul]
    split<;>omega
  have eb:q.2*(m:Int)=((q.2.natAbs*m:Nat):Int):=by rw[Int.natCast_mul,qn]
  have sg:q.1*(m:Int)<0↔q.1<0:=by
    constructor
    · intro z
      rcases Int.lt_or_le q.1 0 with y | y
      · exact y
      · exact absurd (Int.mul_nonneg y (show (0:Int)≤(m:Int) by omega)) (by omega)
    · intro z
      exact Int.mul_neg_of_neg_of_pos z (by omega)
  have d1:((q.1.natAbs*m:Nat):Int) / (m:Int)=((q.1.natAbs:Nat):Int):=by rw[← Int.natCast_ediv,Nat.mul_div_cancel _ m1]
  have d2:((q.2.natAbs*m:Nat):Int) / (m:Int)=((q.2.natAbs:Nat):Int):=by rw[← Int.natCast_ediv,Nat.mul_div_cancel _ m1]
  have cd:∀x:Int,qF x (m:Int):=fun x=>⟨by omega,6500,by rw[Int.natAbs_natCast];exact m2,by decide⟩
  have ed:(m:Int)=((q.2.natAbs*m:Nat):Int)↔q.2=1:=by
    constructor
    · intro z
      have z:=Int.ofNat.inj z
      have:q.2.natAbs=1:=Nat.eq_of_mul_eq_mul_right m1 (by rw[← z,Nat.one_mul])
      omega
    · intro z
      rw[z]
      show (m:Int)=((1*m:Nat):Int)
      rw[Nat.one_mul]
  rw[ea,eb]
  refine⟨_,_,rfl,?_⟩
  rw[eg]
  have fin:∀sgn:List Nat,sgn.length≤1→sI q.1=sgn++dg q.1.natAbs→vI qF (fun i j=>L3.D.int (i / j)) (L3.D.int ((q.1.natAbs*m:Nat):Int)) (L3.D.int (m:Int)) fun x_1 =>
        cz [x_1] fun x_2 =>
          sr false (L3.D.int (m:Int)) (L3.D.int ((q.2.natAbs*m:Nat):Int)) fun x_3 =>
            asB x_3 fun b =>
              if b=true then asS x_2 fun j=>(mkS sgn).length+j.length≤sizeLine∧P (L3.D.str (mkS sgn++j))
              else
                asS x_2 fun j =>
                  (mkS sgn).length+j.length≤sizeLine ∧
                    (mkS sgn++j).length+(mkS [47]).length≤sizeLine ∧
                      vI qF (fun i j=>L3.D.int (i / j)) (L3.D.int ((q.2.natAbs*m:Nat):Int)) (L3.D.int (m:Int)) fun x =>
                        cz [x] fun y =>
                          asS y fun j_1 =>
                            (mkS sgn++j++mkS [47]).length+j_1.length≤sizeLine ∧
                              P (L3.D.str (mkS sgn++j++mkS [47]++j_1)):=by
    intro sgn hl hsg
    refine⟨cd _,?_⟩
    dsimp only
    rw[d1]
    refine⟨_,rfl,hg.1,?_⟩
    walk_at "go"
    by_cases h1:q.2=1
    · rw[if_pos (ed.mpr h1)]
      refine⟨by rw[aE,aE];omega,?_⟩
      rw[fI,← hsg]
      unfold cX at hP
      rw[GY h1] at hP
      exact hP
    · rw[if_neg (fun z=>h1 (ed.mp z))]
      rw[fI,← hsg]
      have hs2:(sI q.1).length≤469:=wx hg.1
      rw[d2]
      refine⟨by rw[aE,aE];omega,by rw[aE,aE];simp;omega,cd _,?_⟩
      refine⟨_,rfl,b30,?_⟩
      dsimp only
      rw[wt,fI,fI]
      refine⟨by rw[aE,aE];simp;omega,?_⟩
      rw[List.append_assoc]
      unfold cX at hP
      rw[GZ h1] at hP
      exact hP
  dsimp only
  by_cases hneg:q.1<0
  · rw[if_pos (sg.mpr hneg)]
    exact fin [45] (by decide) (by unfold sI;rw[if_pos hneg];rfl)
  · rw[if_neg (fun z=>hneg (sg.mp z))]
    exact fin [] (by decide) (by unfold sI;rw[if_neg hneg];rfl)
theorem Gw {t b:Int} (ht:t.natAbs<W15) (b1:1≤b) (b2:b.natAbs<W15):Wide (t / ((Nat.gcd t.natAbs b.natAbs:Nat):Int),b / ((Nat.gcd t.natAbs b.natAbs:Nat):Int)):=by
  have gp:0<Nat.gcd t.natAbs b.natAbs:=Nat.gcd_pos_of_pos_right _ (by omega)
  have d1:=Int.ofNat_dvd_left.mpr (Nat.gcd_dvd_left t.natAbs b.natAbs)
  have d2:=Int.ofNat_dvd_left.mpr (Nat.gcd_dvd_right t.natAbs b.natAbs)
  have e1:=Int.mul_ediv_cancel' d1
  have e2:=Int.mul_ediv_cancel' d2
  have n1:=congrArg Int.natAbs e1
  have n2:=congrArg Int.natAbs e2
  rw[Int.natAbs_mul,Int.natAbs_natCast] at n1 n2
  have l2:=Int.natAbs_ediv_le_natAbs b ((Nat.gcd t.natAbs b.natAbs:Nat):Int)
  have gg:Nat.gcd t.natAbs b.natAbs*Nat.gcd (t / ((Nat.gcd t.natAbs b.natAbs:Nat):Int)).natAbs (b / ((Nat.gcd t.natAbs b.natAbs:Nat):Int)).natAbs=Nat.gcd t.natAbs b.natAbs:=by
    rw[← Nat.gcd_mul_left,n1,n2]
  have p2:0<b / ((Nat.gcd t.natAbs b.natAbs:Nat):Int):=by
    rcases Int.lt_or_le 0 (b / ((Nat.gcd t.natAbs b.natAbs:Nat):Int)) with z | z
    · exact z
    · exfalso
      have:=Int.mul_nonpos_of_nonneg_of_nonpos (show (0:Int)≤((Nat.gcd t.natAbs b.natAbs:Nat):Int) by omega) z
      omega
  refine⟨Nat.lt_of_le_of_lt (Int.natAbs_ediv_le_natAbs _ _) ht,p2,Nat.lt_of_le_of_lt (Int.natAbs_ediv_le_natAbs _ _) b2,?_⟩
  exact Nat.eq_of_mul_eq_mul_left gp (by rw[gg,Nat.mul_one])
def red (b c:Int):Cell:=(c / ((Nat.gcd c.natAbs b.natAbs:Nat):Int),b / ((Nat.gcd c.natAbs b.natAbs:Nat):Int))
def Fits (b:Int) (r:List Int):Prop:=r.length≤8∧1≤b∧b.natAbs<W15∧∀c∈r,c.natAbs<W15
theorem wL {b:Int}{r:List Int} (h:Fits b r) {c:Int} (hc:c∈r):Wide (red b c):=Gw (h.2.2.2 c hc) h.2.1 h.2.2.1
theorem rQ {b c:Int}:c=(red b c).1*((Nat.gcd c.natAbs b.natAbs:Nat):Int)∧b=(red b c).2*((Nat.gcd c.natAbs b.natAbs:Nat):Int) :=
  ⟨(Int.ediv_mul_cancel (Int.ofNat_dvd_left.mpr (Nat.gcd_dvd_left _ _))).symm,(Int.ediv_mul_cancel (Int.ofNat_dvd_left.mpr (Nat.gcd_dvd_right _ _))).symm⟩
theorem Bq {s:List Nat}{ps:List (List Nat)}{P:DK} (h1:JoinOk (mkS s) (ps.map mkS)=true) (h2:(bC s ps).length≤sizeLine) (h:P (.str (mkS (bC s ps)))):zm [.str (mkS s),.lst ((ps.map mkS).map L3.D.str)] P:=by
  unfold zm
  exact ja (ds:=(ps.map mkS).map L3.D.str) rfl ⟨ps.map mkS,rfl,⟨h1,by rw[pL];exact h2⟩,by rw[pL];exact h⟩
theorem za {b c:Int} (b1:1≤b) (b2:b.natAbs<W15):1≤Nat.gcd c.natAbs b.natAbs∧Nat.gcd c.natAbs b.natAbs<W15 :=
  ⟨Nat.gcd_pos_of_pos_right _ (by omega),Nat.lt_of_le_of_lt (Nat.le_of_dvd (by omega) (Nat.gcd_dvd_right _ _)) b2⟩
def kd:DSp:=fun ds P=>∃(r:List Int) (b:Int),ds=[dI r,.int b]∧Fits b r∧P (.str (mkS (jl (r.map (red b)))))
theorem tF:bc kd:=by
  intro xs P P' k h
  obtain ⟨r,b,e,h1,h⟩:=h
  exact⟨r,b,e,h1,k _ h⟩
theorem uL:∀ds P,kd ds P→ds.length=2:=by
  intro ds P h
  obtain ⟨_,_,e,_⟩:=h
  rw[e];rfl
theorem xt {f:Addr}{fd:FuncData} (F:FnAt K mg "shown_row" dB gx f fd) (A_:Fns K mg) (T:Txt K mg base) {c:Cs} (xs:Exs K mg base c):bE P w K mg base CX0 3 f fd gx (spP K kd):=by
  obtain ⟨f0,d0,E_shown_fraction⟩:=A_.h_shown_fraction
  have G_shown_fraction:=pb (P:=P) (w:=w) E_shown_fraction A_ T xs
  refine F.fn.ok wV (fun vs H Q E h=>aL uL h) (fun cdv A outer s H vs Q E hr h=>?_)
  refine⟨_,(aq (aB (ie PySem.F.plainAttrs_str PySem.F.slot_str_join PySem.F.type_str_join (yQ (K:=K) rfl) bA (af (wco (ai dB) "cell" ["bottom"] [1] (wil K (pv 0)) (fun _ _ _ _ _=>(wcl G_shown_fraction hr E_shown_fraction (af (pv 0) (af (pv 1) ak))))) ak)))),aT (Γn:=[]) (N:=mL) (aD (M:=[]) (oZ Fj (EM.er bq) (ah (EM.er (bL (br (aa 0)) (aI 0) (aA (S:=fK) nr (ah (ES.er (aa 0)) (ah (ES.er (aa 1)) ao))))) ao))) (fun ds P hS=>?_) h⟩
  obtain ⟨r,b,rfl,hf,hP⟩:=hS
  rw[show aG mL [dI r,.int b]=[some (dI r),some (.int b)] from rfl]
  have s5:=oQ
  have hw:∀q∈r.map (red b),Wide q:=fun q hq=>by
    obtain ⟨c,hc,rfl⟩:=List.mem_map.mp hq
    exact wL hf hc
  have l8:=hf.1
  have ll:=pB (qs:=r.map (red b)) (by rw[List.length_map];exact l8) hw
  walk_at "go"
  refine qx (ns:=r) (g:=fun c=>.str (cX (red b c))) (fun R h=>h) (by omega) (fun c hc R h=>?_) ?_
  · walk_at "gb"
    obtain ⟨g1,g2⟩:=za (c:=c) hf.2.1 hf.2.2.1
    refine⟨red b c,_,?_,g1,Nat.lt_of_lt_of_le g2 (Nat.pow_le_pow_right (by decide) (by decide)),wL hf hc,h⟩
    rw[← rQ.1,← rQ.2]
  rw[show r.map (fun c=>L3.D.str (cX (red b c)))=(((r.map (red b)).map cE).map mkS).map L3.D.str by rw[List.map_map,List.map_map,List.map_map];rfl]
  refine Bq (xw (B:=940) (fun y hy=>?_) ?_) (by show (jl (r.map (red b))).length≤_;omega) hP
  · obtain ⟨p,hp,rfl⟩:=List.mem_map.mp hy
    obtain ⟨q,hq,rfl⟩:=List.mem_map.mp hp
    rw[aE]
    exact jC (hw q hq)
  · rw[List.length_map,List.length_map,List.length_map,aE,List.length_singleton]
    omega
def bH (b:Int) (t:List (List Int)):List (List Cell):=t.map fun r=>r.map (red b)
theorem zH {b:Int}{t:List (List Int)}{w:Nat} (h1:1≤t.length) (h8:t.length≤8) (w1:1≤w) (hr:∀r∈t,r.length=w) (hf:∀r∈t,Fits b r):ShW w (bH b t):=by
  have w8:w≤8:=by
    cases t with
    | nil=>exact absurd h1 (by decide)
    | cons r t=>have:=hr r List.mem_cons_self;have:=(hf r List.mem_cons_self).1;omega
  refine⟨by unfold bH;rw[List.length_map];exact h1,by unfold bH;rw[List.length_map];exact h8,w1,w8,fun qs hq=>?_,fun qs hq q hq2=>?_⟩
  · obtain ⟨r,hm,rfl⟩:=List.mem_map.mp hq
    rw[List.length_map];exact hr r hm
  · obtain ⟨r,hm,rfl⟩:=List.mem_map.mp hq
    obtain ⟨c,hc,rfl⟩:=List.mem_map.mp hq2
    exact wL (hf r hm) hc
def lD (c:Cs):DSX:=fun ds P R=>∃(t:List (List Int)) (b:Int) (w:Nat),ds=[dT t,.int b]∧1≤b∧1≤t.length∧t.length≤8∧1≤w∧(∀r∈t,r.length=w)∧(∀r∈t,Fits b r)∧P (.str (mkS (kM (bH b t))))
theorem qU {c:Cs}:gu (lD c):=by
  intro xs P P' R R' k kr h
  obtain ⟨t,b,w,e,h1,h2,h3,h4,h5,h6,h7⟩:=h
  exact⟨t,b,w,e,h1,h2,h3,h4,h5,h6,k _ h7⟩
theorem tj {c:Cs}:∀ds P R,lD c ds P R→ds.length=2:=by
  intro ds P R h
  obtain ⟨t,b,w,e,_⟩:=h
  rw[e];rfl
theorem uM {f:Addr}{fd:FuncData} (F:FnAt K mg "show_table" cF fG f fd) (A_:Fns K mg) (T:Txt K mg base) {c:Cs} (xs:Exs K mg base c):bE P w K mg base (CXR P w) 4 f fd fG (spX K (lD c)):=by
  obtain ⟨f0,d0,E_check_bottom⟩:=A_.h_check_bottom
  have G_check_bottom:=lS (P:=P) (w:=w) E_check_bottom A_ T xs
  obtain ⟨f1,d1,E_shown_row⟩:=A_.h_shown_row
  have G_shown_row:=xt (P:=P) (w:=w) E_shown_row A_ T xs
  refine F.fn.okX uX (fun vs H Q E h=>js tj h) (fun cdv A outer s H vs Q E hr h=>?_)
  refine⟨_,(aj (gU (eY G_check_bottom (hr.mono (by decide)) rfl E_check_bottom.mg E_check_bottom.fn.kp E_check_bottom.bd .nil rR (PA.nox (af (pv 1) ak)))) (PSs.nox (aq (aB (ie PySem.F.plainAttrs_str PySem.F.slot_str_join PySem.F.type_str_join (yQ (K:=K) rfl) bA (af (wco (ai cF) "row" ["bottom"] [1] (wil K (pv 0)) (fun _ _ _ _ _=>(wcl G_shown_row hr E_shown_row (af (pv 0) (af (pv 1) ak))))) ak)))))),jr (Γn:=[]) (N:=lO) (fun R=>(jb (xM kc (ah (ES.er (aa 1)) ao)) (ST.sx (aD (M:=[]) (oZ Fj (EM.er bq) (ah (EM.er (bL (br (aa 0)) (aI 0) (aA (S:=kd) tF (ah (ES.er (aa 0)) (ah (ES.er (aa 1)) ao))))) ao)))))) (fun ds P R hS=>?_) h⟩
  obtain ⟨t,b,w,rfl,b1,h1,h8,w1,hr,hf,hP⟩:=hS
  rw[show aG lO [dT t,.int b]=[some (dT t),some (.int b)] from rfl]
  walk_at "go"
  refine⟨_,rfl,rfl,fun _=>?_,fun z=>absurd z (by rw[show A4 (.int b)=decide (1≤b) from rfl,decide_eq_true b1];decide)⟩
  have hS:=zH h1 h8 w1 hr hf
  have tl:=text_len hS
  have s5:=oQ
  refine ng (t:=t) (g:=fun r=>.str (mkS (jl (r.map (red b))))) (fun R h=>h) (by omega) (fun r hq R h=>?_) ?_
  · walk_at "gb"
    exact⟨r,b,rfl,hf r hq,h⟩
  rw[show t.map (fun r=>L3.D.str (mkS (jl (r.map (red b)))))=(((bH b t).map jl).map mkS).map L3.D.str by unfold bH;rw[List.map_map,List.map_map,List.map_map];rfl]
  refine Bq (xw (B:=7528) (fun y hy=>?_) ?_) (by show (kM (bH b t)).length≤_;omega) hP
  · obtain ⟨p,hp,rfl⟩:=List.mem_map.mp hy
    obtain ⟨qs,hq,rfl⟩:=List.mem_map.mp hp
    rw[aE]
    exact pB (by rw[hS.2.2.2.2.1 qs hq];exact hS.2.2.2.1) (hS.2.2.2.2.2 qs hq)
  · have:=hS.2.1
    rw[List.length_map,List.length_map,aE]
    show (bH b t).length*7528+(bH b t).length*2≤_
    omega
def gy:DSp:=fun ds P=>∃i,ds=[.int i]∧P (.bl true)
theorem mH:bc gy:=by
  intro xs P P' k h
  unfold gy at h ⊢
  grind
theorem uU:∀ds P,gy ds P→ds.length=1:=by
  intro ds P h
  obtain ⟨_,e,_⟩:=h
  rw[e];rfl
theorem xG {f:Addr}{fd:FuncData} (F:FnAt K mg "_law_whole" en gL f fd) (A_:Fns K mg) (T:Txt K mg base) {c:Cs} (xs:Exs K mg base c):bE P w K mg base CX0 1 f fd gL (spP K gy):=by
  refine F.fn.ok w5 (fun vs H Q E h=>aL uU h) (fun cdv A outer s H vs Q E hr h=>?_)
  refine⟨_,(aq (aB (An (aO (b7 (K:=K) rfl) (by rfl) T.isinstance_ boot_isinstance (af (pv 0) (af (gP (v:=.ty "int") rfl T.int_ boot_int rfl) ak))) (sA (Di (aO (b7 (K:=K) rfl) (by rfl) T.isinstance_ boot_isinstance (af (pv 0) (af (gP (v:=.ty "bool") rfl T.bool_ boot_bool rfl) ak)))))))),aT (Γn:=[]) (N:=mr) (aD (M:=[]) (wM (EM.er (eN Ba (ES.er (aa 0)))) (BD (EM.er (eN y0 (ES.er (aa 0))))))) (fun ds P hS=>?_) h⟩
  obtain ⟨i,rfl,hP⟩:=hS
  rw[show aG mr [.int i]=[some (.int i)] from rfl]
  walk_at "v"
  exact hP
def jM:DSp:=fun ds P=>∃(ns:List Int) (m:Nat),ds=[.scr ns,.int m]∧ns.length≤63∧m≤100∧∀xs:List Int,xs.length=m→(∀x∈xs,0≤x∧x<1000000000000000000)→P (dI xs)
theorem uP:bc jM:=by
  intro xs P P' k h
  unfold jM at h ⊢
  grind
theorem xx:∀ds P,jM ds P→ds.length=2:=by
  intro ds P h
  obtain ⟨_,_,e,_⟩:=h
  rw[e];rfl
theorem zr {f:Addr}{fd:FuncData} (F:FnAt K mg "_law_deck" fe iz f fd) (A_:Fns K mg) (T:Txt K mg base) {c:Cs} (xs:Exs K mg base c):bE P w K mg base CX0 1 f fd iz (spP K jM):=by
  refine F.fn.ok fA (fun vs H Q E h=>aL xx h) (fun cdv A outer s H vs Q E hr h=>?_)
  refine⟨_,(aj (wst 2 fA.nd (m4 ak)) (aj (wst 3 fA.nd (aJ i6 av (wln K T.len_ (pv 0)))) (aj (wfo (wil K (pv 0)) (wpg 4 fA.nd) (aq (wst 3 fA.nd (aJ jT (aJ i6 (aJ iH (pv 3) av) (pv 4)) av)))) (aj (wfo (ir rfl T.range_ (af (pv 1) ak)) (wpg 5 fA.nd) (aj (wst 3 fA.nd (aJ jT (aJ i6 (aJ i6 (aJ iH (pv 3) av) av) (pv 5)) av)) (aq (cU (aR vj (pv 5) (wln K T.len_ (pv 0)) (aQ _)) (aq (gU (ie PySem.F.plainAttrs_list PySem.F.slot_list_append PySem.F.type_list_append gz (pv 2) (af (aJ jT (wix K (pv 0) (pv 5)) (aJ zK av av)) ak)))) (aq (gU (ie PySem.F.plainAttrs_list PySem.F.slot_list_append PySem.F.type_list_append gz (pv 2) (af (pv 3) ak)))))))) (aq (aB (pv 2))))))),aT (Γn:=[2]) (N:=nP) (au (ST.post (Γn:=[2]) (bU (M:=[]) 2 (mf eV))) (au (ST.post (Γn:=[2]) (aF 3 (EM.es (aw fz (EM.er ar) (EM.er (aS eh (ah (ES.er (aa 0)) ao))))))) (au (fO (br (aa 0)) (aI 4) (ST.post (Γn:=[2]) (aF 3 (EM.es (aw aZ (EM.er (aw fz (EM.er (aw aZ (ES.er (aa 3)) (EM.er ar))) (ES.er (aa 4)))) (EM.er ar)))))) (au (fO (kY (ah (ES.er (aa 1)) ao)) (aI 5) (au (ST.post (Γn:=[2]) (aF 3 (EM.es (aw aZ (EM.er (aw fz (EM.er (aw fz (EM.er (aw aZ (ES.er (aa 3)) (EM.er ar))) (EM.er ar))) (ES.er (aa 5)))) (EM.er ar))))) (fj (aK (EM.er (aw jZ (ES.er (aa 5)) (EM.er (aS eh (ah (ES.er (aa 0)) ao)))))) (ST.post (Γn:=[2]) (gB (M:=[]) 2 (aw aZ (ES.er (aW (aa 0) (ES.er (aa 5)))) (EM.er (aw aZ (EM.er ar) (EM.er ar)))))) (ST.post (Γn:=[2]) (gB (M:=[]) 2 (ER.bf (ES.er (aa 3)))))))) (aD (M:=[2]) (fN 2)))))) (fun ds P hS=>?_) h⟩
  obtain ⟨ns,m,rfl,hz,hm,hP⟩:=hS
  rw[show aG nP [.scr ns,.int m]=[some (.scr ns),some (.int m),none,none,none,none] from rfl]
  walk_at "go"
  refine dF (as:=ns) (f:=L3.D.int) (fun i δ=>∃(y:Int) (o:Option D),δ=[some (.scr ns),some (.int m),some (.lst []),some (.int y),o,none]∧0≤y∧y<2 ^ 60) ⟨4711+(ns.length:Int),none,rfl,by omega,by omega⟩ ?_ ?_
  · rintro i a δ N e ⟨y,o,rfl,h0,h1⟩ hN
    walk_at "go"
    have h:=emod_lt (x:=y*48271+a) (n:=2147483629) (by decide)
    exact hN _ ⟨_,_,rfl,h.1,by have:=h.2;omega⟩
  rintro δ ⟨y,o,rfl,h0,h1⟩
  walk_at "go"
  refine tT (fun i δ=>∃(y:Int) (xs:List Int) (o5:Option D),δ=[some (.scr ns),some (.int m),some (dI xs),some (.int y),o,o5]∧0≤y∧y<2 ^ 60∧xs.length=i∧∀x∈xs,0≤x∧x<1000000000000000000) ⟨y,[],none,rfl,h0,h1,rfl,fun x hx=>(nomatch hx)⟩ ?_ ?_
  · rintro i δ N hi ⟨y,xs,o5,rfl,h0,h1,hx,hq⟩ hN
    walk_at "go"
    have h:=emod_lt (x:=y*69621+7+(0+(i:Int))) (n:=2147483647) (by decide)
    generalize (y*69621+7+(0+(i:Int))) % 2147483647=y' at h ⊢
    have nxt:∀v:Int,0≤v→v<1000000000000000000→N [some (.scr ns),some (.int m),some (.lst (xs.map L3.D.int++[.int v])),some (.int y'),o,some (.int (0+(i:Int)))]:=fun v v0 v1=>by
      refine hN _ ⟨y',xs++[v],_,by rw[BA],h.1,by have:=h.2;omega,by rw[List.length_append,hx];rfl,fun x hx'=>?_⟩
      rcases List.mem_append.mp hx' with z | z
      · exact hq x z
      · cases List.mem_singleton.mp z;exact⟨v0,v1⟩
    split
    · rename_i c
      refine aN ⟨by omega,c⟩ ?_
      walk_at "go"
      have h2:=emod_lt (x:=ns.getD (0+(i:Int)).toNat 0) (n:=1000000000000000000) (by decide)
      exact nxt _ h2.1 h2.2
    · walk_at "go"
      have:=h.2
      exact nxt _ h.1 (by omega)
  · rintro δ ⟨y,xs,o5,rfl,h0,h1,hx,hq⟩
    walk_at "v"
    exact hP xs hx hq
def jA:DSp:=fun ds P=>∃(a:Int) (b:Nat),ds=[.int a,.int b]∧P (.int (Nat.gcd a.natAbs b:Nat))
theorem FI {x y:Int}:Int.gcd y (x % y)=Int.gcd x y:=by
  have e:=Int.emod_add_mul_ediv x y
  have key:∀d:Nat,(d:Int) ∣ y→((d:Int) ∣ x % y↔(d:Int) ∣ x):=fun d hd=>by
    have hm:(d:Int) ∣ y*(x / y):=Int.dvd_trans hd (Int.dvd_mul_right y (x / y))
    constructor
    · intro h
      rw[← e]
      exact Int.dvd_add h hm
    · intro h
      have e2:x % y=x - y*(x / y):=by omega
      rw[e2]
      exact Int.dvd_sub h hm
  have a1:((Int.gcd y (x % y):Nat):Int) ∣ y:=Int.ofNat_dvd_left.mpr (Nat.gcd_dvd_left ..)
  have a2:((Int.gcd y (x % y):Nat):Int) ∣ x % y:=Int.ofNat_dvd_left.mpr (Nat.gcd_dvd_right ..)
  have b1:((Int.gcd x y:Nat):Int) ∣ x:=Int.ofNat_dvd_left.mpr (Nat.gcd_dvd_left ..)
  have b2:((Int.gcd x y:Nat):Int) ∣ y:=Int.ofNat_dvd_left.mpr (Nat.gcd_dvd_right ..)
  exact Nat.dvd_antisymm (Nat.dvd_gcd (Int.ofNat_dvd_left.mp ((key _ a1).mp a2)) (Int.ofNat_dvd_left.mp a1)) (Nat.dvd_gcd (Int.ofNat_dvd_left.mp b2) (Int.ofNat_dvd_left.mp ((key _ b2).mpr b1)))
theorem pI:bc jA:=by
  intro xs P P' k h
  unfold jA at h ⊢
  grind
theorem yF:∀ds P,jA ds P→ds.length=2:=by
  intro ds P h
  obtain ⟨_,_,e,_⟩:=h
  rw[e];rfl
theorem sU {f:Addr}{fd:FuncData} (F:FnAt K mg "_law_gcd" gC jy f fd) (A_:Fns K mg) (T:Txt K mg base) {c:Cs} (xs:Exs K mg base c):bE P w K mg base CX0 1 f fd jy (spP K jA):=by
  refine F.fn.ok tL (fun vs H Q E h=>aL yF h) (fun cdv A outer s H vs Q E hr h=>?_)
  refine⟨_,(aj (pJ PassesOwn.never (aR jF (pv 1) av (aQ _)) (aq (Hu (i:=0) (j:=1) rfl tL.nd rfl rfl (by decide) rfl rfl (af (pv 1) (af (aJ jT (pv 0) (pv 1)) ak)) rfl))) (aq (aB (aO oN (by rfl) T.abs_ boot_abs (af (pv 0) ak))))),aT (Γn:=[]) (N:=qB) (au (oB (aK (EM.er (aw nJ (ES.er (aa 1)) (EM.er ar)))) (Hm 0 1 (Bx (aa 1) (Bx (EM.es (aw aZ (ES.er (aa 0)) (ES.er (aa 1)))) IJ)))) (aD (M:=[]) (aS Bi (ah (ES.er (aa 0)) ao)))) (fun ds P hS=>?_) h⟩
  obtain ⟨a,b,rfl,hP⟩:=hS
  rw[show aG qB [.int a,.int b]=[some (.int a),some (.int b)] from rfl]
  walk_at "go"
  refine⟨fun m δ=>∃(x:Int) (y:Nat),δ=[some (.int x),some (.int y)]∧Int.gcd x y=Nat.gcd a.natAbs b∧m=y,⟨b,a,b,rfl,rfl,rfl⟩,?_⟩
  rintro m δ ⟨x,y,rfl,hg,rfl⟩
  walk_at "go"
  by_cases h0:m=0
  · subst h0
    rw[if_neg (fun z=>z rfl)]
    have e:Nat.gcd a.natAbs b=x.natAbs:=by rw[← hg];exact Int.gcd_zero_right x
    rw[e] at hP
    rw[show (if x<0 then -x else x)=((x.natAbs:Nat):Int) by split<;>omega]
    exact hP
  · rw[if_pos (by omega)]
    have r:=emod_lt (x:=x) (n:=(m:Int)) (by omega)
    refine⟨by omega,(x % (m:Int)).toNat,by omega,(m:Int),(x % (m:Int)).toNat,by rw[Int.toNat_of_nonneg r.1],?_,rfl⟩
    rw[Int.toNat_of_nonneg r.1,FI]
    exact hg
theorem xa {B:Nat}{xs:List Int}{i:Nat} (h:∀x∈xs,x.natAbs≤B):(xs.getD i 0).natAbs≤B:=by
  rw[List.getD_eq_getElem?_getD]
  cases e:xs[i]? with
  | none=>exact Nat.zero_le _
  | some v=>exact h v (List.mem_of_getElem? e)
theorem FF {B:Nat}{xs:List Int}{g k:Nat}{b:Int} (h:∀x∈xs,x.natAbs≤B) (hne:g≠k) (b0:0≤b) (b1:b≤xs.getD g 0 - xs.getD k 0):∀x∈Maj.aV xs g k b,x.natAbs≤B:=fun x hx=>by
  have h1:=xa (i:=g) h
  have h2:=xa (i:=k) h
  have e1:∀y∈xs.set g (xs.getD g 0 - b),y.natAbs≤B:=fun y hy=>by
    rcases List.mem_or_eq_of_mem_set hy with z | z
    · exact h y z
    · rw[z];omega
  unfold Maj.aV at hx
  rcases List.mem_or_eq_of_mem_set hx with z | z
  · exact e1 x z
  · rw[z,Maj.eZ hne]
    omega
def gj:DSp:=fun ds P=>∃(xs ns:List Int) (B:Nat),ds=[dI xs,.scr ns]∧ns.length≤63∧1≤xs.length∧xs.length≤8∧(∀x∈xs,x.natAbs≤B)∧B≤10 ^ 19∧∀ys:List Int,ys.length=xs.length→ys.sum=xs.sum→Maj.Le ys xs→P (dI ys)
theorem n6:bc gj:=by
  intro xs P P' k h
  obtain ⟨x,ns,B,e,h1,h2,h3,h4,h5,h⟩:=h
  exact⟨x,ns,B,e,h1,h2,h3,h4,h5,fun ys a b d=>k _ (h ys a b d)⟩
theorem pO:∀ds P,gj ds P→ds.length=2:=by
  intro ds P h
  obtain ⟨_,_,_,e,_⟩:=h
  rw[e];rfl
theorem qm {f:Addr}{fd:FuncData} (F:FnAt K mg "_law_more_even" bT du f fd) (A_:Fns K mg) (T:Txt K mg base) {c:Cs} (xs:Exs K mg base c):bE P w K mg base CX0 1 f fd du (spP K gj):=by
  refine F.fn.ok cN (fun vs H Q E h=>aL pO h) (fun cdv A outer s H vs Q E hr h=>?_)
  refine⟨_,(aj (wst 2 cN.nd (cO (nM (K:=K) rfl) (by rfl) T.list_ boot_list (af (pv 0) ak))) (aj (wfo (wil K (uo (xN (K:=K) rfl) (pv 1) BB (rG av))) (wpg 3 cN.nd) (aj (wst 4 cN.nd (aJ jT (aJ eF (pv 3) av) (wln K T.len_ (pv 0)))) (aj (wst 5 cN.nd (aJ jT (aJ eF (pv 3) av) (wln K T.len_ (pv 0)))) (aq (cU (aR qQ (wix K (pv 2) (pv 4)) (wix K (pv 2) (pv 5)) (aQ _)) (aj (wst 6 cN.nd (aJ i6 av (aJ jT (aJ Hd (aJ eF (pv 3) av) av) (aJ jX (wix K (pv 2) (pv 4)) (wix K (pv 2) (pv 5)))))) (aj (oq (aJ jX (wix K (pv 2) (pv 4)) (pv 6)) (pR (pv 2) (pv 4) set_list)) (aq (oq (aJ i6 (wix K (pv 2) (pv 5)) (pv 6)) (pR (pv 2) (pv 5) set_list))))) aU))))) (aq (aB (pv 2))))),aT (Γn:=[2]) (N:=jh) (au (ST.post (Γn:=[2]) (bU (M:=[]) 2 (aS zx (ah (ES.er (aa 0)) ao)))) (au (fO (br (EM.es (G7 (ES.er (aa 1)) or_none (or_some (EM.er ar))))) (aI 3) (au (ST.post (Γn:=[2]) (aF 4 (EM.es (aw aZ (EM.er (aw aZ (ES.er (aa 3)) (EM.er ar))) (EM.er (aS eh (ah (ES.er (aa 0)) ao))))))) (au (ST.post (Γn:=[2]) (aF 5 (EM.es (aw aZ (EM.er (aw aZ (ES.er (aa 3)) (EM.er ar))) (EM.er (aS eh (ah (ES.er (aa 0)) ao))))))) (fj (aK (EM.er (aw jZ (kZ (cH 2) (ES.er (aa 4))) (kZ (cH 2) (ES.er (aa 5)))))) (au (ST.post (Γn:=[2]) (aF 6 (EM.es (aw fz (EM.er ar) (EM.er (aw aZ (EM.er (aw aZ (EM.er (aw aZ (ES.er (aa 3)) (EM.er ar))) (EM.er ar))) (EM.er (aw fz (kZ (cH 2) (ES.er (aa 4))) (kZ (cH 2) (ES.er (aa 5))))))))))) (au (ij 2 (aw fz (kZ (cH 2) (ES.er (aa 4))) (ES.er (aa 6))) (ES.er (aa 4))) (ij 2 (aw fz (kZ (cH 2) (ES.er (aa 5))) (ES.er (aa 6))) (ES.er (aa 5))))) aX)))) (aD (M:=[2]) (fN 2)))) (fun ds P hS=>?_) h⟩
  obtain ⟨xs,ms,B,rfl,hz,h1,h8,hb,hB,hP⟩:=hS
  rw[show aG jh [dI xs,.scr ms]=[some (dI xs),some (.scr ms),none,none,none,none,none] from rfl]
  walk_at "go"
  obtain ⟨cs,em2,hm⟩:=yH (ns:=ms) (lo:=none) (hi:=some 40)
  rw[em2]
  have hml:cs.length≤63:=by rw[hm,List.length_take,List.length_drop];omega
  refine dF (as:=cs) (f:=L3.D.int) (fun i δ=>∃(ys:List Int) (o3 o4 o5 o6:Option D),δ=[some (dI xs),some (.scr ms),some (dI ys),o3,o4,o5,o6]∧ys.length=xs.length∧ys.sum=xs.sum∧Maj.Le ys xs∧∀y∈ys,y.natAbs≤B) ⟨xs,none,none,none,none,rfl,rfl,rfl,Maj.Le.refl,hb⟩ ?_ ?_
  · rintro i a δ N e ⟨ys,o4,o5,o6,o7,rfl,hl,hs,hle,hy⟩ hN
    walk_at "go"
    have a1:=emod_lt (x:=a / 3) (n:=(xs.length:Int)) (by omega)
    have a2:=emod_lt (x:=a / 24) (n:=(xs.length:Int)) (by omega)
    generalize a / 3 % (xs.length:Int)=g at *
    generalize a / 24 % (xs.length:Int)=k at *
    refine aN (by omega) (aN (by omega) ?_)
    walk_at "go"
    split
    · rename_i c
      walk_at "go"
      refine⟨Or.inr ⟨by decide,by decide⟩,?_⟩
      refine aN (by omega) (aN (by omega) ?_)
      have d0:0<ys.getD g.toNat 0 - ys.getD k.toNat 0:=by omega
      have dm:=emod_lt (x:=a / 192*1000003) (n:=ys.getD g.toNat 0 - ys.getD k.toNat 0) d0
      walk_at "go"
      obtain ⟨b,hb'⟩:∃b,1+a / 192*1000003 % (ys.getD g.toNat 0 - ys.getD k.toNat 0)=b:=⟨_,rfl⟩
      rw[hb']
      have hne:g.toNat≠k.toNat:=fun z=>by rw[z] at c;exact absurd c (by omega)
      refine jo (r:=ys) (a:=g) (v:=ys.getD g.toNat 0 - b) rfl (fun R h'=>?_) (fun R h'=>?_) (by omega) ?_
      · walk_at "v"
        refine aN (by omega) ?_
        walk_at "v"
        exact h'
      · walk_at "v"
        exact h'
      walk_at "v"
      refine jo (r:=ys.set g.toNat (ys.getD g.toNat 0 - b)) (a:=k) (v:=(ys.set g.toNat (ys.getD g.toNat 0 - b)).getD k.toNat 0+b) rfl (fun R h'=>?_) (fun R h'=>?_) (by rw[List.length_set];omega) ?_
      · walk_at "v"
        refine aN (by rw[List.length_set];omega) ?_
        walk_at "v"
        exact h'
      · walk_at "v"
        exact h'
      walk_at "v"
      exact hN _ ⟨Maj.aV ys g.toNat k.toNat b,_,_,_,_,rfl,by rw[Maj.ma];exact hl,by rw[Maj.D4 (by omega) (by omega) hne];exact hs,Maj.Le.trans (Maj.Gb (by omega) (by omega) hne (by omega) (by omega)) hle (by rw[Maj.ma]),FF hy hne (by omega) (by omega)⟩
    · exact hN _ ⟨ys,_,_,_,_,rfl,hl,hs,hle,hy⟩
  · rintro δ ⟨ys,o4,o5,o6,o7,rfl,hl,hs,hle,hy⟩
    walk_at "go"
    exact hP _ hl hs hle
def nC (q:Cell):D:=.tup [.int q.1,.int q.2]
theorem Bd {q:Cell}:nC q=.tup [.int q.1,.int q.2]:=rfl
def lT (b:Int) (cs:List Int):D:=.lst ((cs.map (red b)).map nC)
def eH:DSp:=fun ds P=>∃(t:List (List Int)) (b:Int),ds=[dT t,.int b]∧t.length≤8∧(∀r∈t,Fits b r)∧P (lT b t.flatten)
theorem y8 {t:List (List Int)} (h:∀r∈t,r.length≤8):t.flatten.length≤8*t.length:=by
  induction t with
  | nil=>exact Nat.le_refl _
  | cons r t ih =>
    have a:=h r List.mem_cons_self
    have b:=ih fun r hr=>h r (List.mem_cons_of_mem _ hr)
    rw[List.flatten_cons,List.length_append,List.length_cons]
    omega
theorem nK:bc eH:=by
  intro xs P P' k h
  unfold eH at h ⊢
  grind
theorem oI:∀ds P,eH ds P→ds.length=2:=by
  intro ds P h
  obtain ⟨_,_,e,_⟩:=h
  rw[e];rfl
theorem qg {f:Addr}{fd:FuncData} (F:FnAt K mg "_law_fractions" bR cZ f fd) (A_:Fns K mg) (T:Txt K mg base) {c:Cs} (xs:Exs K mg base c):bE P w K mg base CX0 2 f fd cZ (spP K eH):=by
  obtain ⟨f0,d0,E_law_gcd⟩:=A_.h_law_gcd
  have G_law_gcd:=sU (P:=P) (w:=w) E_law_gcd A_ T xs
  refine F.fn.ok d9 (fun vs H Q E h=>aL oI h) (fun cdv A outer s H vs Q E hr h=>?_)
  refine⟨_,(aj (wst 2 d9.nd (m4 ak)) (aj (wfo (wil K (pv 0)) (wpg 3 d9.nd) (aq (wfo (wil K (pv 3)) (wpg 4 d9.nd) (aj (wst 5 d9.nd (wcl G_law_gcd hr E_law_gcd (af (pv 4) (af (pv 1) ak)))) (aq (gU (ie PySem.F.plainAttrs_list PySem.F.slot_list_append PySem.F.type_list_append gz (pv 2) (af (iY (af (aJ eF (pv 4) (pv 5)) (af (aJ eF (pv 1) (pv 5)) ak))) ak)))))))) (aq (aB (pv 2))))),aT (Γn:=[2]) (N:=je) (au (ST.post (Γn:=[2]) (bU (M:=[]) 2 (mf eV))) (au (fO (br (aa 0)) (aI 3) (fO (br (aa 3)) (aI 4) (au (ST.post (Γn:=[2]) (aF 5 (EM.es (aA (S:=jA) pI (ah (ES.er (aa 4)) (ah (ES.er (aa 1)) ao)))))) (ST.post (Γn:=[2]) (gB (M:=[]) 2 (kq (bV (aw aZ (ES.er (aa 4)) (ES.er (aa 5))) (bV (aw aZ (ES.er (aa 1)) (ES.er (aa 5))) eV)))))))) (aD (M:=[2]) (fN 2)))) (fun ds P hS=>?_) h⟩
  obtain ⟨t,b,rfl,h8,hf,hP⟩:=hS
  rw[show aG je [dT t,.int b]=[some (dT t),some (.int b),none,none,none,none] from rfl]
  have fl:∀i,((t.take i).flatten).length≤64:=fun i=>by
    have:=y8 (t:=t.take i) fun r hr=>(hf r (List.mem_of_mem_take hr)).1
    rw[List.length_take] at this
    omega
  walk_at "go"
  refine dF (as:=t) (f:=dI) (fun i δ=>∃(o3 o4 o5:Option D),δ=[some (dT t),some (.int b),some (lT b (t.take i).flatten),o3,o4,o5]) ⟨none,none,none,rfl⟩ ?_ ?_
  · rintro i r δ N e ⟨o3,o4,o5,rfl⟩ hN
    have hF:=hf r (List.mem_of_getElem? e)
    have f8:=hF.1
    have fi:=fl i
    have et:(t.take (i+1)).flatten=(t.take i).flatten++r:=by
      rw[List.take_add_one,e,List.flatten_append]
      simp
    generalize (t.take i).flatten=pre at *
    walk_at "go"
    refine dF (as:=r) (f:=L3.D.int) (fun j δ=>∃(o4 o5:Option D),δ=[some (dT t),some (.int b),some (lT b (pre++r.take j)),some (dI r),o4,o5]) ⟨_,_,by rw[List.take_zero,List.append_nil]⟩ ?_ ?_
    · rintro j c δ N' e' ⟨o4,o5,rfl⟩ hN'
      have hj:=(List.getElem?_eq_some_iff.mp e').1
      obtain ⟨g1,g2⟩:=za (c:=c) hF.2.1 hF.2.2.1
      have bn:(b.natAbs:Int)=b:=by have:=hF.2.1;omega
      walk_at "go"
      refine⟨c,b.natAbs,by rw[bn],?_⟩
      have cd:∀x:Int,qF x ((Nat.gcd c.natAbs b.natAbs:Nat):Int):=fun x=>⟨by omega,1510,by rw[Int.natAbs_natCast];exact g2,by decide⟩
      walk_at "go"
      unfold lT
      walk_at "go"
      refine⟨cd _,cd _,by decide,by rw[List.length_append,List.length_take];omega,?_⟩
      refine hN' _ ⟨some (.int c),some (.int ((Nat.gcd c.natAbs b.natAbs:Nat):Int)),?_⟩
      rw[List.take_add_one,e',← List.append_assoc]
      generalize pre++r.take j=z
      rw[lT,List.map_append,List.map_append]
      rfl
    · rintro δ ⟨o4,o5,rfl⟩
      rw[List.take_length,← et]
      exact hN _ ⟨_,_,_,rfl⟩
  · rintro δ ⟨o3,o4,o5,rfl⟩
    rw[List.take_length]
    walk_at "go"
    exact hP
def jw (w k:Nat):List Nat:=if k=0 then [] else if k % w=0 then [59,32] else [32]
def goL (w:Nat):Nat→List Cell→List Nat
  | _,[]=>[]
  | k,q::r=>jw w k++(cE q++goL w (k+1) r)
theorem rJ {w:Nat}:∀{a b:List Cell}{k:Nat},goL w k (a++b)=goL w k a++goL w (k+a.length) b
  | [],b,k=>rfl
  | q::a,b,k=>by
    show jw w k++(cE q++goL w (k+1) (a++b))=jw w k++(cE q++goL w (k+1) a)++_
    rw[rJ,List.append_assoc,List.append_assoc,List.length_cons,Nat.add_assoc,Nat.add_comm 1]
theorem oo {s p:List Nat}:∀{ps:List (List Nat)},bC s (p::ps)=p++ps.flatMap (s++·)
  | []=>by show p=p++[];rw[List.append_nil]
  | q::r=>by
    show p++(s++bC s (q::r))=_
    rw[oo,List.flatMap_cons,List.append_assoc]
theorem Eu {w i:Nat}:∀{r:List Cell}{j:Nat},1≤j→j+r.length≤w→goL w (i*w+j) r=(r.map cE).flatMap ([32]++·)
  | [],j,_,_=>rfl
  | q::r,j,h1,h=>by
    rw[List.length_cons] at h
    have m:(i*w+j) % w=j:=by rw[Nat.add_comm,Nat.add_mul_mod_self_right,Nat.mod_eq_of_lt (by omega)]
    have s:jw w (i*w+j)=[32]:=by
      unfold jw
      rw[if_neg (by omega),m,if_neg (by omega)]
    show jw w (i*w+j)++(cE q++goL w (i*w+(j+1)) r)=_
    rw[s,Eu (by omega) (by omega),List.map_cons,List.flatMap_cons,List.append_assoc]
theorem yW {w i:Nat}{qs:List Cell} (h1:1≤qs.length) (h:qs.length=w):goL w (i*w) qs=(if i=0 then [] else [59,32])++jl qs:=by
  cases qs with
  | nil=>exact absurd h1 (by decide)
  | cons q r =>
    rw[List.length_cons] at h
    have s:jw w (i*w)=if i=0 then [] else [59,32]:=by
      unfold jw
      rw[Nat.mul_mod_left,if_pos rfl]
      by_cases z:i=0
      · rw[if_pos z,z,Nat.zero_mul,if_pos rfl]
      · rw[if_neg z,if_neg (Nat.mul_ne_zero z (by omega))]
    show jw w (i*w)++(cE q++goL w (i*w+1) r)=_
    rw[s,Eu (by omega) (by omega),jl,List.map_cons,oo]
theorem vt {w:Nat} (w1:1≤w):∀{cs:List (List Cell)}{i:Nat},(∀qs∈cs,qs.length=w)→goL w ((i+1)*w) cs.flatten=(cs.map jl).flatMap ([59,32]++·)
  | [],i,_=>rfl
  | qs::cs,i,h=>by
    have l:=h qs List.mem_cons_self
    rw[List.flatten_cons,rJ,yW (by omega) l,if_neg (by omega),l,← Nat.succ_mul,vt w1 fun z hz=>h z (List.mem_cons_of_mem _ hz),List.map_cons,List.flatMap_cons]
theorem EX {w:Nat}{cs:List (List Cell)} (h:ShW w cs):goL w 0 cs.flatten=kM cs:=by
  obtain ⟨h1,h8,w1,w8,hr,hg⟩:=h
  cases cs with
  | nil=>exact absurd h1 (by decide)
  | cons qs cs =>
    have l:=hr qs List.mem_cons_self
    have a:=yW (w:=w) (i:=0) (by omega) l
    have b:=vt w1 (i:=0) fun z hz=>hr z (List.mem_cons_of_mem _ hz)
    rw[Nat.zero_mul,if_pos rfl,List.nil_append] at a
    rw[Nat.zero_add,Nat.one_mul] at b
    rw[List.flatten_cons,rJ,a,l,Nat.zero_add,b,kM,List.map_cons,oo]
theorem Az {w:Nat}:∀{qs:List Cell}{k:Nat},(∀q∈qs,Wide q)→(goL w k qs).length≤942*qs.length
  | [],k,_=>Nat.le_refl _
  | q::qs,k,h=>by
    have a:=jC (h q List.mem_cons_self)
    have b:=Az (w:=w) (qs:=qs) (k:=k+1) fun z hz=>h z (List.mem_cons_of_mem _ hz)
    have s:(jw w k).length≤2:=by unfold jw;split<;>(try split)<;>simp
    show (jw w k++(cE q++goL w (k+1) qs)).length≤_
    rw[List.length_append,List.length_append,List.length_cons]
    omega
theorem GC {qs:List Cell}{i:Nat}{q:Cell}{P:DK} (h:qs[i]?=some q) (k:P (nC q)):asO (atI (qs.map nC) (i:Int)) P:=by
  refine wX (by omega) (by rw[List.length_map];have:=(List.getElem?_eq_some_iff.mp h).1;omega) ?_
  rw[Int.toNat_natCast,List.getElem?_map,h];exact k
def fW:DSp:=fun ds P=>∃(qs:List Cell) (w:Nat),ds=[.lst (qs.map nC),.int w]∧1≤w∧w≤8∧qs.length≤64∧(∀q∈qs,Wide q)∧P (.str (mkS (goL w 0 qs)))
theorem rq {A R:DS}{E:cC}{δ:Dl} (h:∀R',R'=R→xr A R' E δ):xr A R E δ:=h R rfl
theorem Js {A R:DS}{E:cC}{δ:Dl} (h:∀R' E',R'=R→E'=E→xr A R' E' δ):xr A R E δ:=h R E rfl rfl
theorem ifS {dc:DT}{d e:DS}{E:cC}{δ:Dl} (p:Prop) [Decidable p] (ht:∀Q:Bool→Prop,Q (decide p)→dc δ Q) (h1:p→d E δ) (h2:¬ p→e E δ):Cn dc d e E δ:=by
  unfold Cn
  refine ht _ ?_
  by_cases h:p
  · rw[decide_eq_true h];exact h1 h
  · rw[decide_eq_false h];exact h2 h
theorem qz:bc fW:=by
  intro xs P P' k h
  unfold fW at h ⊢
  grind
theorem qR:∀ds P,fW ds P→ds.length=2:=by
  intro ds P h
  obtain ⟨_,_,e,_⟩:=h
  rw[e];rfl
theorem tM {f:Addr}{fd:FuncData} (F:FnAt K mg "_law_written" cJ eP f fd) (A_:Fns K mg) (T:Txt K mg base) {c:Cs} (xs:Exs K mg base c):bE P w K mg base CX0 1 f fd eP (spP K fW):=by
  refine F.fn.ok cn (fun vs H Q E h=>aL qR h) (fun cdv A outer s H vs Q E hr h=>?_)
  refine⟨_,(aj (wst 2 cn.nd bA) (aj (wfo (ir rfl T.range_ (af (wln K T.len_ (pv 0)) ak)) (wpg 3 cn.nd) (aj (oq (wix K (pv 0) (pv 3)) (rO (K:=K) rfl rfl (iS (wpg 4 cn.nd) (iS (wpg 5 cn.nd) rK)))) (aj (cU (aR qQ (pv 3) av (aQ _)) (aq (wst 2 cn.nd (aJ eD (aJ eD (pv 2) (wix K (m4 (af bA (af bA ak))) (cO vG (by rfl) T.int_ boot_int (af (hV lR (aJ jT (pv 3) (pv 1)) av (aQ _)) ak)))) bA))) aU) (aj (wst 2 cn.nd (aJ eD (pv 2) (cO jt (by rfl) T.str_ boot_str (af (pv 4) ak)))) (aq (cU (aR qQ (pv 5) av (aQ _)) (aq (wst 2 cn.nd (aJ eD (aJ eD (pv 2) bA) (cO jt (by rfl) T.str_ boot_str (af (pv 5) ak))))) aU)))))) (aq (aB (pv 2))))),aT (Γn:=[2]) (N:=ki) (au (ST.post (Γn:=[2]) (bU (M:=[]) 2 bq)) (au (fO (kY (ah (EM.er (aS eh (ah (ES.er (aa 0)) ao))) ao)) (aI 3) (au (Ga (aW (aa 0) (ES.er (aa 3))) (xC (iP (aI 4) (iP (aI 5) rL)))) (au (fj (aK (EM.er (aw jZ (ES.er (aa 3)) (EM.er ar)))) (ST.post (Γn:=[2]) (bU (M:=[]) 2 (aw lh (EM.er (aw lh (cH 2) (ES.er (aW (EM.es (mf (bV bq (bV bq eV)))) (EM.er (aS Jf (ah (EM.er (aw rm (EM.er (aw aZ (ES.er (aa 3)) (ES.er (aa 1)))) (EM.er ar))) ao))))))) (EM.er bq)))) aX) (au (ST.post (Γn:=[2]) (bU (M:=[]) 2 (aw lh (cH 2) (EM.er (aS wB (ah (ES.er (aa 4)) ao)))))) (fj (aK (EM.er (aw jZ (ES.er (aa 5)) (EM.er ar)))) (ST.post (Γn:=[2]) (bU (M:=[]) 2 (aw lh (EM.er (aw lh (cH 2) (EM.er bq))) (EM.er (aS wB (ah (ES.er (aa 5)) ao)))))) aX))))) (aD (M:=[2]) (fN 2)))) (fun ds P hS=>?_) h⟩
  obtain ⟨qs,w,rfl,w1,w8,h64,hg,hP⟩:=hS
  rw[show aG ki [.lst (qs.map nC),.int w]=[some (.lst (qs.map nC)),some (.int w),none,none,none,none] from rfl]
  have s5:=oQ
  walk_at "go"
  refine tT (lo:=0) (n:=qs.length) (fun i δ=>∃(o3 o4 o5:Option D),δ=[some (.lst (qs.map nC)),some (.int w),some (.str (mkS (goL w 0 (qs.take i)))),o3,o4,o5]) ⟨none,none,none,rfl⟩ ?_ ?_
  · rintro i δ N hi ⟨o3,o4,o5,rfl⟩ hN
    rw[Int.zero_add]
    obtain ⟨q,hq⟩:∃q,qs[i]?=some q:=⟨_,List.getElem?_eq_getElem hi⟩
    have hw:=hg q (List.mem_of_getElem? hq)
    have et:goL w 0 (qs.take (i+1))=goL w 0 (qs.take i)++(jw w i++cE q):=by
      rw[List.take_add_one,hq,rJ,List.length_take,Nat.min_eq_left (by omega),Nat.zero_add]
      show _++(jw w i++(cE q++[]))=_
      rw[List.append_nil]
    rw[et,← List.append_assoc] at hN
    have gl:=Az (w:=w) (k:=0) (qs:=qs.take i) fun z hz=>hg z (List.mem_of_mem_take hz)
    rw[List.length_take] at gl
    generalize goL w 0 (qs.take i)=g at *
    have ls:=wx hw.1
    have lb:=iT hw.2.2.1
    simp only[wU,List.set_cons_succ,List.set_cons_zero]
    refine Js fun R0 E0 e0 hE=>?_
    walk_at "go"
    refine GC hq ?_
    rw[Bd]
    walk_at "go"
    subst e0
    refine rq fun R1 e1=>?_
    have k2:R1 E0 [some (.lst (qs.map nC)),some (.int w),some (.str (mkS (g++jw w i))),some (.int (i:Int)),some (.int q.1),some (.int q.2)]:=by
      subst e1
      have lp:(g++jw w i).length≤942*64+2:=by
        have s:(jw w i).length≤2:=by unfold jw;split<;>(try split)<;>simp
        rw[List.length_append]
        omega
      generalize g++jw w i=p at *
      refine rq fun R2 e2=>?_
      walk_at "go"
      refine⟨oJ hw.1,?_⟩
      rw[str_int]
      refine⟨by rw[aE,aE];omega,?_⟩
      rw[fI]
      subst e2
      have l1:(p++sI q.1).length=p.length+(sI q.1).length:=List.length_append
      refine ifS (1<q.2) (fun Q h=>by walk_at "go";exact h) (fun h1=>?_) (fun h1=>?_)
      · walk_at "go"
        refine⟨by rw[aE,aE,l1,List.length_singleton];omega,oJ hw.2.2.1,?_⟩
        rw[str_int,show sI q.2=dg q.2.natAbs from by unfold sI;rw[if_neg (by omega)],fI]
        refine⟨by rw[aE,aE,List.length_append,l1,List.length_singleton];omega,?_⟩
        rw[fI,hE,List.append_assoc (p++sI q.1),List.append_assoc p,show sI q.1++([47]++dg q.2.natAbs)=cE q from (GZ (by omega)).symm]
        exact hN _ ⟨_,_,_,rfl⟩
      · walk_at "go"
        rw[hE,← GY (q:=q) (by have:=hw.2.1;omega)]
        exact hN _ ⟨_,_,_,rfl⟩
    refine ifS (0<(i:Int)) (fun Q h=>by walk_at "go";exact h) (fun h1=>?_) (fun h1=>?_)
    · walk_at "go"
      have em:(i:Int) % (w:Int)=((i % w:Nat):Int):=by norm_cast
      rw[em,show Str.ofString ";" = mkS [59] from rfl]
      by_cases hz:i % w=0
      · rw[if_pos (by omega)]
        have s0:jw w i=[59,32]:=by unfold jw;rw[if_neg (by omega),if_pos hz]
        rw[s0] at k2
        walk_at "go"
        refine⟨by rw[aE,aE,List.length_singleton];omega,?_⟩
        rw[fI]
        refine⟨by rw[aE,aE,List.length_append,List.length_singleton,List.length_singleton];omega,?_⟩
        rw[fI,List.append_assoc]
        exact k2
      · rw[if_neg (by omega)]
        have s0:jw w i=[32]:=by unfold jw;rw[if_neg (by omega),if_neg hz]
        rw[s0] at k2
        walk_at "go"
        refine⟨by rw[aE,aE,List.length_nil];omega,?_⟩
        rw[fI,List.append_nil]
        refine⟨by rw[aE,aE,List.length_singleton];omega,?_⟩
        rw[fI]
        exact k2
    · have s0:jw w i=[]:=if_pos (by omega)
      rw[s0,List.append_nil] at k2
      walk_at "go"
      exact k2
  · rintro δ ⟨o3,o4,o5,rfl⟩
    rw[List.take_length]
    walk_at "go"
    exact hP
theorem DP {a:Nat}{q:Cell} (h:Good q):a ∣ kB a q∧q.2.natAbs ∣ kB a q:=by
  have gp:=(wA (a:=a) h).1
  obtain ⟨x,hx⟩:=Nat.gcd_dvd_left a q.2.natAbs
  obtain ⟨z,hz⟩:=Nat.gcd_dvd_right a q.2.natAbs
  have e:a / Nat.gcd a q.2.natAbs=x:=by
    conv=>lhs;lhs;rw[hx]
    exact Nat.mul_div_cancel_left x gp
  have eb:kB a q=x*q.2.natAbs:=by unfold kB;rw[e]
  constructor
  · rw[eb]
    refine⟨z,?_⟩
    calc x*q.2.natAbs=x*(Nat.gcd a q.2.natAbs*z):=congrArg (x*·) hz
      _=Nat.gcd a q.2.natAbs*x*z:=by rw[← Nat.mul_assoc,Nat.mul_comm x]
      _=a*z:=congrArg (·*z) hx.symm
  · rw[eb]
    exact Nat.dvd_mul_left _ _
theorem yV:∀{qs:List Cell}{a:Nat},(∀q∈qs,Good q)→a ∣ nX a qs∧∀q∈qs,q.2.natAbs ∣ nX a qs
  | [],a,_=>⟨Nat.dvd_refl a,fun q z=>absurd z List.not_mem_nil⟩
  | p::qs,a,h=>by
    have hp:=DP (a:=a) (h p List.mem_cons_self)
    have ih:=yV (qs:=qs) (a:=kB a p) fun q z=>h q (List.mem_cons_of_mem _ z)
    refine⟨Nat.dvd_trans hp.1 ih.1,fun q z=>?_⟩
    rcases List.mem_cons.mp z with z | z
    · rw[z];exact Nat.dvd_trans hp.2 ih.1
    · exact ih.2 q z
theorem sk:∀{cs:List (List Cell)}{a:Nat},(∀qs∈cs,∀q∈qs,Good q)→a ∣ cs.foldl nX a∧∀qs∈cs,∀q∈qs,q.2.natAbs ∣ cs.foldl nX a
  | [],a,_=>⟨Nat.dvd_refl a,fun q z=>absurd z List.not_mem_nil⟩
  | p::cs,a,h=>by
    have hp:=yV (a:=a) (h p List.mem_cons_self)
    have ih:=sk (cs:=cs) (a:=nX a p) fun q z=>h q (List.mem_cons_of_mem _ z)
    refine⟨Nat.dvd_trans hp.1 ih.1,fun qs z q hq=>?_⟩
    rcases List.mem_cons.mp z with z | z
    · rw[z] at hq;exact Nat.dvd_trans (hp.2 q hq) ih.1
    · exact ih.2 qs z q hq
theorem Fe {a:Nat}{q:Cell} (h:Good q) (ha:1≤a):1≤kB a q:=by
  unfold kB
  refine Nat.mul_pos (Nat.div_pos (Nat.le_of_dvd ha (Nat.gcd_dvd_left _ _)) (wA h).1) ?_
  have:=h.2.1
  omega
theorem yU:∀{qs:List Cell}{a:Nat},(∀q∈qs,Good q)→1≤a→1≤nX a qs
  | [],a,_,h=>h
  | p::qs,a,hg,h=>yU (qs:=qs) (fun q z=>hg q (List.mem_cons_of_mem _ z)) (Fe (hg p List.mem_cons_self) h)
theorem yj:∀{cs:List (List Cell)}{a:Nat},(∀qs∈cs,∀q∈qs,Good q)→1≤a→1≤cs.foldl nX a
  | [],a,_,h=>h
  | p::cs,a,hg,h=>yj (cs:=cs) (fun q z=>hg q (List.mem_cons_of_mem _ z)) (yU (hg p List.mem_cons_self) h)
theorem AI {cs:List (List Cell)}{w:Nat} (h:Shape w cs):1≤e7 cs:=yj h.2.2.2.2.2 (Nat.le_refl 1)
theorem Df {a M:Nat}{q:Cell} (h:Good q) (ha:a ∣ M) (hq:q.2.natAbs ∣ M):kB a q ∣ M:=by
  have e:kB a q=Nat.lcm a q.2.natAbs:=by
    unfold kB Nat.lcm
    rw[Nat.mul_comm,Nat.mul_comm a,Nat.mul_div_assoc _ (Nat.gcd_dvd_left _ _)]
  rw[e]
  exact Nat.lcm_dvd ha hq
theorem yx {M:Nat}:∀{qs:List Cell}{a:Nat},(∀q∈qs,Good q)→a ∣ M→(∀q∈qs,q.2.natAbs ∣ M)→nX a qs ∣ M
  | [],a,_,h,_=>h
  | p::qs,a,hg,h,hq=>yx (qs:=qs) (fun q z=>hg q (List.mem_cons_of_mem _ z)) (Df (hg p List.mem_cons_self) h (hq p List.mem_cons_self)) fun q z=>hq q (List.mem_cons_of_mem _ z)
theorem rV {M:Nat}:∀{cs:List (List Cell)}{a:Nat},(∀qs∈cs,∀q∈qs,Good q)→a ∣ M→(∀qs∈cs,∀q∈qs,q.2.natAbs ∣ M)→cs.foldl nX a ∣ M
  | [],a,_,h,_=>h
  | p::cs,a,hg,h,hq=>rV (cs:=cs) (fun q z=>hg q (List.mem_cons_of_mem _ z)) (yx (hg p List.mem_cons_self) h (hq p List.mem_cons_self)) fun q z=>hq q (List.mem_cons_of_mem _ z)
theorem FC {w s:Nat}{cs:List (List Cell)} (h:Shape w cs) (h1:s ∣ e7 cs) (h2:∀qs∈cs,∀q∈qs,(s:Int) ∣ q.1*((e7 cs:Nat) / q.2)):s=1:=by
  have B1:=AI h
  obtain ⟨m,hm⟩:=h1
  have s1:0<s:=by
    rcases Nat.eq_zero_or_pos s with z | z
    · rw[z,Nat.zero_mul] at hm;omega
    · exact z
  have m1:0<m:=by
    rcases Nat.eq_zero_or_pos m with z | z
    · rw[z,Nat.mul_zero] at hm;omega
    · exact z
  have key:e7 cs ∣ m:=rV h.2.2.2.2.2 (Nat.one_dvd _) fun qs hq q hq2=>by
    have hg:=h.2.2.2.2.2 qs hq q hq2
    obtain ⟨x,hx⟩:=(sk (a:=1) h.2.2.2.2.2).2 qs hq q hq2
    have hx:e7 cs=q.2.natAbs*x:=hx
    have q2:=hg.2.1
    have qn:(q.2.natAbs:Int)=q.2:=by omega
    have ed:((e7 cs:Nat):Int) / q.2=(x:Int):=by
      rw[hx,Int.natCast_mul,qn];exact Int.mul_ediv_cancel_left _ (by omega)
    have d1:=h2 qs hq q hq2
    rw[ed] at d1
    have d1:s ∣ q.1.natAbs*x:=by
      have:=Int.natAbs_dvd_natAbs.mpr d1
      rw[Int.natAbs_mul,Int.natAbs_natCast,Int.natAbs_natCast] at this
      exact this
    have d2:s ∣ q.2.natAbs*x:=⟨m,by rw[← hx];exact hm⟩
    have d3:s ∣ x:=by
      have:=Nat.dvd_gcd d1 d2
      rw[Nat.gcd_mul_right,hg.2.2.2,Nat.one_mul] at this
      exact this
    obtain ⟨y,hy⟩:=d3
    refine⟨y,?_⟩
    rw[hx,hy] at hm
    exact Nat.eq_of_mul_eq_mul_left s1 (by rw[← hm,Nat.mul_left_comm])
  have l1:=Nat.le_of_dvd m1 key
  rw[hm] at l1
  rcases Nat.lt_or_ge s 2 with z | z
  · omega
  · have:=Nat.mul_le_mul_right m z
    omega
theorem FL {w:Nat}{b:Int}{t:List (List Int)} (h:Shape w (bH b t)):e7 (bH b t) ∣ b.natAbs∧∀r∈t,∀c∈r,∃x y:Nat,e7 (bH b t)=(red b c).2.natAbs*x∧b.natAbs=e7 (bH b t)*y∧(red b c).1*((e7 (bH b t):Nat) / (red b c).2)=(red b c).1*(x:Int):=by
  have hb:e7 (bH b t) ∣ b.natAbs:=rV h.2.2.2.2.2 (Nat.one_dvd _) fun qs hq q hq2=>by
    obtain ⟨r,_,rfl⟩:=List.mem_map.mp hq
    obtain ⟨c,_,rfl⟩:=List.mem_map.mp hq2
    refine⟨Nat.gcd c.natAbs b.natAbs,?_⟩
    have:=congrArg Int.natAbs (rQ (b:=b) (c:=c)).2
    rw[Int.natAbs_mul,Int.natAbs_natCast] at this
    exact this
  refine⟨hb,fun r hr c hc=>?_⟩
  have hq:=h.2.2.2.2.2 (r.map (red b)) (List.mem_map.mpr ⟨r,hr,rfl⟩) (red b c) (List.mem_map.mpr ⟨c,hc,rfl⟩)
  obtain ⟨x,hx⟩:=(sk (a:=1) h.2.2.2.2.2).2 (r.map (red b)) (List.mem_map.mpr ⟨r,hr,rfl⟩) (red b c) (List.mem_map.mpr ⟨c,hc,rfl⟩)
  have hx:e7 (bH b t)=(red b c).2.natAbs*x:=hx
  obtain ⟨y,hy⟩:=hb
  refine⟨x,y,hx,hy,?_⟩
  have q2:=hq.2.1
  have qn:((red b c).2.natAbs:Int)=(red b c).2:=by omega
  congr 1
  rw[hx,Int.natCast_mul,qn];exact Int.mul_ediv_cancel_left _ (by omega)
theorem Ap {b:Int}{t:List (List Int)}{i:Nat} (hi:i<t.length):rowAt (jv (bH b t)) i=(rowAt t i).map fun c=>(red b c).1*((e7 (bH b t):Nat) / (red b c).2):=by
  unfold rowAt
  rw[List.getD_eq_getElem?_getD,List.getD_eq_getElem?_getD,List.getElem?_eq_getElem hi]
  generalize hB:e7 (bH b t)=B
  have e:(jv (bH b t))[i]?=some ((t[i].map (red b)).map fun q=>q.1*((B:Int) / q.2)):=by
    unfold jv zC
    rw[hB,bH,List.getElem?_map,List.getElem?_map,List.getElem?_eq_getElem hi];rfl
  rw[e,Option.getD_some,Option.getD_some,List.map_map]
  rfl
theorem Iz {cs:List (List Cell)}{i j:Nat} (hi:i<cs.length) (hj:j<cs[i].length):((jv cs).getD i []).getD j 0=cs[i][j].1*((e7 cs:Nat) / cs[i][j].2):=by
  unfold jv zC
  rw[List.getD_eq_getElem?_getD,List.getD_eq_getElem?_getD,List.getElem?_map,List.getElem?_eq_getElem hi]
  show ((cs[i].map _)[j]?).getD 0=_
  rw[List.getElem?_map,List.getElem?_eq_getElem hj]
  rfl
theorem zip_rows {t s:List (List Int)} (h:t.length=s.length):(((t.map dI).zip (s.map dI)).map fun p=>L3.D.tup [p.1,p.2])=(List.range t.length).map fun i=>L3.D.tup [dI (rowAt t i),dI (rowAt s i)]:=by
  refine List.ext_getElem (by simp [h]) fun i h1 h2=>?_
  have q1:i<t.length:=by simpa using h2
  have q2:i<s.length:=by omega
  rw[List.getElem_map,List.getElem_zip,List.getElem_map,List.getElem_map,List.getElem_map,List.getElem_range]
  show L3.D.tup [dI t[i],dI s[i]]=L3.D.tup [dI (t.getD i []),dI (s.getD i [])]
  rw[List.getD_eq_getElem?_getD,List.getD_eq_getElem?_getD,List.getElem?_eq_getElem q1,List.getElem?_eq_getElem q2];rfl
theorem oP {t s:List Int} (h:t.length=s.length):(((t.map L3.D.int).zip (s.map L3.D.int)).map fun p=>L3.D.tup [p.1,p.2])=(List.range t.length).map fun i=>L3.D.tup [.int (t.getD i 0),.int (s.getD i 0)]:=by
  refine List.ext_getElem (by simp [h]) fun i h1 h2=>?_
  have q1:i<t.length:=by simpa using h2
  have q2:i<s.length:=by omega
  rw[List.getElem_map,List.getElem_zip,List.getElem_map,List.getElem_map,List.getElem_map,List.getElem_range]
  show L3.D.tup [.int t[i],.int s[i]]=L3.D.tup [.int (t.getD i 0),.int (s.getD i 0)]
  rw[List.getD_eq_getElem?_getD,List.getD_eq_getElem?_getD,List.getElem?_eq_getElem q1,List.getElem?_eq_getElem q2];rfl
theorem JW {c b q r g x:Int} (h:c=q*g) (k:b=r*g):q*x*b=c*(r*x):=by subst h k;ac_rfl
def lB:DSp:=fun ds P=>∃(t:List (List Int)) (b:Int) (w:Nat),ds=[.tup [dT (jv (bH b t)),.int (e7 (bH b t):Nat)],dT t,.int b]∧1≤t.length∧t.length≤8∧1≤w∧(∀r∈t,r.length=w)∧(∀r∈t,Fits b r)∧(∀r∈t,∀c∈r,0≤c)∧gdT (bH b t)=true∧P (.bl true)
theorem uQ:bc lB:=by
  intro xs P P' k h
  obtain ⟨t,b,w,e,h1,h2,h3,h4,h5,h6,h7,h⟩:=h
  exact⟨t,b,w,e,h1,h2,h3,h4,h5,h6,h7,k _ h⟩
theorem xb:∀ds P,lB ds P→ds.length=3:=by
  intro ds P h
  obtain ⟨_,_,_,e,_⟩:=h
  rw[e];rfl
theorem yy {f:Addr}{fd:FuncData} (F:FnAt K mg "_law_read" fm ip f fd) (A_:Fns K mg) (T:Txt K mg base) {c:Cs} (xs:Exs K mg base c):bE P w K mg base CX0 2 f fd ip (spP K lB):=by
  obtain ⟨f0,d0,E_law_whole⟩:=A_.h_law_whole
  have G_law_whole:=xG (P:=P) (w:=w) E_law_whole A_ T xs
  obtain ⟨f1,d1,E_law_gcd⟩:=A_.h_law_gcd
  have G_law_gcd:=sU (P:=P) (w:=w) E_law_gcd A_ T xs
  refine F.fn.ok fk (fun vs H Q E h=>aL xb h) (fun cdv A outer s H vs Q E hr h=>?_)
  refine⟨_,(aj (cU (PW.pt (jj (fv (eE (aO (b7 (K:=K) rfl) (by rfl) T.isinstance_ boot_isinstance (af (pv 0) (af (gP (v:=.ty "tuple") rfl T.tuple_ boot_tuple rfl) ak))))) (jj (aR jF (wln K T.len_ (pv 0)) av (aQ _)) (jj (fv (eE (wcl G_law_whole hr E_law_whole (af (wit K (pv 0) av) ak)))) (i3 (aR vj (wit K (pv 0) av) av (aQ _))))))) (aq (aB lX)) aU) (aj (wst 3 fk.nd (wit K (pv 0) av)) (aj (cU (PW.pt (jj (fv (eE (aO (b7 (K:=K) rfl) (by rfl) T.isinstance_ boot_isinstance (af (wit K (pv 0) av) (af (gP (v:=.ty "list") rfl T.list_ boot_list rfl) ak))))) (i3 (aR jF (wln K T.len_ (wit K (pv 0) av)) (wln K T.len_ (pv 1)) (aQ _))))) (aq (aB lX)) aU) (aj (wfo (A3 (K:=K) rfl rfl T.zip_ (af (wit K (pv 0) av) (af (pv 1) ak))) (rO (K:=K) rfl rfl (iS (wpg 4 fk.nd) (iS (wpg 5 fk.nd) rK))) (aj (cU (PW.pt (jj (fv (eE (aO (b7 (K:=K) rfl) (by rfl) T.isinstance_ boot_isinstance (af (pv 4) (af (gP (v:=.ty "list") rfl T.list_ boot_list rfl) ak))))) (i3 (aR jF (wln K T.len_ (pv 4)) (wln K T.len_ (pv 5)) (aQ _))))) (aq (aB lX)) aU) (aq (wfo (A3 (K:=K) rfl rfl T.zip_ (af (pv 4) (af (pv 5) ak))) (rO (K:=K) rfl rfl (iS (wpg 6 fk.nd) (iS (wpg 7 fk.nd) rK))) (aj (cU (PW.pt (jj (fv (eE (wcl G_law_whole hr E_law_whole (af (pv 6) ak)))) (i3 (aR jF (aJ iH (pv 6) (pv 2)) (aJ iH (pv 7) (wit K (pv 0) av)) (aQ _))))) (aq (aB lX)) aU) (aq (wst 3 fk.nd (wcl G_law_gcd hr E_law_gcd (af (pv 3) (af (pv 6) ak)))))))))) (aq (aB (hV lR (pv 3) av (aQ _)))))))),aT (Γn:=[]) (N:=nZ) (au (fj (jm (fh (mC (EM.er (eN kit_tuple (ES.er (aa 0)))))) (jm (aK (EM.er (aw nJ (EM.er (aS eh (ah (ES.er (aa 0)) ao))) (EM.er ar)))) (jm (fh (mC (EM.er (aA (S:=gy) mH (ah (ES.er (bM (aa 0) (EM.er ar))) ao))))) (aK (EM.er (aw jZ (ES.er (bM (aa 0) (EM.er ar))) (EM.er ar))))))) (aD (M:=[]) mT) aX) (au (ST.post (Γn:=[]) (aF 3 (bM (aa 0) (EM.er ar)))) (au (fj (jm (fh (mC (EM.er (eN yT (ES.er (bM (aa 0) (EM.er ar))))))) (aK (EM.er (aw nJ (EM.er (aS eh (ah (ES.er (bM (aa 0) (EM.er ar))) ao))) (EM.er (aS eh (ah (ES.er (aa 1)) ao))))))) (aD (M:=[]) mT) aX) (au (fO (Ei (bM (aa 0) (EM.er ar)) (aa 1)) (xC (iP (aI 4) (iP (aI 5) rL))) (au (fj (jm (fh (mC (EM.er (eN yT (ES.er (aa 4)))))) (aK (EM.er (aw nJ (EM.er (aS eh (ah (ES.er (aa 4)) ao))) (EM.er (aS eh (ah (ES.er (aa 5)) ao))))))) (aD (M:=[]) mT) aX) (fO (Ei (aa 4) (aa 5)) (xC (iP (aI 6) (iP (aI 7) rL))) (au (fj (jm (fh (mC (EM.er (aA (S:=gy) mH (ah (ES.er (aa 6)) ao))))) (aK (EM.er (aw nJ (EM.er (aw aZ (ES.er (aa 6)) (ES.er (aa 2)))) (EM.er (aw aZ (ES.er (aa 7)) (ES.er (bM (aa 0) (EM.er ar))))))))) (aD (M:=[]) mT) aX) (ST.post (Γn:=[]) (aF 3 (EM.es (aA (S:=jA) pI (ah (ES.er (aa 3)) (ah (ES.er (aa 6)) ao)))))))))) (aD (M:=[]) (aw rm (ES.er (aa 3)) (EM.er ar))))))) (fun ds P hS=>?_) h⟩
  obtain ⟨t,b,w,rfl,h1,h8,w1,hr,hf,hn,hd,hP⟩:=hS
  rw[show aG nZ [.tup [dT (jv (bH b t)),.int (e7 (bH b t):Nat)],dT t,.int b]=[some (.tup [dT (jv (bH b t)),.int (e7 (bH b t):Nat)]),some (dT t),some (.int b),none,none,none,none,none] from rfl]
  have hS:=zH h1 h8 w1 hr hf
  have hG:=yo hS hd
  have hB1:1≤e7 (bH b t):=AI hG
  obtain ⟨hgB,hgc⟩:=FL (b:=b) (t:=t) hG
  have lt:(jv (bH b t)).length=t.length:=by unfold jv bH;rw[List.length_map,List.length_map]
  have b1:1≤b∧b.natAbs<W15:=by
    cases t with
    | nil=>exact absurd h1 (by decide)
    | cons r t=>have:=hf r List.mem_cons_self;exact⟨this.2.1,this.2.2.1⟩
  have bB:e7 (bH b t)<W15:=Nat.lt_of_le_of_lt (Nat.le_of_dvd (by omega) hgB) b1.2
  walk_at "go"
  rw[if_neg (by decide)]
  refine⟨_,rfl,?_⟩
  walk_at "go"
  rw[if_neg (by omega),if_neg (by omega)]
  unfold Jn
  walk_at "go"
  rw[zip_rows (by omega),lt]
  have fin:∀s:Nat,s ∣ e7 (bH b t)→(∀i,i<t.length→∀j,j<w→(s:Int) ∣ (rowAt (jv (bH b t)) i).getD j 0)→s=1:=fun s h1 h2=>FC hG h1 fun qs hq q hq2=>by
    obtain ⟨i,hi,rfl⟩:=List.mem_iff_getElem.mp hq
    obtain ⟨j,hj,rfl⟩:=List.mem_iff_getElem.mp hq2
    have li:(bH b t).length=t.length:=by unfold bH;rw[List.length_map]
    have lj:=hS.2.2.2.2.1 _ hq
    have:=h2 i (by omega) j (by omega)
    unfold rowAt at this
    rw[Iz hi hj] at this
    exact this
  refine dF (as:=List.range t.length) (f:=fun i=>L3.D.tup [dI (rowAt (jv (bH b t)) i),dI (rowAt t i)]) (fun i δ=>∃(s:Nat) (o4 o5 o6 o7:Option D),δ=[some (.tup [dT (jv (bH b t)),.int (e7 (bH b t):Nat)]),some (dT t),some (.int b),some (.int (s:Nat)),o4,o5,o6,o7]∧s ∣ e7 (bH b t)∧∀i',i' < i→∀j,j<w→(s:Int) ∣ (rowAt (jv (bH b t)) i').getD j 0) ⟨e7 (bH b t),none,none,none,none,rfl,Nat.dvd_refl _,fun i' h=>absurd h (by omega)⟩ ?_ ?_
  · rintro i i' δ N e ⟨s,o4,o5,o6,o7,rfl,sB,sd⟩ hN
    obtain ⟨q1,q2⟩:=List.getElem?_eq_some_iff.mp e
    rw[List.getElem_range] at q2
    subst q2
    have hi:i<t.length:=by rw[List.length_range] at q1;exact q1
    have hm:t[i]∈t:=List.getElem_mem hi
    have ri:rowAt t i=t[i]:=by unfold rowAt;rw[List.getD_eq_getElem?_getD,List.getElem?_eq_getElem hi];rfl
    have lri:(rowAt t i).length=w:=by rw[ri];exact hr _ hm
    have lru:(rowAt (jv (bH b t)) i).length=w:=by rw[Ap hi,List.length_map];exact lri
    walk_at "go"
    rw[if_neg (by omega)]
    walk_at "go"
    rw[oP (by omega),lru]
    refine dF (as:=List.range w) (f:=fun j=>L3.D.tup [.int ((rowAt (jv (bH b t)) i).getD j 0),.int ((rowAt t i).getD j 0)]) (fun j δ=>∃(s:Nat) (o6 o7:Option D),δ=[some (.tup [dT (jv (bH b t)),.int (e7 (bH b t):Nat)]),some (dT t),some (.int b),some (.int (s:Nat)),some (dI (rowAt (jv (bH b t)) i)),some (dI (rowAt t i)),o6,o7]∧s ∣ e7 (bH b t)∧(∀i',i' < i→∀j,j<w→(s:Int) ∣ (rowAt (jv (bH b t)) i').getD j 0)∧∀j',j' < j→(s:Int) ∣ (rowAt (jv (bH b t)) i).getD j' 0) ⟨s,_,_,rfl,sB,sd,fun j' h=>absurd h (by omega)⟩ ?_ ?_
    · rintro j j' δ N' e' ⟨s,o6,o7,rfl,sB,sd,sj⟩ hN'
      obtain ⟨p1,p2⟩:=List.getElem?_eq_some_iff.mp e'
      rw[List.getElem_range] at p2
      subst p2
      have hj:j<w:=by rw[List.length_range] at p1;exact p1
      obtain ⟨c,hcj⟩:∃c,(rowAt t i)[j]?=some c:=⟨_,List.getElem?_eq_getElem (by omega)⟩
      have hc:c∈t[i]:=by rw[← ri];exact List.mem_of_getElem? hcj
      have ec:(rowAt t i).getD j 0=c:=by rw[List.getD_eq_getElem?_getD,hcj];rfl
      obtain ⟨x,y,e1,e2,e3⟩:=hgc _ hm _ hc
      have eu:(rowAt (jv (bH b t)) i).getD j 0=(red b c).1*(x:Int):=by
        rw[Ap hi,List.getD_eq_getElem?_getD,List.getElem?_map,hcj,← e3];rfl
      have hq:=hG.2.2.2.2.2 (t[i].map (red b)) (List.mem_map.mpr ⟨_,hm,rfl⟩) (red b c) (List.mem_map.mpr ⟨c,hc,rfl⟩)
      have q2:=hq.2.1
      have qn:((red b c).2.natAbs:Int)=(red b c).2:=by omega
      obtain ⟨m1,m2⟩:=rQ (b:=b) (c:=c)
      have hF:=hf _ hm
      have cw:=hF.2.2.2 c hc
      have c0:=hn _ hm c hc
      generalize Nat.gcd c.natAbs b.natAbs=g at m1 m2
      have exy:g=x*y:=by
        have h:=congrArg Int.natAbs m2
        rw[Int.natAbs_mul,Int.natAbs_natCast,e2,e1,Nat.mul_assoc] at h
        exact (Nat.eq_of_mul_eq_mul_left (by omega) h).symm
      have y1:1≤y:=by
        rcases Nat.eq_zero_or_pos y with z | z
        · rw[z,Nat.mul_zero] at e2;omega
        · exact z
      have ecu:c=(red b c).1*(x:Int)*(y:Int):=by
        conv=>lhs;rw[m1,exy,Int.natCast_mul,← Int.mul_assoc]
      have eB:((e7 (bH b t):Nat):Int)=(red b c).2*(x:Int):=by rw[e1,Int.natCast_mul,qn]
      have em:(red b c).1*(x:Int)*b=c*((e7 (bH b t):Nat):Int):=by
        rw[eB];exact JW m1 m2
      obtain ⟨u,hu⟩:∃u,(red b c).1*(x:Int)=u:=⟨_,rfl⟩
      rw[hu] at eu em ecu
      have u0:0≤u:=by
        rcases Int.lt_or_le u 0 with z | z
        · exfalso
          have:=Int.mul_neg_of_neg_of_pos z (show (0:Int)<(y:Int) by omega)
          omega
        · exact z
      have uw:u.natAbs<W15:=by
        have h:=congrArg Int.natAbs ecu
        rw[Int.natAbs_mul,Int.natAbs_natCast] at h
        have:=Nat.le_mul_of_pos_right u.natAbs y1
        omega
      rw[eu,ec]
      walk_at "go"
      refine⟨_,rfl,?_⟩
      walk_at "go"
      refine⟨⟨1510,1510,uw,b1.2,by decide⟩,⟨1510,1510,cw,by rw[Int.natAbs_natCast];exact bB,by decide⟩,?_⟩
      rw[if_neg (fun z=>z em)]
      walk_at "go"
      refine⟨(s:Int),u.toNat,by rw[Int.toNat_of_nonneg u0],?_⟩
      rw[Int.natAbs_natCast]
      have d1:((Nat.gcd s u.toNat:Nat):Int) ∣ (s:Int):=Int.natCast_dvd_natCast.mpr (Nat.gcd_dvd_left _ _)
      have d2:((Nat.gcd s u.toNat:Nat):Int) ∣ u:=by
        have:=Int.natCast_dvd_natCast.mpr (Nat.gcd_dvd_right s u.toNat)
        rw[Int.toNat_of_nonneg u0] at this
        exact this
      refine hN' _ ⟨Nat.gcd s u.toNat,_,_,rfl,Nat.dvd_trans (Nat.gcd_dvd_left _ _) sB,fun i' h j' h'=>Int.dvd_trans d1 (sd i' h j' h'),fun j' h'=>?_⟩
      rcases Nat.lt_or_ge j' j with z | z
      · exact Int.dvd_trans d1 (sj j' z)
      · rw[show j'=j by omega,eu];exact d2
    · rintro δ ⟨s,o6,o7,rfl,sB,sd,sj⟩
      rw[List.length_range] at sj
      refine hN _ ⟨s,_,_,_,_,rfl,sB,fun i' h j' h'=>?_⟩
      rcases Nat.lt_or_ge i' i with z | z
      · exact sd i' z j' h'
      · rw[show i'=i by omega];exact sj j' h'
  · rintro δ ⟨s,o4,o5,o6,o7,rfl,sB,sd⟩
    walk_at "go"
    rw[List.length_range] at sd
    rw[decide_eq_true (by rw[fin s sB sd];rfl)]
    exact hP
def fP:DSp:=fun ds P=>∃(cs:List (List Cell)) (w:Nat),ds=[.str (mkS (kM cs))]∧ShW w cs∧gdT cs=false∧P (.bl true)
theorem qA:bc fP:=by
  intro xs P P' k h
  unfold fP at h ⊢
  grind
theorem rp:∀ds P,fP ds P→ds.length=1:=by
  intro ds P h
  obtain ⟨_,_,e,_⟩:=h
  rw[e];rfl
theorem rS {f:Addr}{fd:FuncData} (F:FnAt K mg "_law_refused" cL eJ f fd) (A_:Fns K mg) (T:Txt K mg base) {c:Cs} (xs:Exs K mg base c):bE P w K mg base CX0 6 f fd eJ (spP K fP):=by
  obtain ⟨f0,d0,E_read_table⟩:=A_.h_read_table
  have G_read_table:=ny (P:=P) (w:=w) E_read_table A_ T xs
  refine F.fn.ok cx (fun vs H Q E h=>aL rp h) (fun cdv A outer s H vs Q E hr h=>?_)
  refine⟨_,(aj (wst 1 cx.nd av) (aj (Fl (i:=2) rfl rfl G_read_table (hr.mono (by decide)) rfl E_read_table.mg E_read_table.fn.kp E_read_table.bd (af (pv 0) ak) xs.o_NoText xs.o_NoText xs.m_NoText rfl (by simp) cx.nd rfl rfl (fun a oe hc=>(aj (wst 1 cx.nd av) (aj (cU (eE (aO (tJ hc xs.k_NoText) (by rfl) T.isinstance_ boot_isinstance (af (pv 2) (af (iY (af (cA (v:=.ref c.NoTable) rfl xs.m_NoTable rfl) (af (cA (v:=.ref c.NoBottom) rfl xs.m_NoBottom rfl) (af (cA (v:=.ref c.NotAlike) rfl xs.m_NotAlike rfl) (af (cA (v:=.ref c.NoStep) rfl xs.m_NoStep rfl) (af (cA (v:=.ref c.NoMix) rfl xs.m_NoMix rfl) (af (cA (v:=.ref c.NotEven) rfl xs.m_NotEven rfl) ak))))))) ak)))) (aq (wst 1 cx.nd av)) aU) (aq (cU (eE (aO (tJ hc xs.k_NoText) (by rfl) T.isinstance_ boot_isinstance (af (pv 2) (af (iY (af (cA (v:=.ref c.NoSwap) rfl xs.m_NoSwap rfl) (af (cA (v:=.ref c.NoBounds) rfl xs.m_NoBounds rfl) (af (cA (v:=.ref c.NoPlace) rfl xs.m_NoPlace rfl) (af (cA (v:=.ref c.NoSums) rfl xs.m_NoSums rfl) (af (cA (v:=.ref c.TooGreat) rfl xs.m_TooGreat rfl) (af (cA (v:=.ref c.NoNumber) rfl xs.m_NoNumber rfl) ak))))))) ak)))) (aq (wst 1 cx.nd av)) aU)))))) (aj (cU (aR jF (pv 1) av (aQ _)) (aq (aB lX)) aU) (aj (Fl (i:=2) rfl rfl G_read_table (hr.mono (by decide)) rfl E_read_table.mg E_read_table.fn.kp E_read_table.bd (af (pv 0) ak) xs.o_NoText xs.o_MixError xs.m_MixError rfl (by simp) cx.nd rfl rfl (fun a oe hc=>(aq (wst 1 cx.nd (aJ iH av (cO vG (by rfl) T.int_ boot_int (af (aO (tJ hc xs.k_NoText) (by rfl) T.isinstance_ boot_isinstance (af (pv 2) (af (gP (v:=.ty "ValueError") rfl T.ValueError_ (by rfl) rfl) ak))) ak))))))) (aq (aB (hV lR (pv 1) av (aQ _)))))))),aT (Γn:=[]) (N:=kD) (au (ST.post (Γn:=[]) (aF 1 (EM.es ar))) (au (A6 2 jg (ah (ES.er (aa 0)) ao) (Br (wu 1 (EM.es ar)) (Br (DQ (b:=false) (fun a σ H Q hi q=>A0 (fun _ _ _ h=>h) (by simp) xs.t1 hi (fun H' s=>⟨_,rfl,q H' s⟩)) (wu 1 (EM.es ar)) zl) (DQ (b:=false) (fun a σ H Q hi q=>A0 (fun _ _ _ h=>h) (by simp) xs.t2 hi (fun H' s=>⟨_,rfl,q H' s⟩)) (wu 1 (EM.es ar)) zl)))) (au (fj (aK (EM.er (aw nJ (ES.er (aa 1)) (EM.er ar)))) (aD (M:=[]) mT) aX) (au (A6 2 jg (ah (ES.er (aa 0)) ao) (DJ 1 (n:=3) (fun a σ H Q hi q=>Gg xs.v_NoText hi (.inr ⟨true,rfl,⟨3,1,rfl,rfl,⟨64,64,by decide,by decide,by decide⟩,q _ (Same.refl _)⟩⟩)))) (aD (M:=[]) (aw rm (ES.er (aa 1)) (EM.er ar))))))) (fun ds P hS=>?_) h⟩
  obtain ⟨cs,w,rfl,hS,hb,hP⟩:=hS
  rw[show aG kD [.str (mkS (kM cs))]=[some (.str (mkS (kM cs))),none,none] from rfl]
  walk_at "go"
  have no:∀{Q:Prop},gdT cs=true→Q:=fun z=>by rw[hb] at z;cases z
  refine⟨cs,w,rfl,hS,no,fun _=>⟨rfl,by omega,cs,w,rfl,hS,no,fun _=>⟨rfl,?_⟩⟩⟩
  rw[decide_true]
  exact hP
theorem CP {di:DI}{dg:D→Dl→(Dl→Prop)→Prop}{dt:DT}{de:DE}{k:Nat}{idx:List Nat}{δ:Dl}{P:DK} (h:di δ fun ds=>lW (fun _ R=>R ds) dg dt de k idx δ P):lW di dg dt de k idx δ P:=h
theorem Gy {one other:List Int} (h:Maj.Le one other):oY one other=.non:=by
  unfold oY;rw[Maj.Cf h]
theorem ic.row {n i:Nat}{t:List (List Int)}{b:Int}{z x:Nat→Int} (h:ic n (cellAt t) b z x) (hR:kH n n t) (hi:i<n):(rowAt t i).sum=b:=(AW (hR.row hi)).trans (h.rs i hi)
def qO:DSp:=fun ds P=>∃ns,ds=[.scr ns]∧ns.length≤63∧P (.bl true)
theorem Fp {ns:List Int}{P:DK} (hl:ns.length≤63) (h:P (.bl true)):qO [.scr ns] P:=⟨ns,rfl,hl,h⟩
theorem I0:bc qO:=by
  intro xs P P' k h
  unfold qO at h ⊢
  grind
theorem Gk:∀ds P,qO ds P→ds.length=1:=by
  intro ds P h
  obtain ⟨_,e,_⟩:=h
  rw[e];rfl
theorem IE {f:Addr}{fd:FuncData} (F:FnAt K mg "law" ka sF f fd) (A_:Fns K mg) (T:Txt K mg base) {c:Cs} (xs:Exs K mg base c):bE P w K mg base CX0 7 f fd sF (spP K qO):=by
  obtain ⟨f0,d0,E_law_deck⟩:=A_.h_law_deck
  have G_law_deck:=zr (P:=P) (w:=w) E_law_deck A_ T xs
  obtain ⟨f1,d1,E_lead_to⟩:=A_.h_lead_to
  have G_lead_to:=zG (P:=P) (w:=w) E_lead_to A_ T xs
  obtain ⟨f2,d2,E_show_table⟩:=A_.h_show_table
  have G_show_table:=uM (P:=P) (w:=w) E_show_table A_ T xs
  obtain ⟨f3,d3,E_law_fractions⟩:=A_.h_law_fractions
  have G_law_fractions:=qg (P:=P) (w:=w) E_law_fractions A_ T xs
  obtain ⟨f4,d4,E_law_read⟩:=A_.h_law_read
  have G_law_read:=yy (P:=P) (w:=w) E_law_read A_ T xs
  obtain ⟨f5,d5,E_law_more_even⟩:=A_.h_law_more_even
  have G_law_more_even:=qm (P:=P) (w:=w) E_law_more_even A_ T xs
  obtain ⟨f6,d6,E_law_refused⟩:=A_.h_law_refused
  have G_law_refused:=rS (P:=P) (w:=w) E_law_refused A_ T xs
  obtain ⟨f7,d7,E_read_table⟩:=A_.h_read_table
  have G_read_table:=ny (P:=P) (w:=w) E_read_table A_ T xs
  obtain ⟨f8,d8,E_law_written⟩:=A_.h_law_written
  have G_law_written:=tM (P:=P) (w:=w) E_law_written A_ T xs
  refine F.fn.ok mv (fun vs H Q E h=>aL Gk h) (fun cdv A outer s H vs Q E hr h=>?_)
  refine⟨_,(aj (wst 1 mv.nd (wcl G_law_deck hr E_law_deck (af (pv 0) (af av ak)))) (aj (pk (i:=2) (bD.of (sc0:=(ai ka)) (tn:=["_law_cell"]) (cap:=[]) (idx:=[]) (by decide +kernel) rfl rfl) mv.nd rfl (by first | exact Or.inl rfl | exact Or.inr rfl) (wil K (uo (xN (K:=K) rfl) (pv 1) (rG av) (rG (aJ i6 av (aJ jT (wix K (pv 1) av) av))))) (mR.name (by decide)) (fun _ _ _ _ _=>iI (i:=0) (cD (l:=["_law_cell"]) (by decide +kernel)) rfl (by first | exact Or.inl rfl | exact Or.inr rfl) (by first | exact .inl rfl | exact .inr rfl)) (fun _ _ _ _ _=>(aJ jX (pv 0) (aJ iH av (aJ zK av av))))) (aj (wst 3 mv.nd (eY G_lead_to (hr.mono (by decide)) rfl E_lead_to.mg E_lead_to.fn.kp E_lead_to.bd .nil qK (af (wcl G_law_more_even hr E_law_more_even (af (pv 2) (af (pv 0) ak))) (af (pv 2) ak)))) (aj (cU (PW.pt (jj (fv (eE (aO (b7 (K:=K) rfl) (by rfl) T.isinstance_ boot_isinstance (af (pv 3) (af (gP (v:=.ty "tuple") rfl T.tuple_ boot_tuple rfl) ak))))) (jj (aR jF (wln K T.len_ (pv 3)) av (aQ _)) (i3 (aR jF (wit K (pv 3) av) bA (aQ _)))))) (aq (aB lX)) aU) (aj (pk (i:=4) (bD.of (sc0:=(ai ka)) (tn:=["_law_line"]) (cap:=[]) (idx:=[]) (by decide +kernel) rfl rfl) mv.nd rfl (by first | exact Or.inl rfl | exact Or.inr rfl) (wil K (wit K (pv 3) av)) (mR.name (by decide)) (fun _ _ _ _ _=>iI (i:=0) (cD (l:=["_law_line"]) (by decide +kernel)) rfl (by first | exact Or.inl rfl | exact Or.inr rfl) (by first | exact .inl rfl | exact .inr rfl)) (fun _ _ _ _ _=>(cO (nM (K:=K) rfl) (by rfl) T.list_ boot_list (af (pv 0) ak)))) (aj (wst 5 mv.nd (aO (m9 (K:=K) rfl rfl) (by rfl) T.sum_ boot_sum (af (wix K (pv 4) av) ak))) (aj (wst 6 mv.nd (eY G_show_table (hr.mono (by decide)) rfl E_show_table.mg E_show_table.fn.kp E_show_table.bd .nil qK (af (wit K (pv 3) av) (af (pv 5) ak)))) (aj (wst 7 mv.nd (wcl G_law_fractions hr E_law_fractions (af (pv 4) (af (pv 5) ak)))) (aj (cU (PW.pt (jj (fv (eE (aO (b7 (K:=K) rfl) (by rfl) T.isinstance_ boot_isinstance (af (pv 6) (af (gP (v:=.ty "str") rfl T.str_ boot_str rfl) ak))))) (jj (aR jF (pv 6) (wcl G_law_written hr E_law_written (af (pv 7) (af (wln K T.len_ (pv 2)) ak))) (aQ _)) (i3 (aR (C0 hr.units) (wit K (pv 3) av) (pv 4) (aQ _)))))) (aq (aB lX)) aU) (aj (cU (aR Ez (aO (Cg (K:=K) rfl rfl) (by rfl) T.max_ boot_max (af (yu (bD.of (sc0:=(ai ka)) (tn:=["_law_top","_law_under"]) (cap:=[]) (idx:=[]) (by decide +kernel) rfl rfl) (wil K (pv 7)) (mR.tup (oC.cons (by decide) (oC.cons (by decide) oC.nil))) (fun _ _ _ _ _=>rO (K:=K) (n:=2) rfl rfl (iS (iI (i:=0) (cD (l:=["_law_top","_law_under"]) (by decide +kernel)) rfl (by first | exact Or.inl rfl | exact Or.inr rfl) (by first | exact .inl rfl | exact .inr rfl)) (iS (iI (i:=1) (cD (l:=["_law_top","_law_under"]) (by decide +kernel)) rfl (by first | exact Or.inl rfl | exact Or.inr rfl) (by first | exact .inl rfl | exact .inr rfl)) rK))) (fun _ _ _ _ _=>(aO (CF rfl) (by rfl) T.max_ boot_max (af (pv 0) (af (pv 1) ak))))) ak)) (aJ zK av av) (aQ _)) (aq (aB (wcl G_law_refused hr E_law_refused (af (pv 6) ak)))) aU) (aq (aB (wcl G_law_read hr E_law_read (af (eY G_read_table (hr.mono (by decide)) rfl E_read_table.mg E_read_table.fn.kp E_read_table.bd .nil qK (af (pv 6) ak)) (af (pv 4) (af (pv 5) ak)))))))))))))))),aT (Γn:=[]) (N:=Ek) (au (ST.post (Γn:=[]) (aF 1 (EM.es (aA (S:=jM) uP (ah (ES.er (aa 0)) (ah (EM.er ar) ao)))))) (au (ST.post (Γn:=[]) (aF 2 (EM.es (bL (br (EM.es (G7 (ES.er (aa 1)) (or_some (EM.er ar)) (or_some (EM.er (aw fz (EM.er ar) (EM.er (aw aZ (ES.er (aW (aa 1) (EM.er ar))) (EM.er ar))))))))) (aI 0) (aw fz (ES.er (aa 0)) (EM.er (aw aZ (EM.er ar) (EM.er (aw aZ (EM.er ar) (EM.er ar)))))))))) (au (ST.post (Γn:=[]) (aF 3 (EM.es (mO w4 (ah (EM.er (aA (S:=gj) n6 (ah (ES.er (aa 2)) (ah (ES.er (aa 0)) ao)))) (ah (ES.er (aa 2)) ao)))))) (au (fj (jm (fh (mC (EM.er (eN kit_tuple (ES.er (aa 3)))))) (jm (aK (EM.er (aw nJ (EM.er (aS eh (ah (ES.er (aa 3)) ao))) (EM.er ar)))) (aK (EM.er (aw nJ (ES.er (bM (aa 3) (EM.er ar))) (EM.er bq)))))) (aD (M:=[]) mT) aX) (au (ST.post (Γn:=[]) (aF 4 (EM.es (bL (br (bM (aa 3) (EM.er ar))) (aI 0) (aS zx (ah (ES.er (aa 0)) ao)))))) (au (ST.post (Γn:=[]) (aF 5 (EM.es (aS AN (ah (ES.er (aW (aa 4) (EM.er ar))) ao))))) (au (ST.post (Γn:=[]) (aF 6 (EM.es (mO qU (ah (ES.er (bM (aa 3) (EM.er ar))) (ah (ES.er (aa 5)) ao)))))) (au (ST.post (Γn:=[]) (aF 7 (EM.es (aA (S:=eH) nK (ah (ES.er (aa 4)) (ah (ES.er (aa 5)) ao)))))) (au (fj (jm (fh (mC (EM.er (eN AL (ES.er (aa 6)))))) (jm (aK (EM.er (aw nJ (ES.er (aa 6)) (EM.er (aA (S:=fW) qz (ah (ES.er (aa 7)) (ah (EM.er (aS eh (ah (ES.er (aa 2)) ao))) ao))))))) (aK (EM.er (aw GV (ES.er (bM (aa 3) (EM.er ar))) (ES.er (aa 4))))))) (aD (M:=[]) mT) aX) (au (fj (aK (EM.er (aw jZ (EM.er (aS HH (ah (EM.er (bL (br (aa 7)) (xC (iP (aI 0) (iP (aI 1) rL))) (aS Hs (ah (ES.er (aa 0)) (ah (ES.er (aa 1)) ao))))) ao))) (EM.er (aw aZ (EM.er ar) (EM.er ar)))))) (aD (M:=[]) (aA (S:=fP) qA (ah (ES.er (aa 6)) ao))) aX) (aD (M:=[]) (aA (S:=lB) uQ (ah (EM.er (mO jg (ah (ES.er (aa 6)) ao))) (ah (ES.er (aa 4)) (ah (ES.er (aa 5)) ao))))))))))))))) (fun ds P hS=>?_) h⟩
  obtain ⟨ns,rfl,hz,hP⟩:=hS
  rw[show aG Ek [.scr ns]=[some (.scr ns),none,none,none,none,none,none,none] from rfl]
  refine rq fun R1 e1=>?_
  walk_at "go"
  refine⟨ns,6,rfl,hz,by decide,fun ds ld hd=>?_⟩
  subst e1
  refine rq fun R1 e1=>?_
  walk_at "go"
  refine CP ?_
  walk_at "go"
  refine aN (by omega) ?_
  walk_at "go"
  have h4:=emod_lt (x:=ds.getD (0:Int).toNat 0) (n:=4) (by decide)
  obtain ⟨n,hn⟩:∃n:Nat,3+ds.getD (0:Int).toNat 0 % 4=(n:Int):=⟨(3+ds.getD (0:Int).toNat 0 % 4).toNat,by omega⟩
  have n36:3≤n∧n≤6:=by omega
  rw[show ds.getD 0 0=ds.getD (0:Int).toNat 0 from rfl,hn]
  obtain ⟨cs,ec,hc⟩:=yH (ns:=ds) (lo:=some 1) (hi:=some (n:Int))
  have lc:cs.length=n - 1:=by
    rw[hc,List.length_take,List.length_drop,show (some (1:Int))=some ((1:Nat):Int) from rfl,HT.Aq,HT.Aq]
    omega
  have mc:∀c∈cs,0≤c∧c<1000000000000000000:=fun c h=>hd c (by rw[hc] at h;exact List.mem_of_mem_drop (List.mem_of_mem_take h))
  rw[ec]
  clear ec hc hn h4 hd ld
  refine qx (ns:=cs) (g:=fun z=>.int (z - 500000000000000000)) (fun R h=>h) (by omega) (fun z hz R h=>?_) ?_
  · walk_at "gb"
    exact h
  rw[show cs.map (fun z=>L3.D.int (z - 500000000000000000))=(cs.map fun z=>z - 500000000000000000).map L3.D.int from lQ]
  obtain ⟨xs,hxs⟩:∃xs,cs.map (fun z=>z - 500000000000000000)=xs:=⟨_,rfl⟩
  have lx:xs.length=n - 1:=by rw[← hxs,List.length_map];exact lc
  have bx:∀x∈xs,x.natAbs≤10 ^ 18:=fun x hx=>by
    rw[← hxs] at hx
    obtain ⟨v,hv,rfl⟩:=List.mem_map.mp hx
    have:=mc v hv
    omega
  rw[hxs]
  clear hxs mc lc
  subst e1
  refine rq fun R1 e1=>?_
  walk_at "go"
  refine⟨xs,ns,10 ^ 18,rfl,hz,by omega,by omega,bx,by decide,fun ys ly sy hle=>?_⟩
  have al:Alike ys xs:=⟨ly,sy⟩
  refine⟨ys,xs,rfl,by omega,by omega,fun _ j=>Nat.lt_of_le_of_lt (xa bx) (by decide),fun _=>⟨fun i hi=>?_,fun _ t b hR hL b1 hT=>?_⟩,fun z=>absurd al z⟩
  · rw[Gy hle] at hi;cases hi
  rw[ly] at hR hL
  obtain ⟨m,hm⟩:∃m,xs.length=m:=⟨_,rfl⟩
  rw[hm] at hR hL
  have m25:2≤m∧m≤5:=by omega
  have lt:=hR.1
  have bb:b.natAbs<W15:=by
    have:=hL.bot (by omega) (by omega) hT
    have e:((b.natAbs:Nat):Int)<2 ^ 1504:=by rw[Int.natAbs_of_nonneg (by omega)];exact this
    have e2:b.natAbs<2 ^ 1504:=by exact_mod_cast e
    exact Nat.lt_of_lt_of_le e2 (Nat.pow_le_pow_right (by decide) (by decide))
  walk_at "go"
  subst e1
  refine rq fun R1 e1=>?_
  walk_at "go"
  rw[if_neg (fun z=>z rfl)]
  subst e1
  refine rq fun R1 e1=>?_
  walk_at "go"
  refine Cz (t:=t) (fun R h=>by walk_at "go";exact h) (by omega) (fun r hr R h=>by walk_at "gb";exact h) ?_
  walk_at "go"
  subst e1
  refine rq fun R1 e1=>?_
  walk_at "go"
  have r0:(rowAt t 0).sum=b:=hL.row hR (by omega)
  refine wX (by decide) (by rw[List.length_map];omega) ?_
  have g0:(t.map dI)[(0:Int).toNat]?=some (dI (rowAt t 0)):=by
    show (t.map dI)[0]?=_
    rw[List.getElem?_map,List.getElem?_eq_getElem (by omega)]
    unfold rowAt
    rw[List.getD_eq_getElem?_getD,List.getElem?_eq_getElem (by omega)];rfl
  rw[g0]
  walk_at "go"
  rw[r0]
  have mem:∀r∈t,∃i,i<m∧r=rowAt t i:=fun r hr=>by
    obtain ⟨i,hi,rfl⟩:=List.mem_iff_getElem.mp hr
    refine⟨i,by omega,?_⟩
    unfold rowAt
    rw[List.getD_eq_getElem?_getD,List.getElem?_eq_getElem hi];rfl
  have cel:∀r∈t,∀c∈r,0≤c∧c.natAbs<W15:=fun r hr c hc=>by
    obtain ⟨i,hi,e⟩:=mem r hr
    obtain ⟨j,hj,rfl⟩:=List.mem_iff_getElem.mp hc
    have lr:=hR.2 r hr
    have ec:r[j]=cellAt t i j:=by
      show _=(rowAt t i).getD j 0
      rw[← e,List.getD_eq_getElem?_getD,List.getElem?_eq_getElem hj];rfl
    rw[ec]
    exact⟨hL.nn i j hi (by omega),Nat.lt_of_lt_of_le (hT i j) (Nat.pow_le_pow_right (by decide) (by decide))⟩
  have hF:∀r∈t,Fits b r:=fun r hr=>⟨by rw[hR.2 r hr];omega,b1,bb,fun c hc=>(cel r hr c hc).2⟩
  have hr:=hR.2
  have hS:=zH (w:=m) (by omega) (by omega) (by omega) hr hF
  have fl:=y8 fun r hr=>(hF r hr).1
  have fw:∀q∈t.flatten.map (red b),Wide q:=fun q hq=>by
    obtain ⟨c,hc,rfl⟩:=List.mem_map.mp hq
    obtain ⟨r,h1,h2⟩:=List.mem_flatten.mp hc
    exact wL (hF r h1) h2
  have ef:t.flatten.map (red b)=(bH b t).flatten:=List.map_flatten
  clear r0 g0 mem hR hL hT hle al sy
  subst e1
  refine rq fun R1 e1=>?_
  walk_at "go"
  refine⟨t,b,m,rfl,b1,by omega,by omega,by omega,hr,hF,?_⟩
  walk_at "go"
  subst e1
  refine rq fun R1 e1=>?_
  walk_at "go"
  refine⟨t,b,rfl,by omega,hF,?_⟩
  walk_at "go"
  subst e1
  refine rq fun R1 e1=>?_
  walk_at "go"
  refine⟨t.flatten.map (red b),m,by rw[hm];rfl,by omega,by omega,by rw[List.length_map];omega,fw,?_⟩
  rw[ef,EX hS]
  walk_at "go"
  refine Cv (xs:=t) (ys:=t) ?_
  rw[if_pos rfl,decide_eq_true rfl]
  walk_at "go"
  subst e1
  unfold lT
  rw[ef]
  refine rq fun R1 e1=>?_
  walk_at "go"
  refine dP (as:=(bH b t).flatten) (f:=nC) (g:=fun q=>.int (if q.1<q.2 then q.2 else q.1)) (fun R h=>h) (by rw[← ef,List.length_map];omega) (fun q hq R h=>?_) ?_
  · rw[Bd]
    walk_at "gb"
    exact h
  have pos:∀qs∈bH b t,∀q∈qs,0≤q.1∧1≤q.2:=fun qs hq q hq2=>by
    have hw:=hS.2.2.2.2.2 qs hq q hq2
    obtain ⟨r,h1,rfl⟩:=List.mem_map.mp hq
    obtain ⟨c,h2,rfl⟩:=List.mem_map.mp hq2
    exact⟨Int.ediv_nonneg (cel r h1 c h2).1 (by omega),hw.2.1⟩
  rw[show (bH b t).flatten.map (fun q=>L3.D.int (if q.1<q.2 then q.2 else q.1))=((bH b t).flatten.map fun q=>if q.1<q.2 then q.2 else q.1).map L3.D.int from lQ]
  refine nU.mpr ⟨?_,fun M hM hmax=>⟨by walk_at "cd",?_⟩⟩
  · rw[List.length_map]
    obtain ⟨qs,hq⟩:∃qs,qs∈bH b t:=⟨_,List.getElem_mem (show 0<(bH b t).length from hS.1)⟩
    obtain ⟨q,hq2⟩:∃q,q∈qs:=⟨_,List.getElem_mem (show 0<qs.length by have:=hS.2.2.2.2.1 qs hq;omega)⟩
    exact List.length_pos_of_mem (List.mem_flatten.mpr ⟨qs,hq,hq2⟩)
  walk_at "go"
  by_cases h30:(1000000000000000000000000000000:Int)≤M
  · rw[if_pos h30]
    have g:gdT (bH b t)=false:=by
      rw[Bool.eq_false_iff]
      intro z
      obtain ⟨q,hq,rfl⟩:=List.mem_map.mp hM
      obtain ⟨qs,h1,h2⟩:=List.mem_flatten.mp hq
      obtain ⟨a1,a2⟩:=of_decide_eq_true (List.all_eq_true.mp (List.all_eq_true.mp z qs h1) q h2)
      have:=pos qs h1 q h2
      split at h30<;>omega
    exact⟨_,m,rfl,hS,g,hP⟩
  · rw[if_neg h30]
    have g:gdT (bH b t)=true:=List.all_eq_true.mpr fun qs h1=>List.all_eq_true.mpr fun q h2=>by
      have hx:=hmax _ (List.mem_map.mpr ⟨q,List.mem_flatten.mpr ⟨qs,h1,h2⟩,rfl⟩)
      have:=pos qs h1 q h2
      refine decide_eq_true ?_
      split at hx<;>omega
    subst e1
    walk_at "go"
    refine⟨_,m,rfl,hS,fun _=>?_,fun z=>by rw[g] at z;cases z⟩
    walk_at "go"
    exact⟨t,b,m,rfl,by omega,by omega,by omega,hr,hF,fun r h1 c h2=>(cel r h1 c h2).1,g,hP⟩
end
end Mine
set_option maxHeartbeats 16000000
namespace Mine
open PySem L2 PyProof.Rows
theorem all_mk {l:PySem.W.OpenLaw}{w:World}{K:PySem.W.Frag}{h:Heap}{mg:Str→Option Value}{fa f0 f1 f2 f3 f4 f5 f6 f7 f8 f9 f10 f11 f12 f13 f14 f15 f16 f17 f18 f19 f20 f21 f22 f23 f24 f25 f26 f27 f28 f29 f30 f31 f32 f33 f34 f35 f36 f37 f38 f39 f40 f41 f42 f43 f44 f45 f46 f47 f48 f49 f50 da6:Addr} (X:K.In h) (G:h.Ns mainGlobals mg) (hfa:mg "law" = some (.ref fa))
    {od0 an0 od1 an1 od2 an2 od3 an3 od4 an4 od5 an5 od6 an6 od7 an7 od8 an8 od9 an9 od10 an10 od11 an11 od12 an12 od13 an13 od14 an14 od15 an15 od16 an16 od17 an17 od18 an18 od19 an19 od20 an20 od21 an21 od22 an22 od23 an23 od24 an24 od25 an25 od26 an26 od27 an27 od28 an28 od29 an29 od30 an30 od31 an31 od32 an32 od33 an33 od34 an34 od35 an35 od36 an36 od37 an37 od38 an38 od39 an39 od40 an40 od41 an41 od42 an42 od43 an43 od44 an44 od45 an45 od46 an46 od47 an47 od48 an48 od49 an49 od50 an50:Option Addr}{sl0 sl1 sl2 sl3 sl4 sl5 sl6 sl7 sl8 sl9 sl10 sl11 sl12 sl13 sl14 sl15 sl16 sl17 sl18 sl19 sl20 sl21 sl22 sl23 sl24 sl25 sl26 sl27 sl28 sl29 sl30 sl31 sl32 sl33 sl34 sl35 sl36 sl37 sl38 sl39 sl40 sl41 sl42 sl43 sl44 sl45 sl46 sl47 sl48 sl49 sl50:Array (Option Value)}{oc0 kV0 dc0 pm0 cd0 ct0 oc1 kV1 dc1 pm1 cd1 ct1 oc2 kV2 dc2 pm2 cd2 ct2 oc3 kV3 dc3 pm3 cd3 ct3 oc4 kV4 dc4 pm4 cd4 ct4 oc5 kV5 dc5 pm5 cd5 ct5 oc6 kV6 dc6 pm6 cd6 ct6 oc7 kV7 dc7 pm7 cd7 ct7 oc8 kV8 dc8 pm8 cd8 ct8 oc9 kV9 dc9 pm9 cd9 ct9 oc10 kV10 dc10 pm10 cd10 ct10 oc11 kV11 dc11 pm11 cd11 ct11 oc12 kV12 dc12 pm12 cd12 ct12 oc13 kV13 dc13 pm13 cd13 ct13 oc14 kV14 dc14 pm14 cd14 ct14 oc15 kV15 dc15 pm15 cd15 ct15 oc16 kV16 dc16 pm16 cd16 ct16 oc17 kV17 dc17 pm17 cd17 ct17 oc18 kV18 dc18 pm18 cd18 ct18 oc19 kV19 dc19 pm19 cd19 ct19 oc20 kV20 dc20 pm20 cd20 ct20 oc21 kV21 dc21 pm21 cd21 ct21 oc22 kV22 dc22 pm22 cd22 ct22 oc23 kV23 dc23 pm23 cd23 ct23 oc24 kV24 dc24 pm24 cd24 ct24 oc25 kV25 dc25 pm25 cd25 ct25 oc26 kV26 dc26 pm26 cd26 ct26 oc27 kV27 dc27 pm27 cd27 ct27 oc28 kV28 dc28 pm28 cd28 ct28 oc29 kV29 dc29 pm29 cd29 ct29 oc30 kV30 dc30 pm30 cd30 ct30 oc31 kV31 dc31 pm31 cd31 ct31 oc32 kV32 dc32 pm32 cd32 ct32 oc33 kV33 dc33 pm33 cd33 ct33 oc34 kV34 dc34 pm34 cd34 ct34 oc35 kV35 dc35 pm35 cd35 ct35 oc36 kV36 dc36 pm36 cd36 ct36 oc37 kV37 dc37 pm37 cd37 ct37 oc38 kV38 dc38 pm38 cd38 ct38 oc39 kV39 dc39 pm39 cd39 ct39 oc40 kV40 dc40 pm40 cd40 ct40 oc41 kV41 dc41 pm41 cd41 ct41 oc42 kV42 dc42 pm42 cd42 ct42 oc43 kV43 dc43 pm43 cd43 ct43 oc44 kV44 dc44 pm44 cd44 ct44 oc45 kV45 dc45 pm45 cd45 ct45 oc46 kV46 dc46 pm46 cd46 ct46 oc47 kV47 dc47 pm47 cd47 ct47 oc48 kV48 dc48 pm48 cd48 ct48 oc49 kV49 dc49 pm49 cd49 ct49 oc50 kV50 dc50 pm50 cd50 ct50:Value}
    (a0:PySem.W.nsIn K mainGlobals "is_number" = some (some (.ref f0))) (l0:K.lookup f0=some ⟨oc0,od0,.func (PySem.W.fnOf "is_number" "is_number" (ay eA) (ax eA) (ai eA) .none kV0 dc0 pm0 an0 cd0 ct0),sl0⟩) (c0:PySem.W.codeIn K cd0 "is_number" = true) (k0:PySem.W.keepIn K (.ref f0)=true)
    (a1:PySem.W.nsIn K mainGlobals "is_place" = some (some (.ref f1))) (l1:K.lookup f1=some ⟨oc1,od1,.func (PySem.W.fnOf "is_place" "is_place" (ay e9) (ax e9) (ai e9) .none kV1 dc1 pm1 an1 cd1 ct1),sl1⟩) (c1:PySem.W.codeIn K cd1 "is_place" = true) (k1:PySem.W.keepIn K (.ref f1)=true)
    (a2:PySem.W.nsIn K mainGlobals "check_bottom" = some (some (.ref f2))) (l2:K.lookup f2=some ⟨oc2,od2,.func (PySem.W.fnOf "check_bottom" "check_bottom" (ay cq) (ax cq) (ai cq) .none kV2 dc2 pm2 an2 cd2 ct2),sl2⟩) (c2:PySem.W.codeIn K cd2 "check_bottom" = true) (k2:PySem.W.keepIn K (.ref f2)=true)
    (a3:PySem.W.nsIn K mainGlobals "greatest_divisor" = some (some (.ref f3))) (l3:K.lookup f3=some ⟨oc3,od3,.func (PySem.W.fnOf "greatest_divisor" "greatest_divisor" (ay bo) (ax bo) (ai bo) .none kV3 dc3 pm3 an3 cd3 ct3),sl3⟩) (c3:PySem.W.codeIn K cd3 "greatest_divisor" = true) (k3:PySem.W.keepIn K (.ref f3)=true)
    (a4:PySem.W.nsIn K mainGlobals "divisor_of" = some (some (.ref f4))) (l4:K.lookup f4=some ⟨oc4,od4,.func (PySem.W.fnOf "divisor_of" "divisor_of" (ay dD) (ax dD) (ai dD) .none kV4 dc4 pm4 an4 cd4 ct4),sl4⟩) (c4:PySem.W.codeIn K cd4 "divisor_of" = true) (k4:PySem.W.keepIn K (.ref f4)=true)
    (a5:PySem.W.nsIn K mainGlobals "divided_row" = some (some (.ref f5))) (l5:K.lookup f5=some ⟨oc5,od5,.func (PySem.W.fnOf "divided_row" "divided_row" (ay b9) (ax b9) (ai b9) .none kV5 dc5 pm5 an5 cd5 ct5),sl5⟩) (c5:PySem.W.codeIn K cd5 "divided_row" = true) (k5:PySem.W.keepIn K (.ref f5)=true)
    (a6:PySem.W.nsIn K mainGlobals "least_terms" = some (some (.ref f6))) (l6:K.lookup f6=some ⟨oc6,od6,.func (PySem.W.fnOf "least_terms" "least_terms" (ay cj) (ax cj) (ai cj) (.ref da6) kV6 dc6 pm6 an6 cd6 ct6),sl6⟩) (c6:PySem.W.codeIn K cd6 "least_terms" = true) (k6:PySem.W.keepIn K (.ref f6)=true)
    (a7:PySem.W.nsIn K mainGlobals "read_table" = some (some (.ref f7))) (l7:K.lookup f7=some ⟨oc7,od7,.func (PySem.W.fnOf "read_table" "read_table" (ay bN) (ax bN) (ai bN) .none kV7 dc7 pm7 an7 cd7 ct7),sl7⟩) (c7:PySem.W.codeIn K cd7 "read_table" = true) (k7:PySem.W.keepIn K (.ref f7)=true)
    (a8:PySem.W.nsIn K mainGlobals "is_shaped" = some (some (.ref f8))) (l8:K.lookup f8=some ⟨oc8,od8,.func (PySem.W.fnOf "is_shaped" "is_shaped" (ay dy) (ax dy) (ai dy) .none kV8 dc8 pm8 an8 cd8 ct8),sl8⟩) (c8:PySem.W.codeIn K cd8 "is_shaped" = true) (k8:PySem.W.keepIn K (.ref f8)=true)
    (a9:PySem.W.nsIn K mainGlobals "is_written" = some (some (.ref f9))) (l9:K.lookup f9=some ⟨oc9,od9,.func (PySem.W.fnOf "is_written" "is_written" (ay cI) (ax cI) (ai cI) .none kV9 dc9 pm9 an9 cd9 ct9),sl9⟩) (c9:PySem.W.codeIn K cd9 "is_written" = true) (k9:PySem.W.keepIn K (.ref f9)=true)
    (a10:PySem.W.nsIn K mainGlobals "is_fraction" = some (some (.ref f10))) (l10:K.lookup f10=some ⟨oc10,od10,.func (PySem.W.fnOf "is_fraction" "is_fraction" (ay cf) (ax cf) (ai cf) .none kV10 dc10 pm10 an10 cd10 ct10),sl10⟩) (c10:PySem.W.codeIn K cd10 "is_fraction" = true) (k10:PySem.W.keepIn K (.ref f10)=true)
    (a11:PySem.W.nsIn K mainGlobals "without_sign" = some (some (.ref f11))) (l11:K.lookup f11=some ⟨oc11,od11,.func (PySem.W.fnOf "without_sign" "without_sign" (ay cy) (ax cy) (ai cy) .none kV11 dc11 pm11 an11 cd11 ct11),sl11⟩) (c11:PySem.W.codeIn K cd11 "without_sign" = true) (k11:PySem.W.keepIn K (.ref f11)=true)
    (a12:PySem.W.nsIn K mainGlobals "is_figures" = some (some (.ref f12))) (l12:K.lookup f12=some ⟨oc12,od12,.func (PySem.W.fnOf "is_figures" "is_figures" (ay cG) (ax cG) (ai cG) .none kV12 dc12 pm12 an12 cd12 ct12),sl12⟩) (c12:PySem.W.codeIn K cd12 "is_figures" = true) (k12:PySem.W.keepIn K (.ref f12)=true)
    (a13:PySem.W.nsIn K mainGlobals "is_lowest" = some (some (.ref f13))) (l13:K.lookup f13=some ⟨oc13,od13,.func (PySem.W.fnOf "is_lowest" "is_lowest" (ay ek) (ax ek) (ai ek) .none kV13 dc13 pm13 an13 cd13 ct13),sl13⟩) (c13:PySem.W.codeIn K cd13 "is_lowest" = true) (k13:PySem.W.keepIn K (.ref f13)=true)
    (a14:PySem.W.nsIn K mainGlobals "top_of" = some (some (.ref f14))) (l14:K.lookup f14=some ⟨oc14,od14,.func (PySem.W.fnOf "top_of" "top_of" (ay iR) (ax iR) (ai iR) .none kV14 dc14 pm14 an14 cd14 ct14),sl14⟩) (c14:PySem.W.codeIn K cd14 "top_of" = true) (k14:PySem.W.keepIn K (.ref f14)=true)
    (a15:PySem.W.nsIn K mainGlobals "bottom_of" = some (some (.ref f15))) (l15:K.lookup f15=some ⟨oc15,od15,.func (PySem.W.fnOf "bottom_of" "bottom_of" (ay ee) (ax ee) (ai ee) .none kV15 dc15 pm15 an15 cd15 ct15),sl15⟩) (c15:PySem.W.codeIn K cd15 "bottom_of" = true) (k15:PySem.W.keepIn K (.ref f15)=true)
    (a16:PySem.W.nsIn K mainGlobals "common_bottom" = some (some (.ref f16))) (l16:K.lookup f16=some ⟨oc16,od16,.func (PySem.W.fnOf "common_bottom" "common_bottom" (ay bS) (ax bS) (ai bS) .none kV16 dc16 pm16 an16 cd16 ct16),sl16⟩) (c16:PySem.W.codeIn K cd16 "common_bottom" = true) (k16:PySem.W.keepIn K (.ref f16)=true)
    (a17:PySem.W.nsIn K mainGlobals "raised_tops" = some (some (.ref f17))) (l17:K.lookup f17=some ⟨oc17,od17,.func (PySem.W.fnOf "raised_tops" "raised_tops" (ay b8) (ax b8) (ai b8) .none kV17 dc17 pm17 an17 cd17 ct17),sl17⟩) (c17:PySem.W.codeIn K cd17 "raised_tops" = true) (k17:PySem.W.keepIn K (.ref f17)=true)
    (a18:PySem.W.nsIn K mainGlobals "show_table" = some (some (.ref f18))) (l18:K.lookup f18=some ⟨oc18,od18,.func (PySem.W.fnOf "show_table" "show_table" (ay cF) (ax cF) (ai cF) .none kV18 dc18 pm18 an18 cd18 ct18),sl18⟩) (c18:PySem.W.codeIn K cd18 "show_table" = true) (k18:PySem.W.keepIn K (.ref f18)=true)
    (a19:PySem.W.nsIn K mainGlobals "shown_row" = some (some (.ref f19))) (l19:K.lookup f19=some ⟨oc19,od19,.func (PySem.W.fnOf "shown_row" "shown_row" (ay dB) (ax dB) (ai dB) .none kV19 dc19 pm19 an19 cd19 ct19),sl19⟩) (c19:PySem.W.codeIn K cd19 "shown_row" = true) (k19:PySem.W.keepIn K (.ref f19)=true)
    (a20:PySem.W.nsIn K mainGlobals "shown_fraction" = some (some (.ref f20))) (l20:K.lookup f20=some ⟨oc20,od20,.func (PySem.W.fnOf "shown_fraction" "shown_fraction" (ay bF) (ax bF) (ai bF) .none kV20 dc20 pm20 an20 cd20 ct20),sl20⟩) (c20:PySem.W.codeIn K cd20 "shown_fraction" = true) (k20:PySem.W.keepIn K (.ref f20)=true)
    (a21:PySem.W.nsIn K mainGlobals "shown_number" = some (some (.ref f21))) (l21:K.lookup f21=some ⟨oc21,od21,.func (PySem.W.fnOf "shown_number" "shown_number" (ay cm) (ax cm) (ai cm) .none kV21 dc21 pm21 an21 cd21 ct21),sl21⟩) (c21:PySem.W.codeIn K cd21 "shown_number" = true) (k21:PySem.W.keepIn K (.ref f21)=true)
    (a22:PySem.W.nsIn K mainGlobals "falling" = some (some (.ref f22))) (l22:K.lookup f22=some ⟨oc22,od22,.func (PySem.W.fnOf "falling" "falling" (ay gA) (ax gA) (ai gA) .none kV22 dc22 pm22 an22 cd22 ct22),sl22⟩) (c22:PySem.W.codeIn K cd22 "falling" = true) (k22:PySem.W.keepIn K (.ref f22)=true)
    (a23:PySem.W.nsIn K mainGlobals "falling_places" = some (some (.ref f23))) (l23:K.lookup f23=some ⟨oc23,od23,.func (PySem.W.fnOf "falling_places" "falling_places" (ay bI) (ax bI) (ai bI) .none kV23 dc23 pm23 an23 cd23 ct23),sl23⟩) (c23:PySem.W.codeIn K cd23 "falling_places" = true) (k23:PySem.W.keepIn K (.ref f23)=true)
    (a24:PySem.W.nsIn K mainGlobals "places_below" = some (some (.ref f24))) (l24:K.lookup f24=some ⟨oc24,od24,.func (PySem.W.fnOf "places_below" "places_below" (ay bJ) (ax bJ) (ai bJ) .none kV24 dc24 pm24 an24 cd24 ct24),sl24⟩) (c24:PySem.W.codeIn K cd24 "places_below" = true) (k24:PySem.W.keepIn K (.ref f24)=true)
    (a25:PySem.W.nsIn K mainGlobals "heads_of" = some (some (.ref f25))) (l25:K.lookup f25=some ⟨oc25,od25,.func (PySem.W.fnOf "heads_of" "heads_of" (ay fB) (ax fB) (ai fB) .none kV25 dc25 pm25 an25 cd25 ct25),sl25⟩) (c25:PySem.W.codeIn K cd25 "heads_of" = true) (k25:PySem.W.keepIn K (.ref f25)=true)
    (a26:PySem.W.nsIn K mainGlobals "check_alike" = some (some (.ref f26))) (l26:K.lookup f26=some ⟨oc26,od26,.func (PySem.W.fnOf "check_alike" "check_alike" (ay cK) (ax cK) (ai cK) .none kV26 dc26 pm26 an26 cd26 ct26),sl26⟩) (c26:PySem.W.codeIn K cd26 "check_alike" = true) (k26:PySem.W.keepIn K (.ref f26)=true)
    (a27:PySem.W.nsIn K mainGlobals "first_head_above" = some (some (.ref f27))) (l27:K.lookup f27=some ⟨oc27,od27,.func (PySem.W.fnOf "first_head_above" "first_head_above" (ay bh) (ax bh) (ai bh) .none kV27 dc27 pm27 an27 cd27 ct27),sl27⟩) (c27:PySem.W.codeIn K cd27 "first_head_above" = true) (k27:PySem.W.keepIn K (.ref f27)=true)
    (a28:PySem.W.nsIn K mainGlobals "bar_of" = some (some (.ref f28))) (l28:K.lookup f28=some ⟨oc28,od28,.func (PySem.W.fnOf "bar_of" "bar_of" (ay iQ) (ax iQ) (ai iQ) .none kV28 dc28 pm28 an28 cd28 ct28),sl28⟩) (c28:PySem.W.codeIn K cd28 "bar_of" = true) (k28:PySem.W.keepIn K (.ref f28)=true)
    (a29:PySem.W.nsIn K mainGlobals "can_step" = some (some (.ref f29))) (l29:K.lookup f29=some ⟨oc29,od29,.func (PySem.W.fnOf "can_step" "can_step" (ay ff) (ax ff) (ai ff) .none kV29 dc29 pm29 an29 cd29 ct29),sl29⟩) (c29:PySem.W.codeIn K cd29 "can_step" = true) (k29:PySem.W.keepIn K (.ref f29)=true)
    (a30:PySem.W.nsIn K mainGlobals "step_made" = some (some (.ref f30))) (l30:K.lookup f30=some ⟨oc30,od30,.func (PySem.W.fnOf "step_made" "step_made" (ay eC) (ax eC) (ai eC) .none kV30 dc30 pm30 an30 cd30 ct30),sl30⟩) (c30:PySem.W.codeIn K cd30 "step_made" = true) (k30:PySem.W.keepIn K (.ref f30)=true)
    (a31:PySem.W.nsIn K mainGlobals "steps_to" = some (some (.ref f31))) (l31:K.lookup f31=some ⟨oc31,od31,.func (PySem.W.fnOf "steps_to" "steps_to" (ay fo) (ax fo) (ai fo) .none kV31 dc31 pm31 an31 cd31 ct31),sl31⟩) (c31:PySem.W.codeIn K cd31 "steps_to" = true) (k31:PySem.W.keepIn K (.ref f31)=true)
    (a32:PySem.W.nsIn K mainGlobals "row_behind" = some (some (.ref f32))) (l32:K.lookup f32=some ⟨oc32,od32,.func (PySem.W.fnOf "row_behind" "row_behind" (ay dC) (ax dC) (ai dC) .none kV32 dc32 pm32 an32 cd32 ct32),sl32⟩) (c32:PySem.W.codeIn K cd32 "row_behind" = true) (k32:PySem.W.keepIn K (.ref f32)=true)
    (a33:PySem.W.nsIn K mainGlobals "evening_steps" = some (some (.ref f33))) (l33:K.lookup f33=some ⟨oc33,od33,.func (PySem.W.fnOf "evening_steps" "evening_steps" (ay bQ) (ax bQ) (ai bQ) .none kV33 dc33 pm33 an33 cd33 ct33),sl33⟩) (c33:PySem.W.codeIn K cd33 "evening_steps" = true) (k33:PySem.W.keepIn K (.ref f33)=true)
    (a34:PySem.W.nsIn K mainGlobals "evening_step" = some (some (.ref f34))) (l34:K.lookup f34=some ⟨oc34,od34,.func (PySem.W.fnOf "evening_step" "evening_step" (ay bK) (ax bK) (ai bK) .none kV34 dc34 pm34 an34 cd34 ct34),sl34⟩) (c34:PySem.W.codeIn K cd34 "evening_step" = true) (k34:PySem.W.keepIn K (.ref f34)=true)
    (a35:PySem.W.nsIn K mainGlobals "exchanges_to" = some (some (.ref f35))) (l35:K.lookup f35=some ⟨oc35,od35,.func (PySem.W.fnOf "exchanges_to" "exchanges_to" (ay cu) (ax cu) (ai cu) .none kV35 dc35 pm35 an35 cd35 ct35),sl35⟩) (c35:PySem.W.codeIn K cd35 "exchanges_to" = true) (k35:PySem.W.keepIn K (.ref f35)=true)
    (a36:PySem.W.nsIn K mainGlobals "exchange_step" = some (some (.ref f36))) (l36:K.lookup f36=some ⟨oc36,od36,.func (PySem.W.fnOf "exchange_step" "exchange_step" (ay bP) (ax bP) (ai bP) .none kV36 dc36 pm36 an36 cd36 ct36),sl36⟩) (c36:PySem.W.codeIn K cd36 "exchange_step" = true) (k36:PySem.W.keepIn K (.ref f36)=true)
    (a37:PySem.W.nsIn K mainGlobals "lead_to" = some (some (.ref f37))) (l37:K.lookup f37=some ⟨oc37,od37,.func (PySem.W.fnOf "lead_to" "lead_to" (ay gG) (ax gG) (ai gG) .none kV37 dc37 pm37 an37 cd37 ct37),sl37⟩) (c37:PySem.W.codeIn K cd37 "lead_to" = true) (k37:PySem.W.keepIn K (.ref f37)=true)
    (a38:PySem.W.nsIn K mainGlobals "plain_table" = some (some (.ref f38))) (l38:K.lookup f38=some ⟨oc38,od38,.func (PySem.W.fnOf "plain_table" "plain_table" (ay ck) (ax ck) (ai ck) .none kV38 dc38 pm38 an38 cd38 ct38),sl38⟩) (c38:PySem.W.codeIn K cd38 "plain_table" = true) (k38:PySem.W.keepIn K (.ref f38)=true)
    (a39:PySem.W.nsIn K mainGlobals "plain_row" = some (some (.ref f39))) (l39:K.lookup f39=some ⟨oc39,od39,.func (PySem.W.fnOf "plain_row" "plain_row" (ay dA) (ax dA) (ai dA) .none kV39 dc39 pm39 an39 cd39 ct39),sl39⟩) (c39:PySem.W.codeIn K cd39 "plain_row" = true) (k39:PySem.W.keepIn K (.ref f39)=true)
    (a40:PySem.W.nsIn K mainGlobals "led_table" = some (some (.ref f40))) (l40:K.lookup f40=some ⟨oc40,od40,.func (PySem.W.fnOf "led_table" "led_table" (ay dw) (ax dw) (ai dw) .none kV40 dc40 pm40 an40 cd40 ct40),sl40⟩) (c40:PySem.W.codeIn K cd40 "led_table" = true) (k40:PySem.W.keepIn K (.ref f40)=true)
    (a41:PySem.W.nsIn K mainGlobals "mixed_row" = some (some (.ref f41))) (l41:K.lookup f41=some ⟨oc41,od41,.func (PySem.W.fnOf "mixed_row" "mixed_row" (ay dG) (ax dG) (ai dG) .none kV41 dc41 pm41 an41 cd41 ct41),sl41⟩) (c41:PySem.W.codeIn K cd41 "mixed_row" = true) (k41:PySem.W.keepIn K (.ref f41)=true)
    (a42:PySem.W.nsIn K mainGlobals "_law_whole" = some (some (.ref f42))) (l42:K.lookup f42=some ⟨oc42,od42,.func (PySem.W.fnOf "_law_whole" "_law_whole" (ay en) (ax en) (ai en) .none kV42 dc42 pm42 an42 cd42 ct42),sl42⟩) (c42:PySem.W.codeIn K cd42 "_law_whole" = true) (k42:PySem.W.keepIn K (.ref f42)=true)
    (a43:PySem.W.nsIn K mainGlobals "_law_deck" = some (some (.ref f43))) (l43:K.lookup f43=some ⟨oc43,od43,.func (PySem.W.fnOf "_law_deck" "_law_deck" (ay fe) (ax fe) (ai fe) .none kV43 dc43 pm43 an43 cd43 ct43),sl43⟩) (c43:PySem.W.codeIn K cd43 "_law_deck" = true) (k43:PySem.W.keepIn K (.ref f43)=true)
    (a44:PySem.W.nsIn K mainGlobals "_law_gcd" = some (some (.ref f44))) (l44:K.lookup f44=some ⟨oc44,od44,.func (PySem.W.fnOf "_law_gcd" "_law_gcd" (ay gC) (ax gC) (ai gC) .none kV44 dc44 pm44 an44 cd44 ct44),sl44⟩) (c44:PySem.W.codeIn K cd44 "_law_gcd" = true) (k44:PySem.W.keepIn K (.ref f44)=true)
    (a45:PySem.W.nsIn K mainGlobals "_law_more_even" = some (some (.ref f45))) (l45:K.lookup f45=some ⟨oc45,od45,.func (PySem.W.fnOf "_law_more_even" "_law_more_even" (ay bT) (ax bT) (ai bT) .none kV45 dc45 pm45 an45 cd45 ct45),sl45⟩) (c45:PySem.W.codeIn K cd45 "_law_more_even" = true) (k45:PySem.W.keepIn K (.ref f45)=true)
    (a46:PySem.W.nsIn K mainGlobals "_law_fractions" = some (some (.ref f46))) (l46:K.lookup f46=some ⟨oc46,od46,.func (PySem.W.fnOf "_law_fractions" "_law_fractions" (ay bR) (ax bR) (ai bR) .none kV46 dc46 pm46 an46 cd46 ct46),sl46⟩) (c46:PySem.W.codeIn K cd46 "_law_fractions" = true) (k46:PySem.W.keepIn K (.ref f46)=true)
    (a47:PySem.W.nsIn K mainGlobals "_law_written" = some (some (.ref f47))) (l47:K.lookup f47=some ⟨oc47,od47,.func (PySem.W.fnOf "_law_written" "_law_written" (ay cJ) (ax cJ) (ai cJ) .none kV47 dc47 pm47 an47 cd47 ct47),sl47⟩) (c47:PySem.W.codeIn K cd47 "_law_written" = true) (k47:PySem.W.keepIn K (.ref f47)=true)
    (a48:PySem.W.nsIn K mainGlobals "_law_read" = some (some (.ref f48))) (l48:K.lookup f48=some ⟨oc48,od48,.func (PySem.W.fnOf "_law_read" "_law_read" (ay fm) (ax fm) (ai fm) .none kV48 dc48 pm48 an48 cd48 ct48),sl48⟩) (c48:PySem.W.codeIn K cd48 "_law_read" = true) (k48:PySem.W.keepIn K (.ref f48)=true)
    (a49:PySem.W.nsIn K mainGlobals "_law_refused" = some (some (.ref f49))) (l49:K.lookup f49=some ⟨oc49,od49,.func (PySem.W.fnOf "_law_refused" "_law_refused" (ay cL) (ax cL) (ai cL) .none kV49 dc49 pm49 an49 cd49 ct49),sl49⟩) (c49:PySem.W.codeIn K cd49 "_law_refused" = true) (k49:PySem.W.keepIn K (.ref f49)=true)
    (a50:PySem.W.nsIn K mainGlobals "law" = some (some (.ref f50))) (l50:K.lookup f50=some ⟨oc50,od50,.func (PySem.W.fnOf "law" "law" (ay ka) (ax ka) (ai ka) .none kV50 dc50 pm50 an50 cd50 ct50),sl50⟩) (c50:PySem.W.codeIn K cd50 "law" = true) (k50:PySem.W.keepIn K (.ref f50)=true)
    {dcl6:Value}{ddd6:Option Addr}{dsl6:Array (Option Value)}{dtk6:Tok}{dn6:Nat} (d6:K.lookup da6=some ⟨dcl6,ddd6,.seq #[Value.int 1 dtk6] dn6,dsl6⟩)
    {C_MixError C_NoTable C_NoBottom C_NotAlike C_NoStep C_NoMix C_NotEven C_NoSwap C_NoBounds C_NoPlace C_NoSums C_TooGreat C_NoNumber C_NoText:Addr}
    {dd_MixError:Option Addr}{nm_MixError qn_MixError:Str}{bs_MixError:List Value}{ns_MixError:Addr}{hd_MixError:Bool}{sn_MixError:List Str}{sub_MixError:List Value}{ab_MixError:Bool}{col_MixError:Option Bool}{k0_MixError k1_MixError k2_MixError k3_MixError k5_MixError:Option Value}
    {dd_NoBottom:Option Addr}{nm_NoBottom qn_NoBottom:Str}{bs_NoBottom:List Value}{ns_NoBottom:Addr}{hd_NoBottom:Bool}{sn_NoBottom:List Str}{sub_NoBottom:List Value}{ab_NoBottom:Bool}{col_NoBottom:Option Bool}{k0_NoBottom k1_NoBottom k2_NoBottom k3_NoBottom k5_NoBottom:Option Value}
    {dd_NoStep:Option Addr}{nm_NoStep qn_NoStep:Str}{bs_NoStep:List Value}{ns_NoStep:Addr}{hd_NoStep:Bool}{sn_NoStep:List Str}{sub_NoStep:List Value}{ab_NoStep:Bool}{col_NoStep:Option Bool}{k0_NoStep k1_NoStep k2_NoStep k3_NoStep k5_NoStep:Option Value}
    {dd_NoText:Option Addr}{nm_NoText qn_NoText:Str}{bs_NoText:List Value}{ns_NoText:Addr}{hd_NoText:Bool}{sn_NoText:List Str}{sub_NoText:List Value}{ab_NoText:Bool}{col_NoText:Option Bool}{k0_NoText k1_NoText k2_NoText k3_NoText k5_NoText:Option Value}
    {dd_NotAlike:Option Addr}{nm_NotAlike qn_NotAlike:Str}{bs_NotAlike:List Value}{ns_NotAlike:Addr}{hd_NotAlike:Bool}{sn_NotAlike:List Str}{sub_NotAlike:List Value}{ab_NotAlike:Bool}{col_NotAlike:Option Bool}{k0_NotAlike k1_NotAlike k2_NotAlike k3_NotAlike k5_NotAlike:Option Value}
    (e_MixError:PySem.W.nsIn K mainGlobals "MixError" = some (some (.ref C_MixError)))
    (e_NoTable:PySem.W.nsIn K mainGlobals "NoTable" = some (some (.ref C_NoTable)))
    (e_NoBottom:PySem.W.nsIn K mainGlobals "NoBottom" = some (some (.ref C_NoBottom)))
    (e_NotAlike:PySem.W.nsIn K mainGlobals "NotAlike" = some (some (.ref C_NotAlike)))
    (e_NoStep:PySem.W.nsIn K mainGlobals "NoStep" = some (some (.ref C_NoStep)))
    (e_NoMix:PySem.W.nsIn K mainGlobals "NoMix" = some (some (.ref C_NoMix)))
    (e_NotEven:PySem.W.nsIn K mainGlobals "NotEven" = some (some (.ref C_NotEven)))
    (e_NoSwap:PySem.W.nsIn K mainGlobals "NoSwap" = some (some (.ref C_NoSwap)))
    (e_NoBounds:PySem.W.nsIn K mainGlobals "NoBounds" = some (some (.ref C_NoBounds)))
    (e_NoPlace:PySem.W.nsIn K mainGlobals "NoPlace" = some (some (.ref C_NoPlace)))
    (e_NoSums:PySem.W.nsIn K mainGlobals "NoSums" = some (some (.ref C_NoSums)))
    (e_TooGreat:PySem.W.nsIn K mainGlobals "TooGreat" = some (some (.ref C_TooGreat)))
    (e_NoNumber:PySem.W.nsIn K mainGlobals "NoNumber" = some (some (.ref C_NoNumber)))
    (e_NoText:PySem.W.nsIn K mainGlobals "NoText" = some (some (.ref C_NoText)))
    (u_MixError:K.lookup C_MixError=some ⟨.type "type",dd_MixError,.cls ⟨nm_MixError,bs_MixError,.ref C_MixError::VB,ns_MixError,qn_MixError,hd_MixError,sn_MixError,sub_MixError,ab_MixError,col_MixError,false⟩,#[k0_MixError,k1_MixError,k2_MixError,k3_MixError,some (.builtin "ValueError.__new__"),k5_MixError]⟩) (v_MixError:PySem.W.excIn K C_MixError VB "ValueError.__new__" = true)
    (u_NoBottom:K.lookup C_NoBottom=some ⟨.type "type",dd_NoBottom,.cls ⟨nm_NoBottom,bs_NoBottom,.ref C_NoBottom::.ref C_MixError::VB,ns_NoBottom,qn_NoBottom,hd_NoBottom,sn_NoBottom,sub_NoBottom,ab_NoBottom,col_NoBottom,false⟩,#[k0_NoBottom,k1_NoBottom,k2_NoBottom,k3_NoBottom,some (.builtin "ValueError.__new__"),k5_NoBottom]⟩) (v_NoBottom:PySem.W.excIn K C_NoBottom VB "ValueError.__new__" = true)
    (u_NoStep:K.lookup C_NoStep=some ⟨.type "type",dd_NoStep,.cls ⟨nm_NoStep,bs_NoStep,.ref C_NoStep::.ref C_MixError::VB,ns_NoStep,qn_NoStep,hd_NoStep,sn_NoStep,sub_NoStep,ab_NoStep,col_NoStep,false⟩,#[k0_NoStep,k1_NoStep,k2_NoStep,k3_NoStep,some (.builtin "ValueError.__new__"),k5_NoStep]⟩) (v_NoStep:PySem.W.excIn K C_NoStep VB "ValueError.__new__" = true)
    (u_NoText:K.lookup C_NoText=some ⟨.type "type",dd_NoText,.cls ⟨nm_NoText,bs_NoText,.ref C_NoText::.ref C_MixError::VB,ns_NoText,qn_NoText,hd_NoText,sn_NoText,sub_NoText,ab_NoText,col_NoText,false⟩,#[k0_NoText,k1_NoText,k2_NoText,k3_NoText,some (.builtin "ValueError.__new__"),k5_NoText]⟩) (v_NoText:PySem.W.excIn K C_NoText VB "ValueError.__new__" = true)
    (u_NotAlike:K.lookup C_NotAlike=some ⟨.type "type",dd_NotAlike,.cls ⟨nm_NotAlike,bs_NotAlike,.ref C_NotAlike::.ref C_MixError::VB,ns_NotAlike,qn_NotAlike,hd_NotAlike,sn_NotAlike,sub_NotAlike,ab_NotAlike,col_NotAlike,false⟩,#[k0_NotAlike,k1_NotAlike,k2_NotAlike,k3_NotAlike,some (.builtin "ValueError.__new__"),k5_NotAlike]⟩) (v_NotAlike:PySem.W.excIn K C_NotAlike VB "ValueError.__new__" = true)
    (ga_NoBottom:PySem.W.findIn K (.ref C_NoBottom) "__getattribute__" = some (some (.builtin "BaseException.__getattribute__"))) (ge_NoBottom:PySem.W.findIn K (.ref C_NoBottom) "__getattr__" = some none) (cl_NoBottom:PySem.W.findIn K (.ref C_NoBottom) "__class__" = some (some (.builtin "object.__class__"))) (ob_NoBottom:PySem.W.mroIn K C_NoBottom (.type "object")=some true) (be_NoBottom:PySem.W.mroIn K C_NoBottom (.type "BaseException")=some true)
    (ga_NoStep:PySem.W.findIn K (.ref C_NoStep) "__getattribute__" = some (some (.builtin "BaseException.__getattribute__"))) (ge_NoStep:PySem.W.findIn K (.ref C_NoStep) "__getattr__" = some none) (cl_NoStep:PySem.W.findIn K (.ref C_NoStep) "__class__" = some (some (.builtin "object.__class__"))) (ob_NoStep:PySem.W.mroIn K C_NoStep (.type "object")=some true) (be_NoStep:PySem.W.mroIn K C_NoStep (.type "BaseException")=some true)
    (ga_NoText:PySem.W.findIn K (.ref C_NoText) "__getattribute__" = some (some (.builtin "BaseException.__getattribute__"))) (ge_NoText:PySem.W.findIn K (.ref C_NoText) "__getattr__" = some none) (cl_NoText:PySem.W.findIn K (.ref C_NoText) "__class__" = some (some (.builtin "object.__class__"))) (ob_NoText:PySem.W.mroIn K C_NoText (.type "object")=some true) (be_NoText:PySem.W.mroIn K C_NoText (.type "BaseException")=some true)
    (ga_NotAlike:PySem.W.findIn K (.ref C_NotAlike) "__getattribute__" = some (some (.builtin "BaseException.__getattribute__"))) (ge_NotAlike:PySem.W.findIn K (.ref C_NotAlike) "__getattr__" = some none) (cl_NotAlike:PySem.W.findIn K (.ref C_NotAlike) "__class__" = some (some (.builtin "object.__class__"))) (ob_NotAlike:PySem.W.mroIn K C_NotAlike (.type "object")=some true) (be_NotAlike:PySem.W.mroIn K C_NotAlike (.type "BaseException")=some true)
    (kt1:PySem.W.kitAny K (.ref C_NoText) [.ref C_NoTable,.ref C_NoBottom,.ref C_NotAlike,.ref C_NoStep,.ref C_NoMix,.ref C_NotEven]=some false)
    (kt2:PySem.W.kitAny K (.ref C_NoText) [.ref C_NoSwap,.ref C_NoBounds,.ref C_NoPlace,.ref C_NoSums,.ref C_TooGreat,.ref C_NoNumber]=some false)
    (kv_NoText:PySem.W.kitOne K (.ref C_NoText) (.type "ValueError")=some true)
    {tk_FIGURES:Tok} (g_FIGURES:PySem.W.nsIn K mainGlobals "FIGURES" = some (some (Value.str "0123456789" tk_FIGURES)))
    {tk_MOST:Tok} (g_MOST:PySem.W.nsIn K mainGlobals "MOST" = some (some (Value.int 8 tk_MOST)))
    {tk_MOST_FIGURES:Tok} (g_MOST_FIGURES:PySem.W.nsIn K mainGlobals "MOST_FIGURES" = some (some (Value.int 30 tk_MOST_FIGURES)))
    {tk_PIECE:Tok} (g_PIECE:PySem.W.nsIn K mainGlobals "PIECE" = some (some (Value.int 1000000000000000000 tk_PIECE)))
    {tk_PIECE_FIGURES:Tok} (g_PIECE_FIGURES:PySem.W.nsIn K mainGlobals "PIECE_FIGURES" = some (some (Value.int 18 tk_PIECE_FIGURES)))
    {c_fp:Addr} (hcf:cd23=.ref c_fp) (hch:PySem.W.codeHdIn K c_fp L3.uW=true)
    (z_len:PySem.W.nsIn K mainGlobals "len" = some none) (z_isinstance:PySem.W.nsIn K mainGlobals "isinstance" = some none) (z_int:PySem.W.nsIn K mainGlobals "int" = some none) (z_bool:PySem.W.nsIn K mainGlobals "bool" = some none) (z_list:PySem.W.nsIn K mainGlobals "list" = some none) (z_range:PySem.W.nsIn K mainGlobals "range" = some none) (z_sum:PySem.W.nsIn K mainGlobals "sum" = some none) (z_sorted:PySem.W.nsIn K mainGlobals "sorted" = some none) (z_tuple:PySem.W.nsIn K mainGlobals "tuple" = some none) (z_str:PySem.W.nsIn K mainGlobals "str" = some none) (z_min:PySem.W.nsIn K mainGlobals "min" = some none) (z_max:PySem.W.nsIn K mainGlobals "max" = some none) (z_all:PySem.W.nsIn K mainGlobals "all" = some none) (z_reversed:PySem.W.nsIn K mainGlobals "reversed" = some none) (z_abs:PySem.W.nsIn K mainGlobals "abs" = some none) (z_zip:PySem.W.nsIn K mainGlobals "zip" = some none) (z_ValueError:PySem.W.nsIn K mainGlobals "ValueError" = some none) :
    ∃fd:FuncData,(∀(s:Shared) (v:Value),BindsTo s fd ⟨[v],[]⟩ [("_law_script",v)])∧∀base:Heap,K.In base→base.Ns mainGlobals mg→L3.BMd base mg→bE l.prog w K mg base CX0 7 fa fd sF (L3.spP K qO):=by
  have e:=hfa.symm.trans (PySem.W.mg_of X G a50)
  cases e
  have T:∀base:Heap,L3.BMd base mg→Txt K mg base:=fun base hbm_=>⟨PySem.W.mg_none_of X G z_len,PySem.W.mg_none_of X G z_isinstance,PySem.W.mg_none_of X G z_int,PySem.W.mg_none_of X G z_bool,PySem.W.mg_none_of X G z_list,PySem.W.mg_none_of X G z_range,PySem.W.mg_none_of X G z_sum,PySem.W.mg_none_of X G z_sorted,PySem.W.mg_none_of X G z_tuple,PySem.W.mg_none_of X G z_str,PySem.W.mg_none_of X G z_min,PySem.W.mg_none_of X G z_max,PySem.W.mg_none_of X G z_all,PySem.W.mg_none_of X G z_reversed,PySem.W.mg_none_of X G z_abs,PySem.W.mg_none_of X G z_zip,PySem.W.mg_none_of X G z_ValueError,⟨_,PySem.W.mg_of X G g_FIGURES⟩,⟨_,PySem.W.mg_of X G g_MOST⟩,⟨_,PySem.W.mg_of X G g_MOST_FIGURES⟩,⟨_,PySem.W.mg_of X G g_PIECE⟩,⟨_,PySem.W.mg_of X G g_PIECE_FIGURES⟩,⟨f23,_,c_fp,PySem.W.mg_of X G a23,⟨_,_,_,l23⟩,hcf,hch,hbm_⟩⟩
  have F0:=aM (st:=eA) l0 c0 k0
  have E0:FnAt K mg "is_number" eA gD f0 _:=⟨F0,PySem.W.mg_of X G a0,F0.binds (ps:=gD) fun _ _ _ _ _ _ us hl=>match us,hl with | [_],_=>rfl⟩
  have F1:=aM (st:=e9) l1 c1 k1
  have E1:FnAt K mg "is_place" e9 iu f1 _:=⟨F1,PySem.W.mg_of X G a1,F1.binds (ps:=iu) fun _ _ _ _ _ _ us hl=>match us,hl with | [_,_],_=>rfl⟩
  have F2:=aM (st:=cq) l2 c2 k2
  have E2:FnAt K mg "check_bottom" cq dY f2 _:=⟨F2,PySem.W.mg_of X G a2,F2.binds (ps:=dY) fun _ _ _ _ _ _ us hl=>match us,hl with | [_],_=>rfl⟩
  have F3:=aM (st:=bo) l3 c3 k3
  have E3:FnAt K mg "greatest_divisor" bo bX f3 _:=⟨F3,PySem.W.mg_of X G a3,F3.binds (ps:=bX) fun _ _ _ _ _ _ us hl=>match us,hl with | [_,_],_=>rfl⟩
  have F4:=aM (st:=dD) l4 c4 k4
  have E4:FnAt K mg "divisor_of" dD fF f4 _:=⟨F4,PySem.W.mg_of X G a4,F4.binds (ps:=fF) fun _ _ _ _ _ _ us hl=>match us,hl with | [_,_],_=>rfl⟩
  have F5:=aM (st:=b9) l5 c5 k5
  have E5:FnAt K mg "divided_row" b9 eO f5 _:=⟨F5,PySem.W.mg_of X G a5,F5.binds (ps:=eO) fun _ _ _ _ _ _ us hl=>match us,hl with | [_,_],_=>rfl⟩
  have F6:BL K "least_terms" "least_terms" cj [Value.int 1 dtk6] f6 _:=⟨⟨_,_,_,_,_,_,_,_,_,_,_,_,rfl,l6,c6,d6,rfl⟩,k6⟩
  have E6:zq K mg "least_terms" cj dH [.int 1] f6 _:=⟨⟨_,.cons ⟨_,rfl⟩ .nil,F6,F6.binds (ps:=dH) (ds:=[Value.int 1 dtk6]) fun _ _ _ _ _ _ _ us hl=>match us,(show us.length=1 from by rw[List.length_append] at hl;exact Nat.add_right_cancel (show us.length+1=1+1 from hl)) with | [_],_=>⟨_,rfl,rfl⟩⟩,PySem.W.mg_of X G a6,F6.binds (ps:=dH) (ds:=[]) fun _ _ _ _ _ _ _ us hl=>match us,hl with | [_,_],_=>⟨_,rfl,rfl⟩⟩
  have F7:=aM (st:=bN) l7 c7 k7
  have E7:FnAt K mg "read_table" bN fH f7 _:=⟨F7,PySem.W.mg_of X G a7,F7.binds (ps:=fH) fun _ _ _ _ _ _ us hl=>match us,hl with | [_],_=>rfl⟩
  have F8:=aM (st:=dy) l8 c8 k8
  have E8:FnAt K mg "is_shaped" dy gw f8 _:=⟨F8,PySem.W.mg_of X G a8,F8.binds (ps:=gw) fun _ _ _ _ _ _ us hl=>match us,hl with | [_],_=>rfl⟩
  have F9:=aM (st:=cI) l9 c9 k9
  have E9:FnAt K mg "is_written" cI fM f9 _:=⟨F9,PySem.W.mg_of X G a9,F9.binds (ps:=fM) fun _ _ _ _ _ _ us hl=>match us,hl with | [_],_=>rfl⟩
  have F10:=aM (st:=cf) l10 c10 k10
  have E10:FnAt K mg "is_fraction" cf eM f10 _:=⟨F10,PySem.W.mg_of X G a10,F10.binds (ps:=eM) fun _ _ _ _ _ _ us hl=>match us,hl with | [_],_=>rfl⟩
  have F11:=aM (st:=cy) l11 c11 k11
  have E11:FnAt K mg "without_sign" cy dW f11 _:=⟨F11,PySem.W.mg_of X G a11,F11.binds (ps:=dW) fun _ _ _ _ _ _ us hl=>match us,hl with | [_],_=>rfl⟩
  have F12:=aM (st:=cG) l12 c12 k12
  have E12:FnAt K mg "is_figures" cG fL f12 _:=⟨F12,PySem.W.mg_of X G a12,F12.binds (ps:=fL) fun _ _ _ _ _ _ us hl=>match us,hl with | [_],_=>rfl⟩
  have F13:=aM (st:=ek) l13 c13 k13
  have E13:FnAt K mg "is_lowest" ek gF f13 _:=⟨F13,PySem.W.mg_of X G a13,F13.binds (ps:=gF) fun _ _ _ _ _ _ us hl=>match us,hl with | [_,_],_=>rfl⟩
  have F14:=aM (st:=iR) l14 c14 k14
  have E14:FnAt K mg "top_of" iR kP f14 _:=⟨F14,PySem.W.mg_of X G a14,F14.binds (ps:=kP) fun _ _ _ _ _ _ us hl=>match us,hl with | [_],_=>rfl⟩
  have F15:=aM (st:=ee) l15 c15 k15
  have E15:FnAt K mg "bottom_of" ee gO f15 _:=⟨F15,PySem.W.mg_of X G a15,F15.binds (ps:=gO) fun _ _ _ _ _ _ us hl=>match us,hl with | [_],_=>rfl⟩
  have F16:=aM (st:=bS) l16 c16 k16
  have E16:FnAt K mg "common_bottom" bS dq f16 _:=⟨F16,PySem.W.mg_of X G a16,F16.binds (ps:=dq) fun _ _ _ _ _ _ us hl=>match us,hl with | [_],_=>rfl⟩
  have F17:=aM (st:=b8) l17 c17 k17
  have E17:FnAt K mg "raised_tops" b8 eQ f17 _:=⟨F17,PySem.W.mg_of X G a17,F17.binds (ps:=eQ) fun _ _ _ _ _ _ us hl=>match us,hl with | [_,_],_=>rfl⟩
  have F18:=aM (st:=cF) l18 c18 k18
  have E18:FnAt K mg "show_table" cF fG f18 _:=⟨F18,PySem.W.mg_of X G a18,F18.binds (ps:=fG) fun _ _ _ _ _ _ us hl=>match us,hl with | [_,_],_=>rfl⟩
  have F19:=aM (st:=dB) l19 c19 k19
  have E19:FnAt K mg "shown_row" dB gx f19 _:=⟨F19,PySem.W.mg_of X G a19,F19.binds (ps:=gx) fun _ _ _ _ _ _ us hl=>match us,hl with | [_,_],_=>rfl⟩
  have F20:=aM (st:=bF) l20 c20 k20
  have E20:FnAt K mg "shown_fraction" bF cR f20 _:=⟨F20,PySem.W.mg_of X G a20,F20.binds (ps:=cR) fun _ _ _ _ _ _ us hl=>match us,hl with | [_,_],_=>rfl⟩
  have F21:=aM (st:=cm) l21 c21 k21
  have E21:FnAt K mg "shown_number" cm dX f21 _:=⟨F21,PySem.W.mg_of X G a21,F21.binds (ps:=dX) fun _ _ _ _ _ _ us hl=>match us,hl with | [_],_=>rfl⟩
  have F22:=aM (st:=gA) l22 c22 k22
  have E22:FnAt K mg "falling" gA jz f22 _:=⟨F22,PySem.W.mg_of X G a22,F22.binds (ps:=jz) fun _ _ _ _ _ _ us hl=>match us,hl with | [_],_=>rfl⟩
  have F23:=aM (st:=bI) l23 c23 k23
  have E23:FnAt K mg "falling_places" bI cM f23 _:=⟨F23,PySem.W.mg_of X G a23,F23.binds (ps:=cM) fun _ _ _ _ _ _ us hl=>match us,hl with | [_],_=>rfl⟩
  have F24:=aM (st:=bJ) l24 c24 k24
  have E24:FnAt K mg "places_below" bJ dQ f24 _:=⟨F24,PySem.W.mg_of X G a24,F24.binds (ps:=dQ) fun _ _ _ _ _ _ us hl=>match us,hl with | [_,_],_=>rfl⟩
  have F25:=aM (st:=fB) l25 c25 k25
  have E25:FnAt K mg "heads_of" fB ig f25 _:=⟨F25,PySem.W.mg_of X G a25,F25.binds (ps:=ig) fun _ _ _ _ _ _ us hl=>match us,hl with | [_],_=>rfl⟩
  have F26:=aM (st:=cK) l26 c26 k26
  have E26:FnAt K mg "check_alike" cK eK f26 _:=⟨F26,PySem.W.mg_of X G a26,F26.binds (ps:=eK) fun _ _ _ _ _ _ us hl=>match us,hl with | [_,_],_=>rfl⟩
  have F27:=aM (st:=bh) l27 c27 k27
  have E27:FnAt K mg "first_head_above" bh bW f27 _:=⟨F27,PySem.W.mg_of X G a27,F27.binds (ps:=bW) fun _ _ _ _ _ _ us hl=>match us,hl with | [_,_],_=>rfl⟩
  have F28:=aM (st:=iQ) l28 c28 k28
  have E28:FnAt K mg "bar_of" iQ kK f28 _:=⟨F28,PySem.W.mg_of X G a28,F28.binds (ps:=kK) fun _ _ _ _ _ _ us hl=>match us,hl with | [_,_],_=>rfl⟩
  have F29:=aM (st:=ff) l29 c29 k29
  have E29:FnAt K mg "can_step" ff ik f29 _:=⟨F29,PySem.W.mg_of X G a29,F29.binds (ps:=ik) fun _ _ _ _ _ _ us hl=>match us,hl with | [_,_],_=>rfl⟩
  have F30:=aM (st:=eC) l30 c30 k30
  have E30:FnAt K mg "step_made" eC gJ f30 _:=⟨F30,PySem.W.mg_of X G a30,F30.binds (ps:=gJ) fun _ _ _ _ _ _ us hl=>match us,hl with | [_,_],_=>rfl⟩
  have F31:=aM (st:=fo) l31 c31 k31
  have E31:FnAt K mg "steps_to" fo iB f31 _:=⟨F31,PySem.W.mg_of X G a31,F31.binds (ps:=iB) fun _ _ _ _ _ _ us hl=>match us,hl with | [_,_],_=>rfl⟩
  have F32:=aM (st:=dC) l32 c32 k32
  have E32:FnAt K mg "row_behind" dC fC f32 _:=⟨F32,PySem.W.mg_of X G a32,F32.binds (ps:=fC) fun _ _ _ _ _ _ us hl=>match us,hl with | [_,_],_=>rfl⟩
  have F33:=aM (st:=bQ) l33 c33 k33
  have E33:FnAt K mg "evening_steps" bQ df f33 _:=⟨F33,PySem.W.mg_of X G a33,F33.binds (ps:=df) fun _ _ _ _ _ _ us hl=>match us,hl with | [_,_],_=>rfl⟩
  have F34:=aM (st:=bK) l34 c34 k34
  have E34:FnAt K mg "evening_step" bK dZ f34 _:=⟨F34,PySem.W.mg_of X G a34,F34.binds (ps:=dZ) fun _ _ _ _ _ _ us hl=>match us,hl with | [_,_],_=>rfl⟩
  have F35:=aM (st:=cu) l35 c35 k35
  have E35:FnAt K mg "exchanges_to" cu dU f35 _:=⟨F35,PySem.W.mg_of X G a35,F35.binds (ps:=dU) fun _ _ _ _ _ _ us hl=>match us,hl with | [_,_],_=>rfl⟩
  have F36:=aM (st:=bP) l36 c36 k36
  have E36:FnAt K mg "exchange_step" bP cY f36 _:=⟨F36,PySem.W.mg_of X G a36,F36.binds (ps:=cY) fun _ _ _ _ _ _ us hl=>match us,hl with | [_,_,_],_=>rfl⟩
  have F37:=aM (st:=gG) l37 c37 k37
  have E37:FnAt K mg "lead_to" gG jB f37 _:=⟨F37,PySem.W.mg_of X G a37,F37.binds (ps:=jB) fun _ _ _ _ _ _ us hl=>match us,hl with | [_,_],_=>rfl⟩
  have F38:=aM (st:=ck) l38 c38 k38
  have E38:FnAt K mg "plain_table" ck eR f38 _:=⟨F38,PySem.W.mg_of X G a38,F38.binds (ps:=eR) fun _ _ _ _ _ _ us hl=>match us,hl with | [_],_=>rfl⟩
  have F39:=aM (st:=dA) l39 c39 k39
  have E39:FnAt K mg "plain_row" dA gH f39 _:=⟨F39,PySem.W.mg_of X G a39,F39.binds (ps:=gH) fun _ _ _ _ _ _ us hl=>match us,hl with | [_,_],_=>rfl⟩
  have F40:=aM (st:=dw) l40 c40 k40
  have E40:FnAt K mg "led_table" dw gM f40 _:=⟨F40,PySem.W.mg_of X G a40,F40.binds (ps:=gM) fun _ _ _ _ _ _ us hl=>match us,hl with | [_,_,_],_=>rfl⟩
  have F41:=aM (st:=dG) l41 c41 k41
  have E41:FnAt K mg "mixed_row" dG gE f41 _:=⟨F41,PySem.W.mg_of X G a41,F41.binds (ps:=gE) fun _ _ _ _ _ _ us hl=>match us,hl with | [_,_,_,_],_=>rfl⟩
  have F42:=aM (st:=en) l42 c42 k42
  have E42:FnAt K mg "_law_whole" en gL f42 _:=⟨F42,PySem.W.mg_of X G a42,F42.binds (ps:=gL) fun _ _ _ _ _ _ us hl=>match us,hl with | [_],_=>rfl⟩
  have F43:=aM (st:=fe) l43 c43 k43
  have E43:FnAt K mg "_law_deck" fe iz f43 _:=⟨F43,PySem.W.mg_of X G a43,F43.binds (ps:=iz) fun _ _ _ _ _ _ us hl=>match us,hl with | [_,_],_=>rfl⟩
  have F44:=aM (st:=gC) l44 c44 k44
  have E44:FnAt K mg "_law_gcd" gC jy f44 _:=⟨F44,PySem.W.mg_of X G a44,F44.binds (ps:=jy) fun _ _ _ _ _ _ us hl=>match us,hl with | [_,_],_=>rfl⟩
  have F45:=aM (st:=bT) l45 c45 k45
  have E45:FnAt K mg "_law_more_even" bT du f45 _:=⟨F45,PySem.W.mg_of X G a45,F45.binds (ps:=du) fun _ _ _ _ _ _ us hl=>match us,hl with | [_,_],_=>rfl⟩
  have F46:=aM (st:=bR) l46 c46 k46
  have E46:FnAt K mg "_law_fractions" bR cZ f46 _:=⟨F46,PySem.W.mg_of X G a46,F46.binds (ps:=cZ) fun _ _ _ _ _ _ us hl=>match us,hl with | [_,_],_=>rfl⟩
  have F47:=aM (st:=cJ) l47 c47 k47
  have E47:FnAt K mg "_law_written" cJ eP f47 _:=⟨F47,PySem.W.mg_of X G a47,F47.binds (ps:=eP) fun _ _ _ _ _ _ us hl=>match us,hl with | [_,_],_=>rfl⟩
  have F48:=aM (st:=fm) l48 c48 k48
  have E48:FnAt K mg "_law_read" fm ip f48 _:=⟨F48,PySem.W.mg_of X G a48,F48.binds (ps:=ip) fun _ _ _ _ _ _ us hl=>match us,hl with | [_,_,_],_=>rfl⟩
  have F49:=aM (st:=cL) l49 c49 k49
  have E49:FnAt K mg "_law_refused" cL eJ f49 _:=⟨F49,PySem.W.mg_of X G a49,F49.binds (ps:=eJ) fun _ _ _ _ _ _ us hl=>match us,hl with | [_],_=>rfl⟩
  have F50:=aM (st:=ka) l50 c50 k50
  have E50:FnAt K mg "law" ka sF fa _:=⟨F50,PySem.W.mg_of X G a50,F50.binds (ps:=sF) fun _ _ _ _ _ _ us hl=>match us,hl with | [_],_=>rfl⟩
  have A_:Fns K mg:=⟨⟨_,_,E0⟩,⟨_,_,E1⟩,⟨_,_,E2⟩,⟨_,_,E3⟩,⟨_,_,E4⟩,⟨_,_,E5⟩,⟨_,_,E6⟩,⟨_,_,E7⟩,⟨_,_,E8⟩,⟨_,_,E9⟩,⟨_,_,E10⟩,⟨_,_,E11⟩,⟨_,_,E12⟩,⟨_,_,E13⟩,⟨_,_,E14⟩,⟨_,_,E15⟩,⟨_,_,E16⟩,⟨_,_,E17⟩,⟨_,_,E18⟩,⟨_,_,E19⟩,⟨_,_,E20⟩,⟨_,_,E21⟩,⟨_,_,E22⟩,⟨_,_,E23⟩,⟨_,_,E24⟩,⟨_,_,E25⟩,⟨_,_,E26⟩,⟨_,_,E27⟩,⟨_,_,E28⟩,⟨_,_,E29⟩,⟨_,_,E30⟩,⟨_,_,E31⟩,⟨_,_,E32⟩,⟨_,_,E33⟩,⟨_,_,E34⟩,⟨_,_,E35⟩,⟨_,_,E36⟩,⟨_,_,E37⟩,⟨_,_,E38⟩,⟨_,_,E39⟩,⟨_,_,E40⟩,⟨_,_,E41⟩,⟨_,_,E42⟩,⟨_,_,E43⟩,⟨_,_,E44⟩,⟨_,_,E45⟩,⟨_,_,E46⟩,⟨_,_,E47⟩,⟨_,_,E48⟩,⟨_,_,E49⟩,⟨_,_,E50⟩⟩
  exact⟨PySem.W.fnOf "law" "law" (ay ka) (ax ka) (ai ka) .none kV50 dc50 pm50 an50 cd50 ct50,fun s v=>.of_eq rfl,fun base hb _ hbm=>IE E50 A_ (T base hbm) (c:=⟨C_MixError,C_NoTable,C_NoBottom,C_NotAlike,C_NoStep,C_NoMix,C_NotEven,C_NoSwap,C_NoBounds,C_NoPlace,C_NoSums,C_TooGreat,C_NoNumber,C_NoText⟩) ⟨PySem.W.mg_of X G e_MixError,PySem.W.mg_of X G e_NoTable,PySem.W.mg_of X G e_NoBottom,PySem.W.mg_of X G e_NotAlike,PySem.W.mg_of X G e_NoStep,PySem.W.mg_of X G e_NoMix,PySem.W.mg_of X G e_NotEven,PySem.W.mg_of X G e_NoSwap,PySem.W.mg_of X G e_NoBounds,PySem.W.mg_of X G e_NoPlace,PySem.W.mg_of X G e_NoSums,PySem.W.mg_of X G e_TooGreat,PySem.W.mg_of X G e_NoNumber,PySem.W.mg_of X G e_NoText,dJ.of_lookup (ups:=[]) hb u_MixError rfl v_MixError,dJ.of_lookup (ups:=[C_MixError]) hb u_NoBottom rfl v_NoBottom,⟨ga_NoBottom,ge_NoBottom,cl_NoBottom,ob_NoBottom,be_NoBottom,by unfold PySem.W.clsIn;rw[u_NoBottom];rfl⟩,dJ.of_lookup (ups:=[C_MixError]) hb u_NoStep rfl v_NoStep,⟨ga_NoStep,ge_NoStep,cl_NoStep,ob_NoStep,be_NoStep,by unfold PySem.W.clsIn;rw[u_NoStep];rfl⟩,dJ.of_lookup (ups:=[C_MixError]) hb u_NoText rfl v_NoText,⟨ga_NoText,ge_NoText,cl_NoText,ob_NoText,be_NoText,by unfold PySem.W.clsIn;rw[u_NoText];rfl⟩,dJ.of_lookup (ups:=[C_MixError]) hb u_NotAlike rfl v_NotAlike,⟨ga_NotAlike,ge_NotAlike,cl_NotAlike,ob_NotAlike,be_NotAlike,by unfold PySem.W.clsIn;rw[u_NotAlike];rfl⟩,kt1,kt2,kv_NoText⟩⟩
theorem walk {l:PySem.W.OpenLaw}{q:Program}{loose:List Str}{XP:(Str→Option Value)→Heap→Prop}{YP:World→Heap→Prop}{d:DefRec}{K:Params→PySem.W.Frag} (hn:l.most=some 63) (hdf:d.params.defaults=[])
    (hY:∀(w:World) (h:Heap),YP w h→(K w.params).In h) (hT:∀(w:World) (h:Heap),YP w h→h.get? L3.uW=some (PySem.W.tabObj #[])) (hKP:∀w:World,(K w.params).lookup L3.uW=none) {c_:Addr} (hcd:∀w:World,PySem.W.codeHdIn (K w.params) c_ L3.uW=true)
    (F:∀(w:World) (mg:Str→Option Value) (fa:Addr) (h:Heap),(K w.params).In h→h.Ns mainGlobals mg→mg d.name=some (.ref fa) →
      ∃fd:FuncData,(∀(s:Shared) (u:Value),BindsTo s fd ⟨[u],[]⟩ [("_law_script",u)])∧∀base:Heap,(K w.params).In base→base.Ns mainGlobals mg→L3.BMd base mg→bE l.prog w (K w.params) mg base CX0 7 fa fd ["_law_script"] (L3.spP (K w.params) qO)) :
    PySem.W.WalkO q loose XP YP l.row.toRowW d [] (fun f vs=>PySem.call f vs) :=
  L3.Ey (n:=63) (k:=7) (x:="_law_script") (CX:=fun _=>CX0) (sp:=fun w=>L3.spP (K w.params) qO) hn (by decide) hdf ⟨rfl,by decide,by decide⟩ hY hT hKP hcd F (fun w H a ns hl hO hS=>⟨[.scr ns],⟨[],_,_,[],[],rfl,rfl,⟨a,rfl,L3.IP hO hS,rfl⟩,rfl,rfl⟩,hO.tab,Fp hl (fun v H' fp s r n=>r.1)⟩) fun _ _ _ _ _ z=>z
end Mine
open PySem PySem.W PyProof.Rows
namespace PySem.W.Fast
def tw2158357537141773665:=0
def tw13540581150235026099:=0
def tw5319221488221267982:=0
def tw2350707312196831274:=0
def tw111189934318365296:=0
def tw1171356185496714896:=0
def tw5860512309722516023:=0
def tw17236161999567893331:=0
def tw4202428509737091468:=0
def tw3644842454467056392:=0
def tw15114825599094438197:=0
def tw11660785033113540973:=0
def tw9520673976913131268:=0
def tw4240119652511066714:=0
def tw12818994989851137521:=0
def tw17147411161438040764:=0
def tw264928446614924701:=0
def tw4719858990695620513:=0
def tw6058860896606195813:=0
def tw12031696932563618843:=0
def tw16527350425039328645:=0
def tw9054822473377493883:=0
def tw13593624446536206835:=0
def tw4385875553609302508:=0
def tw17657793816495863794:=0
def tw16338144368868175013:=0
def tw17900119492103698413:=0
def tw9649924744469596017:=0
def tw5545162762601597193:=0
def tw6126235087820364558:=0
def tw17001883214355507792:=0
def tw3042852825842177096:=0
def tw14771358784731577622:=0
def tw6265418747072775510:=0
def tw13980074124424387679:=0
def tw2292038219238023422:=0
def tw11712221636281041205:=0
def tw6488140459001307152:=0
def tw17370787181259486990:=0
def tw1329781210506147635:=0
def tw4286486214405819349:=0
def tw17159852381747958873:=0
def tw15388828648022990041:=0
def tw6467478975987840231:=0
def tw11804644922116196860:=0
def tw10061548655553835896:=0
def tw3005396262736308244:=0
def tw12549346974770679582:=0
def tw4115107349483723630:=0
def tw9966654707573311987:=0
def tw6674408516912577272:=0
def tw14429030584388883031:=0
def tw17645477290704912977:=0
def tw15525734869868291922:=0
def tw6120816523511725129:=0
def tw5472759856986990397:=0
def tw17537494392385533383:=0
def tw5056571688312186390:=0
def tw12928449375331039159:=0
def tw13231358209765661941:=0
def tw13017364335840836057:=0
def tw13719886091122087227:=0
def tw5794501772584809671:=0
def tw10078399526233064603:=0
def tw6781427621543338115:=0
def tw10545276966140664755:=0
def tw3131399937212689752:=0
def tw14436127089634926025:=0
def tw11565806035643347997:=0
def tw9576400896665519692:=0
def tw17942767687715666674:=0
def tw9597858565876412095:=0
def tw17178308274074592254:=0
def tw6635496009856933530:=0
def tw6721943768484742179:=0
def tw12468856136357876907:=0
def tw6020437660115762470:=0
def tw10626064707471804051:=0
def tw7121199235033989765:=0
def tw16497580112119826080:=0
def tw5363222862646921120:=0
def tw7239877969488605419:=0
def tw7468588574584998656:=0
def tw1506384343589166057:=0
def tw4340472612572100595:=0
def tw2931633173688311882:=0
def tw1353921109760635672:=0
def tw2073120057162115428:=0
def tw12766869952484518477:=0
def tw15382707540831670363:=0
def tw4418735754770967775:=0
def tw16102052236523799022:=0
def tw16294259818252230343:=0
def tw6954541374424234357:=0
def tw18320371103618875195:=0
def tw2246654099211310567:=0
def tw12333336611005522743:=0
def tw6243499404066372708:=0
def tw7588483451973395749:=0
def tw9760703562472370275:=0
def tw15822370115578592670:=0
def tw14115146525534841449:=0
def tw8336098656919837377:=0
def tw7538313728927139241:=0
def tw11144907724200833456:=0
def tw557720610786853648:=0
def tw1349897234769482609:=0
def tw14550784329532895643:=0
def tw17301217396336712245:=0
def tw7719334601227165890:=0
def tw5622194218009454616:=0
def tw8460573563626256678:=0
def tw16482961174726268001:=0
def tw767089681592780039:=0
def tw5253915014032269630:=0
def tw3493634400101931135:=0
def tw393961984918872329:=0
def tw14467588651633799488:=0
def tw3574557080881042277:=0
def tw11334129457697436193:=0
def tw14920149387280061476:=0
def tw8756948025462704912:=0
def tw14792413365365296625:=0
def tw18203605072544191811:=0
def tw13001293805160418389:=0
def tw11367134333217727164:=0
def tw6894027328082291821:=0
def tw11893215167434741629:=0
def tw7698159998021224251:=0
def tw5148453150757731604:=0
def tw8873033989552950282:=0
def tw1138807076134977283:=0
def tw3567966531393734716:=0
def tw17989628680392017577:=0
def tw13797711941500029838:=0
def tw15518915393842210024:=0
def tw8436679721735931689:=0
def tw10917897160361394750:=0
def tw13114676008515601520:=0
def tw13701764311434665099:=0
def tw3565525957193031240:=0
def tw12302054761469145620:=0
def tw11741403353866098342:=0
def tw3788962771577592680:=0
def tw9849097575672451649:=0
def tw9974157511071418447:=0
def tw13148484267654645004:=0
def tw8713139714793640789:=0
def tw11487288323727425704:=0
def tw9510405470432651218:=0
def tw10213180694772714088:=0
def tw14300788980433103076:=0
def tw12848076700813713808:=0
def tw15593887427801255289:=0
def tw18146067493569641528:=0
def tw9160501191089060465:=0
def tw7273374680473633814:=0
def tw17439470323692807334:=0
def tw7393094537617840480:=0
def tw2945176495753961853:=0
def tw10299596558318887870:=0
def tw13852337785738635278:=0
def tw6615518393806695076:=0
def tw4029726961337918433:=0
def tw17575409657856032226:=0
def tw4539041924773764497:=0
def tw9113125676963705738:=0
def tw17399084244666847345:=0
def tw16314420985153846992:=0
def tw2488487325385357072:=0
def tw10033759565541763758:=0
def tw7526624566845986069:=0
def tw15455429094791381704:=0
def tw14399799357313227118:=0
def tw7249812995653665562:=0
def tw3080511882202798781:=0
def tw9692779575553264270:=0
def tw1154521694123257320:=0
def tw7840022154953638053:=0
def tw16759510098274985662:=0
def tw16990351227207813694:=0
def tw16220269132711826487:=0
def tw18321775356258955683:=0
def tw14428599434511932200:=0
def tw4788976872935271549:=0
def tw8425761059477835044:=0
def tw431492292028661035:=0
def tw5322243525315780398:=0
def tw12369781260308543983:=0
def tw9122149526064830577:=0
def tw11834517264317114130:=0
def tw6578943427916242597:=0
def tw2921463163441129759:=0
def tw419030997218319888:=0
def tw7637542166786282200:=0
def tw8797756165688979058:=0
def tw15159036918007652277:=0
def tw12054202127706134153:=0
def tw7651905164148799513:=0
def tw6245436462229027632:=0
def tw15302958877058391864:=0
def tw14369655557930211584:=0
def tw3358236452269925943:=0
def tw10604898134559789712:=0
def tw4707682176080930359:=0
def tw3556136317993710329:=0
def tw10194414717122196609:=0
def tw7374293638368815026:=0
def tw449207878384108037:=0
def tw11742272250735896895:=0
def tw6967066947404872309:=0
def tw5592197927764450689:=0
def tw848157815131047897:=0
def tw371445516175341421:=0
def tw17857968945592142479:=0
def tw6795596455715176101:=0
def tw1856531462621207469:=0
def tw2079842258205082495:=0
def tw6132867134148964460:=0
def tw3060741102024342535:=0
def tw2176950762159094209:=0
def tw8404255626669370377:=0
def tw8639620452963774679:=0
def tw6205979291581774339:=0
def tw12356597590732521982:=0
def tw4137849228122397840:=0
def tw7078980086572515870:=0
def tw12338161915593858152:=0
def tw8794268269943050296:=0
def tw6858503138081573263:=0
def tw5916101075879701095:=0
def tw18417860301493223109:=0
def tw614254023901066311:=0
def tw8657925732386335093:=0
def tw9112770183785515991:=0
def tw3924566295697455746:=0
def tw8114592508421181:=0
def tw14039154436249650325:=0
def tw12120683608086858742:=0
def tw5668982010341774605:=0
def tw1819614473041393988:=0
def tw15475046267454038821:=0
def tw13076752031926862801:=0
def tw15140809339216250388:=0
def tw12342489683161396324:=0
def tw12669476502576550306:=0
def tw15342518217835725807:=0
def tw8177467382687366832:=0
def tw544872478596230414:=0
def tw16890525249837970510:=0
def tw287804734431893179:=0
def tw5626721190694915768:=0
def tw11672877875610621288:=0
def tw4620212348490401426:=0
def tw12142410321806358419:=0
def tw516084324414079382:=0
def tw17240255742276300961:=0
def tw8870836825669565886:=0
def tw11027521884216772103:=0
def tw9001063217747217371:=0
def tw8916398609442391582:=0
def tw2284196729456549124:=0
def tw3228299096809377078:=0
def tw6874702887775864483:=0
def tw15792673841513203459:=0
def tw8520901581269807941:=0
def tw8975297941273621070:=0
def tw2265439420008179836:=0
def tw189993735992117341:=0
def tw2708907187532692383:=0
def tw11068694070030120959:=0
def tw15497453449374923795:=0
def tw7745586863490341370:=0
def tw13281826057715532414:=0
def tw4441546157568035991:=0
def tw12017036796104260303:=0
def tw12004346330676071997:=0
def tw17563726498050625662:=0
def tw1834803382893021064:=0
def tw11427427469873668657:=0
def tw4711648111496624434:=0
def tw10549632183741843461:=0
def tw8138878208006086835:=0
def tw15432155283566357719:=0
def tw4432625483760541024:=0
def tw13248616110884600872:=0
def tw12012186959809648466:=0
def tw2154407664838265424:=0
def tw9186586212087493656:=0
def tw14993902086926714956:=0
def tw1401973557101036792:=0
def tw7229638691664733738:=0
def tw15024499478596999210:=0
def tw6440711804227502713:=0
def tw1404905655934661206:=0
def tw9726397293685198331:=0
def tw591922048182866122:=0
def tw7545927524249140520:=0
def tw138803334061643071:=0
def tw174538650789057045:=0
def tw1625423355917645583:=0
def tw14691842125275415158:=0
def tw6644031284257927183:=0
def tw5831906733068971489:=0
def tw8369685084608325720:=0
def tw11329823371159731406:=0
def tw8098315852362262337:=0
def tw1979298471619419093:=0
def tw10300608176619747195:=0
def tw7371570209606906035:=0
def tw12543818686395177968:=0
def tw15521723279731274737:=0
def tw8931529723013383268:=0
def tw6062681549342002956:=0
def tw13510499597437301253:=0
def tw14538494964228145844:=0
def tw10173833069212887067:=0
def tw8396705319926366468:=0
def tw17031373934154123037:=0
def tw10195344397464596341:=0
def tw13260657087286234699:=0
def tw8072057656652392898:=0
def tw4285463683009884167:=0
def tw2005568077748861464:=0
def tw7512210847134901779:=0
def tw7918313116510415867:=0
def tw12372325865261680092:=0
def tw11332168248339553410:=0
def tw12140795853868843591:=0
def tw7475390414481480574:=0
def tw3414540379085333426:=0
def tw13158467287286139743:=0
def tw11796704713756208878:=0
def tw17831982661538268672:=0
def tw4452627287154175567:=0
def tw6285989186492761692:=0
def tw7321056066723303856:=0
def tw15194544387299243494:=0
def tw18357721705907818046:=0
def tw16356622888141975664:=0
def tw2656827994964922137:=0
def tw8216390099743156682:=0
def tw17148662687695748254:=0
def tw4430499220512741359:=0
def tw16627170560621504304:=0
def tw6946204689644238651:=0
def tw9084405345004812525:=0
def tw5829289108141530820:=0
def tw16071970688357747178:=0
def tw10036978129102231593:=0
def tw3550847813542790323:=0
def tw4573006369594670369:=0
def tw5703805264545120098:=0
def tw7863848185482372988:=0
def tw12323770500962601920:=0
def tw10950191396413190526:=0
def tw9184618394359333604:=0
def tw2714953623701037079:=0
def tw12472629698467553462:=0
def tw7011880984431328895:=0
def tw13155362385233825641:=0
def tw4600830747479818199:=0
def tw15613074014373694423:=0
def tw16297755436488129706:=0
def tw15123806204141332549:=0
def tw15442772253518521830:=0
def tw830157470985559016:=0
def tw6019565310354147374:=0
def tw8728864344924318859:=0
def tw10362127660107345029:=0
def tw15001472005156002853:=0
def tw2642720020254662803:=0
def tw3546308622080920171:=0
def tw2157436138845640996:=0
def tw768208895166542334:=0
def tw18229490084042579941:=0
def tw2895737324897085440:=0
def tw10649984012318096124:=0
def tw13401830393442340451:=0
def tw16617501435155998832:=0
def tw5426564894516554118:=0
def tw5627441697858885613:=0
def tw12962581756916057839:=0
def tw12726901147243937786:=0
def tw2811788396925422918:=0
def tw6701239524979345123:=0
def tw15679183210557919384:=0
def tw9000765429560014659:=0
def tw12348862989402993880:=0
def tw16473897965934890472:=0
def tw7571155255106963659:=0
def tw14685818463222470778:=0
def tw1915758677977803993:=0
def tw4101683235733433689:=0
def tw15876620484508595821:=0
def tw6538168693507367998:=0
def tw12953997177038437472:=0
def tw1402098289387281760:=0
def tw3919470934828154082:=0
def tw4979108059737205370:=0
def tw14747483998738390475:=0
def tw16429025687446288466:=0
def tw6667535342113282930:=0
def tw1029853719563065987:=0
def tw11545289467697178014:=0
def tw15607688555919301074:=0
def tw17135601290668315177:=0
def tw5338319657376857143:=0
def tw5515725283085292616:=0
def tw17381577672952886109:=0
def tw6273042505813510285:=0
def tw16487262417771839238:=0
def tw15947629053135463834:=0
def tw1245514009433969968:=0
def tw173344686853649608:=0
def tw10397857075791733570:=0
def tw2919009755688530610:=0
def tw7284114680985289266:=0
def tw14038452121539835499:=0
def tw5211429648259441361:=0
def tw6181292792914741334:=0
def tw5370224755876524090:=0
def tw6607235970588807935:=0
def tw17976724479856620159:=0
def tw435059750666584108:=0
def tw11923811430929082534:=0
def tw818970950482317066:=0
def tw4428398486735384751:=0
def tw18388676140729004313:=0
def tw2378843457749320925:=0
def tw640563358783483429:=0
def tw591935518024428869:=0
def tw12542561126142525298:=0
def tw9116694251659607112:=0
def tw1331150674038727266:=0
def tw2564828698237815152:=0
def tw16452965717858967023:=0
def tw7072452163612569109:=0
def tw10682673790379457771:=0
def tw15998989622344659091:=0
def tw15842637136931128007:=0
def tw11894184203961185875:=0
def tw3480242217188365558:=0
def tw8317619651815752600:=0
def tw12256420637592366568:=0
def tw1238919185809339089:=0
def tw15894181916726353910:=0
def tw7690320538349733974:=0
def tw1432114189306230008:=0
def tw10604530788245972838:=0
def tw2875905077693238589:=0
def tw13928434223813773978:=0
def tw15974984624005940835:=0
def tw9869877471408453241:=0
def tw14376211557561635108:=0
def tw1558338339899343020:=0
def tw11809294598612711167:=0
def tw12295864620095426010:=0
def tw16624377997100358445:=0
def tw18361583629521347865:=0
def tw1143676650562802984:=0
def tw13795114958656640971:=0
def tw6914822525872978109:=0
def tw3108050424694282246:=0
def tw1641192583702803331:=0
def tw7578514031610379714:=0
def tw1105337864419164197:=0
def tw17079967584947868227:=0
def tw8703971357547598682:=0
def tw3944517102282389851:=0
def tw5630265729743611642:=0
def tw2237022689497499000:=0
def tw3207760986419238480:=0
def tw4203811179140448738:=0
def tw2770479685865139090:=0
def tw5992049489132610408:=0
def tw5371765207647708137:=0
def tw4874643415870368996:=0
def tw16972854883067025248:=0
def tw3412085560924792919:=0
def tw16702343996115956155:=0
def tw8718733653214315588:=0
def tw12522047260186227417:=0
def tw9170313978798419369:=0
def tw11755204438178220827:=0
def tw13411187964423614116:=0
def tw12226316358313608589:=0
def tw7203799923829889024:=0
def tw2072312816757787676:=0
def tw13196509391095143222:=0
def tw7430700350665718758:=0
def tw1947914286497997663:=0
def tw17837158283664552561:=0
def tw14047690538133635265:=0
def tw381541593358038704:=0
def tw17458847385390873462:=0
def tw15353562190223868364:=0
def tw14445678794189153326:=0
def tw2523509423091858217:=0
def tw13882447618731485244:=0
def tw6072250676230265997:=0
def tw9625409437155057908:=0
def tw4529770619153542885:=0
def tw17009448672937940158:=0
def tw6231723849488327006:=0
def tw9091297900917747732:=0
end PySem.W.Fast
set_option maxRecDepth 100000 in
set_option maxHeartbeats 0 in
theorem PySem.Challenge.cw_evenmix_k69_long_fractions_shown_holds : PySem.Challenge.rw_evenmix_k69_long_fractions_shown.Holds := by
  w_on;o_law;k_head;(case hw=>w_witness2)
  k_fill
  refine Mine.walk (l:=PySem.Challenge.rw_evenmix_k69_long_fractions_shown) rfl rfl (fun w h Y=>PySem.W.km_in_of Y) (fun w h Y=>PySem.W.km_tabs_of Y L3.uW (by decide)) (fun w=>by first | exact rfl | kernel_rfl) (c_:=331) (fun w=>by first | exact rfl | kernel_rfl) ?F
  case F =>
    intro w mg fa h KX G hmg
    refine' Mine.all_mk KX G hmg ?a0 ?l0 ?c0 ?k0 ?a1 ?l1 ?c1 ?k1 ?a2 ?l2 ?c2 ?k2 ?a3 ?l3 ?c3 ?k3 ?a4 ?l4 ?c4 ?k4 ?a5 ?l5 ?c5 ?k5 ?a6 ?l6 ?c6 ?k6 ?a7 ?l7 ?c7 ?k7 ?a8 ?l8 ?c8 ?k8 ?a9 ?l9 ?c9 ?k9 ?a10 ?l10 ?c10 ?k10 ?a11 ?l11 ?c11 ?k11 ?a12 ?l12 ?c12 ?k12 ?a13 ?l13 ?c13 ?k13 ?a14 ?l14 ?c14 ?k14 ?a15 ?l15 ?c15 ?k15 ?a16 ?l16 ?c16 ?k16 ?a17 ?l17 ?c17 ?k17 ?a18 ?l18 ?c18 ?k18 ?a19 ?l19 ?c19 ?k19 ?a20 ?l20 ?c20 ?k20 ?a21 ?l21 ?c21 ?k21 ?a22 ?l22 ?c22 ?k22 ?a23 ?l23 ?c23 ?k23 ?a24 ?l24 ?c24 ?k24 ?a25 ?l25 ?c25 ?k25 ?a26 ?l26 ?c26 ?k26 ?a27 ?l27 ?c27 ?k27 ?a28 ?l28 ?c28 ?k28 ?a29 ?l29 ?c29 ?k29 ?a30 ?l30 ?c30 ?k30 ?a31 ?l31 ?c31 ?k31 ?a32 ?l32 ?c32 ?k32 ?a33 ?l33 ?c33 ?k33 ?a34 ?l34 ?c34 ?k34 ?a35 ?l35 ?c35 ?k35 ?a36 ?l36 ?c36 ?k36 ?a37 ?l37 ?c37 ?k37 ?a38 ?l38 ?c38 ?k38 ?a39 ?l39 ?c39 ?k39 ?a40 ?l40 ?c40 ?k40 ?a41 ?l41 ?c41 ?k41 ?a42 ?l42 ?c42 ?k42 ?a43 ?l43 ?c43 ?k43 ?a44 ?l44 ?c44 ?k44 ?a45 ?l45 ?c45 ?k45 ?a46 ?l46 ?c46 ?k46 ?a47 ?l47 ?c47 ?k47 ?a48 ?l48 ?c48 ?k48 ?a49 ?l49 ?c49 ?k49 ?a50 ?l50 ?c50 ?k50 ?d6 ?e_MixError ?e_NoTable ?e_NoBottom ?e_NotAlike ?e_NoStep ?e_NoMix ?e_NotEven ?e_NoSwap ?e_NoBounds ?e_NoPlace ?e_NoSums ?e_TooGreat ?e_NoNumber ?e_NoText ?u_MixError ?v_MixError ?u_NoBottom ?v_NoBottom ?u_NoStep ?v_NoStep ?u_NoText ?v_NoText ?u_NotAlike ?v_NotAlike ?ga_NoBottom ?ge_NoBottom ?cl_NoBottom ?ob_NoBottom ?be_NoBottom ?ga_NoStep ?ge_NoStep ?cl_NoStep ?ob_NoStep ?be_NoStep ?ga_NoText ?ge_NoText ?cl_NoText ?ob_NoText ?be_NoText ?ga_NotAlike ?ge_NotAlike ?cl_NotAlike ?ob_NotAlike ?be_NotAlike ?kt1 ?kt2 ?kv_NoText ?g_FIGURES ?g_MOST ?g_MOST_FIGURES ?g_PIECE ?g_PIECE_FIGURES ?hcf ?hch ?z_len ?z_isinstance ?z_int ?z_bool ?z_list ?z_range ?z_sum ?z_sorted ?z_tuple ?z_str ?z_min ?z_max ?z_all ?z_reversed ?z_abs ?z_zip ?z_ValueError
    (case e_MixError=>k_is)
    (case e_NoTable=>k_is)
    (case e_NoBottom=>k_is)
    (case e_NotAlike=>k_is)
    (case e_NoStep=>k_is)
    (case e_NoMix=>k_is)
    (case e_NotEven=>k_is)
    (case e_NoSwap=>k_is)
    (case e_NoBounds=>k_is)
    (case e_NoPlace=>k_is)
    (case e_NoSums=>k_is)
    (case e_TooGreat=>k_is)
    (case e_NoNumber=>k_is)
    (case e_NoText=>k_is)
    (case a0=>k_is)
    (case l0=>k_is)
    (case c0=>k_is)
    (case k0=>k_is)
    (case a1=>k_is)
    (case l1=>k_is)
    (case c1=>k_is)
    (case k1=>k_is)
    (case a2=>k_is)
    (case l2=>k_is)
    (case c2=>k_is)
    (case k2=>k_is)
    (case a3=>k_is)
    (case l3=>k_is)
    (case c3=>k_is)
    (case k3=>k_is)
    (case a4=>k_is)
    (case l4=>k_is)
    (case c4=>k_is)
    (case k4=>k_is)
    (case a5=>k_is)
    (case l5=>k_is)
    (case c5=>k_is)
    (case k5=>k_is)
    (case a6=>k_is)
    (case l6=>k_is)
    (case c6=>k_is)
    (case k6=>k_is)
    (case a7=>k_is)
    (case l7=>k_is)
    (case c7=>k_is)
    (case k7=>k_is)
    (case a8=>k_is)
    (case l8=>k_is)
    (case c8=>k_is)
    (case k8=>k_is)
    (case a9=>k_is)
    (case l9=>k_is)
    (case c9=>k_is)
    (case k9=>k_is)
    (case a10=>k_is)
    (case l10=>k_is)
    (case c10=>k_is)
    (case k10=>k_is)
    (case a11=>k_is)
    (case l11=>k_is)
    (case c11=>k_is)
    (case k11=>k_is)
    (case a12=>k_is)
    (case l12=>k_is)
    (case c12=>k_is)
    (case k12=>k_is)
    (case a13=>k_is)
    (case l13=>k_is)
    (case c13=>k_is)
    (case k13=>k_is)
    (case a14=>k_is)
    (case l14=>k_is)
    (case c14=>k_is)
    (case k14=>k_is)
    (case a15=>k_is)
    (case l15=>k_is)
    (case c15=>k_is)
    (case k15=>k_is)
    (case a16=>k_is)
    (case l16=>k_is)
    (case c16=>k_is)
    (case k16=>k_is)
    (case a17=>k_is)
    (case l17=>k_is)
    (case c17=>k_is)
    (case k17=>k_is)
    (case a18=>k_is)
    (case l18=>k_is)
    (case c18=>k_is)
    (case k18=>k_is)
    (case a19=>k_is)
    (case l19=>k_is)
    (case c19=>k_is)
    (case k19=>k_is)
    (case a20=>k_is)
    (case l20=>k_is)
    (case c20=>k_is)
    (case k20=>k_is)
    (case a21=>k_is)
    (case l21=>k_is)
    (case c21=>k_is)
    (case k21=>k_is)
    (case a22=>k_is)
    (case l22=>k_is)
    (case c22=>k_is)
    (case k22=>k_is)
    (case a23=>k_is)
    (case l23=>k_is)
    (case c23=>k_is)
    (case k23=>k_is)
    (case a24=>k_is)
    (case l24=>k_is)
    (case c24=>k_is)
    (case k24=>k_is)
    (case a25=>k_is)
    (case l25=>k_is)
    (case c25=>k_is)
    (case k25=>k_is)
    (case a26=>k_is)
    (case l26=>k_is)
    (case c26=>k_is)
    (case k26=>k_is)
    (case a27=>k_is)
    (case l27=>k_is)
    (case c27=>k_is)
    (case k27=>k_is)
    (case a28=>k_is)
    (case l28=>k_is)
    (case c28=>k_is)
    (case k28=>k_is)
    (case a29=>k_is)
    (case l29=>k_is)
    (case c29=>k_is)
    (case k29=>k_is)
    (case a30=>k_is)
    (case l30=>k_is)
    (case c30=>k_is)
    (case k30=>k_is)
    (case a31=>k_is)
    (case l31=>k_is)
    (case c31=>k_is)
    (case k31=>k_is)
    (case a32=>k_is)
    (case l32=>k_is)
    (case c32=>k_is)
    (case k32=>k_is)
    (case a33=>k_is)
    (case l33=>k_is)
    (case c33=>k_is)
    (case k33=>k_is)
    (case a34=>k_is)
    (case l34=>k_is)
    (case c34=>k_is)
    (case k34=>k_is)
    (case a35=>k_is)
    (case l35=>k_is)
    (case c35=>k_is)
    (case k35=>k_is)
    (case a36=>k_is)
    (case l36=>k_is)
    (case c36=>k_is)
    (case k36=>k_is)
    (case a37=>k_is)
    (case l37=>k_is)
    (case c37=>k_is)
    (case k37=>k_is)
    (case a38=>k_is)
    (case l38=>k_is)
    (case c38=>k_is)
    (case k38=>k_is)
    (case a39=>k_is)
    (case l39=>k_is)
    (case c39=>k_is)
    (case k39=>k_is)
    (case a40=>k_is)
    (case l40=>k_is)
    (case c40=>k_is)
    (case k40=>k_is)
    (case a41=>k_is)
    (case l41=>k_is)
    (case c41=>k_is)
    (case k41=>k_is)
    (case a42=>k_is)
    (case l42=>k_is)
    (case c42=>k_is)
    (case k42=>k_is)
    (case a43=>k_is)
    (case l43=>k_is)
    (case c43=>k_is)
    (case k43=>k_is)
    (case a44=>k_is)
    (case l44=>k_is)
    (case c44=>k_is)
    (case k44=>k_is)
    (case a45=>k_is)
    (case l45=>k_is)
    (case c45=>k_is)
    (case k45=>k_is)
    (case a46=>k_is)
    (case l46=>k_is)
    (case c46=>k_is)
    (case k46=>k_is)
    (case a47=>k_is)
    (case l47=>k_is)
    (case c47=>k_is)
    (case k47=>k_is)
    (case a48=>k_is)
    (case l48=>k_is)
    (case c48=>k_is)
    (case k48=>k_is)
    (case a49=>k_is)
    (case l49=>k_is)
    (case c49=>k_is)
    (case k49=>k_is)
    (case a50=>k_is)
    (case l50=>k_is)
    (case c50=>k_is)
    (case k50=>k_is)
    (case d6=>k_is)
    (case u_MixError=>k_is)
    (case v_MixError=>k_exc)
    (case u_NoBottom=>k_is)
    (case v_NoBottom=>k_exc)
    (case u_NoStep=>k_is)
    (case v_NoStep=>k_exc)
    (case u_NoText=>k_is)
    (case v_NoText=>k_exc)
    (case u_NotAlike=>k_is)
    (case v_NotAlike=>k_exc)
    (case ga_NoBottom=>k_is)
    (case ge_NoBottom=>k_is)
    (case cl_NoBottom=>k_is)
    (case ob_NoBottom=>k_is)
    (case be_NoBottom=>k_is)
    (case ga_NoStep=>k_is)
    (case ge_NoStep=>k_is)
    (case cl_NoStep=>k_is)
    (case ob_NoStep=>k_is)
    (case be_NoStep=>k_is)
    (case ga_NoText=>k_is)
    (case ge_NoText=>k_is)
    (case cl_NoText=>k_is)
    (case ob_NoText=>k_is)
    (case be_NoText=>k_is)
    (case ga_NotAlike=>k_is)
    (case ge_NotAlike=>k_is)
    (case cl_NotAlike=>k_is)
    (case ob_NotAlike=>k_is)
    (case be_NotAlike=>k_is)
    (case kt1=>kit_is)
    (case kt2=>kit_is)
    (case kv_NoText=>kit_is)
    (case g_FIGURES=>k_is)
    (case g_MOST=>k_is)
    (case g_MOST_FIGURES=>k_is)
    (case g_PIECE=>k_is)
    (case g_PIECE_FIGURES=>k_is)
    (case hcf=>exact rfl)
    (case hch=>first | exact rfl | k_is)
    (case z_len=>k_is)
    (case z_isinstance=>k_is)
    (case z_int=>k_is)
    (case z_bool=>k_is)
    (case z_list=>k_is)
    (case z_range=>k_is)
    (case z_sum=>k_is)
    (case z_sorted=>k_is)
    (case z_tuple=>k_is)
    (case z_str=>k_is)
    (case z_min=>k_is)
    (case z_max=>k_is)
    (case z_all=>k_is)
    (case z_reversed=>k_is)
    (case z_abs=>k_is)
    (case z_zip=>k_is)
    (case z_ValueError=>k_is)
