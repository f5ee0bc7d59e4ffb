import PyProof.Rows.All
import Wide.All
import OpenK.AllK
import Wide.FinOn
import Lean
import PyProof.EqAt
import PyProof.EqKinds
import PyProof.TupleCall
import PyProof.DictRoadsH
import PyProof.TupleKey
import PyProof.NeKinds
import PyProof.ZipIter
import KE.KRevIter
import PyProof.ListRange
import KE.LcSums
import PyProof.Rows.MinMaxN
import KE.KSortKey
import KE.KLam
import KE.KNestM
import KE.KTryDeep
import PyProof.ExcArgsOwn
import PyProof.ExcAttrAll.ValueError
import KE.KIsAll
import KE.RegKIsAll
import PySem.Challenge.RW_evenmix_k71_whole_dealt_rows_mixed
set_option linter.all false
set_option maxRecDepth 100000
namespace L2
open PySem
abbrev qE:=Int × List Int
section
variable {prog:Program}{w:World}
abbrev inner (prog:Program) (w:World):=PySem.intKind prog w
def iY (h:Heap) (k:qE) (a:Addr):Prop :=
  ∃o n t b,h.get? a=some o∧o.cls=.type "tuple"∧o.data=.seq #[.int k.1 t,.ref b] n∧IsTupleKey (inner prog w) h k.2 b
def tZ (prog:Program) (w:World) (k:qE):Int:=reduceHash (Builtin.Tuple.tupleHashOf [hashInt k.1,tupleKeyHash (inner prog w) k.2])
theorem iY.ty {s:Shared}{k:qE}{a:Addr} (x:iY (prog:=prog) (w:=w) s.heap k a):s.TypeIs (.ref a) "tuple":=by
  obtain ⟨o,n,t,b,e,c,_⟩:=x
  exact⟨o,e,c⟩
theorem iY.uniq {h:Heap}{a:Addr}{x y:qE} (hx:iY (prog:=prog) (w:=w) h x a) (hy:iY (prog:=prog) (w:=w) h y a):x=y:=by
  obtain ⟨o,n,t,b,e,c,d,i⟩:=hx
  obtain ⟨o',n',t',b',e',c',d',i'⟩:=hy
  rw[e] at e'
  cases e'
  rw[d] at d'
  injection d' with q1 _
  have q2:=congrArg Array.toList q1
  injection q2 with q3 q4
  injection q3 with q5 _
  injection q4 with q6 _
  injection q6 with q7
  subst q7
  exact Prod.ext q5 (i.inj i')
theorem iY.stays {h h':Heap}{k:qE}{a d:Addr}{o:Obj}{es ep} (x:iY (prog:=prog) (w:=w) h k a) (ho:h.get? d=some o) (hd:o.data=.dict es ep) (hs:Heap.SameBut d h h'):iY (prog:=prog) (w:=w) h' k a:=by
  obtain ⟨o',n,t,b,e,c,q,i⟩:=x
  have ne:a≠d:=fun z=>by
    rw[z,ho] at e
    cases e
    rw[hd] at q
    exact nomatch q
  exact⟨o',n,t,b,(hs.2 a ne).trans e,c,q,i.keeps ho hd hs⟩
theorem zV {p1 p2:Program}{w1 w2:World}{ks:List Int}{vs:List Value} (h:ItemsAre (intKind p1 w1) ks vs):ItemsAre (intKind p2 w2) ks vs:=by
  induction h with
  | nil=>exact .nil
  | cons a _ ih=>exact .cons a ih
theorem ym {p1 p2:Program}{w1 w2:World}{h:Heap}{ks:List Int}{a:Addr} (x:IsTupleKey (intKind p1 w1) h ks a):IsTupleKey (intKind p2 w2) h ks a:=by
  obtain ⟨o,it,n,e1,e2,e3,e4⟩:=x
  exact⟨o,it,n,e1,e2,e3,zV e4⟩
variable {A:Around}{E:Value→Shared→Prop}{s:Shared}
theorem BG {k:qE}{a:Addr}{Q:Int→Shared→Prop} (hu:A.units+2<cLine) (hk:iY (prog:=prog) (w:=w) s.heap k a) (h:Q (tZ prog w k) { s with toks:=s.toks+(k.2.length+3) }):wpAny (model prog w) A (pyHash (.ref a)) Q E s:=by
  have ty:=hk.ty
  obtain ⟨o,n,t,b,ho,_,hd,hi⟩:=hk
  unfold pyHash
  first | unfold pyHashByItsType | skip
  first | refine wpAny_bind (wpAny_cRoomFor_or (.inr (by omega)) ?_) | skip
  refine (wpAny_bind (wpAny_specialOf ty F.slot_tuple_hash.lookup ?_))
  show wpAny (model prog w) A (if (some (Value.builtin "tuple.__hash__") == some Value.none)=true then _ else _) Q E s
  rw[if_neg (fun z=>by rw[beq_builtin_none] at z;cases z)]
  refine (wpAny_bind (wpAny_specialOf ty F.slot_tuple_hash.lookup ?_))
  show wpAny (model prog w) A (callSpecialIfBoundUnlessNone? (.ref a) "__hash__" _ >>= _) Q E s
  refine wpAny_bind (wpAny_callSpecialIfBoundUnlessNone?_slot ty F.slot_tuple_hash (wpAny_call_entry F.slot_tuple_hash ty F.entry_tuple_hash ?_ (F.args_tuple_hash_1 _)))
  show wpAny (model prog w) _ (Builtin.Tuple.tupleItemsOf (.ref a) >>= _) _ _ s
  refine wpAny_bind (wpAny_tupleItemsOf ho hd (wpAny_bind ?_))
  rw[← Array.forIn_toList]
  refine wpAny_forIn_list _ (fun rest (z:Array Int) s'=>(rest=[.int k.1 t,.ref b]∧z.toList=[]∧s'=s)∨(rest=[.ref b]∧z.toList=[hashInt k.1]∧s'={ s with toks:=s.toks+1 })∨(rest=[]∧z.toList=[hashInt k.1,tupleKeyHash (inner prog w) k.2]∧s'={ s with toks:=s.toks+1+(k.2.length+1) })) _ ?_ ?_ _ _ (.inl ⟨rfl,rfl,rfl⟩)
  · rintro x rest z s' (⟨e1,e2,rfl⟩ | ⟨e1,e2,rfl⟩ | ⟨e1,_⟩)
    · cases e1
      refine wpAny_bind ((inner prog w).pyHash (k:=k.1) (by simp [inner,intKind,Value.isInt]) ?_)
      first
        | exact wpAny_pure (.inr (.inl ⟨rfl,by simp [e2];rfl,rfl⟩))
        | exact wpAny_bind (wpAny_pure (wpAny_pure (.inr (.inl ⟨rfl,by simp [e2];rfl,rfl⟩))))
    · cases e1
      refine wpAny_bind (wpAny_pyHash_tuple (knd:=inner prog w) (ks:=k.2) (by first | omega | (show A.in1.units<cLine;show A.units+1<cLine;omega)) hi ?_)
      first
        | exact wpAny_pure (.inr (.inr ⟨rfl,by simp [e2],rfl⟩))
        | exact wpAny_bind (wpAny_pure (wpAny_pure (.inr (.inr ⟨rfl,by simp [e2],rfl⟩))))
    · cases e1
  · rintro z s' (⟨e1,_⟩ | ⟨e1,_⟩ | ⟨_,e2,rfl⟩)
    · cases e1
    · cases e1
    show wpAny (model prog w) _ (retInt (Builtin.Tuple.tupleHashOf z.toList)) _ _ _
    rw[e2]
    refine wpAny_ret_mkInt ?_
    unfold tZ reduceHash at h
    generalize Builtin.Tuple.tupleHashOf [hashInt k.1,tupleKeyHash (inner prog w) k.2]=m at h ⊢
    rw[show s.toks+(k.2.length+3)=s.toks+1+(k.2.length+1)+1 by omega] at h
    show wpAny (model prog w) A (if (decide (-(2:Int) ^ 63≤m) && decide (m<2 ^ 63))=true then _ else _) Q E _
    by_cases hr:(decide (-(2:Int) ^ 63≤m) && decide (m<2 ^ 63))=true
    · rw[if_pos hr] at h ⊢
      exact wpAny_pure h
    · rw[if_neg hr] at h ⊢
      exact wpAny_bind (wpAny_rule (wpAny_pure h))
theorem Ha {x y:qE}{a b:Addr} (hu:A.units+2<cLine) (hx:iY (prog:=prog) (w:=w) s.heap x a) (hy:iY (prog:=prog) (w:=w) s.heap y b):SeqAt.EqAt A s (.ref a) (.ref b) (decide (x=y)):=by
  by_cases hab:a=b
  · subst hab
    rw[hx.uniq hy,decide_eq_true rfl]
    exact SeqAt.EqAt.same _
  · obtain ⟨o1,n1,t1,b1,g1,c1,d1,i1⟩:=hx
    obtain ⟨o2,n2,t2,b2,g2,c2,d2,i2⟩:=hy
    have r1:s.heap.IsTuple a #[.int x.1 t1,.ref b1]:=⟨o1,g1,c1,n1,d1⟩
    have r2:s.heap.IsTuple b #[.int y.1 t2,.ref b2]:=⟨o2,g2,c2,n2,d2⟩
    have inn:SeqAt.EqAt A.in1 s (.ref b1) (.ref b2) (decide (x.2=y.2)):=fun prog' w' E' Q' q=>by
      have:=wpAny_eqBool_tuple (prog:=prog') (w:=w') (knd:=intKind prog' w') (A:=A.in1) (E:=E') (s:=s) (x:=x.2) (y:=y.2) (a:=b1) (b:=b2) (Q:=Q') (by show A.units+1<cLine;omega) (ym i1) (ym i2) q
      exact this
    have key:=SeqAt.RcAt.tuples (A:=A) (e:=fun j=>if j=0 then decide (x.1=y.1) else decide (x.2=y.2)) r1 r2 (by omega) (fun j h1 h2=>by
      have hj:j=0∨j=1:=by simp at h1;omega
      rcases hj with rfl | rfl
      · have:=SeqAt.EqAt.int_int (A:=A.in1) (s:=s) x.1 t1 y.1 t2
        rw[show (x.1 == y.1)=decide (x.1=y.1) from rfl] at this
        exact this
      · exact inn)
    refine SeqAt.EqAt.of_refs hab ?_
    have e:decide (x=y)=((List.range (min (#[Value.int x.1 t1,Value.ref b1]:Array Value).size (#[Value.int y.1 t2,Value.ref b2]:Array Value).size)).all (fun j=>if j=0 then decide (x.1=y.1) else decide (x.2=y.2)) && (#[Value.int x.1 t1,Value.ref b1]:Array Value).size == (#[Value.int y.1 t2,Value.ref b2]:Array Value).size):=by
      rw[show (List.range (min (#[Value.int x.1 t1,Value.ref b1]:Array Value).size (#[Value.int y.1 t2,Value.ref b2]:Array Value).size))=[0,1] from rfl]
      rw[Bool.eq_iff_iff]
      simp [Prod.ext_iff]
    rw[e]
    exact key
theorem zY {ks:List Int}{a:Addr}{n:Nat}{Q:Bool→Shared→Prop} (hk:IsTupleKey (inner prog w) s.heap ks a) (h:Q true s):wpAny (model prog w) A (eqIsQuiet (n+1) (.ref a)) Q E s:=by
  have ty:=hk.typeIs
  obtain ⟨o,it,m,ho,_,hd,hi⟩:=hk
  unfold eqIsQuiet
  refine (wpAny_bind (wpAny_specialOf ty F.slot_tuple_eq.lookup ?_))
  show wpAny (model prog w) A (isInstance (.ref a) (.type "tuple") >>= _) Q E s
  refine (wpAny_bind (wpAny_isInstance ty isSubtype_tuple_tuple ?_))
  simp only[Bool.not_true,Bool.false_eq_true,if_false]
  refine (wpAny_bind (wpAny_seqItems ho hd (wpAny_bind ?_)))
  show wpAny (model prog w) A (forIn it _ _) _ E s
  rw[← Array.forIn_toList]
  refine wpAny_forIn_list _ (fun rest r s'=>(r.1=none∧s'=s)∧∀v∈rest,carriedByValue v=true) _ ?_ ?_ _ _ ⟨⟨rfl,rfl⟩,hi.byValue⟩
  · rintro v rest r s' ⟨⟨hr,rfl⟩,hall⟩
    rw[eqIsQuiet_byValue _ (hall v List.mem_cons_self)]
    refine wpAny_bind (wpAny_pure ?_)
    simp only[Bool.not_true,Bool.false_eq_true,if_false]
    exact wpAny_pure ⟨⟨rfl,rfl⟩,fun u hu=>hall u (List.mem_cons_of_mem _ hu)⟩
  · rintro ⟨r1,r2⟩ s' ⟨⟨hr,rfl⟩,_⟩
    simp only at hr
    subst hr
    exact wpAny_pure h
theorem Am {k:qE}{a:Addr}{Q:Bool→Shared→Prop} (hk:iY (prog:=prog) (w:=w) s.heap k a) (h:Q true s):wpAny (model prog w) A (eqIsQuiet 8 (.ref a)) Q E s:=by
  have ty:=hk.ty
  obtain ⟨o,n,t,b,ho,_,hd,hi⟩:=hk
  unfold eqIsQuiet
  refine (wpAny_bind (wpAny_specialOf ty F.slot_tuple_eq.lookup ?_))
  show wpAny (model prog w) A (isInstance (.ref a) (.type "tuple") >>= _) Q E s
  refine (wpAny_bind (wpAny_isInstance ty isSubtype_tuple_tuple ?_))
  simp only[Bool.not_true,Bool.false_eq_true,if_false]
  refine (wpAny_bind (wpAny_seqItems ho hd (wpAny_bind ?_)))
  show wpAny (model prog w) A (forIn (#[Value.int k.1 t,Value.ref b]:Array Value) _ _) _ E s
  rw[← Array.forIn_toList]
  refine wpAny_forIn_list _ (fun rest r s'=>(r.1=none∧s'=s)∧∀v∈rest,v=.int k.1 t∨v=.ref b) _ ?_ ?_ _ _ ⟨⟨rfl,rfl⟩,fun v hv=>by simpa using hv⟩
  · rintro v rest r s' ⟨⟨hr,rfl⟩,hall⟩
    rcases hall v List.mem_cons_self with rfl | rfl
    · rw[eqIsQuiet_byValue _ rfl]
      refine wpAny_bind (wpAny_pure ?_)
      simp only[Bool.not_true,Bool.false_eq_true,if_false]
      exact wpAny_pure ⟨⟨rfl,rfl⟩,fun u hu=>hall u (List.mem_cons_of_mem _ hu)⟩
    · refine wpAny_bind (zY hi ?_)
      simp only[Bool.not_true,Bool.false_eq_true,if_false]
      exact wpAny_pure ⟨⟨rfl,rfl⟩,fun u hu=>hall u (List.mem_cons_of_mem _ hu)⟩
  · rintro ⟨r1,r2⟩ s' ⟨⟨hr,rfl⟩,_⟩
    simp only at hr
    subst hr
    exact wpAny_pure h
end
def DH (prog:Program) (w:World):HeapKind prog w qE where
  is:=iY (prog:=prog) (w:=w)
  hash:=tZ prog w
  draws:=fun k=>k.2.length+3
  room:=fun A=>A.units+2<cLine
  inj:=fun hx hy=>hx.uniq hy
  keeps:=fun x ho hd hs=>x.stays ho hd hs
  pyHash:=fun hu hk h=>BG hu hk h
  eqBool:=fun hu hx hy h=>Ha hu hx hy _ _ _ _ h
  quiet:=fun hk h=>Am hk h
end L2
set_option Elab.async false
namespace L2
open PySem PySem.Spec PyProof.Rows
abbrev Key:=Sum Int Str
def vF:Key→Value→Bool
  | .inl k,v=>Value.isInt k v
  | .inr x,v=>Value.isStrOf x v
def Ke (w:World):Key→Int
  | .inl k=>hashInt k
  | .inr x=>hashStr w x
theorem ee:∀{k:Key}{v:Value},vF k v=true→(∃i t,k=Sum.inl i∧v=Value.int i t)∨(∃x t,k=Sum.inr x∧v=Value.str x t)
  | .inl i,v,h=>by
    obtain ⟨t,e⟩:=Value.isInt_shape (k:=i) (v:=v) h
    exact .inl ⟨i,t,rfl,e⟩
  | .inr x,v,h=>by
    obtain ⟨t,e⟩:=Value.isStrOf_shape (x:=x) (v:=v) h
    exact .inr ⟨x,t,rfl,e⟩
theorem CB (i:Int) (t:Tok):vF (.inl i) (.int i t)=true:=by simp [vF,Value.isInt]
theorem B9 (x:Str) (t:Tok):vF (.inr x) (.str x t)=true:=by simp [vF,Value.isStrOf]
theorem Ig (a b:Int):decide ((Sum.inl a:Key)=Sum.inl b)=(a == b):=by
  by_cases e:a=b
  · subst e;simp
  · have h:¬ (Sum.inl a:Key)=Sum.inl b:=fun q=>e (Sum.inl.inj q)
    rw[decide_eq_false h]
    exact (beq_eq_false_iff_ne.mpr e).symm
theorem IG (a b:Str):decide ((Sum.inr a:Key)=Sum.inr b)=decide (a=b):=by
  by_cases e:a=b
  · subst e;simp
  · have h:¬ (Sum.inr a:Key)=Sum.inr b:=fun q=>e (Sum.inr.inj q)
    rw[decide_eq_false h,decide_eq_false e]
theorem Iw (a:Int) (b:Str):decide ((Sum.inl a:Key)=Sum.inr b)=false:=decide_eq_false (fun q=>nomatch q)
theorem Jk (a:Str) (b:Int):decide ((Sum.inr a:Key)=Sum.inl b)=false:=decide_eq_false (fun q=>nomatch q)
def gF (prog:Program) (w:World):PySem.KeyKind prog w Key where
  is:=vF
  hash:=Ke w
  inj:=fun v a b ha hb=>by
    rcases ee ha with ⟨i,t,rfl,rfl⟩ | ⟨x,t,rfl,rfl⟩
    · rcases ee hb with ⟨j,u,rfl,e⟩ | ⟨y,u,rfl,e⟩
      · injection e with e1 _;rw[e1]
      · exact nomatch e
    · rcases ee hb with ⟨j,u,rfl,e⟩ | ⟨y,u,rfl,e⟩
      · exact nomatch e
      · injection e with e1 _;rw[e1]
  byValue:=fun k v h=>by
    rcases ee h with ⟨i,t,rfl,rfl⟩ | ⟨x,t,rfl,rfl⟩<;>rfl
  pyHash:=fun hv h=>by
    rcases ee hv with ⟨i,t,rfl,rfl⟩ | ⟨x,t,rfl,rfl⟩
    · exact wpAny_pyHash_int h
    · exact wpAny_pyHash_str h
  eqBool:=fun hu hv h=>by
    rcases ee hu with ⟨i,t,rfl,rfl⟩ | ⟨x,t,rfl,rfl⟩
    · rcases ee hv with ⟨j,u,rfl,rfl⟩ | ⟨y,u,rfl,rfl⟩
      · rw[Ig] at h;exact wpAny_eqBool_int h
      · rw[Iw] at h;exact SeqAt.EqAt.int_str i t y u _ _ _ _ h
    · rcases ee hv with ⟨j,u,rfl,rfl⟩ | ⟨y,u,rfl,rfl⟩
      · rw[Jk] at h;exact SeqAt.EqAt.str_int x t j u _ _ _ _ h
      · rw[IG] at h;exact wpAny_eqBool_str h
  «strs»:=fun k x t v h=>by
    rcases ee h with ⟨i,u,rfl,e⟩ | ⟨y,u,rfl,e⟩
    · exact nomatch e
    · injection e with e1 _
      subst e1
      cases v<;>rfl
theorem xV (prog:Program) (w:World) (i:Int) (t:Tok):(gF prog w).is (.inl i) (.int i t)=true:=CB i t
theorem y8 (prog:Program) (w:World) (x:Str) (t:Tok):(gF prog w).is (.inr x) (.str x t)=true:=B9 x t
end L2
namespace L2
open PySem PySem.Spec PyProof.Rows
inductive V where
  | non | bl (b:Bool) | int (i:Int) | str (x:Str) | byt (b:Array UInt8) | flt (b:UInt64) | ref (a:Addr) | ty (n:String)
  deriving DecidableEq
def RelV:V→Value→Prop
  | .non,u=>u=Value.none
  | .bl b,u=>u=Value.bool b
  | .int i,u=>∃t,u=Value.int i t
  | .str x,u=>∃t,u=Value.str x t
  | .byt b,u=>∃t,u=Value.bytes b t
  | .flt b,u=>∃t,u=Value.float b t
  | .ref a,u=>u=Value.ref a
  | .ty n,u=>u=Value.type n
abbrev Vals:List V→List Value→Prop:=Paired RelV
theorem Vals.length {xs:List V}{us:List Value} (r:Vals xs us):xs.length=us.length:=Paired.length r
theorem Vals.get:∀{xs:List V}{us:List Value}{i:Nat}{x:V},Vals xs us→xs[i]?=some x→∃u,us[i]?=some u∧RelV x u
  | _,_,_,_,.nil,e=>by simp at e
  | _,_,0,_,.cons r _,e=>by simp at e;subst e;exact⟨_,rfl,r⟩
  | _,_,i+1,x,.cons _ t,e=>by
    obtain ⟨u,h1,h2⟩:=Vals.get (i:=i) (x:=x) t (by simpa using e)
    exact⟨u,by simpa using h1,h2⟩
theorem Vals.set {x:V}{u:Value} (r:RelV x u):∀{xs:List V}{us:List Value} (i:Nat),Vals xs us→Vals (xs.set i x) (us.set i u)
  | _,_,_,.nil=>.nil
  | _,_,0,.cons _ t=>.cons r t
  | _,_,i+1,.cons q t=>.cons q (Vals.set r i t)
theorem Vals.append:∀{xs ys:List V}{us ws:List Value},Vals xs us→Vals ys ws→Vals (xs++ys) (us++ws)
  | _,_,_,_,.nil,s=>s
  | _,_,_,_,.cons r t,s=>.cons r (Vals.append t s)
theorem Vals.take:∀{xs:List V}{us:List Value} (n:Nat),Vals xs us→Vals (xs.take n) (us.take n)
  | _,_,0,_=>.nil
  | _,_,_+1,.nil=>.nil
  | _,_,n+1,.cons r t=>.cons r (Vals.take n t)
theorem Vals.drop:∀{xs:List V}{us:List Value} (n:Nat),Vals xs us→Vals (xs.drop n) (us.drop n)
  | _,_,0,r=>r
  | _,_,_+1,.nil=>.nil
  | _,_,n+1,.cons _ t=>Vals.drop n t
def sH:Option V→Option Value→Prop
  | some v,some u=>RelV v u
  | none,none=>True
  | _,_=>False
def KV {κ:Type}:List (κ × V)→List (κ × Value)→Prop:=Paired fun (p:κ × V) (q:κ × Value)=>p.1=q.1∧RelV p.2 q.2
def kV:Key→V
  | .inl i=>.int i
  | .inr x=>.str x
inductive HO where
    | lst (xs:List V)
    | tup (xs:List V)
    | dK (kvs:List (Key × V)) | dT (kvs:List (List Key × V))
    | set (S:Int→Bool) (n:Nat)
    | ins (C dx:Addr) (fs:List (Str × V))
    | own (x:Addr)
    | xd (fs:List (Str × V))
    | met (f x:Addr)
    | rng (lo hi:Int)
    | frz (o:Obj) (u:HO)
    | tbl (ps:Array Value)
    | ext (φ:Heap→Prop)
  | memo (φ:Int→List Int→Int→Prop) (ks:List qE)
abbrev Hp:=Addr→Option HO
def upd (H:Hp) (a:Addr) (o:HO):Hp:=fun b=>if b=a then some o else H b
theorem aG {H:Hp}{a:Addr}{o:HO}:upd H a o a=some o:=by unfold upd;rw[if_pos rfl]
theorem aV {H:Hp}{a b:Addr}{o:HO} (h:b≠a):upd H a o b=H b:=by unfold upd;rw[if_neg h]
theorem JY {H:Hp}{a b:Addr}{o u:HO} (h:H a=some o) (h':H b=some u) (d:o≠u):a≠b:=by
  intro e;subst e;rw[h] at h';exact d (Option.some.inj h')
theorem bG {H:Hp}{a b:Addr}{o:HO} (h:H a=some o) (h':H b=none):a≠b:=by
  intro e;subst e;rw[h] at h';cases h'
def Kd (k:qE):Bool:=decide (0≤k.1) && decide (k.1<8) && decide (k.2.length≤5) && k.2.all fun e=>decide (0≤e) && decide (e<7)
def Je (H:Hp) (φ:Int→List Int→Int→Prop) (x:qE × Addr × Value):Prop:=∃b n t,H x.2.1=some (.tup [.int x.1.1,.ref b])∧H b=some (.tup (x.1.2.map V.int))∧x.2.2=.int n t∧φ x.1.1 x.1.2 n∧Kd x.1=true
section
variable (P:Program) (w:World)
def cY (H:Hp) (h:Heap) (a:Addr):HO→Prop
  | .lst xs=>xs.length≤sizeLine∧∃(its:List Value) (n:Nat),Vals xs its∧h.get? a=some { cls:=.type "list",data:=.seq its.toArray n }
  | .tup xs=>xs.length≤sizeLine∧∃its:List Value,Vals xs its∧IsTup h a its.toArray
  | .dK kvs=>kvs.length≤sizeLine∧(a == sysModules)=false∧∃vs,KV kvs vs∧h.DictOf (gF P w) a vs
  | .dT kvs=>kvs.length≤sizeLine∧(a == sysModules)=false∧∃xs:List (List Key × Addr × Value),
      Paired (fun (p:List Key × V) (q:List Key × Addr × Value)=>p.1=q.1∧H q.2.1=some (.tup (p.1.map kV))∧RelV p.2 q.2.2) kvs xs ∧
      ∃o es ep,h.get? a=some o∧o.ExactDict∧o.data=.dict es ep∧es.toList=xs.map (entryOfKey (tupleKind (gF P w)))∧(xs.map (·.1)).Nodup
  | .set S n=>h.SetOf (intKind P w) a S n
  | .ins C dx fs=>H dx=some (.own a)∧fs.length≤1000∧dx≠a∧h.get? a=some (PySem.W.instObj C dx) ∧
      ∃mA,h.Ns1 dx mA∧(∀f,sH (fs.lookup f) (mA f))∧PySem.Within mA (fs.map (·.1))
  | .own _=>∃o,h.get? a=some o
  | .xd fs=>∃mA,h.Ns1 a mA∧∀f,sH (fs.lookup f) (mA f)
  | .rng lo hi=>∃t u v,h.get? a=some { cls:=.type "range",data:=.fields #[.int lo t,.int hi u,.int 1 v] }
  | .frz o u=>h.get? a=some o∧cY H h a u
  | .tbl ps=>h.get? a=some { cls:=.none,data:=.fields ps }
  | .met f x=>h.get? a=some (PySem.W.methodObj (.ref f) (.ref x))
  | .memo φ ks=>(a == sysModules)=false∧∃xs:List (qE × Addr × Value),(∀x∈xs,Je H φ x)∧(∀k∈ks,k∈xs.map (·.1)) ∧
      ∃o es ep,h.get? a=some o∧o.ExactDict∧o.data=.dict es ep∧es.toList=xs.map (entryOfKey (DH P w))∧(xs.map (·.1)).Nodup
  | .ext φ=>φ h∧(∃o,h.get? a=some o)∧∀h1 h2:Heap,φ h1→(∀o,h1.get? a=some o→h2.get? a=some o)→φ h2
def HOk (H:Hp) (h:Heap):Prop:=∀a o,H a=some o→cY P w H h a o
end
section
variable {P:Program}{w:World}{H H':Hp}{h h':Heap}{a:Addr}{o:HO}
theorem cY.lt (x:cY P w H h a o):a<h.objs.size:=by
  cases o with
  | lst xs=>obtain ⟨_,_,_,_,e⟩:=x;exact Heap.lt_size e
  | tup xs=>obtain ⟨_,_,_,p⟩:=x;exact p.lt
  | dK kvs=>obtain ⟨_,_,_,_,o,_,_,e,_⟩:=x;exact Heap.lt_size e
  | dT kvs=>obtain ⟨_,_,_,_,o,_,_,e,_⟩:=x;exact Heap.lt_size e
  | set S n=>obtain ⟨o,_,_,_,e,_⟩:=x;exact Heap.lt_size e
  | ins C dx fs=>obtain ⟨_,_,_,e,_⟩:=x;exact Heap.lt_size e
  | own y=>obtain ⟨_,e⟩:=x;exact Heap.lt_size e
  | xd fs=>obtain ⟨_,⟨_,_,_,e,_⟩,_⟩:=x;exact Heap.lt_size e
  | rng lo hi=>obtain ⟨_,_,_,e⟩:=x;exact Heap.lt_size e
  | frz ob u=>obtain ⟨e,_⟩:=x;exact Heap.lt_size e
  | tbl ps=>exact Heap.lt_size (show h.get? a=some _ from x)
  | met f y=>exact Heap.lt_size (show h.get? a=some _ from x)
  | ext φ=>obtain ⟨_,⟨_,e⟩,_⟩:=x;exact Heap.lt_size e
  | memo φ ks=>obtain ⟨_,_,_,_,_,_,_,e,_⟩:=x;exact Heap.lt_size e
theorem Paired.IV {α β:Type}{F G:α→β→Prop}:∀{l₁:List α}{l₂:List β},Paired F l₁ l₂→(∀a b,F a b→G a b)→Paired G l₁ l₂
  | _,_,.nil,_=>.nil
  | _,_,.cons r t,f=>.cons (f _ _ r) (Paired.IV t f)
theorem cY.wH (x:cY P w H h a o) (k:∀b u,(b=a∨H b=some (.own a))→h.get? b=some u→h'.get? b=some u)
    (ho:∀b,H b=some (.own a)→H' b=some (.own a)) (ht:∀b xs,H b=some (.tup xs)→H' b=some (.tup xs)):cY P w H' h' a o:=by
  induction o with
  | lst xs=>obtain ⟨z,its,n,r,e⟩:=x;exact⟨z,its,n,r,k _ _ (.inl rfl) e⟩
  | tup xs=>obtain ⟨z,its,r,ob,e,c⟩:=x;exact⟨z,its,r,ob,k _ _ (.inl rfl) e,c⟩
  | dK kvs=>obtain ⟨z,y,vs,r,ob,es,ep,e,c⟩:=x;exact⟨z,y,vs,r,ob,es,ep,k _ _ (.inl rfl) e,c⟩
  | dT kvs =>
    obtain ⟨z,y,xs,r,ob,es,ep,e,c⟩:=x
    exact⟨z,y,xs,Paired.IV r fun p q z=>⟨z.1,ht _ _ z.2.1,z.2.2⟩,ob,es,ep,k _ _ (.inl rfl) e,c⟩
  | set S n=>obtain ⟨ob,es,ep,t,e,c⟩:=x;exact⟨ob,es,ep,t,k _ _ (.inl rfl) e,c⟩
  | ins C dx fs =>
    obtain ⟨d,z,ne,e,mA,⟨od,es,ep,e2,c⟩,r⟩:=x
    exact⟨ho _ d,z,ne,k _ _ (.inl rfl) e,mA,⟨od,es,ep,k _ _ (.inr d) e2,c⟩,r⟩
  | own y=>obtain ⟨ob,e⟩:=x;exact⟨ob,k _ _ (.inl rfl) e⟩
  | xd fs=>obtain ⟨mA,⟨od,es,ep,e,c⟩,r⟩:=x;exact⟨mA,⟨od,es,ep,k _ _ (.inl rfl) e,c⟩,r⟩
  | rng lo hi=>obtain ⟨t,u,v,e⟩:=x;exact⟨t,u,v,k _ _ (.inl rfl) e⟩
  | frz ob u ih=>obtain ⟨e,q⟩:=x;exact⟨k _ _ (.inl rfl) e,ih q⟩
  | tbl ps =>
    have e:h.get? a=some { cls:=.none,data:=.fields ps }:=x
    show h'.get? a=some { cls:=.none,data:=.fields ps }
    exact k a _ (.inl rfl) e
  | met f y =>
    have e:h.get? a=some (PySem.W.methodObj (.ref f) (.ref y)):=x
    show h'.get? a=some (PySem.W.methodObj (.ref f) (.ref y))
    exact k a _ (.inl rfl) e
  | memo φ ks =>
    obtain ⟨y,xs,hx,hk,ob,es,ep,e,c⟩:=x
    exact⟨y,xs,fun z hz=>let ⟨b,n,t,q1,q2,q3⟩:=hx z hz;⟨b,n,t,ht _ _ q1,ht _ _ q2,q3⟩,hk,ob,es,ep,k _ _ (.inl rfl) e,c⟩
  | ext φ=>obtain ⟨p,⟨o,e⟩,st⟩:=x;exact⟨st _ _ p fun o q=>k _ _ (.inl rfl) q,⟨o,k _ _ (.inl rfl) e⟩,st⟩
theorem HOk.lt (x:HOk P w H h) (e:H a=some o):a<h.objs.size:=(x a o e).lt
theorem HOk.fresh (x:HOk P w H h) (e:h.objs.size≤a):H a=none:=by
  cases q:H a with
  | none=>rfl
  | some u=>exact absurd (Nat.lt_of_lt_of_le (x.lt q) e) (Nat.lt_irrefl _)
theorem HOk.kept (x:HOk P w H h) (k:∀b u,h.get? b=some u→h'.get? b=some u):HOk P w H h':=fun a o e =>
  (x a o e).wH (fun b u _ q=>k b u q) (fun _ q=>q) fun _ _ q=>q
theorem HOk.laid (x:HOk P w H h) (k:∀b u,h.get? b=some u→h'.get? b=some u) (hp:h.objs.size≤a) (new:cY P w (upd H a o) h' a o):HOk P w (upd H a o) h':=fun b u e=>by
  have hn:=x.fresh hp
  by_cases hb:b=a
  · subst hb;rw[aG] at e;cases e;exact new
  · rw[aV hb] at e
    exact (x b u e).wH (fun c v _ q=>k c v q) (fun c q=>by rw[aV (bG q hn)];exact q) fun c xs q=>by rw[aV (bG q hn)];exact q
end
def Rd (H:Hp) (a:Addr) (u:HO):Prop:=H a=some u∨∃o,H a=some (.frz o u)
theorem Rd.ok {P:Program}{w:World}{H:Hp}{h:Heap}{a:Addr}{u:HO} (r:Rd H a u) (x:HOk P w H h):cY P w H h a u:=by
  rcases r with r | ⟨o,r⟩
  · exact x a u r
  · obtain ⟨_,q⟩:=x a _ r
    exact q
def Mut:Option HO→Prop
  | some (.lst _)=>True
  | some (.dK _)=>True
  | some (.dT _)=>True
  | some (.set _ _)=>True
  | some (.ins _ _ _)=>True
  | some (.ext _)=>True
  | some (.memo _ _)=>True
  | _=>False
section
variable {P:Program}{w:World}{H:Hp}{h h':Heap}{x e:Addr}{o':HO}
theorem HOk.write (ok:HOk P w H h) (mu:Mut (H x)) (he:e=x∨H e=some (.own x)) (k:∀b u,b≠e→h.get? b=some u→h'.get? b=some u) (heo:∃u,h'.get? e=some u)
    (new:cY P w (upd H x o') h' x o'):HOk P w (upd H x o') h':=fun b u q=>by
  have nown:∀c y,H c=some (.own y)→c≠x:=fun c y r z=>by subst z;rw[r] at mu;exact mu
  have ntup:∀c xs,H c=some (.tup xs)→c≠x:=fun c xs r z=>by subst z;rw[r] at mu;exact mu
  by_cases hb:b=x
  · subst hb;rw[aG] at q;cases q;exact new
  · rw[aV hb] at q
    by_cases hbe:b=e
    · have q':H b=some (.own x):=by
        rcases he with z | z
        · exact absurd (hbe.trans z) hb
        · rw[hbe];exact z
      rw[q] at q';cases q'
      obtain ⟨v,hv⟩:=heo
      exact⟨v,by rw[hbe];exact hv⟩
    · refine (ok b u q).wH (fun c v hc r=>k c v ?_ r) (fun c r=>by rw[aV (nown c b r)];exact r) fun c xs r=>by rw[aV (ntup c xs r)];exact r
      rcases hc with rfl | hc
      · exact hbe
      · rintro rfl
        rcases he with z | z
        · exact nown c b hc z
        · rw[hc] at z;cases z;exact hb rfl
end
structure Un (fs ex:List Addr) (H H':Hp) (h h':Heap):Prop where
  keep:∀b o,h.get? b=some o→H b=none→b∉fs→b∉ex→h'.get? b=some o
  slot:∀b o,h.get? b=some o→H b=none→b∈fs→b∉ex→∃sl,h'.get? b=some { o with slots:=sl }
  free:∀b o,h.get? b=some o→H b=none→b∉ex→H' b=none
  there:∀b o,h.get? b=some o→b∉ex→∃o',h'.get? b=some o'
  tups:∀b xs,H b=some (.tup xs)→H' b=some (.tup xs)
  frzs:∀b o u,H b=some (.frz o u)→H' b=some (.frz o u)
  tbls:∀b ps,H b=some (.tbl ps)→∃more,H' b=some (.tbl (ps++more))
section
variable {fs fs' ex ex':List Addr}{H H1 H2:Hp}{h h1 h2 h':Heap}{a x e:Addr}{o:HO}
theorem Un.any (u:Un fs ex H H1 h h1) {b:Addr}{ob:Obj} (q:h.get? b=some ob) (n:H b=none) (hx:b∉ex):∃sl,h1.get? b=some { ob with slots:=sl }:=by
  by_cases hb:b∈fs
  · exact u.slot b ob q n hb hx
  · exact⟨ob.slots,u.keep b ob q n hb hx⟩
theorem Un.kept (k:∀b u,h.get? b=some u→h'.get? b=some u):Un fs ex H H h h' :=
  ⟨fun b ob q _ _ _=>k b ob q,fun b ob q _ _ _=>⟨ob.slots,k b ob q⟩,fun _ _ _ n _=>n,fun b ob q _=>⟨ob,k b ob q⟩,fun _ _ q=>q,fun _ _ _ q=>q,fun _ ps q=>⟨#[],by rw[q];simp⟩⟩
theorem Un.refl:Un fs ex H H h h:=Un.kept fun _ _ q=>q
theorem Un.laid (k:∀b u,h.get? b=some u→h'.get? b=some u) (hp:h.objs.size≤a) (hn:H a=none):Un fs ex H (upd H a o) h h' where
  keep:=fun b u q _ _ _=>k b u q
  slot:=fun b u q _ _ _=>⟨u.slots,k b u q⟩
  free:=fun b u q n _=>by rw[aV (Nat.ne_of_lt (Nat.lt_of_lt_of_le (Heap.lt_size q) hp))];exact n
  there:=fun b u q _=>⟨u,k b u q⟩
  tups:=fun b xs q=>by rw[aV (bG q hn)];exact q
  frzs:=fun b u xs q=>by rw[aV (bG q hn)];exact q
  tbls:=fun b ps q=>⟨#[],by rw[aV (bG q hn),q];simp⟩
theorem Un.write (mu:Mut (H x)) (he:e=x∨H e=some (.own x)) (k:∀b u,b≠e→h.get? b=some u→h'.get? b=some u) (heo:∃u,h'.get? e=some u):Un fs ex H (upd H x o) h h':=by
  have hx:∀b,H b=none→b≠x:=fun b n z=>by subst z;rw[n] at mu;exact mu
  have hb:∀b,H b=none→b≠e:=fun b n z=>by
    subst z
    rcases he with r | r
    · exact hx b n r
    · rw[n] at r;cases r
  have hm:∀b u,H b=some u→¬ Mut (some u)→b≠x:=fun b u q nm z=>by subst z;rw[q] at mu;exact nm mu
  refine⟨fun b u q n _ _=>k b u (hb b n) q,fun b u q n _ _=>⟨u.slots,k b u (hb b n) q⟩,fun b u q n _=>by rw[aV (hx b n)];exact n,fun b u q _=>?_,
    fun b xs q=>by rw[aV (hm b _ q fun z=>z)];exact q,fun b u xs q=>by rw[aV (hm b _ q fun z=>z)];exact q,fun b ps q=>⟨#[],by rw[aV (hm b _ q fun z=>z),q];simp⟩⟩
  by_cases hbe:b=e
  · subst hbe;exact heo
  · exact⟨u,k b u hbe q⟩
theorem Un.mono (u:Un fs ex H H1 h h1) (hs:∀b∈fs,b∈fs') (hx:∀b∈ex,b∈ex'):Un fs' ex' H H1 h h1 :=
  ⟨fun b ob q n hb he=>u.keep b ob q n (fun z=>hb (hs b z)) fun z=>he (hx b z),fun _ _ q n _ he=>u.any q n fun z=>he (hx _ z),fun b ob q n he=>u.free b ob q n fun z=>he (hx b z),fun b ob q he=>u.there b ob q fun z=>he (hx b z),u.tups,u.frzs,u.tbls⟩
end
def trk (h:Heap) (H:Hp):List Addr:=(List.range h.objs.size).filter fun a=>(H a).isSome
def xA (h:Heap) (H:Hp):Heap:=PySem.W.hideAll h (trk h H)
theorem Cc (h:Heap) (H:Hp):(xA h H).objs.size=h.objs.size:=PySem.W.hideAll_size _ _
theorem tN {h:Heap}{H:Hp}{b:Addr}{o:Obj} (e:h.get? b=some o) (n:H b=none):(xA h H).get? b=some o :=
  PySem.W.hideAll_get _ e fun hm=>by
    have q:(H b).isSome=true:=(List.mem_filter.mp hm).2
    rw[n] at q;simp at q
theorem GD {h:Heap}{H:Hp}{b:Addr}{o:Obj} (e:(xA h H).get? b=some o):h.get? b=some o∧H b=none:=by
  have e':h.get? b=some o:=PySem.W.of_hideAll (trk h H) e
  refine⟨e',?_⟩
  cases q:H b with
  | none=>rfl
  | some x =>
    have hm:b∈trk h H:=List.mem_filter.mpr ⟨List.mem_range.mpr (Heap.lt_size e'),by simp [q]⟩
    have z:(xA h H).get? b=none:=PySem.W.hideAll_none (trk h H) hm
    rw[z] at e;cases e
def FN (g h:Heap) (L:Addr):List (Addr × Obj):=(List.range h.objs.size).filterMap fun a=>if a=L∨(g.get? a).isSome=true then none else (h.get? a).map fun o=>(a,o)
def rest (g h:Heap) (L d:Addr):List (Addr × Obj):=(FN g h L).filter fun p=>decide (p.1≠d)
end L2
namespace L2
open PySem PySem.Spec PyProof.Rows
structure Mod (K:PySem.W.Frag) (mg:Str→Option Value) (base:Heap):Prop where
  kin:K.In base
  glob:base.Ns mainGlobals mg
  blt:∃mb,base.Ns builtinsNs mb∧∀x:Str,x≠"__name__"→mb x=bootBuiltins x
  nolimit:base.NoLimit
structure Cx where
  prog:Program
  w:World
  K:PySem.W.Frag
  mg:Str→Option Value
  base:Heap
  A:Around
  N:List Str
  s₀:Shared
  H₀:Hp
  env:Env
  outer:List Env
  stack:List Env
  ex:List Addr
  fn:Str→Bool
  calm:Bool
  pn:List (Addr × Obj)
  xe:Value→Shared→Prop
def frs (l:List Env):List Addr:=l.filterMap (·.frame)
abbrev Cx.fs (X:Cx):List Addr:=frs X.outer
def Vis (sc:Scope) (x:Str):Prop:=sc.names.lookup x=some .local∨sc.names.lookup x=some .cell∨sc.names.lookup x=some .free
def Loc (sc:Scope) (x:Str):Prop:=sc.names.lookup x=some .local∨sc.names.lookup x=some .cell
def Look (env:Env) (h:Heap) (m:Str→Option Value) (x:Str) (u:Value):Prop :=
  (env.kindOf x=some .local∧m x=some u)∨((env.kindOf x=some .cell∨env.kindOf x=some .free)∧∃c,env.cells.lookup x=some c∧h.IsCell c (some u))
structure Cx.Ok (X:Cx):Prop where
  mod:Mod X.K X.mg X.base
  kind:X.env.scope.kind=.function
  glob:X.env.globals=mainGlobals
  blt:X.env.builtins=builtinsNs
  above:X.s₀.heap.objs.size≤X.env.locals
  inj:∀x y c,X.env.cells.lookup x=some c→X.env.cells.lookup y=some c→x=y
  has:∀x,(X.env.kindOf x=some .cell∨X.env.kindOf x=some .free)→∃c,X.env.cells.lookup x=some c
  cab:∀x c,X.fn x=true→X.env.cells.lookup x=some c→X.s₀.heap.objs.size≤c
  hd:X.calm=true→X.A.handled=none
  frames:X.A.frames=some X.stack
  stk:X.stack=X.outer∨(X.stack=X.env::X.outer∧X.env.frame=some X.env.locals)
  exf:∀b∈X.ex,b≠X.env.locals∧∀x c,X.env.cells.lookup x=some c→c≠b
  bs:∀b o,X.base.get? b=some o→X.s₀.heap.get? b=some o∧X.H₀ b=none
  bsz:X.base.objs.size≤X.s₀.heap.objs.size
  noex:∀b o,X.base.get? b=some o→b∉X.ex
  exfs:∀b∈X.ex,b∉X.fs
  rJ:X.s₀.heap.FunFrames X.base X.outer
  frf:∀b∈X.fs,X.H₀ b=none
structure Inv (X:Cx) (pins:List (Addr × Obj)) (σ:List (Option V)) (H:Hp) (s:Shared):Prop where
  ok:X.Ok
  os:s.os=X.s₀.os
  bare:AllBare s.gens
  base:Un X.fs X.ex X.H₀ H X.s₀.heap s.heap
  loc:∃m,s.heap.Ns X.env.locals m∧∀(i:Nat) (x:Str) (v:V),X.N[i]?=some x→σ[i]?=some (some v)→Vis X.env.scope x→∃u,RelV v u∧Look X.env s.heap m x u
  cell:∀x c,X.env.cells.lookup x=some c→∃v,s.heap.IsCell c v
  free:H X.env.locals=none
  freeC:∀x c,X.env.cells.lookup x=some c→H c=none
  pin:∀p∈X.pn++pins,s.heap.get? p.1=some p.2∧H p.1=none∧p.1≠X.env.locals∧p.1∉X.fs∧∀v,p.2.data≠.cell v
  hok:HOk X.prog X.w H s.heap
  len:σ.length=X.N.length
section
variable {X:Cx}{pins:List (Addr × Obj)}{σ:List (Option V)}{H H':Hp}{s:Shared}{h':Heap}
theorem Cx.Ok.Kf (ok:X.Ok) {b:Addr}{o:Obj} (e:X.base.get? b=some o):b∉X.fs:=fun hb=>by
  have:=(ok.rJ.mem hb).1
  rw[e] at this;cases this
theorem Inv.bs (I:Inv X pins σ H s):∀b o,X.base.get? b=some o→s.heap.get? b=some o∧H b=none:=fun b o e =>
  ⟨I.base.keep b o (I.ok.bs b o e).1 (I.ok.bs b o e).2 (I.ok.Kf e) (I.ok.noex b o e),I.base.free b o (I.ok.bs b o e).1 (I.ok.bs b o e).2 (I.ok.noex b o e)⟩
theorem Inv.bk (I:Inv X pins σ H s):∀b o,X.base.get? b=some o→s.heap.get? b=some o:=fun b o e=>(I.bs b o e).1
theorem Inv.mod (I:Inv X pins σ H s):Mod X.K X.mg X.base:=I.ok.mod
theorem Inv.kIn (I:Inv X pins σ H s):X.K.In s.heap:=I.ok.mod.kin.keeps I.bk
theorem Inv.fr (I:Inv X pins σ H s):∃m,Fr X.base X.env.locals s.heap m :=
  let ⟨m,hn,_⟩:=I.loc
  ⟨m,hn,I.bk,Nat.le_trans I.ok.bsz I.ok.above⟩
theorem Inv.lt (I:Inv X pins σ H s):X.env.locals<s.heap.objs.size:=let ⟨_,hn,_⟩:=I.loc;hn.lt
theorem Inv.sz (I:Inv X pins σ H s):X.s₀.heap.objs.size≤s.heap.objs.size:=Nat.le_trans I.ok.above (Nat.le_of_lt I.lt)
theorem Inv.J1 (I:Inv X pins σ H s) {a:Addr} (h:s.heap.objs.size≤a):a∉X.fs:=fun hb=>by
  obtain ⟨_,o,ho,_⟩:=I.ok.rJ.mem hb
  exact absurd (Nat.lt_of_lt_of_le (Heap.lt_size ho) (Nat.le_trans I.sz h)) (Nat.lt_irrefl _)
theorem Inv.cne (I:Inv X pins σ H s):∀x c,X.env.cells.lookup x=some c→c≠X.env.locals:=fun x c e z=>by
  obtain ⟨v,o,ho,hd⟩:=I.cell x c e
  obtain ⟨m,⟨o',es,ep,ho',hd',_⟩,_⟩:=I.loc
  rw[z,ho'] at ho;cases ho;rw[hd'] at hd;cases hd
theorem Inv.rJ (I:Inv X pins σ H s):s.heap.FunFrames X.base X.outer:=by
  have all:∀(l:List Env),(∀b∈frs l,b∈X.fs)→X.s₀.heap.FunFrames X.base l→s.heap.FunFrames X.base l:=by
    intro l
    induction l with
    | nil=>intro _ _;trivial
    | cons env r ih =>
      intro hs hl
      obtain ⟨hk,⟨L,o,hf,hn,ho,hd⟩,hr⟩:=hl
      have hL:L∈X.fs:=hs L (by unfold frs;rw[List.filterMap_cons,hf];exact List.mem_cons_self)
      obtain ⟨sl,e⟩:=I.base.slot L o ho (I.ok.frf L hL) hL fun z=>I.ok.exfs L z hL
      exact⟨hk,⟨L,_,hf,hn,e,hd⟩,ih (fun b hb=>hs b (by unfold frs;rw[List.filterMap_cons,hf];exact List.mem_cons_of_mem _ hb)) hr⟩
  exact all X.outer (fun _ hb=>hb) I.ok.rJ
theorem Inv.stack (I:Inv X pins σ H s):s.heap.FunFrames X.base X.stack:=by
  rcases I.ok.stk with e | ⟨e,hf⟩
  · rw[e];exact I.rJ
  · rw[e]
    obtain ⟨m,hn,_⟩:=I.loc
    refine .cons (by rw[I.ok.kind];decide) hf hn ?_ I.rJ
    exact Heap.get?_none_of_le (Nat.le_trans I.ok.bsz I.ok.above)
theorem Inv.tq (I:Inv X pins σ H s):∀b∈frs X.stack,b∈X.env.locals::X.fs:=fun b hb=>by
  rcases I.ok.stk with e | ⟨e,hf⟩
  · rw[e] at hb;exact List.mem_cons_of_mem _ hb
  · rw[e] at hb
    unfold frs at hb
    rw[List.filterMap_cons,hf] at hb
    exact hb
theorem Inv.wo (I:Inv X pins σ H s):∀b∈frs X.stack,H b=none:=fun b hb=>by
  rcases List.mem_cons.mp (I.tq b hb) with e | hb
  · rw[e];exact I.free
  · obtain ⟨_,o,ho,_⟩:=I.ok.rJ.mem hb
    exact I.base.free b o ho (I.ok.frf b hb) fun z=>I.ok.exfs b z hb
theorem Inv.step {g':Array GenState}{t':Nat}{d':Drawn}{ch:List Addr} (I:Inv X pins σ H s)
    (hch:∀b∈ch,(b∈X.ex∨X.s₀.heap.objs.size≤b)∧b≠X.env.locals∧(∀x c,X.env.cells.lookup x=some c→c≠b)∧∀p∈X.pn++pins,p.1≠b)
    (keep:∀b o,b≠X.env.locals→b∉X.fs→b∉ch→s.heap.get? b=some o→H b=none→h'.get? b=some o)
    (slot:∀b o,b≠X.env.locals→b∈X.fs→b∉ch→s.heap.get? b=some o→H b=none→∃sl,h'.get? b=some { o with slots:=sl }) (free:∀b o,b∉ch→s.heap.get? b=some o→H b=none→H' b=none)
    (there:∀b o,b∉ch→s.heap.get? b=some o→∃o',h'.get? b=some o')
    (tups:∀b xs,H b=some (.tup xs)→H' b=some (.tup xs)) (frzs:∀b o u,H b=some (.frz o u)→H' b=some (.frz o u)) (tbls:∀b ps,H b=some (.tbl ps)→∃more,H' b=some (.tbl (ps++more)))
    (ns:∀m,s.heap.Ns X.env.locals m→h'.Ns X.env.locals m) (hok:HOk X.prog X.w H' h') (hg:AllBare g') :
    Inv X pins σ H' { s with heap:=h',gens:=g',drawn:=d',toks:=t' }:=by
  have neL:∀b o,X.s₀.heap.get? b=some o→b≠X.env.locals:=fun b o e=>Nat.ne_of_lt (Nat.lt_of_lt_of_le (Heap.lt_size e) I.ok.above)
  have neC:∀b o,X.s₀.heap.get? b=some o→b∉X.ex→b∉ch:=fun b o e hx hb=>by
    rcases (hch b hb).1 with z | z
    · exact hx z
    · exact absurd (Nat.lt_of_lt_of_le (Heap.lt_size e) z) (Nat.lt_irrefl _)
  have cellK:∀x c,X.env.cells.lookup x=some c→∀v,s.heap.IsCell c v→h'.IsCell c v:=fun x c e v ⟨o,ho,hd⟩=>by
    have nch:c∉ch:=fun z=>(hch c z).2.2.1 x c e rfl
    by_cases hc:c∈X.fs
    · obtain ⟨sl,q⟩:=slot c o (I.cne x c e) hc nch ho (I.freeC x c e)
      exact⟨_,q,hd⟩
    · exact⟨o,keep c o (I.cne x c e) hc nch ho (I.freeC x c e),hd⟩
  refine⟨I.ok,I.os,hg,⟨fun b o e n hb hx=>?_,fun b o e n hb hx=>?_,fun b o e n hx=>?_,fun b o e hx=>?_,fun b xs e=>tups b xs (I.base.tups b xs e),fun b o xs e=>frzs b o xs (I.base.frzs b o xs e),fun b ps e=>?_⟩,?_,fun x c e=>?_,?_,fun x c e=>?_,fun p hp=>?_,hok,I.len⟩
  · exact keep b o (neL b o e) hb (neC b o e hx) (I.base.keep b o e n hb hx) (I.base.free b o e n hx)
  · obtain ⟨sl,e1⟩:=I.base.slot b o e n hb hx
    obtain ⟨sl',e2⟩:=slot b _ (neL b o e) hb (neC b o e hx) e1 (I.base.free b o e n hx)
    exact⟨sl',e2⟩
  · obtain ⟨o',e1⟩:=I.base.there b o e hx
    exact free b o' (neC b o e hx) e1 (I.base.free b o e n hx)
  · obtain ⟨o',e1⟩:=I.base.there b o e hx
    exact there b o' (neC b o e hx) e1
  · obtain ⟨m1,e1⟩:=I.base.tbls b ps e
    obtain ⟨m2,e2⟩:=tbls b _ e1
    exact⟨m1++m2,by rw[e2,Array.append_assoc]⟩
  · obtain ⟨m,hn,hl⟩:=I.loc
    refine⟨m,ns m hn,fun i x v e1 e2 e3=>?_⟩
    obtain ⟨u,r,l⟩:=hl i x v e1 e2 e3
    refine⟨u,r,?_⟩
    rcases l with l | ⟨k,c,e,z⟩
    · exact .inl l
    · exact .inr ⟨k,c,e,cellK x c e _ z⟩
  · obtain ⟨v,z⟩:=I.cell x c e
    exact⟨v,cellK x c e v z⟩
  · obtain ⟨m,⟨o,_,_,ho,_⟩,_⟩:=I.loc
    exact free _ o (fun z=>(hch _ z).2.1 rfl) ho I.free
  · obtain ⟨v,o,ho,hd⟩:=I.cell x c e
    exact free c o (fun z=>(hch c z).2.2.1 x c e rfl) ho (I.freeC x c e)
  · obtain ⟨e,n,ne,nf,d⟩:=I.pin p hp
    have nch:p.1∉ch:=fun z=>(hch p.1 z).2.2.2 p hp rfl
    exact⟨keep p.1 p.2 ne nf nch e n,free p.1 p.2 nch e n,ne,nf,d⟩
theorem Inv.un {t':Nat} (I:Inv X pins σ H s) (u:Un X.fs [] H H' s.heap h') (hok:HOk X.prog X.w H' h'):Inv X pins σ H' { s with heap:=h',toks:=t' }:=by
  obtain ⟨m,⟨o,es,ep,ho,r⟩,_⟩:=id I.loc
  obtain ⟨sl,hL⟩:=u.any ho I.free (by simp)
  exact I.step (g':=s.gens) (d':=s.drawn) (ch:=[]) (fun _ z=>nomatch z) (fun b o _ hb _ e n=>u.keep b o e n hb (by simp)) (fun b o _ hb _ e n=>u.slot b o e n hb (by simp)) (fun b o _ e n=>u.free b o e n (by simp)) (fun b o _ e=>u.there b o e (by simp)) u.tups u.frzs u.tbls (fun m' hm=>by
    obtain ⟨o',es',ep',ho',r'⟩:=hm
    rw[ho] at ho';cases ho'
    exact⟨_,es',ep',hL,r'⟩) hok I.bare
theorem Inv.call {g':Array GenState}{t':Nat}{d':Drawn}{ch:List Addr} (I:Inv X pins σ H s) (u:Un (frs X.stack) ch H H' s.heap h') (hok:HOk X.prog X.w H' h') (hg:AllBare g')
    (hch:∀b∈ch,(b∈X.ex∨X.s₀.heap.objs.size≤b)∧b≠X.env.locals∧(∀x c,X.env.cells.lookup x=some c→c≠b)∧∀p∈X.pn++pins,p.1≠b) :
    Inv X pins σ H' { s with heap:=h',gens:=g',drawn:=d',toks:=t' }:=by
  obtain ⟨m,⟨o,es,ep,ho,r⟩,_⟩:=id I.loc
  obtain ⟨sl,hL⟩:=u.any ho I.free fun z=>(hch _ z).2.1 rfl
  exact I.step (ch:=ch) hch (fun b o hL hb hc e n=>u.keep b o e n (fun z=>(List.mem_cons.mp (I.tq b z)).elim hL hb) hc) (fun b o _ _ hc e n=>u.any e n hc) (fun b o hc e n=>u.free b o e n hc) (fun b o hc e=>u.there b o e hc) u.tups u.frzs u.tbls (fun m' hm=>by
    obtain ⟨o',es',ep',ho',r'⟩:=hm
    rw[ho] at ho';cases ho'
    exact⟨_,es',ep',hL,r'⟩) hok hg
theorem Inv.turned {t':Nat}{it:Addr} (I:Inv X pins σ H s) (k:∀b o,b≠it→s.heap.get? b=some o→h'.get? b=some o) (hn:H it=none) (hL:it≠X.env.locals)
    (h1:it∈X.ex∨X.s₀.heap.objs.size≤it) (h2:∀x c,X.env.cells.lookup x=some c→c≠it) (h3:∀p∈X.pn++pins,p.1≠it):Inv X pins σ H { s with heap:=h',toks:=t' }:=by
  have nit:∀b u,H b=some u→b≠it:=fun b u e z=>by rw[z,hn] at e;cases e
  refine I.step (g':=s.gens) (d':=s.drawn) (ch:=[it]) (fun b hb=>?_) (fun b o _ _ hc e _=>k b o (fun z=>hc (by simp [z])) e) (fun b o _ _ hc e _=>⟨o.slots,k b o (fun z=>hc (by simp [z])) e⟩) (fun _ _ _ _ n=>n)
    (fun b o hc e=>⟨o,k b o (fun z=>hc (by simp [z])) e⟩) (fun _ _ e=>e) (fun _ _ _ e=>e) (fun b ps e=>⟨#[],by rw[e];simp⟩) (fun m hm=>?_) (fun b u e=>?_) I.bare
  · have e:b=it:=by simpa using hb
    subst e
    exact⟨h1,hL,h2,h3⟩
  · obtain ⟨o,es,ep,ho,r⟩:=hm
    exact⟨o,es,ep,k _ o (Ne.symm hL) ho,r⟩
  · refine (I.hok b u e).wH (fun c v hc q=>k c v ?_ q) (fun _ q=>q) fun _ _ q=>q
    rcases hc with z | z
    · rw[z];exact nit b u e
    · exact nit c _ z
theorem Inv.tok (I:Inv X pins σ H s) (t:Nat):Inv X pins σ H { s with toks:=t }:=I.un (h':=s.heap) (t':=t) Un.refl I.hok
theorem Inv.kept {t':Nat} (I:Inv X pins σ H s) (k:∀b u,s.heap.get? b=some u→h'.get? b=some u):Inv X pins σ H { s with heap:=h',toks:=t' }:=I.un (Un.kept k) (I.hok.kept k)
theorem Inv.laid {a:Addr}{o:HO}{t':Nat} (I:Inv X pins σ H s) (k:∀b u,s.heap.get? b=some u→h'.get? b=some u) (hp:s.heap.objs.size≤a) (new:cY X.prog X.w (upd H a o) h' a o) :
    Inv X pins σ (upd H a o) { s with heap:=h',toks:=t' }:=I.un (Un.laid k hp (I.hok.fresh hp)) (I.hok.laid k hp new)
theorem Inv.write {x e:Addr}{o:HO}{t':Nat} (I:Inv X pins σ H s) (mu:Mut (H x)) (he:e=x∨H e=some (.own x)) (k:∀b u,b≠e→s.heap.get? b=some u→h'.get? b=some u) (heo:∃u,h'.get? e=some u)
    (new:cY X.prog X.w (upd H x o) h' x o):Inv X pins σ (upd H x o) { s with heap:=h',toks:=t' }:=I.un (Un.write mu he k heo) (I.hok.write mu he k heo new)
theorem Inv.weak {σ':List (Option V)} (I:Inv X pins σ H s) (hl:σ'.length=σ.length) (w:∀(i:Nat) v,σ'[i]?=some (some v)→σ[i]?=some (some v)):Inv X pins σ' H s :=
  ⟨I.ok,I.os,I.bare,I.base,let ⟨m,hn,hl'⟩:=I.loc;⟨m,hn,fun i x v e1 e2 e3=>hl' i x v e1 (w i v e2) e3⟩,I.cell,I.free,I.freeC,I.pin,I.hok,hl.trans I.len⟩
theorem Inv.sr {pins':List (Addr × Obj)} (I:Inv X pins σ H s) (h:∀p∈pins',s.heap.get? p.1=some p.2∧H p.1=none∧p.1≠X.env.locals∧p.1∉X.fs∧∀v,p.2.data≠.cell v):Inv X pins' σ H s :=
  ⟨I.ok,I.os,I.bare,I.base,I.loc,I.cell,I.free,I.freeC,fun p hp=>(List.mem_append.mp hp).elim (fun z=>I.pin p (List.mem_append_left _ z)) (h p),I.hok,I.len⟩
theorem x9 {N:List Str} (hN:N.Nodup) {i j:Nat}{x:Str} (a:N[i]?=some x) (b:N[j]?=some x):i=j:=by
  obtain ⟨h1,e1⟩:=List.getElem?_eq_some_iff.mp a
  obtain ⟨h2,e2⟩:=List.getElem?_eq_some_iff.mp b
  exact (List.getElem_inj hN).mp (e1.trans e2.symm)
theorem vO {M:Model}{A:Around}{E:Value→Shared→Prop}{i:Nat}{x:Str}{v:V}{u:Value}{Q:Unit→Shared→Prop} (I:Inv X pins σ H s) (hN:X.N.Nodup) (hi:X.N[i]?=some x) (hx:Loc X.env.scope x) (r:RelV v u)
    (h:∀s',Inv X pins (σ.set i (some v)) H s'→(∃a,Heap.SameBut a s.heap s'.heap∧(a=X.env.locals∨X.env.cells.lookup x=some a))→Q () s') (hf:X.fn x=true∨X.env.scope.names.lookup x=some .local:=by first | exact .inl rfl | exact .inr rfl | assumption):wpAny M A (storeName X.env x u) Q E s:=by
  obtain ⟨m,hn,hl⟩:=id I.loc
  have hcls:(X.env.scope.kind == .class || (X.env.scope.kind == .module && X.env.locals != X.env.globals))=false:=by rw[I.ok.kind];rfl
  have hiσ:i<σ.length:=by rw[I.len];exact (List.getElem?_eq_some_iff.mp hi).1
  have cne:=I.cne
  have tracked:∀{a:Addr}{h':Heap},(∃o,s.heap.get? a=some o∧H a=none)→Heap.SameBut a s.heap h'→HOk X.prog X.w H h':=fun {a h'} ha hs b ob e=>by
    obtain ⟨_,_,hfree⟩:=ha
    refine (I.hok b ob e).wH (fun c w' hc q=>(hs.2 c ?_).trans q) (fun _ q=>q) fun _ _ q=>q
    rintro rfl
    rcases hc with rfl | hc
    · rw[hfree] at e;cases e
    · rw[hfree] at hc;cases hc
  rcases hx with hk | hk
  · refine wpAny_storeName_local hk hn (fun h' hn' hs=>?_) hcls
    obtain ⟨oL,_,_,hoL,_⟩:=id hn
    refine h _ ⟨I.ok,I.os,I.bare,⟨fun b o e n hb hx=>?_,fun b o e n hb hx=>?_,I.base.free,fun b o e hx=>?_,I.base.tups,I.base.frzs,I.base.tbls⟩,⟨_,hn',fun j y v' e1 e2 e3=>?_⟩,fun y c e=>?_,I.free,I.freeC,fun p hp=>?_,tracked ⟨oL,hoL,I.free⟩ hs,by simpa using I.len⟩ ⟨_,hs,.inl rfl⟩
    · exact (hs.2 b (Nat.ne_of_lt (Nat.lt_of_lt_of_le (Heap.lt_size e) I.ok.above))).trans (I.base.keep b o e n hb hx)
    · obtain ⟨sl,e1⟩:=I.base.slot b o e n hb hx
      exact⟨sl,(hs.2 b (Nat.ne_of_lt (Nat.lt_of_lt_of_le (Heap.lt_size e) I.ok.above))).trans e1⟩
    · obtain ⟨o',e1⟩:=I.base.there b o e hx
      exact⟨o',(hs.2 b (Nat.ne_of_lt (Nat.lt_of_lt_of_le (Heap.lt_size e) I.ok.above))).trans e1⟩
    · by_cases hj:j=i
      · subst hj
        rw[hi] at e1;cases e1
        rw[List.getElem?_set_self hiσ] at e2
        cases e2
        exact⟨u,r,.inl ⟨hk,by simp⟩⟩
      · rw[List.getElem?_set_ne (Ne.symm hj)] at e2
        obtain ⟨u',r',q⟩:=hl j y v' e1 e2 e3
        refine⟨u',r',?_⟩
        rcases q with ⟨k,e⟩ | ⟨k,c,e,z⟩
        · refine .inl ⟨k,?_⟩
          have:y≠x:=fun e=>hj (x9 hN e1 (e▸hi))
          simp [this,e]
        · exact .inr ⟨k,c,e,z.sameBut hs (cne y c e)⟩
    · obtain ⟨w',z⟩:=I.cell y c e
      exact⟨w',z.sameBut hs (cne y c e)⟩
    · obtain ⟨e,n,ne,nf,d⟩:=I.pin p hp
      exact⟨(hs.2 p.1 ne).trans e,n,ne,nf,d⟩
  · have hfn:X.fn x=true:=by
      rcases hf with z | z
      · exact z
      · rw[z] at hk;cases hk
    obtain ⟨c,hc⟩:=I.ok.has x (.inl hk)
    obtain ⟨w',z⟩:=I.cell x c hc
    refine wpAny_storeName_cell I.ok.kind hk hc z (fun h' hc' hs=>?_)
    obtain ⟨oc,hoc,hocd⟩:=id z
    refine h { s with heap:=h' } ⟨I.ok,I.os,I.bare,⟨fun b o e n hb hx=>?_,fun b o e n hb hx=>?_,I.base.free,fun b o e hx=>?_,I.base.tups,I.base.frzs,I.base.tbls⟩,⟨m,hn.sameBut hs (Ne.symm (cne x c hc)),fun j y v' e1 e2 e3=>?_⟩,fun y c' e=>?_,I.free,I.freeC,fun p hp=>?_,tracked ⟨oc,hoc,I.freeC x c hc⟩ hs,by simpa using I.len⟩ ⟨c,hs,.inr hc⟩
    · exact (hs.2 b (Nat.ne_of_lt (Nat.lt_of_lt_of_le (Heap.lt_size e) (I.ok.cab x c hfn hc)))).trans (I.base.keep b o e n hb hx)
    · obtain ⟨sl,e1⟩:=I.base.slot b o e n hb hx
      exact⟨sl,(hs.2 b (Nat.ne_of_lt (Nat.lt_of_lt_of_le (Heap.lt_size e) (I.ok.cab x c hfn hc)))).trans e1⟩
    · obtain ⟨o',e1⟩:=I.base.there b o e hx
      exact⟨o',(hs.2 b (Nat.ne_of_lt (Nat.lt_of_lt_of_le (Heap.lt_size e) (I.ok.cab x c hfn hc)))).trans e1⟩
    · by_cases hj:j=i
      · subst hj
        rw[hi] at e1;cases e1
        rw[List.getElem?_set_self hiσ] at e2
        cases e2
        exact⟨u,r,.inr ⟨.inl hk,c,hc,hc'⟩⟩
      · rw[List.getElem?_set_ne (Ne.symm hj)] at e2
        obtain ⟨u',r',q⟩:=hl j y v' e1 e2 e3
        refine⟨u',r',?_⟩
        rcases q with q | ⟨k,c',e,z'⟩
        · exact .inl q
        · refine .inr ⟨k,c',e,z'.sameBut hs ?_⟩
          rintro rfl
          exact hj (x9 hN e1 (I.ok.inj _ _ _ e hc▸hi))
    · by_cases hcc:c'=c
      · subst hcc;exact⟨_,hc'⟩
      · obtain ⟨w2,z2⟩:=I.cell y c' e
        exact⟨w2,z2.sameBut hs hcc⟩
    · obtain ⟨e,n,ne,nf,d⟩:=I.pin p hp
      refine⟨(hs.2 p.1 ?_).trans e,n,ne,nf,d⟩
      intro q
      rw[q,hoc] at e
      have q':oc=p.2:=Option.some.inj e
      exact d w' (by rw[← q'];exact hocd)
theorem yY {M:Model}{A:Around}{E:Value→Shared→Prop}{i:Nat}{x:Str}{v:V}{u:Value}{Q:Unit→Shared→Prop} (I:Inv X pins σ H s) (hN:X.N.Nodup) (hi:X.N[i]?=some x) (hx:Loc X.env.scope x) (r:RelV v u)
    (h:∀s',Inv X pins (σ.set i (some v)) H s'→Q () s') (hf:X.fn x=true∨X.env.scope.names.lookup x=some .local:=by first | exact .inl rfl | exact .inr rfl | assumption):wpAny M A (storeName X.env x u) Q E s :=
  vO I hN hi hx r (fun s' I' _=>h s' I') hf
theorem Inv.HJ {s':Shared}{ch:List Addr} (I:Inv X pins σ H s) (ho:s'.os=s.os) (u:Un (frs X.stack) ch H H' s.heap s'.heap) (hok:HOk X.prog X.w H' s'.heap) (hg:AllBare s'.gens)
    (hch:∀b∈ch,(b∈X.ex∨X.s₀.heap.objs.size≤b)∧b≠X.env.locals∧(∀x c,X.env.cells.lookup x=some c→c≠b)∧∀p∈X.pn++pins,p.1≠b):Inv X pins σ H' s':=by
  obtain ⟨h',g',d',t',o'⟩:=s'
  have e:o'=s.os:=ho
  subst e
  exact I.call (g':=g') (t':=t') (d':=d') u hok hg hch
end
abbrev XK:=Value→Option Addr→Hp→Prop
abbrev St:=List (Option V)
abbrev VK:=V→Hp→Prop
abbrev TE:=St→Hp→VK→Prop
abbrev TT:=St→Hp→(Bool→Hp→Prop)→Prop
abbrev TA:=St→Hp→(List V→Hp→Prop)→Prop
structure Ends where
  nx:St→Hp→Prop
  rt:VK
  bk:St→Hp→Prop:=fun _ _=>False
  ct:St→Hp→Prop:=fun _ _=>False
abbrev TS:=Ends→St→Hp→Prop
def EP (X:Cx) (pins:List (Addr × Obj)) (σ:St) (Q:VK) (u:Value) (s':Shared):Prop:=∃v H',Inv X pins σ H' s'∧RelV v u∧Q v H'
def TP (X:Cx) (pins:List (Addr × Obj)) (σ:St) (Q:Bool→Hp→Prop) (b:Bool) (s':Shared):Prop:=∃H',Inv X pins σ H' s'∧Q b H'
def AP (X:Cx) (pins:List (Addr × Obj)) (σ:St) (Q:List V→Hp→Prop) (us:List Value) (s':Shared):Prop:=∃vs H',Inv X pins σ H' s'∧Vals vs us∧Q vs H'
def SP (X:Cx) (pins:List (Addr × Obj)) (D:Ends) (f:Flow) (s':Shared):Prop :=
  match f with
  | .next=>∃σ' H',Inv X pins σ' H' s'∧D.nx σ' H'
  | .brk=>∃σ' H',Inv X pins σ' H' s'∧D.bk σ' H'
  | .cont=>∃σ' H',Inv X pins σ' H' s'∧D.ct σ' H'
  | .ret u=>∃v σ' H',Inv X pins σ' H' s'∧RelV v u∧D.rt v H'
def PE (X:Cx) (e:Expr) (t:TE):Prop :=
  ∀(pins:List (Addr × Obj)) (s:Shared) (σ:St) (H:Hp) (Q:VK),Inv X pins σ H s→t σ H Q→wpAny (model X.prog X.w) X.A (eval e X.env) (EP X pins σ Q) X.xe s
def PT (X:Cx) (e:Expr) (t:TT):Prop :=
  ∀(pins:List (Addr × Obj)) (s:Shared) (σ:St) (H:Hp) (Q:Bool→Hp→Prop),Inv X pins σ H s→t σ H Q→wpAny (model X.prog X.w) X.A (isTrue e X.env (eval e X.env)) (TP X pins σ Q) X.xe s
def PW (X:Cx) (e:Expr) (t:TT):Prop :=
  ∀(whole:Sem Value) (pins:List (Addr × Obj)) (s:Shared) (σ:St) (H:Hp) (Q:Bool→Hp→Prop),Inv X pins σ H s→t σ H Q→wpAny (model X.prog X.w) X.A (isTrue e X.env whole) (TP X pins σ Q) X.xe s
theorem PW.pt {X:Cx}{e:Expr}{t:TT} (h:PW X e t):PT X e t:=h _
def PA (X:Cx) (es:List Expr) (t:TA):Prop :=
  ∀(pos:Pos) (pins:List (Addr × Obj)) (s:Shared) (σ:St) (H:Hp) (Q:List V→Hp→Prop),Inv X pins σ H s→t σ H Q→wpAny (model X.prog X.w) X.A (spliced (backTo pos (starEach es X.env))) (AP X pins σ Q) X.xe s
def PS (X:Cx) (st:Stmt) (t:TS):Prop :=
  ∀(pins:List (Addr × Obj)) (s:Shared) (σ:St) (H:Hp) (D:Ends),Inv X pins σ H s→t D σ H→wpAny (model X.prog X.w) X.A (exec st X.env) (SP X pins D) X.xe s
def PSs (X:Cx) (st:List Stmt) (t:TS):Prop :=
  ∀(pins:List (Addr × Obj)) (s:Shared) (σ:St) (H:Hp) (D:Ends),Inv X pins σ H s→t D σ H→wpAny (model X.prog X.w) X.A (execs st X.env) (SP X pins D) X.xe s
theorem thn {α:Type}{t:Sem α}{Q Q':α→Shared→Prop}{M:Model}{A:Around}{E:Value→Shared→Prop}{s:Shared} (h:wpAny M A t Q E s) (hQ:∀a s,Q a s→Q' a s):wpAny M A t Q' E s:=wpAny_mono h hQ fun _ _ x=>x
end L2
namespace L2
open PySem PySem.Spec PyProof.Rows
section
variable {X:Cx}
theorem bin {a b:Expr}{ta tb:TE} (ha:PE X a ta) (hb:PE X b tb) {pins:List (Addr × Obj)}{s:Shared}{σ:St}{H:Hp}{R:V→V→Hp→Prop} (I:Inv X pins σ H s) (h:ta σ H fun x H1=>tb σ H1 fun y H2=>R x y H2)
    {α:Type}{Q:α→Shared→Prop}{f:Value→Value→Sem α}
    (hf:∀v u s2 x y H2,Inv X pins σ H2 s2→RelV x v→RelV y u→R x y H2→wpAny (model X.prog X.w) X.A (f v u) Q X.xe s2) :
    wpAny (model X.prog X.w) X.A (eval a X.env) (fun v s₁=>wpAny (model X.prog X.w) X.A (eval b X.env) (fun u s₂=>wpAny (model X.prog X.w) X.A (f v u) Q X.xe s₂) X.xe s₁) X.xe s:=by
  refine thn (ha pins s σ H _ I h) fun v s1 ⟨x,H1,I1,r1,q1⟩=>?_
  refine thn (hb pins s1 σ H1 _ I1 q1) fun u s2 ⟨y,H2,I2,r2,q2⟩=>?_
  exact hf v u s2 x y H2 I2 r1 r2 q2
def pM (i:Nat):TE:=fun σ H Q=>∃v,σ[i]?=some (some v)∧Q v H
def tC (v:V):TE:=fun _ H Q=>Q v H
theorem IS {i:Nat}{x:Str}{pos:Pos} (hN:X.N[i]?=some x) (hv:Vis X.env.scope x) (hd:(x == ("__debug__" : Str))=false:=by decide) (hcd:(x == ("__classdict__" : Str))=false:=by decide):PE X (.Name x pos) (pM i):=by
  intro pins s σ H Q I h
  obtain ⟨v,e,h⟩:=h
  obtain ⟨m,hn,hl⟩:=I.loc
  obtain ⟨u,r,l⟩:=hl i x v hN e hv
  have fin:EP X pins σ Q u s:=⟨v,H,I,r,h⟩
  rcases l with ⟨hk,hm⟩ | ⟨hk,c,hc,hcell⟩
  · exact wpAny_Name (wpAny_loadName_local I.ok.kind hk hn hm fin) hd
  · rcases hk with hk | hk
    · exact wpAny_Name (wpAny_loadName_cell I.ok.kind hk hc hcell fin) hd
    · exact wpAny_Name (wpAny_loadName_free I.ok.kind hk hc hcell fin hcd) hd
theorem av {i j pos}:PE X (.Constant (.int i) j pos) (tC (.int i)):=fun _ _ _ H _ I h=>wpAny_Constant_int ⟨.int i,H,I.tok _,⟨_,rfl⟩,h⟩
theorem jF {b j pos}:PE X (.Constant (.bool b) j pos) (tC (.bl b)):=fun _ _ _ H _ I h=>Constant_bool ⟨.bl b,H,I,rfl,h⟩
theorem wU {j pos}:PE X (.Constant .none j pos) (tC .non):=fun _ _ _ H _ I h=>Constant_none ⟨.non,H,I,rfl,h⟩
theorem kq {x j pos}:PE X (.Constant (.str x) j pos) (tC (.str x)):=fun _ _ _ H _ I h=>Calls.Constant_str ⟨.str x,H,I.tok _,⟨_,rfl⟩,h⟩
def Gl (X:Cx) (x:Str):Prop:=X.env.kindOf x=some .globalImplicit
theorem xh {E:Value→Shared→Prop}{pins:List (Addr × Obj)}{s:Shared}{σ:St}{H:Hp}{x:Str}{u:Value}{pos:Pos}{Q:Value→Shared→Prop} (I:Inv X pins σ H s) (hg:Gl X x) (hm:X.mg x=some u) (h:Q u s)
    (hd:(x == ("__debug__" : Str))=false:=by decide):wpAny (model X.prog X.w) X.A (eval (.Name x pos) X.env) Q E s :=
  Calls.Name_function_global I.ok.kind hg (Calls.loadGlobal_global (by rw[I.ok.glob];exact I.mod.glob.keeps I.bk) hm h) hd
theorem lR {E:Value→Shared→Prop}{pins:List (Addr × Obj)}{s:Shared}{σ:St}{H:Hp}{x:Str}{u:Value}{pos:Pos}{Q:Value→Shared→Prop} (I:Inv X pins σ H s) (hg:Gl X x) (hm:X.mg x=none) (hv:bootBuiltins x=some u) (h:Q u s)
    (hn:x≠"__name__":=by decide) (hd:(x == ("__debug__" : Str))=false:=by decide):wpAny (model X.prog X.w) X.A (eval (.Name x pos) X.env) Q E s:=by
  obtain ⟨mb,h1,h2⟩:=I.mod.blt
  exact Calls.Name_function_global I.ok.kind hg (Calls.loadGlobal_builtin (by rw[I.ok.glob];exact I.mod.glob.keeps I.bk) hm (by rw[I.ok.blt];exact h1.keeps I.bk) ((h2 x hn).trans hv) h) hd
theorem FU {x:Str}{v:V}{u:Value}{pos:Pos} (hg:Gl X x) (hm:X.mg x=some u) (r:RelV v u) (hd:(x == ("__debug__" : Str))=false:=by decide):PE X (.Name x pos) (tC v) :=
  fun _ _ _ H _ I h=>xh I hg hm ⟨v,H,I,r,h⟩ hd
theorem kI {x:Str}{v:V}{u:Value}{pos:Pos} (hg:Gl X x) (hm:X.mg x=none) (hv:bootBuiltins x=some u) (r:RelV v u) (hn:x≠"__name__":=by decide) (hd:(x == ("__debug__" : Str))=false:=by decide):PE X (.Name x pos) (tC v) :=
  fun _ _ _ H _ I h=>lR I hg hm hv ⟨v,H,I,r,h⟩ hn hd
variable {a b:Expr}{ta tb:TE}{pos:Pos}
def PC (X:Cx) (op:CmpOp) (a b:Expr) (t:TE):Prop :=
  ∀(pins:List (Addr × Obj)) (s:Shared) (σ:St) (H:Hp) (Q:VK),Inv X pins σ H s→t σ H Q →
    wpAny (model X.prog X.w) X.A (eval a X.env) (fun v s₁=>wpAny (model X.prog X.w) X.A (eval b X.env) (fun u s₂=>wpAny (model X.prog X.w) X.A (compareOp op v u) (EP X pins σ Q) X.xe s₂) X.xe s₁) X.xe s
theorem C4 (b:Expr) {op:CmpOp} (h:op≠.In) (h2:op≠.NotIn):behindInMarks op b=false:=by
  have e1:(op == CmpOp.In)=false:=by cases op<;>first | rfl | exact absurd rfl h
  have e2:(op == CmpOp.NotIn)=false:=by cases op<;>first | rfl | exact absurd rfl h2
  cases b<;>simp [behindInMarks,e1,e2]
def tB (t:TE):TT:=fun σ H Q=>t σ H fun x H1=>∃c,x=.bl c∧Q c H1
theorem Ft {op:CmpOp}{t:TE} (h:PC X op a b t) (h1:behindInMarks op b=false:=by first | exact C4 _ (by decide) (by decide) | rfl):PT X (.Compare a [op] [b] pos) (tB t):=by
  intro pins s σ H Q I hw
  refine wpAny_isTrue_Compare1 (thn (h pins s σ H _ I hw) fun v s1 h1=>thn h1 fun u s2 h2=>thn h2 fun c s3 ⟨x,H1,I1,r1,q1⟩=>?_) h1
  obtain ⟨d,rfl,q⟩:=q1
  cases r1
  exact wpAny_truthy_bool ⟨H1,I1,q⟩
theorem gO {e:Expr}{t:TE} (h:PE X e t) (he:∀whole,isTrue e X.env whole=(do let v ← whole;standAt e.pos;holding [v] (truthy v)):=by intro _;rfl):PT X e (tB t):=by
  intro pins s σ H Q I hw
  refine isTrue_plain (thn (h pins s σ H _ I hw) fun v s1 ⟨x,H1,I1,r1,q1⟩=>?_) (he _)
  obtain ⟨d,rfl,q⟩:=q1
  cases r1
  exact wpAny_truthy_bool ⟨H1,I1,q⟩
variable {tA tB':TT}{rest:List Expr}
def Jy (t u:TT):TT:=fun σ H Q=>t σ H fun c H1=>if c=true then u σ H1 Q else Q false H1
def tOr (t u:TT):TT:=fun σ H Q=>t σ H fun c H1=>if c=true then Q true H1 else u σ H1 Q
def JR (t:TT):TT:=fun σ H Q=>t σ H fun c H1=>Q (!c) H1
theorem AJ (ha:PT X a tA):PW X (.BoolOp .And [a] pos) tA:=by
  intro wh pins s σ H Q I h
  refine isTrue_and (thn (ha pins s σ H Q I h) fun c s1 e=>?_)
  cases c with
  | true=>exact isTrue_and_nil e
  | false=>exact e
theorem oE (ha:PT X a tA):PW X (.BoolOp .Or [a] pos) tA:=by
  intro wh pins s σ H Q I h
  refine isTrue_or (thn (ha pins s σ H Q I h) fun c s1 e=>?_)
  cases c with
  | false=>exact isTrue_or_nil e
  | true=>exact e
theorem Dy (ha:PT X a tA) (hb:PW X (.BoolOp .And (b::rest) pos) tB'):PW X (.BoolOp .And (a::b::rest) pos) (Jy tA tB'):=by
  intro wh pins s σ H Q I h
  refine isTrue_and (thn (ha pins s σ H _ I h) fun c s1 ⟨H1,I1,q1⟩=>?_)
  cases c with
  | true=>exact hb wh pins s1 σ H1 Q I1 q1
  | false=>exact⟨H1,I1,q1⟩
theorem oq (ha:PT X a tA) (hb:PW X (.BoolOp .Or (b::rest) pos) tB'):PW X (.BoolOp .Or (a::b::rest) pos) (tOr tA tB'):=by
  intro wh pins s σ H Q I h
  refine isTrue_or (thn (ha pins s σ H _ I h) fun c s1 ⟨H1,I1,q1⟩=>?_)
  cases c with
  | true=>exact⟨H1,I1,q1⟩
  | false=>exact hb wh pins s1 σ H1 Q I1 q1
theorem iD (ha:PT X a tA):PT X (.UnaryOp .Not a pos) (JR tA):=by
  intro pins s σ H Q I h
  exact isTrue_not (ha pins s σ H (fun c H1=>Q (!c) H1) I h)
def HN (ta tb:TE):TE:=fun σ H Q=>ta σ H fun x H1=>∃c,x=.bl c∧if c=true then tb σ H1 Q else Q (.bl false) H1
def Hs (ta:TE):TE:=fun σ H Q=>ta σ H fun x H1=>∃c,x=.bl c∧Q (.bl (!c)) H1
theorem qP {op}{t:TE} (h:PE X a t):PE X (.BoolOp op [a] pos) t:=fun pins s σ H Q I hw=>BoolOp_one (h pins s σ H Q I hw)
theorem oB (ha:PE X a ta) (hb:PE X (.BoolOp .And (b::rest) pos) tb):PE X (.BoolOp .And (a::b::rest) pos) (HN ta tb):=by
  intro pins s σ H Q I h
  refine BoolOp_and (thn (ha pins s σ H _ I h) fun v s1 ⟨x,H1,I1,r1,q1⟩=>?_)
  obtain ⟨c,rfl,q1⟩:=q1
  cases r1
  refine wpAny_truthy_bool ?_
  cases c with
  | true=>exact hb pins s1 σ H1 Q I1 q1
  | false=>exact⟨.bl false,H1,I1,rfl,q1⟩
theorem DW (ha:PE X a ta):PE X (.UnaryOp .Not a pos) (Hs ta):=by
  intro pins s σ H Q I h
  refine UnaryOp_ (thn (ha pins s σ H _ I h) fun v s1 ⟨x,H1,I1,r1,q1⟩=>?_)
  obtain ⟨c,rfl,q1⟩:=q1
  cases r1
  exact not_of (wpAny_truthy_bool ⟨.bl (!c),H1,I1,rfl,q1⟩)
def tIf (t:TT) (ta tb:TE):TE:=fun σ H Q=>t σ H fun c H1=>if c=true then ta σ H1 Q else tb σ H1 Q
theorem yl {c:Expr} (hc:PT X c tA) (ha:PE X a ta) (hb:PE X b tb):PE X (.IfExp c a b pos) (tIf tA ta tb):=by
  intro pins s σ H Q I h
  refine wpAny_IfExp (thn (hc pins s σ H _ I h) fun d s1 ⟨H1,I1,q1⟩=>?_)
  cases d with
  | true=>exact ha pins s1 σ H1 Q I1 q1
  | false=>exact hb pins s1 σ H1 Q I1 q1
end
end L2
namespace L2
open PySem PySem.Spec PyProof.Rows
def SqL (K:PySem.W.Frag) (H:Hp) (a:Addr) (xs:List V):Prop :=
  Rd H a (.lst xs) ∨
    ∃(o:Obj) (its:Array Value) (n:Nat),K.lookup a=some o∧o.cls=.type "list"∧o.dict=none∧o.data=.seq its n∧its.size≤sizeLine∧Vals xs its.toList
def SqT (K:PySem.W.Frag) (H:Hp) (a:Addr) (xs:List V):Prop :=
  Rd H a (.tup xs) ∨
    ∃(o:Obj) (its:Array Value) (n:Nat),K.lookup a=some o∧o.cls=.type "tuple"∧o.data=.seq its n∧its.size≤sizeLine∧Vals xs its.toList
def Kg:Value→Option V
  | .none=>some .non
  | .bool b=>some (.bl b)
  | .int i _=>some (.int i)
  | .str x _=>some (.str x)
  | .bytes b _=>some (.byt b)
  | .float b _=>some (.flt b)
  | .ref a=>some (.ref a)
  | .type n=>some (.ty n)
  | _=>none
theorem RelV.abs {x:V}{u:Value} (r:RelV x u):Kg u=some x:=by
  cases x with
  | non=>cases r;rfl
  | bl _=>cases r;rfl
  | int _=>obtain ⟨t,rfl⟩:=r;rfl
  | str _=>obtain ⟨t,rfl⟩:=r;rfl
  | byt _=>obtain ⟨t,rfl⟩:=r;rfl
  | flt _=>obtain ⟨t,rfl⟩:=r;rfl
  | ref _=>cases r;rfl
  | ty _=>cases r;rfl
theorem RelV.inj {x y:V}{u:Value} (r:RelV x u) (q:RelV y u):x=y:=Option.some.inj (r.abs.symm.trans q.abs)
theorem Vals.inj:∀{xs ys:List V}{us:List Value},Vals xs us→Vals ys us→xs=ys
  | _,_,_,.nil,.nil=>rfl
  | _,_,_,.cons r t,.cons r' t'=>by rw[r.inj r',Vals.inj t t']
section
variable {X:Cx}{pins:List (Addr × Obj)}{σ:St}{H:Hp}{s:Shared}{a:Addr}{xs ys:List V}
theorem SqL.of {K:PySem.W.Frag} (h:H a=some (.lst xs)):SqL K H a xs:=.inl (.inl h)
theorem SqT.of {K:PySem.W.Frag} (h:H a=some (.tup xs)):SqT K H a xs:=.inl (.inl h)
theorem Inv.list (I:Inv X pins σ H s) (h:SqL X.K H a xs):∃its:List Value,Vals xs its∧PlainL s.heap a its.toArray∧xs.length≤sizeLine:=by
  rcases h with h | ⟨o,its,n,hk,hc,hd,hs,hz,r⟩
  · obtain ⟨z,its,n,r,e⟩:=h.ok I.hok
    exact⟨its,r,⟨_,n,e,rfl,rfl,rfl⟩,z⟩
  · refine⟨its.toList,r,⟨o,n,I.kIn a o hk,hc,hd,by simpa using hs⟩,?_⟩
    have e:=r.length
    simp only[Array.length_toList] at e
    omega
theorem Inv.tuple (I:Inv X pins σ H s) (h:SqT X.K H a xs):∃its:List Value,Vals xs its∧IsTup s.heap a its.toArray∧xs.length≤sizeLine:=by
  rcases h with h | ⟨o,its,n,hk,hc,hs,hz,r⟩
  · obtain ⟨z,its,r,p⟩:=h.ok I.hok
    exact⟨its,r,p,z⟩
  · refine⟨its.toList,r,⟨o,I.kIn a o hk,hc,n,by simpa using hs⟩,?_⟩
    have e:=r.length
    simp only[Array.length_toList] at e
    omega
theorem Inv.D0 (I:Inv X pins σ H s) (h:SqL X.K H a xs) (h':SqL X.K H a ys):xs=ys:=by
  obtain ⟨its,r,⟨o,n,e,_,_,d⟩,_⟩:=I.list h
  obtain ⟨its',r',⟨o',n',e',_,_,d'⟩,_⟩:=I.list h'
  rw[e] at e';cases e'
  rw[d] at d'
  injection d' with d1 _
  have:its=its':=by simpa using congrArg Array.toList d1
  subst this
  exact r.inj r'
end
abbrev Cx.rh (X:Cx) (E:Value→Shared→Prop):Cx:={ X with xe:=E }
abbrev Cx.nox (X:Cx):Cx:=X.rh fun _ _=>False
theorem Cx.Ok.rh {X:Cx} (ok:X.Ok) (E:Value→Shared→Prop):(X.rh E).Ok :=
  ⟨ok.mod,ok.kind,ok.glob,ok.blt,ok.above,ok.inj,ok.has,ok.cab,ok.hd,ok.frames,ok.stk,ok.exf,ok.bs,ok.bsz,ok.noex,ok.exfs,ok.rJ,ok.frf⟩
theorem Cx.Ok.kN {X:Cx}{E:Value→Shared→Prop} (ok:(X.rh E).Ok):X.Ok :=
  ⟨ok.mod,ok.kind,ok.glob,ok.blt,ok.above,ok.inj,ok.has,ok.cab,ok.hd,ok.frames,ok.stk,ok.exf,ok.bs,ok.bsz,ok.noex,ok.exfs,ok.rJ,ok.frf⟩
section
variable {X:Cx}{pins:List (Addr × Obj)}{σ:St}{H:Hp}{s:Shared}{E:Value→Shared→Prop}
theorem Inv.rh (I:Inv X pins σ H s) (E:Value→Shared→Prop):Inv (X.rh E) pins σ H s:=⟨I.ok.rh E,I.os,I.bare,I.base,I.loc,I.cell,I.free,I.freeC,I.pin,I.hok,I.len⟩
theorem Inv.kN (I:Inv (X.rh E) pins σ H s):Inv X pins σ H s:=⟨I.ok.kN,I.os,I.bare,I.base,I.loc,I.cell,I.free,I.freeC,I.pin,I.hok,I.len⟩
theorem SP.kN {D:Ends}{f:Flow}{s':Shared} (h:SP (X.rh E) pins D f s'):SP X pins D f s':=by
  cases f with
  | next=>obtain ⟨σ',H',I,q⟩:=h;exact⟨σ',H',I.kN,q⟩
  | brk=>obtain ⟨σ',H',I,q⟩:=h;exact⟨σ',H',I.kN,q⟩
  | cont=>obtain ⟨σ',H',I,q⟩:=h;exact⟨σ',H',I.kN,q⟩
  | ret u=>obtain ⟨v,σ',H',I,r,q⟩:=h;exact⟨v,σ',H',I.kN,r,q⟩
theorem PT.nox {e:Expr}{t:TT} (h:PT X.nox e t):PT X e t:=fun pins s σ H Q I hw =>
  wpAny_mono (h pins s σ H Q (I.rh _) hw) (fun _ _ ⟨H',I',q⟩=>⟨H',I'.kN,q⟩) fun _ _ z=>False.elim z
theorem PSs.nox {st:List Stmt}{t:TS} (h:PSs X.nox st t):PSs X st t:=fun pins s σ H D I hw =>
  wpAny_mono (h pins s σ H D (I.rh _) hw) (fun _ _ q=>q.kN) fun _ _ z=>False.elim z
end
section
variable {X:Cx}{st:Stmt}{rest:List Stmt}{t u:TS}{e:Expr}{te:TE}{pos:Pos}
def Hz:TS:=fun D σ H=>D.nx σ H
def Iy (t u:TS):TS:=fun D σ H=>t { D with nx:=u D } σ H
theorem bA:PSs X [] Hz:=fun _ _ σ H _ I h=>wpAny_execs_nil ⟨σ,H,I,h⟩
theorem ak (h1:PS X st t) (h2:PSs X rest u):PSs X (st::rest) (Iy t u):=by
  intro pins s σ H D I h
  refine wpAny_execs_cons (thn (h1 pins s σ H { D with nx:=u D } I h) fun f s1 q=>?_)
  cases f with
  | next =>
    obtain ⟨σ',H',I',q⟩:=q
    exact h2 pins s1 σ' H' D I' q
  | ret v=>exact q
  | brk=>exact q
  | cont=>exact q
theorem aq (h1:PS X st t):PSs X [st] t:=by
  intro pins s σ H D I h
  refine wpAny_execs_cons (thn (h1 pins s σ H D I h) fun f s1 q=>?_)
  cases f with
  | next=>exact wpAny_execs_nil q
  | ret v=>exact q
  | brk=>exact q
  | cont=>exact q
theorem Inv.quiet {pins:List (Addr × Obj)}{σ:St}{H:Hp}{s:Shared} (I:Inv X pins σ H s):interactive X.env=false:=by simp [interactive,I.ok.kind]
def An (te:TE):TS:=fun D σ H=>te σ H fun _ H1=>D.nx σ H1
theorem iC (he:PE X e te) (hs:swapsWith e none pos.line X.env=pure false:=by rfl):PS X (.Expr e pos) (An te):=by
  intro pins s σ H D I h
  exact wpAny_Expr_any (thn (he pins s σ H _ I h) fun v s1 ⟨x,H1,I1,r1,q1⟩=>⟨σ,H1,I1,q1⟩) I.quiet hs
def HW (te:TE):TS:=fun D σ H=>te σ H D.rt
theorem aH (he:PE X e te):PS X (.Return (some e) pos) (HW te):=by
  intro pins s σ H D I h
  exact wpAny_Return_some (thn (he pins s σ H _ I h) fun v s1 ⟨x,H1,I1,r1,q1⟩=>⟨x,σ,H1,I1,r1,q1⟩)
def JE:TS:=fun D _ H=>D.rt .non H
def Jj (c:TT) (t u:TS):TS:=fun D σ H=>c σ H fun b H1=>if b=true then t D σ H1 else u D σ H1
theorem dY {c:Expr}{a b:List Stmt}{tc:TT} (hc:PT X c tc) (ha:PSs X a t) (hb:PSs X b u):PS X (.If c a b pos) (Jj tc t u):=by
  intro pins s σ H D I h
  refine wpAny_If (thn (hc pins s σ H _ I h) fun d s1 ⟨H1,I1,q1⟩=>?_)
  cases d with
  | true=>exact ha pins s1 σ H1 D I1 q1
  | false=>exact hb pins s1 σ H1 D I1 q1
def ID:TS:=fun _ _ _=>False
theorem yX:PS X st ID:=fun _ _ _ _ _ _ h=>h.elim
end
abbrev TG:=V→St→Hp→(St→Hp→Prop)→Prop
abbrev TGs:=List V→St→Hp→(St→Hp→Prop)→Prop
def PG (X:Cx) (target:Expr) (t:TG):Prop :=
  ∀(pins:List (Addr × Obj)) (s:Shared) (σ:St) (H:Hp) (v:V) (u:Value) (Q:St→Hp→Prop),Inv X pins σ H s→RelV v u→t v σ H Q →
    wpAny (model X.prog X.w) X.A (assign target X.env u) (fun _ s'=>∃σ' H',Inv X pins σ' H' s'∧Q σ' H') X.xe s
def PGs (X:Cx) (ts:List Expr) (t:TGs):Prop :=
  ∀(pins:List (Addr × Obj)) (s:Shared) (σ:St) (H:Hp) (vs:List V) (us:List Value) (Q:St→Hp→Prop),Inv X pins σ H s→Vals vs us→t vs σ H Q →
    wpAny (model X.prog X.w) X.A (assignInOrder ((assignEach ts X.env).map (·.2)) us) (fun _ s'=>∃σ' H',Inv X pins σ' H' s'∧Q σ' H') X.xe s
abbrev Iu:=V→V→V→Hp→(Hp→Prop)→Prop
def JB (X:Cx) (t:Iu):Prop :=
  ∀(pins:List (Addr × Obj)) (s:Shared) (σ:St) (H:Hp) (o i v:V) (ov iv u:Value) (Q:Hp→Prop),Inv X pins σ H s→RelV o ov→RelV i iv→RelV v u→t o i v H Q →
    wpAny (model X.prog X.w) X.A (setItem ov iv u) (fun _ s'=>∃H',Inv X pins σ H' s'∧Q H') X.xe s
section
variable {X:Cx}{pos:Pos}
def mw (i:Nat):TG:=fun v σ H Q=>Q (σ.set i (some v)) H
theorem aQ {i:Nat}{x:Str} (hN:X.N.Nodup) (hi:X.N[i]?=some x) (hx:Loc X.env.scope x) (hf:X.fn x=true∨X.env.scope.names.lookup x=some .local:=by first | exact .inl rfl | exact .inr rfl | assumption):PG X (.Name x pos) (mw i):=by
  intro pins s σ H v u Q I r h
  exact wpAny_assign_Name (yY I hN hi hx r (fun s' I'=>⟨_,H,I',h⟩) hf)
def Ic:TGs:=fun vs σ H Q=>vs=[]∧Q σ H
def C7 (t:TG) (u:TGs):TGs:=fun vs σ H Q=>∃v r,vs=v::r∧t v σ H fun σ' H'=>u r σ' H' Q
theorem wy:PGs X [] Ic:=by
  intro pins s σ H vs us Q I r h
  obtain ⟨e,h⟩:=h
  subst e
  cases r
  exact assignInOrder_nil ⟨σ,H,I,h⟩
theorem lA {e:Expr}{es:List Expr}{t:TG}{u:TGs} (h1:PG X e t) (h2:PGs X es u)
    (hs:(assignEach (e::es) X.env).map (·.2)=assign e X.env::(assignEach es X.env).map (·.2):=by rfl):PGs X (e::es) (C7 t u):=by
  intro pins s σ H vs us Q I r h
  obtain ⟨v,vr,e1,h⟩:=h
  subst e1
  cases r with
  | cons r rr =>
    rw[hs]
    refine assignInOrder_cons (thn (h1 pins s σ H _ _ _ I r h) fun _ s1 ⟨σ1,H1,I1,q1⟩=>?_)
    exact h2 pins s1 σ1 H1 _ _ Q I1 rr q1
def GR (K:PySem.W.Frag) (n:Nat) (t:TGs):TG:=fun v σ H Q=>∃a xs,v=.ref a∧SqT K H a xs∧xs.length=n∧t xs σ H Q
theorem IX {es:List Expr}{k:Nat}{t:TGs}{n:Nat} (hc:X.calm=true) (h:PGs X es t)
    (hn:(assignEach es X.env).length=n:=by rfl) (hst:(assignEach es X.env).findIdx? (·.1)=none:=by rfl):PG X (.Tuple es k pos) (GR X.K n t):=by
  intro pins s σ H v u Q I r hw
  obtain ⟨a,xs,e1,hq,hl,hw⟩:=hw
  subst e1
  cases r
  obtain ⟨its,rv,ht,hz⟩:=I.tuple hq
  refine assign_Tuple_tuple (I.ok.hd hc) ht (by simp [hn,← hl,rv.length]) hst fun h' hx=>?_
  have I1:Inv X pins σ H { s with heap:=h' }:=I.kept (t':=s.toks) fun b o e=>hx b o (Nat.ne_of_lt (Heap.lt_size e)) e
  exact h pins _ σ H xs _ Q I1 (by simpa using rv) hw
def GH (to ti:TE) (t:Iu):TG:=fun v σ H Q=>to σ H fun o H1=>ti σ H1 fun i H2=>t o i v H2 fun H3=>Q σ H3
theorem ka {o i:Expr}{to ti:TE}{t:Iu} (ho:PE X o to) (hi:PE X i ti) (hs:JB X t)
    (ha:∀v,assign (.Subscript o i pos) X.env v=(do
      let ov ← holding [v] (eval o X.env)
      let iv ← holding [v,ov] (eval i X.env)
      standAt pos
      holding [v,ov,iv] (setItem ov iv v)
      release [v,ov,iv] []):=by intro _;rfl):PG X (.Subscript o i pos) (GH to ti t):=by
  intro pins s σ H v u Q I r h
  rw[ha]
  refine wpAny_bind (wpAny_holding (thn (ho pins s σ H _ I h) fun ov s1 ⟨x,H1,I1,r1,q1⟩=>?_))
  refine wpAny_bind (wpAny_holding (thn (hi pins s1 σ H1 _ I1 q1) fun iv s2 ⟨y,H2,I2,r2,q2⟩=>?_))
  refine wpAny_bind (wpAny_standAt (wpAny_bind (wpAny_holding (thn (hs pins s2 σ H2 x y v ov iv u _ I2 r1 r2 r q2) fun _ s3 ⟨H3,I3,q3⟩=>?_))))
  exact wpAny_release ⟨σ,H3,I3,q3⟩
def rj (te:TE) (g:TG):TS:=fun D σ H=>te σ H fun x H1=>g x σ H1 D.nx
theorem jz {tg e:Expr}{te:TE}{g:TG} (he:PE X e te) (hg:PG X tg g) (hs:swapsWithSole [tg] e pos.line X.env=pure false:=by rfl) (hw:swappedStores [tg] e X.env=pure none:=by rfl)
    (h1:(assignEach [tg] X.env).map (·.2)=[assign tg X.env]:=by rfl):PS X (.Assign [tg] e pos) (rj te g):=by
  intro pins s σ H D I h
  refine wpAny_Assign_stores (thn (he pins s σ H _ I h) fun v s1 ⟨x,H1,I1,r1,q1⟩=>?_) hs hw
  rw[h1]
  exact thn (hg pins s1 σ H1 x v _ I1 r1 q1) fun _ s2 q=>q
theorem aI {i:Nat}{x:Str}{e:Expr}{te:TE}{pos':Pos} (hN:X.N.Nodup) (hi:X.N[i]?=some x) (hx:Loc X.env.scope x) (he:PE X e te) (hs:swapsWith e (some (.Name x pos')) pos.line X.env=pure false:=by rfl) (hf:X.fn x=true∨X.env.scope.names.lookup x=some .local:=by first | exact .inl rfl | exact .inr rfl | assumption) :
    PS X (.Assign [.Name x pos'] e pos) (rj te (mw i)):=by
  intro pins s σ H D I h
  refine wpAny_Assign_Name (thn (he pins s σ H _ I h) fun v s1 ⟨y,H1,I1,r1,q1⟩=>?_) hs
  exact yY I1 hN hi hx r1 (fun s2 I2=>⟨_,H1,I2,q1⟩) hf
end
section
variable {X:Cx}{pos:Pos}
def Ef (c:TT) (tb:TS):TS:=fun D σ H=>∃W:Nat→St→Hp→Prop,(∃m,W m σ H)∧∀m σ H,W m σ H →
  c σ H fun b H1=>if b=true then ∃N:St→Hp→Prop,(∀σ' H',N σ' H'→∃m',m' < m∧W m' σ' H')∧tb { D with nx:=N,ct:=N,bk:=D.nx } σ H1 else D.nx σ H1
theorem mH {c:Expr}{body:List Stmt}{tc:TT}{tb:TS} (hp:PassesOwn (model X.prog X.w) X.A X.env X.xe) (hc:PT X c tc) (hb:PSs X body tb):PS X (.While c body [] pos) (Ef tc tb):=by
  intro pins s σ H D I h
  obtain ⟨W,⟨m0,w0⟩,turn⟩:=h
  refine wpAny_While (codeAny_whileLoop (fun n s'=>∃σ' H',Inv X pins σ' H' s'∧W n σ' H') ?_ m0 ⟨σ,H,I,w0⟩)
  rintro n s1 ⟨σ1,H1,I1,w1⟩
  refine wpAny_passesOwn hp (thn (hc pins s1 σ1 H1 _ I1 (turn n σ1 H1 w1)) fun b s2 ⟨H2,I2,q2⟩=>?_)
  cases b with
  | true =>
    obtain ⟨N,hN,q2⟩:=q2
    rw[if_pos rfl]
    refine wpAny_passesOwn hp (thn (hb pins s2 σ1 H2 _ I2 q2) fun f s3 q3=>?_)
    cases f with
    | next =>
      obtain ⟨σ3,H3,I3,n3⟩:=q3
      obtain ⟨m',hm,w3⟩:=hN σ3 H3 n3
      exact⟨m',hm,σ3,H3,I3,w3⟩
    | cont =>
      obtain ⟨σ3,H3,I3,n3⟩:=q3
      obtain ⟨m',hm,w3⟩:=hN σ3 H3 n3
      exact⟨m',hm,σ3,H3,I3,w3⟩
    | brk=>exact q3
    | ret v=>exact q3
  | false =>
    rw[if_neg Bool.false_ne_true]
    exact wpAny_execs_nil ⟨σ1,H2,I2,q2⟩
end
structure It where
  go:Nat→Hp→Prop
  yld:Nat→Hp→V→Hp→Prop
  stop:Nat→Hp→Prop
def uH (X:Cx) (pins:List (Addr × Obj)) (H:Hp) (b:Addr):Prop :=
  H b=none∧b≠X.env.locals∧b∉X.fs∧(b∈X.ex∨X.s₀.heap.objs.size≤b)∧(∀x c,X.env.cells.lookup x=some c→c≠b)∧∀p∈X.pn++pins,p.1≠b
theorem Inv.J4 {X:Cx}{pins:List (Addr × Obj)}{σ:St}{H H':Hp}{s:Shared}{b:Addr} (I:Inv X pins σ H s) (hb:s.heap.objs.size≤b) (hn:H' b=none):uH X pins H' b:=by
  refine⟨hn,Nat.ne_of_gt (Nat.lt_of_lt_of_le I.lt hb),I.J1 hb,.inr (Nat.le_trans I.sz hb),fun x c e z=>?_,fun p hp z=>?_⟩
  · obtain ⟨v,q⟩:=I.cell x c e
    exact absurd (Nat.lt_of_lt_of_le q.lt (by rw[z];exact hb)) (Nat.lt_irrefl _)
  · exact absurd (Nat.lt_of_lt_of_le (Heap.lt_size (I.pin p hp).1) (by rw[z];exact hb)) (Nat.lt_irrefl _)
structure Turn (P:Program) (w:World) (K:PySem.W.Frag) (tg:Expr) (J:It) (fp:List Addr) (it:Addr) (tn:Nat→Heap→Prop):Prop where
  mem:it∈fp
  obj:∀i h,tn i h→∀b∈fp,∃o,h.get? b=some o∧∀v,o.data≠.cell v
  keep:∀i h h',tn i h→(∀b∈fp,∀o,h.get? b=some o→h'.get? b=some o)→tn i h'
  item:∀(X:Cx),X.prog=P→X.w=w→X.K=K→X.calm=true→∀(i:Nat) (pins:List (Addr × Obj)) (s:Shared) (σ:St) (H:Hp) (E:Value→Shared→Prop),Inv X pins σ H s→(∀b∈fp,uH X pins H b)→tn i s.heap→J.go i H →
    wpAny (model P w) X.A (pyNext (.ref it)) (fun r s1=>∃u,r=some u ∧
      wpAny (model P w) X.A (letOwnedTupleGo tg (.ref it) u) (fun _ s2=>∃x H',Inv X pins σ H' s2∧RelV x u∧J.yld i H x H'∧tn (i+1) s2.heap∧∀b∈fp,H' b=none) E s1) E s
  done:∀(X:Cx),X.prog=P→X.w=w→X.K=K→X.calm=true→∀(i:Nat) (pins:List (Addr × Obj)) (s:Shared) (σ:St) (H:Hp) (E:Value→Shared→Prop),Inv X pins σ H s→(∀b∈fp,uH X pins H b)→tn i s.heap→J.stop i H →
    wpAny (model P w) X.A (pyNext (.ref it)) (fun r s1=>r=none∧Inv X pins σ H s1) E s
  self:∀(A:Around) (i:Nat) (s:Shared) (Q:Value→Shared→Prop) (E:Value→Shared→Prop),tn i s.heap→Q (.ref it) s→wpAny (model P w) A (pyIter (.ref it)) Q E s
abbrev TI:=St→Hp→(It→Hp→Prop)→Prop
def PIE (X:Cx) (pins:List (Addr × Obj)) (σ:St) (tg:Expr) (R:It→Hp→Prop) (itv:Value) (s2:Shared):Prop :=
  ∃(it:Addr) (fp:List Addr) (tn:Nat→Heap→Prop) (J:It) (H':Hp),itv=.ref it∧Inv X pins σ H' s2∧Turn X.prog X.w X.K tg J fp it tn∧tn 0 s2.heap∧(∀b∈fp,uH X pins H' b)∧R J H'
def PI (X:Cx) (tg iter:Expr) (wi:TI):Prop :=
  ∀(pins:List (Addr × Obj)) (s:Shared) (σ:St) (H:Hp) (R:It→Hp→Prop),Inv X pins σ H s→wi σ H R →
    wpAny (model X.prog X.w) X.A (eval iter X.env) (fun v s1=>wpAny (model X.prog X.w) X.A (pyIter v) (PIE X pins σ tg R) X.xe s1) X.xe s
theorem HB {M:Model}{A:Around}{E:Value→Shared→Prop}{s:Shared}{tg:Expr}{it:Addr}{u:Value}{o:Obj}{n:String}{vs:Array Value}{Q:Unit→Shared→Prop} (ho:s.heap.get? it=some o) (hc:o.cls=.type n) (hd:o.data=.fields vs)
    (hn:["enumerate","zip","dict_itemiterator","dict_reverseitemiterator","odict_iterator","itertools.zip_longest","itertools.pairwise"].contains n=false) (hQ:Q () s):wpAny M A (letOwnedTupleGo tg (.ref it) u) Q E s:=by
  unfold letOwnedTupleGo
  cases tg<;>first
    | exact wpAny_pure hQ
    | (cases u<;>first
        | exact wpAny_pure hQ
        | (refine wpAny_bind (wpAny_load ho ?_)
           rw[hc,hd]
           show wpAny M A (if (["enumerate","zip","dict_itemiterator","dict_reverseitemiterator","odict_iterator","itertools.zip_longest","itertools.pairwise"].contains n && vs[0]? == some (rawInt _))=true then _ else _) Q E s
           rw[if_neg (by intro h;rw[hn,Bool.false_and] at h;cases h)]
           exact wpAny_pure hQ))
def Itl (K:PySem.W.Frag) (a:Addr):It :=
  ⟨fun i H=>∃xs x,SqL K H a xs∧xs[i]?=some x,fun i H x H'=>H'=H∧∀xs,SqL K H a xs→xs[i]?=some x,fun i H=>∃xs,SqL K H a xs∧xs.length≤i⟩
def Itr (lo:Int) (n:Nat):It:=⟨fun i _=>i<n,fun i H x H'=>H'=H∧x=.int (lo+i),fun i _=>n≤i⟩
theorem BH {P:Program}{w:World}{K:PySem.W.Frag}{tg:Expr} (a it:Addr):Turn P w K tg (Itl K a) [it] it (fun i h=>h.IsListIter it a i) where
  mem:=by simp
  obj:=fun i h st b hb=>by
    have e:b=it:=by simpa using hb
    subst e
    obtain ⟨o,e,c,d⟩:=st
    exact⟨o,e,fun v z=>by rw[d] at z;cases z⟩
  keep:=fun i h h' st k=>st.at fun o e=>k it (by simp) o e
  item:=by
    intro X hP hw hK hc i pins s σ H E I hf st hg
    subst hP hw hK
    obtain ⟨xs,x,hq,hx⟩:=hg
    obtain ⟨its,rv,p,hz⟩:=I.list hq
    obtain ⟨u,hu,ru⟩:=rv.get hx
    obtain ⟨f0,f1,f2,f3,f4,f5⟩:=hf it (by simp)
    refine wpAny_pyNext_list_item st p.isList (x:=u) (by simpa using hu) fun h' st' sb=>?_
    have I1:Inv X pins σ H { s with heap:=h' }:=I.turned (t':=s.toks) (fun b o hb e=>(sb.2 b hb).trans e) f0 f1 f3 f4 f5
    obtain ⟨o,e,c,d⟩:=id st'
    exact⟨u,rfl,HB (s:={ s with heap:=h' }) e c d (by decide) ⟨x,H,I1,ru,⟨rfl,fun ys hy=>by rw[I.D0 hy hq];exact hx⟩,st',fun b hb=>(hf b hb).1⟩⟩
  done:=by
    intro X hP hw hK hc i pins s σ H E I hf st hg
    subst hP hw hK
    obtain ⟨xs,hq,hx⟩:=hg
    obtain ⟨its,rv,p,hz⟩:=I.list hq
    obtain ⟨f0,f1,f2,f3,f4,f5⟩:=hf it (by simp)
    have hl:=rv.length
    exact wpAny_pyNext_list_end (I.ok.hd hc) st p.isList (by simp;omega) fun h' eb=>⟨rfl,I.turned (t':=s.toks) (fun b o hb e=>eb b o hb e) f0 f1 f3 f4 f5⟩
  self:=fun _ _ _ _ _ st h=>wpAny_pyIter_listiter st h
theorem zw {P:Program}{w:World}{K:PySem.W.Frag}{tg:Expr} (it:Addr) (lo:Int) (n:Nat):Turn P w K tg (Itr lo n) [it] it (fun i h=>IsRangeIter h it (lo+(i:Nat)*1) ((n:Int) - (i:Nat)) 1) where
  mem:=by simp
  obj:=fun i h st b hb=>by
    have e:b=it:=by simpa using hb
    subst e
    exact⟨_,st,fun v z=>by
      have z':Data.fields _=Data.cell v:=z
      cases z'⟩
  keep:=fun i h h' st k=>k it (by simp) _ st
  item:=by
    intro X hP hw hK hc i pins s σ H E I hf st hg
    subst hP hw hK
    obtain ⟨f0,f1,f2,f3,f4,f5⟩:=hf it (by simp)
    have W:=Walks.range (prog:=X.prog) (w:=X.w) (I.ok.hd hc) it lo 1 n
    refine W.item i s _ _ hg st fun v h' tk hv st' kk=>?_
    obtain ⟨t,rfl⟩:=hv
    have I1:Inv X pins σ H { s with heap:=h',toks:=tk }:=I.turned (fun b o hb e=>kk b o (by simpa using hb) e) f0 f1 f3 f4 f5
    refine⟨_,rfl,HB (s:={ s with heap:=h',toks:=tk }) (n:="range_iterator") st' rfl rfl (by decide) ⟨.int (lo+i),H,I1,⟨t,?_⟩,⟨rfl,rfl⟩,st',fun b hb=>(hf b hb).1⟩⟩
    rw[Int.mul_one]
  done:=by
    intro X hP hw hK hc i pins s σ H E I hf st hg
    subst hP hw hK
    obtain ⟨f0,f1,f2,f3,f4,f5⟩:=hf it (by simp)
    exact wpAny_pyNext_range_end (I.ok.hd hc) st (by have:n≤i:=hg;omega) fun h' eb=>⟨rfl,I.turned (t':=s.toks) (fun b o hb e=>eb b o hb e) f0 f1 f3 f4 f5⟩
  self:=fun _ _ _ _ _ st h=>wpAny_pyIter_rangeiter st h
end L2
namespace L2
open PySem PySem.Spec PyProof.Rows
section
variable {X:Cx}{tg:Expr}
def Fu (K:PySem.W.Frag) (tl:TE):TI:=fun σ H R=>tl σ H fun x H1=>∃a,x=.ref a∧(∃xs,SqL K H1 a xs)∧R (Itl K a) H1
theorem Gg {l:Expr}{tl:TE} (hl:PE X l tl):PI X tg l (Fu X.K tl):=by
  intro pins s σ H R I h
  refine thn (hl pins s σ H _ I h) fun v s1 ⟨x,H1,I1,r1,q1⟩=>?_
  obtain ⟨a,e,⟨xs,hq⟩,q⟩:=q1
  subst e
  cases r1
  obtain ⟨its,rv,p,hz⟩:=I1.list hq
  refine wpAny_pyIter_list p.isList ?_
  refine⟨s1.heap.objs.size,[s1.heap.objs.size],_,_,H1,rfl,I1.kept (t':=s1.toks) fun b o e=>Heap.get?_push_of_some _ e,BH a _,⟨_,Heap.get?_push_size _ rfl,rfl,rfl⟩,fun b hb=>?_,q⟩
  have e:b=s1.heap.objs.size:=by simpa using hb
  subst e
  exact I1.J4 (Nat.le_refl _) (I1.hok.fresh (Nat.le_refl _))
theorem EF {pins:List (Addr × Obj)}{σ:St}{H:Hp}{s:Shared}{R:It→Hp→Prop}{E:Value→Shared→Prop}{lo hi:Int}{t u v:Tok}{tk:Nat} (I:Inv X pins σ H s) (h1 : -(2 ^ 62)≤lo) (h2:lo<2 ^ 62) (h3 : -(2 ^ 62)≤hi) (h4:hi<2 ^ 62)
    (q:R (Itr lo (hi - lo).toNat) H):wpAny (model X.prog X.w) X.A (pyIter (.ref s.heap.objs.size)) (PIE X pins σ tg R) E { s with heap:=s.heap.push { cls:=.type "range",data:=.fields #[.int lo t,.int hi u,.int 1 v] },toks:=tk }:=by
  refine wpAny_pyIter_range (IsRange.new ..) (small_one h1 h2 h3 h4) ?_
  have I1:Inv X pins σ H { s with heap:=s.heap.push { cls:=.type "range",data:=.fields #[.int lo t,.int hi u,.int 1 v] },toks:=tk }:=I.kept fun b o e=>Heap.get?_push_of_some _ e
  refine⟨(s.heap.push { cls:=.type "range",data:=.fields #[.int lo t,.int hi u,.int 1 v] }).objs.size,[(s.heap.push { cls:=.type "range",data:=.fields #[.int lo t,.int hi u,.int 1 v] }).objs.size],_,_,H,rfl,
    I1.kept (t':=tk) fun b o e=>Heap.get?_push_of_some _ e,zw _ lo (hi - lo).toNat,?_,fun b hb=>?_,q⟩
  · have e1:lo+((0:Nat):Int)*1=lo:=by simp
    have e2:(((hi - lo).toNat:Nat):Int) - ((0:Nat):Int)=Builtin.Range.rangeSize lo hi 1:=by rw[rangeSize_one];split<;>omega
    show IsRangeIter _ _ (lo+((0:Nat):Int)*1) ((((hi - lo).toNat:Nat):Int) - ((0:Nat):Int)) 1
    rw[e1,e2]
    exact Heap.get?_push_size _ rfl
  · have e:b=(s.heap.push { cls:=.type "range",data:=.fields #[.int lo t,.int hi u,.int 1 v] }).objs.size:=by simpa using hb
    subst e
    exact I1.J4 (Nat.le_refl _) (I1.hok.fresh (Nat.le_refl _))
def Hx (ta:TA):TI:=fun σ H R=>ta σ H fun vs H1=>∃j:Int,vs=[.int j]∧-(2 ^ 62)≤j∧j<2 ^ 62∧R (Itr 0 j.toNat) H1
theorem cI {a:Expr}{ta:TA}{p pos:Pos} (hg:Gl X "range") (hm:X.mg "range" = none) (ha:PA X [a] ta) (hs:starEach [a] X.env=[(false,eval a X.env)]:=by rfl):PI X tg (.Call (.Name "range" p) [a] [] pos) (Hx ta):=by
  intro pins s σ H R I h
  refine Call_ (lR I hg hm boot_range (PyProof.Rows.callWith_type1 (thn (ha pos pins s σ H _ I h) fun us s1 ⟨vs,H1,I1,r1,q1⟩=>?_) hs rfl))
  obtain ⟨j,e,q1,q2,q⟩:=q1
  subst e
  cases r1 with
  | cons r rr =>
    cases rr
    obtain ⟨t,rfl⟩:=r
    exact call_range_1 (EF I1 (by omega) (by omega) q1 q2 (by simpa using q))
def Jz (wi:TI) (g:TG) (tb:TS):TS:=fun D σ H=>wi σ H fun J H1=>∃W:Nat→Nat→St→Hp→Prop,(∃m,W 0 m σ H1)∧∀i m σ H,W i m σ H →
  (J.stop i H∧D.nx σ H)∨(J.go i H∧∃N:St→Hp→Prop,(∀σ' H',N σ' H'→∃m',m' < m∧W (i+1) m' σ' H')∧∀x H',J.yld i H x H'→g x σ H' fun σ2 H2=>tb { D with nx:=N,ct:=N,bk:=D.nx } σ2 H2)
def nC (fp:List Addr) (h:Heap):List (Addr × Obj):=fp.filterMap fun b=>(h.get? b).map fun o=>(b,o)
theorem lL {fp:List Addr}{h:Heap}{b:Addr}{o:Obj} (hb:b∈fp) (e:h.get? b=some o):(b,o)∈nC fp h:=List.mem_filterMap.mpr ⟨b,hb,by rw[e];rfl⟩
theorem vL {fp:List Addr}{h:Heap}{p:Addr × Obj} (hp:p∈nC fp h):p.1∈fp∧h.get? p.1=some p.2:=by
  obtain ⟨b,hb,e⟩:=List.mem_filterMap.mp hp
  cases q:h.get? b with
  | none=>rw[q] at e;cases e
  | some o =>
    rw[q] at e
    have e':(b,o)=p:=Option.some.inj e
    subst e'
    exact⟨hb,q⟩
theorem Inv.pinned {pins:List (Addr × Obj)}{σ:St}{H:Hp}{s:Shared}{fp:List Addr} (I:Inv X pins σ H s) (hf:∀b∈fp,uH X pins H b) (ho:∀b∈fp,∃o,s.heap.get? b=some o∧∀v,o.data≠.cell v):Inv X (pins++nC fp s.heap) σ H s :=
  I.sr fun p hp=>(List.mem_append.mp hp).elim (fun z=>I.pin p (List.mem_append_right _ z)) fun z=>by
    obtain ⟨hb,e⟩:=vL z
    obtain ⟨f0,f1,f2,_⟩:=hf p.1 hb
    obtain ⟨o,e',d⟩:=ho p.1 hb
    rw[e] at e';cases e'
    exact⟨e,f0,f1,f2,d⟩
theorem Inv.pz {pins pl:List (Addr × Obj)}{σ:St}{H:Hp}{s:Shared} (I:Inv X (pins++pl) σ H s):Inv X pins σ H s:=I.sr fun p hp=>I.pin p (List.mem_append_right _ (List.mem_append_left _ hp))
theorem gj {iter:Expr}{body:List Stmt}{wi:TI}{g:TG}{tb:TS}{pos:Pos} (hp:PassesOwn (model X.prog X.w) X.A X.env X.xe) (hc:X.calm=true) (hi:PI X tg iter wi) (hg:PG X tg g) (hb:PSs X body tb)
    (hs:∀x,foldedSetIterable iter X.env x=pure x:=by intro _;rfl):PS X (.For tg iter body [] pos) (Jz wi g tb):=by
  intro pins s σ H D I h
  refine wpAny_For (thn (hi pins s σ H _ I h) fun v s1 h1=>thn h1 fun itv s2 h2=>?_) hs
  obtain ⟨it,fp,tn,J,H2,e,I2,T,st2,f2,W,⟨m0,w0⟩,turn⟩:=h2
  subst e
  have stat:∀{H':Hp},(∀b∈fp,H' b=none)→∀b∈fp,uH X pins H' b:=fun hn b hb=>⟨hn b hb,(f2 b hb).2⟩
  refine codeAny_forLoop_any (fun n s'=>∃i σ' H',Inv X pins σ' H' s'∧tn i s'.heap∧(∀b∈fp,H' b=none)∧W i n σ' H') ?_ m0 ⟨0,σ,H2,I2,st2,fun b hb=>(f2 b hb).1,w0⟩
  rintro n s3 ⟨i,σ3,H3,I3,st3,fr3,w3⟩
  rcases turn i n σ3 H3 w3 with ⟨stop,qn⟩ | ⟨go,N,hN,step⟩
  · refine wpAny_passesOwn hp (thn (T.done X rfl rfl rfl hc i pins s3 σ3 H3 X.xe I3 (stat fr3) st3 stop) fun r s4 ⟨hr,I4⟩=>?_)
    subst hr
    exact wpAny_execs_nil ⟨σ3,H3,I4,qn⟩
  · refine wpAny_passesOwn hp (thn (T.item X rfl rfl rfl hc i pins s3 σ3 H3 X.xe I3 (stat fr3) st3 go) fun r s4 ⟨u,hr,h4⟩=>?_)
    subst hr
    refine wpAny_passesOwn hp (thn h4 fun _ s5 ⟨x,H5,I5,r5,y5,st5,fr5⟩=>?_)
    have I5':=I5.pinned (stat fr5) (T.obj _ _ st5)
    refine wpAny_passesOwn hp (thn (hg _ s5 σ3 H5 x u _ I5' r5 (step x H5 y5)) fun _ s6 ⟨σ6,H6,I6,q6⟩=>?_)
    refine wpAny_passesOwn hp (thn (hb _ s6 σ6 H6 _ I6 q6) fun f s7 q7=>?_)
    have again:∀{σ7:St}{H7:Hp},Inv X (pins++nC fp s5.heap) σ7 H7 s7→N σ7 H7→∃m,m<n∧∃i σ' H',Inv X pins σ' H' s7∧tn i s7.heap∧(∀b∈fp,H' b=none)∧W i m σ' H':=fun {σ7 H7} I7 n7=>by
      obtain ⟨m',hm,w7⟩:=hN σ7 H7 n7
      refine⟨m',hm,i+1,σ7,H7,I7.pz,T.keep _ _ _ st5 fun b hb o e=>(I7.pin (b,o) (List.mem_append_right _ (List.mem_append_right _ (lL hb e)))).1,fun b hb=>?_,w7⟩
      obtain ⟨o,e,d⟩:=T.obj _ _ st5 b hb
      exact (I7.pin (b,o) (List.mem_append_right _ (List.mem_append_right _ (lL hb e)))).2.1
    cases f with
    | next=>obtain ⟨σ7,H7,I7,n7⟩:=q7;exact again I7 n7
    | cont=>obtain ⟨σ7,H7,I7,n7⟩:=q7;exact again I7 n7
    | brk=>obtain ⟨σ7,H7,I7,q7⟩:=q7;exact⟨σ7,H7,I7.pz,q7⟩
    | ret v=>obtain ⟨x7,σ7,H7,I7,r7,q7⟩:=q7;exact⟨x7,σ7,H7,I7.pz,r7,q7⟩
end
end L2
namespace L2
open PySem PySem.Spec PyProof.Rows
abbrev R2:=V→V→Hp→VK→Prop
def OpR (X:Cx) (f:Value→Value→Sem Value) (r:R2):Prop :=
  ∀(pins:List (Addr × Obj)) (s:Shared) (σ:St) (H:Hp) (x y:V) (v u:Value) (Q:VK),Inv X pins σ H s→RelV x v→RelV y u→r x y H Q →
    wpAny (model X.prog X.w) X.A (f v u) (EP X pins σ Q) X.xe s
def UnR (X:Cx) (f:Value→Sem Value) (r:V→Hp→VK→Prop):Prop :=
  ∀(pins:List (Addr × Obj)) (s:Shared) (σ:St) (H:Hp) (x:V) (v:Value) (Q:VK),Inv X pins σ H s→RelV x v→r x H Q →
    wpAny (model X.prog X.w) X.A (f v) (EP X pins σ Q) X.xe s
def iQ (X:Cx) (f:Value) (r:List V→Hp→VK→Prop):Prop :=
  ∀(pins:List (Addr × Obj)) (s:Shared) (σ:St) (H:Hp) (xs:List V) (us:List Value) (Q:VK),Inv X pins σ H s→Vals xs us→r xs H Q →
    wpAny (model X.prog X.w) X.A (call f us) (EP X pins σ Q) X.xe s
def tOp (r:R2) (ta tb:TE):TE:=fun σ H Q=>ta σ H fun x H1=>tb σ H1 fun y H2=>r x y H2 Q
def tUn (r:V→Hp→VK→Prop) (ta:TE):TE:=fun σ H Q=>ta σ H fun x H1=>r x H1 Q
def rI (C:Int→Int→Prop) (g:Int→Int→V):R2:=fun x y H Q=>∃i j,x=.int i∧y=.int j∧C i j∧Q (g i j) H
def rI0 (g:Int→Int→V):R2:=fun x y H Q=>∃i j,x=.int i∧y=.int j∧Q (g i j) H
def rU (g:Int→V):V→Hp→VK→Prop:=fun x H Q=>∃i,x=.int i∧Q (g i) H
section
variable {X:Cx}{a b c:Expr}{ta tb tc:TE}{pos:Pos}
theorem Jm (ha:PE X a ta) (hb:PE X b tb) {pins:List (Addr × Obj)}{s:Shared}{σ:St}{H:Hp}{R:V→V→Hp→Prop} (I:Inv X pins σ H s)
    (h:ta σ H fun x H1=>tb σ H1 fun y H2=>R x y H2) {Q:Value→Shared→Prop}{f:Value→Value→Sem Value}
    (hf:∀v u s2 x y H2,Inv X pins σ H2 s2→RelV x v→RelV y u→R x y H2→wpAny (model X.prog X.w) X.A (f v u) Q X.xe s2) :
    wpAny (model X.prog X.w) X.A (eval a X.env) (fun v s₁=>wpAny (model X.prog X.w) X.A (eval b X.env) (fun u s₂=>wpAny (model X.prog X.w) X.A (f v u) Q X.xe s₂) X.xe s₁) X.xe s:=by
  refine thn (ha pins s σ H _ I h) fun v s1 ⟨x,H1,I1,r1,q1⟩=>?_
  refine thn (hb pins s1 σ H1 _ I1 q1) fun u s2 ⟨y,H2,I2,r2,q2⟩=>?_
  exact hf v u s2 x y H2 I2 r1 r2 q2
theorem ba {op:Operator}{r:R2} (ho:OpR X (binaryOp op) r) (ha:PE X a ta) (hb:PE X b tb):PE X (.BinOp a op b pos) (tOp r ta tb):=by
  intro pins s σ H Q I h
  exact wpAny_BinOp (Jm ha hb I h fun v u s2 x y H2 I2 rx ry q=>ho pins s2 σ H2 x y v u Q I2 rx ry q)
theorem HA {op:UnaryOp}{r:V→Hp→VK→Prop} (ho:UnR X (unaryOp op) r) (ha:PE X a ta):PE X (.UnaryOp op a pos) (tUn r ta):=by
  intro pins s σ H Q I h
  exact UnaryOp_ (thn (ha pins s σ H _ I h) fun v s1 ⟨x,H1,I1,r1,q1⟩=>ho pins s1 σ H1 x v Q I1 r1 q1)
theorem opI {f:Value→Value→Sem Value}{C:Int→Int→Prop}{g:Int→Int→Int}
    (rule:∀(i j:Int) (t u:Tok) (s:Shared) (Q:Value→Shared→Prop) (E:Value→Shared→Prop),C i j→Q (.int (g i j) s.toks) { s with toks:=s.toks+1 }→wpAny (model X.prog X.w) X.A (f (.int i t) (.int j u)) Q E s) :
    OpR X f (rI C fun i j=>.int (g i j)):=by
  intro pins s σ H x y v u Q I rx ry h
  obtain ⟨i,j,rfl,rfl,hc,q⟩:=h
  obtain ⟨t,rfl⟩:=rx
  obtain ⟨t',rfl⟩:=ry
  exact rule i j t t' s _ _ hc ⟨.int (g i j),H,I.tok _,⟨_,rfl⟩,q⟩
theorem JS {f:Value→Value→Sem Value}{g:Int→Int→Int}
    (rule:∀(i j:Int) (t u:Tok) (s:Shared) (Q:Value→Shared→Prop) (E:Value→Shared→Prop),Q (.int (g i j) s.toks) { s with toks:=s.toks+1 }→wpAny (model X.prog X.w) X.A (f (.int i t) (.int j u)) Q E s) :
    OpR X f (rI0 fun i j=>.int (g i j)):=by
  intro pins s σ H x y v u Q I rx ry h
  obtain ⟨i,j,rfl,rfl,q⟩:=h
  obtain ⟨t,rfl⟩:=rx
  obtain ⟨t',rfl⟩:=ry
  exact rule i j t t' s _ _ ⟨.int (g i j),H,I.tok _,⟨_,rfl⟩,q⟩
theorem GY {f:Value→Value→Sem Value}{g:Int→Int→Bool}
    (rule:∀(i j:Int) (t u:Tok) (s:Shared) (Q:Value→Shared→Prop) (E:Value→Shared→Prop),Q (.bool (g i j)) s→wpAny (model X.prog X.w) X.A (f (.int i t) (.int j u)) Q E s) :
    OpR X f (rI0 fun i j=>.bl (g i j)):=by
  intro pins s σ H x y v u Q I rx ry h
  obtain ⟨i,j,rfl,rfl,q⟩:=h
  obtain ⟨t,rfl⟩:=rx
  obtain ⟨t',rfl⟩:=ry
  exact rule i j t t' s _ _ ⟨.bl (g i j),H,I,rfl,q⟩
theorem iB:OpR X (binaryOp .Add) (rI0 fun i j=>.int (i+j)):=JS fun _ _ _ _ _ _ _ q=>add_int q
theorem iE:OpR X (binaryOp .Sub) (rI0 fun i j=>.int (i - j)):=JS fun _ _ _ _ _ _ _ q=>sub_int q
theorem iN:OpR X (binaryOp .Mod) (rI (fun _ j=>0<j) fun i j=>.int (i % j)):=opI fun i j _ _ _ _ _ hc q=>by
  have h1:(0:Int)<j:=hc
  exact mod_int' (by omega) (by rw[Int.fmod_eq_emod_of_nonneg i (by omega)];exact q)
theorem unI {f:Value→Sem Value}{g:Int→Int}
    (rule:∀(i:Int) (t:Tok) (s:Shared) (Q:Value→Shared→Prop) (E:Value→Shared→Prop),Q (.int (g i) s.toks) { s with toks:=s.toks+1 }→wpAny (model X.prog X.w) X.A (f (.int i t)) Q E s) :
    UnR X f (rU fun i=>.int (g i)):=by
  intro pins s σ H x v Q I rx h
  obtain ⟨i,rfl,q⟩:=h
  obtain ⟨t,rfl⟩:=rx
  exact rule i t s _ _ ⟨.int (g i),H,I.tok _,⟨_,rfl⟩,q⟩
theorem C3:UnR X (unaryOp .USub) (rU fun i=>.int (-i)):=unI fun _ _ _ _ _ q=>neg_int q
end
def aW:V→V→Bool
  | .non,.non=>true | .non,.int _=>true | .int _,.non=>true | .non,.bl _=>true | .bl _,.non=>true | .non,.str _=>true | .str _,.non=>true
  | .int _,.int _=>true | .bl _,.bl _=>true | .str _,.str _=>true | .byt _,.byt _=>true
  | .int _,.str _=>true | .str _,.int _=>true | .bl _,.str _=>true | .str _,.bl _=>true
  | _,_=>false
def rEq:R2:=fun x y H Q=>aW x y=true∧Q (.bl (decide (x=y))) H
def rNe:R2:=fun x y H Q=>aW x y=true∧Q (.bl (!decide (x=y))) H
theorem Bh {i j:Int}:decide (V.int i=V.int j)=(i == j):=by
  rw[Bool.eq_iff_iff]
  simp
theorem CK {i j:Bool}:decide (V.bl i=V.bl j)=(i == j):=by
  rw[Bool.eq_iff_iff]
  simp
theorem As {i j:Str}:decide (V.str i=V.str j)=(i == j):=by
  rw[Bool.eq_iff_iff]
  simp
theorem Br {i j:Array UInt8}:decide (V.byt i=V.byt j)=(i.toList == j.toList):=by
  rw[Bool.eq_iff_iff]
  cases i
  cases j
  simp
section
variable {X:Cx}{a b c:Expr}{ta tb tc:TE}{pos:Pos}
theorem bJ {pins:List (Addr × Obj)}{σ:St}{H:Hp}{s:Shared}{Q:VK}{k k':Bool} (I:Inv X pins σ H s) (q:Q (.bl k) H) (e:k=k'):EP X pins σ Q (.bool k') s:=by
  subst e
  exact⟨.bl k,H,I,rfl,q⟩
theorem vn:OpR X (compareOp .Eq) rEq:=by
  intro pins s σ H x y v u Q I rx ry h
  obtain ⟨hs,q⟩:=h
  cases x with
  | non =>
    cases rx
    cases y with
    | non=>cases ry;exact PySem.EqNone.eq_none_none (bJ I q (by simp))
    | bl j=>cases ry;exact PySem.EqNone.eq_none_bool (bJ I q (by simp))
    | int j=>obtain ⟨t',rfl⟩:=ry;exact PySem.EqNone.eq_none_int (bJ I q (by simp))
    | str j=>obtain ⟨t',rfl⟩:=ry;exact PySem.EqNone.eq_none_str (bJ I q (by simp))
    | _=>exact absurd (show false=true from hs) Bool.false_ne_true
  | bl i =>
    cases rx
    cases y with
    | non=>cases ry;exact PySem.EqNone.eq_bool_none (bJ I q (by simp))
    | bl j=>cases ry;exact eq_bool (bJ I q CK)
    | str j=>obtain ⟨t',rfl⟩:=ry;exact PySem.EqMixed.eq_bool_str (bJ I q (by simp))
    | _=>exact absurd (show false=true from hs) Bool.false_ne_true
  | int i =>
    obtain ⟨t,rfl⟩:=rx
    cases y with
    | non=>cases ry;exact PySem.EqNone.eq_int_none (bJ I q (by simp))
    | int j=>obtain ⟨t',rfl⟩:=ry;exact eq_int (bJ I q Bh)
    | str j=>obtain ⟨t',rfl⟩:=ry;exact PySem.EqMixed.eq_int_str (bJ I q (by simp))
    | _=>exact absurd (show false=true from hs) Bool.false_ne_true
  | str i =>
    obtain ⟨t,rfl⟩:=rx
    cases y with
    | non=>cases ry;exact PySem.EqNone.eq_str_none (bJ I q (by simp))
    | bl j=>cases ry;exact PySem.EqMixed.eq_str_bool (bJ I q (by simp))
    | int j=>obtain ⟨t',rfl⟩:=ry;exact PySem.EqMixed.eq_str_int (bJ I q (by simp))
    | str j=>obtain ⟨t',rfl⟩:=ry;exact eq_str (bJ I q As)
    | _=>exact absurd (show false=true from hs) Bool.false_ne_true
  | byt i =>
    obtain ⟨t,rfl⟩:=rx
    cases y with
    | byt j=>obtain ⟨t',rfl⟩:=ry;exact PySem.W.eq_bytes (bJ I q Br)
    | _=>exact absurd (show false=true from hs) Bool.false_ne_true
  | _=>cases y<;>exact absurd (show false=true from hs) Bool.false_ne_true
theorem oj:OpR X (compareOp .NotEq) rNe:=by
  intro pins s σ H x y v u Q I rx ry h
  obtain ⟨hs,q⟩:=h
  cases x with
  | non =>
    cases rx
    cases y with
    | non=>cases ry;exact PySem.EqNone.ne_none_none (bJ I q (by simp))
    | bl j=>cases ry;exact PySem.EqNone.ne_none_bool (bJ I q (by simp))
    | int j=>obtain ⟨t',rfl⟩:=ry;exact PySem.EqNone.ne_none_int (bJ I q (by simp))
    | str j=>obtain ⟨t',rfl⟩:=ry;exact PySem.EqNone.ne_none_str (bJ I q (by simp))
    | _=>exact absurd (show false=true from hs) Bool.false_ne_true
  | bl i =>
    cases rx
    cases y with
    | non=>cases ry;exact PySem.EqNone.ne_bool_none (bJ I q (by simp))
    | bl j=>cases ry;exact ne_bool (bJ I q (congrArg not CK))
    | str j=>obtain ⟨t',rfl⟩:=ry;exact PySem.EqMixed.ne_bool_str (bJ I q (by simp))
    | _=>exact absurd (show false=true from hs) Bool.false_ne_true
  | int i =>
    obtain ⟨t,rfl⟩:=rx
    cases y with
    | non=>cases ry;exact PySem.EqNone.ne_int_none (bJ I q (by simp))
    | int j=>obtain ⟨t',rfl⟩:=ry;exact ne_int (bJ I q (congrArg not Bh))
    | str j=>obtain ⟨t',rfl⟩:=ry;exact PySem.EqMixed.ne_int_str (bJ I q (by simp))
    | _=>exact absurd (show false=true from hs) Bool.false_ne_true
  | str i =>
    obtain ⟨t,rfl⟩:=rx
    cases y with
    | non=>cases ry;exact PySem.EqNone.ne_str_none (bJ I q (by simp))
    | bl j=>cases ry;exact PySem.EqMixed.ne_str_bool (bJ I q (by simp))
    | int j=>obtain ⟨t',rfl⟩:=ry;exact PySem.EqMixed.ne_str_int (bJ I q (by simp))
    | str j=>obtain ⟨t',rfl⟩:=ry;exact ne_str (bJ I q (congrArg not As))
    | _=>exact absurd (show false=true from hs) Bool.false_ne_true
  | byt i =>
    obtain ⟨t,rfl⟩:=rx
    cases y with
    | byt j=>obtain ⟨t',rfl⟩:=ry;exact PySem.W.ne_bytes (bJ I q (congrArg not Br))
    | _=>exact absurd (show false=true from hs) Bool.false_ne_true
  | _=>cases y<;>exact absurd (show false=true from hs) Bool.false_ne_true
theorem sF:OpR X (compareOp .Lt) (rI0 fun i j=>.bl (decide (i<j))):=GY fun _ _ _ _ _ _ _ q=>lt_int q
theorem zt:OpR X (compareOp .LtE) (rI0 fun i j=>.bl (decide (i≤j))):=GY fun _ _ _ _ _ _ _ q=>le_int q
theorem qW:OpR X (compareOp .Gt) (rI0 fun i j=>.bl (decide (j<i))):=GY fun _ _ _ _ _ _ _ q=>gt_int q
theorem HD:OpR X (compareOp .GtE) (rI0 fun i j=>.bl (decide (j≤i))):=GY fun _ _ _ _ _ _ _ q=>ge_int q
theorem AZ:OpR X (compareOp .IsNot) (fun x y H Q=>y=.non∧Q (.bl (!decide (x=.non))) H):=by
  intro pins s σ H x y v u Q I rx ry h
  obtain ⟨rfl,q⟩:=h
  cases ry
  refine isnot_none_gen (bJ I q ?_)
  cases x<;>first
    | (cases rx;rfl)
    | (obtain ⟨t,rfl⟩:=rx;rfl)
theorem bo (b:Expr) {op:CmpOp} (h:op≠.In:=by decide) (h2:op≠.NotIn:=by decide):behindInMarks op b=false:=by
  have e1:(op == CmpOp.In)=false:=by cases op<;>first | rfl | exact absurd rfl h
  have e2:(op == CmpOp.NotIn)=false:=by cases op<;>first | rfl | exact absurd rfl h2
  cases b<;>simp [behindInMarks,e1,e2]
theorem jH {op:CmpOp}{r:R2} (ho:OpR X (compareOp op) r) (ha:PE X a ta) (hb:PE X b tb) (hm:behindInMarks op b=false):PE X (.Compare a [op] [b] pos) (tOp r ta tb):=by
  intro pins s σ H Q I h
  exact wpAny_Compare1 (Jm ha hb I h fun v u s2 x y H2 I2 rx ry q=>ho pins s2 σ H2 x y v u Q I2 rx ry q) hm
def HG (t:TE):TT:=fun σ H Q=>t σ H fun x H'=>∃k,x=.bl k∧Q k H'
theorem bh {op:CmpOp}{r:R2} (ho:OpR X (compareOp op) r) (ha:PE X a ta) (hb:PE X b tb) (hm:behindInMarks op b=false):PT X (.Compare a [op] [b] pos) (HG (tOp r ta tb)):=by
  intro pins s σ H Q I h
  refine wpAny_isTrue_Compare1 (thn (ha pins s σ H _ I h) fun v s1 ⟨x,H1,I1,r1,q1⟩=>thn (hb pins s1 σ H1 _ I1 q1) fun u s2 ⟨y,H2,I2,r2,q2⟩ =>
    thn (ho pins s2 σ H2 x y v u _ I2 r1 r2 q2) fun c s3 ⟨z,H3,I3,r3,k,e,q3⟩=>?_) hm
  subst e
  cases r3
  exact wpAny_truthy_bool ⟨H3,I3,q3⟩
def Dp (r r':R2) (ta tb tc:TE):TE:=fun σ H Q=>ta σ H fun x H1=>tb σ H1 fun y H2=>r x y H2 fun z H3=>∃k,z=.bl k ∧
  (if k=true then tc σ H3 fun w' H4=>r' y w' H4 Q else Q (.bl false) H3)
theorem sT {op op':CmpOp}{r r':R2} (ho:OpR X (compareOp op) r) (ho':OpR X (compareOp op') r') (ha:PE X a ta) (hb:PE X b tb) (hc:PE X c tc)
    (hm:lastMarks [op,op'] [b,c]=false:=by with_unfolding_all rfl):PE X (.Compare a [op,op'] [b,c] pos) (Dp r r' ta tb tc):=by
  intro pins s σ H Q I h
  refine Compare_chain (thn (ha pins s σ H _ I h) fun v s1 ⟨x,H1,I1,r1,q1⟩=>chain_link (thn (hb pins s1 σ H1 _ I1 q1) fun u s2 ⟨y,H2,I2,r2,q2⟩ =>
    thn (ho pins s2 σ H2 x y v u _ I2 r1 r2 q2) fun d s3 ⟨z,H3,I3,r3,k,e,q3⟩=>?_)) hm
  subst e
  cases r3
  refine wpAny_truthy_bool ?_
  cases k with
  | false=>exact ite_ff ⟨.bl false,H3,I3,rfl,q3⟩
  | true=>exact ite_tt (chain_last (thn (hc pins s3 σ H3 _ I3 q3) fun w' s4 ⟨z',H4,I4,r4,q4⟩=>ho' pins s4 σ H4 y z' u w' Q I4 r2 r4 q4))
theorem wK:(sizeLine:Nat)<2 ^ 63:=by rw[sizeLine_eq];decide
theorem vals1 {x:V}{us:List Value} (r:Vals [x] us):∃u,us=[u]∧RelV x u:=by
  cases r with
  | cons r1 r2=>cases r2;exact⟨_,rfl,r1⟩
theorem vals2 {x y:V}{us:List Value} (r:Vals [x,y] us):∃u w',us=[u,w']∧RelV x u∧RelV y w':=by
  cases r with
  | cons r1 r2 =>
    cases r2 with
    | cons r3 r4=>cases r4;exact⟨_,_,rfl,r1,r3⟩
theorem FH:iQ X (.builtin "abs") (fun xs H Q=>∃i,xs=[.int i]∧Q (.int (if i<0 then -i else i)) H):=by
  intro pins s σ H xs us Q I r h
  obtain ⟨i,rfl,q⟩:=h
  obtain ⟨u,rfl,t,rfl⟩:=vals1 r
  exact call_abs_int fun u tk=>⟨.int (if i<0 then -i else i),H,I.tok _,⟨_,rfl⟩,q⟩
theorem Cy (hc:X.calm=true):iQ X (.builtin "min") (fun xs H Q=>∃i j,xs=[.int i,.int j]∧Q (.int (if j<i then j else i)) H):=by
  intro pins s σ H xs us Q I r h
  obtain ⟨i,j,rfl,q⟩:=h
  obtain ⟨u,w',rfl,⟨t,rfl⟩,⟨t',rfl⟩⟩:=vals2 r
  refine min_two_ints (I.ok.hd hc) fun h' tk k=>⟨_,H,I.kept k,?_,q⟩
  by_cases hj:j<i
  · rw[if_pos hj,if_pos hj];exact⟨_,rfl⟩
  · rw[if_neg hj,if_neg hj];exact⟨_,rfl⟩
end
end L2
namespace L2
open PySem PySem.Spec PyProof.Rows
structure HY (h:Heap) (x dx C:Addr) (mA:Str→Option Value):Prop where
  obj:h.get? x=some (PySem.W.instObj C dx)
  ns:h.Ns1 dx mA
  ne:dx≠x
theorem BK {h:Heap}{dx:Addr}{mA:Str→Option Value} (n:h.Ns1 dx mA):∃od,h.get? dx=some od∧∀name,PySem.W.lookIn name od=some (mA name):=by
  obtain ⟨o,es,ep,ho,hd,hk,_,hm⟩:=n
  refine⟨o,ho,fun name=>?_⟩
  have e:=hm name
  unfold nsFind findBy at e
  rw[← Array.find?_toList] at e
  unfold PySem.W.lookIn
  rw[hd]
  dsimp only
  split
  · rename_i y q
    rw[q] at e
    exact congrArg some e
  · rename_i q
    rw[q] at e
    have a:es.toList.any (·.refKey)=false:=by
      rw[List.any_eq_false]
      intro y hy
      obtain ⟨z,t,hkey⟩:=hk y (Array.mem_toList_iff.mp hy)
      simp [DictEntry.refKey,hkey]
    have a':¬ es.toList.any (·.refKey)=true:=by rw[a];exact Bool.false_ne_true
    rw[if_neg a']
    exact congrArg some e
theorem HY.look {h:Heap}{x dx C:Addr}{mA:Str→Option Value} (I:HY h x dx C mA):∃od,PySem.W.InstAt h x (PySem.W.instObj C dx) C (some od)∧∀name,PySem.W.lookIn name od=some (mA name) :=
  let ⟨od,ho,hl⟩:=BK I.ns
  ⟨od,⟨I.obj,rfl,rfl,ho⟩,hl⟩
section
variable {prog:Program}{w:World}{A:Around}{E:Value→Shared→Prop}{s:Shared}{K:PySem.W.Frag}{x dx C f:Addr}{mA:Str→Option Value}{name:Str}{v:Value}
end
theorem sH.some_of {v:V}{o:Option Value} (r:sH (some v) o):∃u,o=some u∧RelV v u:=by
  cases o with
  | none=>exact (show False from r).elim
  | some u=>exact⟨u,rfl,r⟩
section
variable {P:Program}{w:World}{H H':Hp}{h h':Heap}{a C dx:Addr}{fs fs':List (Str × V)}
theorem Ga (hok:HOk P w H h) (e:H a=some (.ins C dx fs)):∃mA,HY h a dx C mA∧(∀f,sH (fs.lookup f) (mA f))∧PySem.Within mA (fs.map (·.1))∧fs.length≤1000∧H dx=some (.own a):=by
  obtain ⟨d,z,ne,ob,mA,n,r,q⟩:=(show cY P w H h a (.ins C dx fs) from hok a _ e)
  exact⟨mA,⟨ob,n,ne⟩,r,q,z,d⟩
end
structure Cls (K:PySem.W.Frag) (C:Addr):Prop where
  pg:PySem.W.plainGet K C Str.empty=true
  hd:PySem.W.hasDictIn K C=true
  po:PySem.W.plainOver K C=true
  sa:PySem.W.findIn K (.ref C) "__setattr__" = some (some (.builtin "object.__setattr__"))
theorem Cls.get {K:PySem.W.Frag}{C:Addr} (c:Cls K C) (f:Str):PySem.W.plainGet K C f=true:=c.pg
section
variable {X:Cx}{pins:List (Addr × Obj)}{σ:St}{H:Hp}{s:Shared}{a C dx:Addr}{fs:List (Str × V)}{f:Str}{v:V}{A:Around}{E:Value→Shared→Prop}
end
section
variable {X:Cx}{o e value:Expr}{f:Str}{pos pos' tpos:Pos}{ta tv:TE}
end
section
variable {X:Cx}{pins:List (Addr × Obj)}{σ:St}{H:Hp}{s:Shared}{A:Around}{E:Value→Shared→Prop}{Q:Value→Shared→Prop}{c:Value}{b:Bool}
inductive nV (K:PySem.W.Frag) (H:Hp):V→Value→Prop where
  | non:nV K H .non (.type "NoneType")
  | bl (x:Bool):nV K H (.bl x) (.type "bool")
  | int (i:Int):nV K H (.int i) (.type "int")
  | str (x:Str):nV K H (.str x) (.type "str")
  | flt (x:UInt64):nV K H (.flt x) (.type "float")
  | lst {a:Addr}{xs:List V} (e:H a=some (.lst xs)):nV K H (.ref a) (.type "list")
  | frz {a:Addr}{o:Obj}{xs:List V} (e:H a=some (.frz o (.lst xs))):nV K H (.ref a) (.type "list")
  | tup {a:Addr}{xs:List V} (e:H a=some (.tup xs)):nV K H (.ref a) (.type "tuple")
  | dK {a:Addr}{kvs:List (Key × V)} (e:H a=some (.dK kvs)):nV K H (.ref a) (.type "dict")
  | dT {a:Addr}{kvs:List (List Key × V)} (e:H a=some (.dT kvs)):nV K H (.ref a) (.type "dict")
  | ins {a C dx:Addr}{fs:List (Str × V)} (e:H a=some (.ins C dx fs)) (cl:Cls K C) (ha:PySem.W.findIn K (.ref C) "__class__" = some (some (.builtin "object.__class__")))
      (hn:PySem.W.specialIn K (.builtin "object.__class__") "__get__" = some (some (.builtin "getset_descriptor.__get__"))) (htk:PySem.W.takesIn K (.builtin "object.__class__")=some true)
      (hm:PySem.W.mroIn K C (.type "object")=some true):nV K H (.ref a) (.ref C)
theorem Ci {x:V}{u t:Value} (I:Inv X pins σ H s) (rx:RelV x u) (ty:nV X.K H x t) (e:PySem.W.kitOne X.K t c=some b) (h:∀tk,Q (.bool b) { s with toks:=tk }) :
    wpAny (model X.prog X.w) A (call (.builtin "isinstance") [u,c]) Q E s:=by
  cases ty with
  | non=>cases (show u=Value.none from rx);exact PySem.W.kia_one PySem.W.kitx_none I.kIn True.intro e (fun z=>nomatch z) h
  | bl y=>cases (show u=Value.bool y from rx);exact PySem.W.kia_one PySem.W.kitx_bool I.kIn True.intro e (fun z=>nomatch z) h
  | int i=>obtain ⟨t,q⟩:=(show ∃t,u=Value.int i t from rx);cases q;exact PySem.W.kia_one PySem.W.kitx_int I.kIn True.intro e (fun z=>nomatch z) h
  | str y=>obtain ⟨t,q⟩:=(show ∃t,u=Value.str y t from rx);cases q;exact PySem.W.kia_one PySem.W.kitx_str I.kIn True.intro e (fun z=>nomatch z) h
  | flt y=>obtain ⟨t,q⟩:=(show ∃t,u=Value.float y t from rx);cases q;exact PySem.W.kia_one PySem.W.kitx_float I.kIn True.intro e (fun z=>nomatch z) h
  | @lst a xs ea =>
    cases (show u=Value.ref a from rx)
    obtain ⟨_,_,n,_,h1⟩:=(show cY X.prog X.w H s.heap a (.lst xs) from I.hok a _ ea)
    exact PySem.W.kia_one PySem.W.kitx_list I.kIn ⟨_,h1,rfl⟩ e (fun z=>nomatch z) h
  | @frz a ob xs ea =>
    cases (show u=Value.ref a from rx)
    obtain ⟨_,_,_,n,_,h1⟩:=(show cY X.prog X.w H s.heap a (.frz ob (.lst xs)) from I.hok a _ ea)
    exact PySem.W.kia_one PySem.W.kitx_list I.kIn ⟨_,h1,rfl⟩ e (fun z=>nomatch z) h
  | @tup a xs ea =>
    cases (show u=Value.ref a from rx)
    obtain ⟨_,_,_,p⟩:=(show cY X.prog X.w H s.heap a (.tup xs) from I.hok a _ ea)
    obtain ⟨o,h1,h2,_⟩:=p
    exact PySem.W.kia_one PySem.W.kitx_tuple I.kIn ⟨o,h1,h2⟩ e (fun z=>nomatch z) h
  | @dK a kvs ea =>
    cases (show u=Value.ref a from rx)
    obtain ⟨_,_,vs,_,p⟩:=(show cY X.prog X.w H s.heap a (.dK kvs) from I.hok a _ ea)
    obtain ⟨o,es,ep,h1,h2,_⟩:=p
    exact PySem.W.kia_one PySem.W.kitx_dict I.kIn ⟨o,h1,h2.1⟩ e (fun z=>nomatch z) h
  | @dT a kvs ea =>
    cases (show u=Value.ref a from rx)
    obtain ⟨_,_,xs,_,o,es,ep,h1,h2,_⟩:=(show cY X.prog X.w H s.heap a (.dT kvs) from I.hok a _ ea)
    exact PySem.W.kia_one PySem.W.kitx_dict I.kIn ⟨o,h1,h2.1⟩ e (fun z=>nomatch z) h
  | @ins a C dx fs ea cl ha hn htk hm =>
    cases (show u=Value.ref a from rx)
    obtain ⟨mA,O,_⟩:=Ga I.hok ea
    obtain ⟨od,J,_⟩:=O.look
    exact PySem.W.kia_one (PySem.W.kitx_own (cl.get _) cl.hd ha hn htk hm) I.kIn J e (fun z=>nomatch z) h
end
end L2
namespace L2
open PySem PySem.Spec PyProof.Rows
structure kO (k:Nat) (A:Around):Prop where
  hd:A.handled=none
  dp:A.depth+3*k+5<recursionLimit
  un:A.units+16*k+200<cLine
theorem kO.mono {j k:Nat}{A:Around} (r:kO k A) (h:j≤k):kO j A:=⟨r.hd,by have:=r.dp;omega,by have:=r.un;omega⟩
theorem kO.deeper {k:Nat}{A:Around} (r:kO (k+1) A) (env:Env):kO k (A.deeper env) :=
  ⟨r.hd,by have:=r.dp;show A.depth+1+3*k+5<_;omega,by have:=r.un;show A.units+3+16*k+200<_;omega⟩
theorem kO.depth {k:Nat}{A:Around} (r:kO k A):A.depth<recursionLimit:=by have:=r.dp;omega
theorem kO.units {k:Nat}{A:Around} (r:kO k A):A.units+64<cLine:=by have:=r.un;omega
def rm:TA:=fun _ H Q=>Q [] H
def jr (ta:TE) (tr:TA):TA:=fun σ H Q=>ta σ H fun x H1=>tr σ H1 fun xs H2=>Q (x::xs) H2
section
variable {X:Cx}{e:Expr}{es:List Expr}{te:TE}{t:TA}{pos:Pos}
theorem aj:PA X [] rm:=fun _ _ _ _ H Q I h=>Calls.spliced_nil ⟨[],H,I,.nil,h⟩
theorem af (ha:PE X e te) (hr:PA X es t) (hs:starEach (e::es) X.env=(false,eval e X.env)::starEach es X.env:=by rfl):PA X (e::es) (jr te t):=by
  intro pos pins s σ H Q I h
  rw[hs]
  show wpAny _ _ (spliced ((false,eval e X.env)::backTo pos (starEach es X.env))) _ _ s
  refine Calls.spliced_cons (thn (ha pins s σ H _ I h) fun u s1 ⟨x,H1,I1,r1,q1⟩=>?_)
  exact thn (hr pos pins s1 σ H1 _ I1 q1) fun us s2 ⟨xs,H2,I2,r2,q2⟩=>⟨x::xs,H2,I2,.cons r1 r2,q2⟩
def JL (t:TA):TE:=fun σ H Q=>t σ H fun xs H1=>xs.length≤sizeLine∧∀p,H1 p=none→Q (.ref p) (upd H1 p (.tup xs))
def IP (t:TA):TE:=fun σ H Q=>t σ H fun xs H1=>xs.length≤sizeLine∧∀p,H1 p=none→Q (.ref p) (upd H1 p (.lst xs))
theorem jV {x1} (h:PA X es t):PE X (.Tuple es x1 pos) (JL t):=by
  intro pins s σ H Q I hq
  refine wpAny_Tuple_spliced (thn (h pos pins s σ H _ I hq) fun us s1 ⟨xs,H1,I1,r,z,q⟩=>⟨by rw[← r.length];exact z,?_⟩)
  have hf:H1 s1.heap.objs.size=none:=I1.hok.fresh (Nat.le_refl _)
  refine⟨.ref s1.heap.objs.size,upd H1 s1.heap.objs.size (.tup xs),I1.laid (t':=s1.toks) (fun b u e=>Heap.get?_push_of_some _ e) (Nat.le_refl _) ?_,rfl,q _ hf⟩
  exact⟨z,us,r,⟨_,Heap.get?_push_size _ rfl,rfl,_,rfl⟩⟩
theorem iG (h:PA X es t):PE X (.List es pos) (IP t):=by
  intro pins s σ H Q I hq
  refine wpAny_List_spliced (thn (h pos pins s σ H _ I hq) fun us s1 ⟨xs,H1,I1,r,z,q⟩=>⟨by rw[← r.length];exact z,?_⟩)
  have hf:H1 s1.heap.objs.size=none:=I1.hok.fresh (Nat.le_refl _)
  refine⟨.ref s1.heap.objs.size,upd H1 s1.heap.objs.size (.lst xs),I1.laid (t':=s1.toks) (fun b u e=>Heap.get?_push_of_some _ e) (Nat.le_refl _) ?_,rfl,q _ hf⟩
  exact⟨z,us,0,r,Heap.get?_push_size _ rfl⟩
end
abbrev Sp:=List V→Hp→VK→XK→Prop
abbrev CXT:=List Env→Hp→Shared→XK→Value→Shared→Prop
structure Gx (P:Program) (w:World) (K:PySem.W.Frag) (mg:Str→Option Value) (base:Heap) (A:Around) (outer:List Env) (s:Shared) (H:Hp):Prop where
  frames:A.frames=some outer
  mod:Mod K mg base
  bs:∀b o,base.get? b=some o→s.heap.get? b=some o∧H b=none
  bsz:base.objs.size≤s.heap.objs.size
  rJ:s.heap.FunFrames base outer
  frf:∀b∈frs outer,H b=none
  hok:HOk P w H s.heap
  bare:AllBare s.gens
def CE (outer:List Env) (P:Program) (w:World) (H:Hp) (s:Shared) (Q:VK) (u:Value) (s':Shared):Prop :=
  ∃v H',s'.os=s.os∧AllBare s'.gens∧Un (frs outer) [] H H' s.heap s'.heap∧HOk P w H' s'.heap∧RelV v u∧Q v H'
def CR (CX:CXT) (outer:List Env) (P:Program) (w:World) (H:Hp) (s:Shared) (Q:VK) (E:XK) (r:Result) (s':Shared):Prop :=
  match r with
  | .ok (.ret u)=>CE outer P w H s Q u s'
  | .ok _=>False
  | .error e=>CX outer H s E e s'
structure aM (P:Program) (w:World) (K:PySem.W.Frag) (mg:Str→Option Value) (base:Heap) (CX:CXT) (k:Nat) (f:Addr) (fd:FuncData) (ps:List Str) (sp:Sp):Prop where
  len:∀vs H Q E,sp vs H Q E→vs.length=ps.length
  run:∀(A:Around) (outer:List Env) (s:Shared) (H:Hp) (args:Args) (us:List Value) (vs:List V) (Q:VK) (E:XK),kO k A→Gx P w K mg base A outer s H→BindsTo s fd args (ps.zip us)→Vals vs us→sp vs H Q E →
    codeAny (model P w) A (.call (.ref f) args) (CR CX outer P w H s Q E) s
theorem aM.mono {P:Program}{w:World}{K:PySem.W.Frag}{mg:Str→Option Value}{base:Heap}{CX:CXT}{j k:Nat}{f:Addr}{fd:FuncData}{ps:List Str}{sp:Sp} (F:aM P w K mg base CX j f fd ps sp) (h:j≤k) :
    aM P w K mg base CX k f fd ps sp:=⟨F.len,fun A outer s H args us vs Q E hr=>F.run A outer s H args us vs Q E (hr.mono h)⟩
section
variable {X:Cx}{pins:List (Addr × Obj)}{σ:St}{H:Hp}{s s':Shared}
theorem Inv.BP (I:Inv X pins σ H s):Gx X.prog X.w X.K X.mg X.base X.A X.stack s H :=
  ⟨I.ok.frames,I.ok.mod,I.bs,Nat.le_trans I.ok.bsz I.sz,I.stack,I.wo,I.hok,I.bare⟩
theorem Inv.after {Q:VK}{u:Value} (I:Inv X pins σ H s) (h:CE X.stack X.prog X.w H s Q u s'):EP X pins σ Q u s':=by
  obtain ⟨v,H',os,bare,un,hok,r,q⟩:=h
  obtain ⟨hh,g,d,t,os'⟩:=s'
  obtain rfl:os'=s.os:=os
  exact⟨v,H',I.call (h':=hh) (g':=g) (d':=d) (t':=t) (ch:=[]) un hok bare (fun b z=>absurd z (by simp)),r,q⟩
end
def nZ (sp:Sp) (dvs:List V) (E:XK) (t:TA):TE:=fun σ H Q=>t σ H fun vs H1=>sp (vs++dvs) H1 Q E
def Binds (K:PySem.W.Frag) (fd:FuncData) (ps:List Str) (ds:List Value):Prop :=
  ∀(s:Shared) (us:List Value),K.In s.heap→(us++ds).length=ps.length→BindsTo s fd ⟨us,[]⟩ (ps.zip (us++ds))
theorem Binds.all {K:PySem.W.Frag}{fd:FuncData}{ps:List Str} (h:∀us:List Value,us.length=ps.length→bindArgs fd ⟨us,[]⟩=pure (ps.zip us)):Binds K fd ps []:=fun s us _ hl=>by
  rw[List.append_nil] at hl ⊢
  exact .of_eq (h us hl)
def Passes (CX:CXT) (X:Cx) (E:XK):Prop:=∀(pins:List (Addr × Obj)) (σ:St) (H:Hp) (s:Shared) (e:Value) (s':Shared),Inv X pins σ H s→CX X.stack H s E e s'→X.xe e s'
section
variable {X:Cx}{CX:CXT}{k:Nat}{f C:Addr}{fd:FuncData}{ps:List Str}{sp:Sp}{dvs:List V}{ds:List Value}{E:XK}{x m:Str}{p pos apos:Pos}{e o:Expr}{es:List Expr}{ta:TE}{t:TA}
theorem IA {pins:List (Addr × Obj)}{σ:St}{H:Hp}{s:Shared}{Q:VK}{us:List Value}{vs:List V} (F:aM X.prog X.w X.K X.mg X.base CX k f fd ps sp) (hr:kO k X.A) (hb:Binds X.K fd ps ds) (hd:Vals dvs ds) (hx:Passes CX X E)
    (I:Inv X pins σ H s) (r:Vals vs us) (h:sp (vs++dvs) H Q E):wpAny (model X.prog X.w) X.A (call (.ref f) us) (EP X pins σ Q) X.xe s:=by
  have r2:Vals (vs++dvs) (us++ds):=r.append hd
  have hl:(us++ds).length=ps.length:=by rw[← r2.length];exact F.len _ _ _ _ h
  refine wpAny_call (codeAny_mono (F.run X.A X.stack s H ⟨us,[]⟩ (us++ds) (vs++dvs) Q E hr I.BP (hb s us I.kIn hl) r2 h) fun r s' hq=>?_)
  cases r with
  | error e=>exact hx pins σ H s e s' I hq
  | ok fl =>
    cases fl with
    | ret u=>exact I.after hq
    | next=>exact False.elim hq
    | brk=>exact False.elim hq
    | cont=>exact False.elim hq
theorem ay (F:aM X.prog X.w X.K X.mg X.base CX k f fd ps sp) (hr:kO k X.A) (hg:Gl X x) (hm:X.mg x=some (.ref f)) (hk:PySem.W.keepIn X.K (.ref f)=true) (hb:Binds X.K fd ps ds) (hd:Vals dvs ds) (hx:Passes CX X E)
    (ha:PA X (e::es) t) (hdb:(x == ("__debug__" : Str))=false:=by decide) (he:starEach (e::es) X.env=(false,eval e X.env)::starEach es X.env:=by rfl) (hpl:(backTo pos (starEach es X.env)).any (·.1)=false:=by rfl) :
    PE X (.Call (.Name x p) (e::es) [] pos) (nZ sp dvs E t):=by
  intro pins s σ H Q I h
  refine wpAny_Call_Name_kw (xh I hg hm ?_ hdb)
  refine PySem.W.callWith_K (h₀:=X.base) I.ok.mod.kin hk (thn (ha pos pins s σ H _ I h) fun us s1 ⟨vs,H1,I1,r,q⟩=>⟨I1.kIn,?_⟩) he hpl
  exact IA F hr hb hd hx I1 r q
end
def PK (X:Cx) (kws:List Keyword) (t:TA):Prop :=
  ∀(pos:Pos) (pins:List (Addr × Obj)) (s:Shared) (σ:St) (H:Hp) (Q:List V→Hp→Prop),Inv X pins σ H s→t σ H Q→wpAny (model X.prog X.w) X.A (evalAll ((backToKw pos (keywordEach kws X.env)).map (·.2))) (AP X pins σ Q) X.xe s
section
variable {X:Cx}{CX:CXT}{k:Nat}{f C:Addr}{fd:FuncData}{ps ks:List Str}{sp:Sp}{E:XK}{x m:Str}{p pos apos kpos:Pos}{e o:Expr}{es:List Expr}{kws:List Keyword}{te ta:TE}{t tk:TA}{nm:Option Str}
theorem Fj:PK X [] rm:=fun _ _ _ _ H Q I h=>wpAny_evalAll_nil ⟨[],H,I,.nil,h⟩
theorem A2 (ha:PE X e te) (hr:PK X kws t):PK X (⟨nm,e,kpos⟩::kws) (jr te t):=by
  intro pos pins s σ H Q I h
  show wpAny _ _ (evalAll ((do let v ← eval e X.env;standAt pos;pure v)::(backToKw pos (keywordEach kws X.env)).map (·.2))) _ _ s
  refine wpAny_evalAll_cons (wpAny_bind (thn (ha pins s σ H _ I h) fun u s1 ⟨x,H1,I1,r1,q1⟩=>wpAny_bind (wpAny_standAt (wpAny_pure ?_))))
  exact thn (hr pos pins s1 σ H1 _ I1 q1) fun us s2 ⟨xs,H2,I2,r2,q2⟩=>⟨x::xs,H2,I2,.cons r1 r2,q2⟩
variable {g:List Value→List Value→List Value}{gV:List V→List V→List V}
end
structure aE (N P:List Str) (sc:Scope):Prop where
  kind:sc.kind=.function
  co:sc.isCoroutine=false
  gen:sc.isGenerator=false
  nd:N.Nodup
  pre:N.take P.length=P
  par:∀x∈P,sc.names.lookup x=some .local∨sc.names.lookup x=some .cell
  nofree:∀y∈sc.names,y.2≠.free
theorem vE {kindOf:Str→Option NameKind}{x:Str}:∀{binds:List (Str × Value)}{m:Str→Option Value},(∀v,(x,v)∉binds)→bindL kindOf binds m x=m x
  | [],_,_=>rfl
  | (n,v)::r,m,h=>by
    unfold bindL
    rw[vE fun w hw=>h w (List.mem_cons_of_mem _ hw)]
    split
    · have:x≠n:=by rintro rfl;exact h v List.mem_cons_self
      simp [this]
    · rfl
theorem vP {kindOf:Str→Option NameKind}{x:Str}:∀{binds:List (Str × Value)}{m:Str→Option Value},(∀v,(x,v)∉binds)→bindC kindOf binds m x=m x
  | [],_,_=>rfl
  | (n,v)::r,m,h=>by
    unfold bindC
    rw[vP fun w hw=>h w (List.mem_cons_of_mem _ hw)]
    split
    · rfl
    · have:x≠n:=by rintro rfl;exact h v List.mem_cons_self
      simp [this]
theorem vZ {kindOf:Str→Option NameKind}{x:Str}{v:Value}:∀{P:List Str}{vs:List Value}{i:Nat}{m:Str→Option Value},P.Nodup→P[i]?=some x→vs[i]?=some v→kindOf x=some .local →
    bindL kindOf (P.zip vs) m x=some v
  | [],_,_,_,_,h,_,_=>by simp at h
  | _::_,[],_,_,_,_,h,_=>by simp at h
  | p::P,w::vs,0,m,nd,h1,h2,hk=>by
    simp at h1 h2;subst h1;subst h2
    show bindL kindOf ((p,w)::P.zip vs) m p=_
    unfold bindL
    rw[vE fun v hv=>(List.nodup_cons.mp nd).1 (List.of_mem_zip hv).1,if_pos hk]
    simp
  | p::P,w::vs,i+1,m,nd,h1,h2,hk=>by
    show bindL kindOf ((p,w)::P.zip vs) m x=_
    unfold bindL
    exact vZ (i:=i) (List.nodup_cons.mp nd).2 (by simpa using h1) (by simpa using h2) hk
theorem vH {kindOf:Str→Option NameKind}{x:Str}{v:Value}:∀{P:List Str}{vs:List Value}{i:Nat}{m:Str→Option Value},P.Nodup→P[i]?=some x→vs[i]?=some v→kindOf x≠some .local →
    bindC kindOf (P.zip vs) m x=some v
  | [],_,_,_,_,h,_,_=>by simp at h
  | _::_,[],_,_,_,_,h,_=>by simp at h
  | p::P,w::vs,0,m,nd,h1,h2,hk=>by
    simp at h1 h2;subst h1;subst h2
    show bindC kindOf ((p,w)::P.zip vs) m p=_
    unfold bindC
    rw[vP fun v hv=>(List.nodup_cons.mp nd).1 (List.of_mem_zip hv).1,if_neg hk]
    simp
  | p::P,w::vs,i+1,m,nd,h1,h2,hk=>by
    show bindC kindOf ((p,w)::P.zip vs) m x=_
    unfold bindC
    exact vH (i:=i) (List.nodup_cons.mp nd).2 (by simpa using h1) (by simpa using h2) hk
def start (N:List Str) (vs:List V):St:=vs.map some++List.replicate (N.length - vs.length) none
def oS (CX:CXT) (P:Program) (w:World) (K:PySem.W.Frag) (mg:Str→Option Value) (base:Heap) (N:List Str) (qual:Str) (scope:Scope) (f:Addr) (cd:Value) (A:Around) (outer:List Env) (s:Shared) (H:Hp) (E:XK):Cx where
  prog:=P
  w:=w
  K:=K
  mg:=mg
  base:=base
  A:=A.deeper (envOfC qual scope s.heap.objs.size f cd)
  N:=N
  s₀:=s
  H₀:=H
  env:=envOfC qual scope s.heap.objs.size f cd
  outer:=outer
  stack:=envOfC qual scope s.heap.objs.size f cd::outer
  ex:=[]
  calm:=true
  fn:=fun _=>true
  pn:=[]
  xe:=fun e s'=>wpAny (model P w) (A.deeper (envOfC qual scope s.heap.objs.size f cd)) (leaving (envOfC qual scope s.heap.objs.size f cd) e) (fun _ s''=>CX outer H s E e s'') (fun e' s''=>CX outer H s E e' s'') s'
theorem yv {sc:Scope}{n:Nat}{x:Str} (h:sc.names.lookup x=some .cell):∃c,(cellsFrom n sc.names []).lookup x=some c:=by
  have q:=PySem.W.cellsFrom_some sc.names n [] (.inl h)
  exact Option.isSome_iff_exists.mp q
theorem Co {CX:CXT}{P:Program}{w:World}{K:PySem.W.Frag}{mg:Str→Option Value}{base:Heap}{N ps:List Str}{qual:Str}{scope:Scope}{f:Addr}{cd:Value}{A:Around}{outer:List Env}{s s1:Shared}{H:Hp}{E:XK}{us:List Value}{vs:List V}
    (S:aE N ps scope) (hd:A.handled=none) (e0:Gx P w K mg base A outer s H) (hl:vs.length=ps.length) (r:Vals vs us)
    (x:InCallC s s.heap.objs.size (bindL (envOfC qual scope s.heap.objs.size f cd).kindOf (ps.zip us) fun _=>none) (cellsFrom (s.heap.objs.size+1) scope.names []) (bindC (envOfC qual scope s.heap.objs.size f cd).kindOf (ps.zip us) fun _=>none) s1) :
    Inv (oS CX P w K mg base N qual scope f cd A outer s H E) [] (start N vs) H s1:=by
  have hpl:ps.length≤N.length:=by have:=congrArg List.length S.pre;rw[List.length_take] at this;omega
  obtain ⟨h1,tk,rfl,hk⟩:=x.done
  have noA:∀b:Addr,b∉(oS CX P w K mg base N qual scope f cd A outer s H E).ex:=fun b z=>absurd (show b∈([]:List Addr) from z) (by simp)
  refine⟨⟨e0.mod,S.kind,rfl,rfl,Nat.le_refl _,fun y z c h1 h2=>?_,fun y hy=>?_,fun y c _ h=>?_,fun _=>hd,Around.frames_deeper e0.frames,.inr ⟨rfl,rfl⟩,fun b z=>absurd z (noA b),e0.bs,e0.bsz,fun b _ _=>noA b,fun b z=>absurd z (noA b),e0.rJ,e0.frf⟩,
    rfl,e0.bare,Un.kept hk,⟨_,x.toInCall.ns,fun i y v h1 h2 h3=>?_⟩,fun y c h=>⟨_,x.cell y c h⟩,e0.hok.fresh (Nat.le_refl _),fun y c h=>?_,fun p hp=>absurd (show p∈([]:List (Addr × Obj)) from hp) (by simp),e0.hok.kept hk,?_⟩
  · exact name_of_addr x.apart (PySem.mem_of_lookup h1) (PySem.mem_of_lookup h2)
  · have hy:scope.names.lookup y=some .cell∨scope.names.lookup y=some .free:=hy
    rcases hy with hy | hy
    · exact yv hy
    · exact absurd rfl (S.nofree _ (PySem.mem_of_lookup hy))
  · exact Nat.le_of_lt (x.above y c (PySem.mem_of_lookup h))
  · have hi:i<vs.length:=by
      unfold start at h2
      by_cases hi:i<vs.length
      · exact hi
      · rw[List.getElem?_append_right (by simpa using hi)] at h2
        rw[List.getElem?_replicate] at h2
        split at h2<;>cases h2
    have ha:vs[i]?=some v:=by
      unfold start at h2
      rw[List.getElem?_append_left (by simpa using hi),List.getElem?_map] at h2
      cases e:vs[i]? with
      | none=>rw[e] at h2;cases h2
      | some a=>rw[e] at h2;cases h2;rfl
    obtain ⟨u,hu,rv⟩:=r.get ha
    have hp:ps[i]?=some y:=by
      rw[← S.pre,List.getElem?_take_of_lt (by omega)];exact h1
    have ndP:ps.Nodup:=by rw[← S.pre];exact S.nd.sublist (List.take_sublist _ _)
    refine⟨u,rv,?_⟩
    rcases S.par y (List.mem_of_getElem? hp) with k | k
    · exact .inl ⟨k,vZ ndP hp hu k⟩
    · obtain ⟨c,e⟩:=yv (n:=s.heap.objs.size+1) k
      refine .inr ⟨.inl k,c,e,?_⟩
      have q:=x.cell y c e
      rw[vH ndP hp hu (by show scope.names.lookup y≠_;rw[k];decide)] at q
      exact q
  · exact e0.hok.fresh (Nat.le_of_lt (x.above y c (PySem.mem_of_lookup h)))
  · unfold start
    show _=N.length
    rw[List.length_append,List.length_map,List.length_replicate]
    omega
theorem AY {CX:CXT}{P:Program}{w:World}{K:PySem.W.Frag}{mg:Str→Option Value}{base:Heap}{k:Nat}{f:Addr}{name qual:Str}{params:Arguments}{body:List Stmt}{scope:Scope}{dV kV doc pm cdv ct oc:Value}{an od:Option Addr}
    {osl:Array (Option Value)}{N ps:List Str}{sp:Sp} (lk:K.lookup f=some ⟨oc,od,.func (PySem.W.fnOf name qual params body scope dV kV doc pm an cdv ct),osl⟩) (hcd:PySem.W.codeIn K cdv qual=true) (S:aE N ps scope)
    (len:∀vs H Q E,sp vs H Q E→vs.length=ps.length)
    (hbody:∀(A:Around) (outer:List Env) (s:Shared) (H:Hp) (vs:List V) (Q:VK) (E:XK),kO k (A.deeper (envOfC qual scope s.heap.objs.size f cdv))→sp vs H Q E →
      ∃t,PSs (oS CX P w K mg base N qual scope f cdv A outer s H E) body t∧t { nx:=fun _ H'=>Q .non H',rt:=Q } (start N vs) H) :
    aM P w K mg base CX (k+1) f (PySem.W.fnOf name qual params body scope dV kV doc pm an cdv ct) ps sp:=by
  refine⟨len,fun A outer s H args us vs Q E hr e0 hb r hsp=>?_⟩
  have hl:=len _ _ _ _ hsp
  have KX:K.In s.heap:=e0.mod.kin.keeps fun b o e=>(e0.bs b o e).1
  have lim:s.heap.NoLimit:=e0.mod.nolimit.keeps fun b o e=>(e0.bs b o e).1
  have hkind:∀y∈ps.zip us,scope.names.lookup y.1=some .local∨(scope.names.lookup y.1=some .cell∧((cellsFrom (s.heap.objs.size+1) scope.names []).lookup y.1).isSome=true):=fun ⟨n,v⟩ hy=>by
    rcases S.par n (List.of_mem_zip hy).1 with q | q
    · exact .inl q
    · exact .inr ⟨q,PySem.W.cellsFrom_some _ _ _ (.inl q)⟩
  refine codeAny_call_function hr.depth (KX _ _ lk) rfl S.co S.gen rfl (PySem.W.codeRec_of KX hcd) (hb _ _ _ _ ?_)
  refine wpAny_newFunctionEnv_cells S.kind hkind fun env he s1 x=>?_
  subst he
  refine⟨lim.keeps x.toInCall.keep,codeAny_func ?_⟩
  obtain ⟨t,ht,hq⟩:=hbody A outer s H vs Q E (hr.deeper _) hsp
  have I:Inv (oS CX P w K mg base N qual scope f cdv A outer s H E) [] (start N vs) H s1:=Co S hr.hd e0 hl r x
  refine wpAny_mono (ht [] s1 (start N vs) H _ I hq) (fun fl s' hs=>?_) fun e s' hs=>hs
  have fin:∀{σ':St}{H':Hp}{v:V}{u:Value},Inv (oS CX P w K mg base N qual scope f cdv A outer s H E) [] σ' H' s'→RelV v u→Q v H'→CE outer P w H s Q u s' :=
    fun {σ' H' v u} J rv q=>⟨v,H',J.os,J.bare,J.base,J.hok,rv,q⟩
  cases fl with
  | ret u =>
    obtain ⟨v,σ',H',J,rv,q⟩:=hs
    exact fin J rv q
  | next =>
    obtain ⟨σ',H',J,q⟩:=hs
    exact fin (v:=V.non) (u:=Value.none) J rfl q
  | brk =>
    obtain ⟨_,_,_,q⟩:=hs
    exact False.elim q
  | cont =>
    obtain ⟨_,_,_,q⟩:=hs
    exact False.elim q
end L2
namespace L2
open PySem PySem.Spec PyProof.Rows
section
variable {X:Cx}{x:Str}{p pos:Pos}{e:Expr}{es:List Expr}{t:TA}{id T:String}{r:List V→Hp→VK→Prop}
def tCB (r:List V→Hp→VK→Prop) (t:TA):TE:=fun σ H Q=>t σ H fun vs H1=>r vs H1 Q
theorem ax (hc:iQ X (.builtin id) r) (hg:Gl X x) (hm:X.mg x=none) (hv:bootBuiltins x=some (.builtin id)) (ha:PA X (e::es) t) (hn:x≠"__name__":=by decide) (hdb:(x == ("__debug__" : Str))=false:=by decide)
    (he:starEach (e::es) X.env=(false,eval e X.env)::starEach es X.env:=by rfl) (hpl:(backTo pos (starEach es X.env)).any (·.1)=false:=by rfl):PE X (.Call (.Name x p) (e::es) [] pos) (tCB r t):=by
  intro pins s σ H Q I h
  refine wpAny_Call_Name_kw (lR I hg hm hv ?_ hn hdb)
  exact PyProof.Rows.callWith_builtin1 (thn (ha pos pins s σ H _ I h) fun us s1 ⟨vs,H1,I1,r1,q1⟩=>hc pins s1 σ H1 vs us Q I1 r1 q1) he hpl
theorem gz (hc:iQ X (.type T) r) (hg:Gl X x) (hm:X.mg x=none) (hv:bootBuiltins x=some (.type T)) (ha:PA X (e::es) t) (hn:x≠"__name__":=by decide) (hdb:(x == ("__debug__" : Str))=false:=by decide)
    (he:starEach (e::es) X.env=(false,eval e X.env)::starEach es X.env:=by rfl) (hpl:(backTo pos (starEach es X.env)).any (·.1)=false:=by rfl):PE X (.Call (.Name x p) (e::es) [] pos) (tCB r t):=by
  intro pins s σ H Q I h
  refine wpAny_Call_Name_kw (lR I hg hm hv ?_ hn hdb)
  exact PyProof.Rows.callWith_type1 (thn (ha pos pins s σ H _ I h) fun us s1 ⟨vs,H1,I1,r1,q1⟩=>hc pins s1 σ H1 vs us Q I1 r1 q1) he hpl
end
end L2
namespace HT
open PySem PyProof.Rows
section
open PySem.SeqAt
open PySem.AutoSeq1 (wpAny_loadPart')
open PySem.MeetsSeq PySem.MeetsSeq2 PySem.MeetsSeq3
end
section
variable {prog:Program}{w:World}{A:Around}{E:Value→Shared→Prop}{s:Shared}
def sIx (n d:Nat):Option Int→Nat
  | none=>d
  | some v=>if v<0 then (v+(n:Int)).toNat else min v.toNat n
theorem yx (n d:Nat):sIx n d none=d:=rfl
theorem su (n d k:Nat):sIx n d (some (k:Int))=min k n:=by
  show (if (k:Int)<0 then ((k:Int)+(n:Int)).toNat else min (k:Int).toNat n)=min k n
  rw[if_neg (by omega),Int.toNat_natCast]
end
end HT
namespace L2
open PySem PySem.Spec PyProof.Rows
abbrev TO:=St→Hp→(Option Int→Hp→Prop)→Prop
def PO (X:Cx) (e:Option Expr) (t:TO):Prop :=
  ∀(pins:List (Addr × Obj)) (s:Shared) (σ:St) (H:Hp) (Q:Option Int→Hp→Prop),Inv X pins σ H s→t σ H Q →
    wpAny (model X.prog X.w) X.A (evalPart e X.env) (fun u s'=>∃o H',Inv X pins σ H' s'∧IsPart u o∧Q o H') X.xe s
def Bs:TO:=fun _ H Q=>Q none H
def Ht (t:TE):TO:=fun σ H Q=>t σ H fun x H1=>∃i,x=.int i∧Q (some i) H1
section
variable {X:Cx}{e:Expr}{te:TE}{lo hi:Option Expr}{tl th:TO}{pos p2:Pos}
theorem oW:PO X none Bs:=by
  intro pins s σ H Q I h
  rw[evalPart_none]
  exact wpAny_pure ⟨none,H,I,.none,h⟩
theorem jG (h:PE X e te):PO X (some e) (Ht te):=by
  intro pins s σ H Q I hw
  rw[evalPart_some]
  refine thn (h pins s σ H _ I hw) fun u s1 ⟨x,H1,I1,r1,q1⟩=>?_
  obtain ⟨i,rfl,q⟩:=q1
  obtain ⟨t,rfl⟩:=r1
  exact⟨some i,H1,I1,.int i t,q⟩
def SlR (X:Cx) (r:V→Option Int→Option Int→Hp→VK→Prop):Prop :=
  ∀(pins:List (Addr × Obj)) (s:Shared) (σ:St) (H:Hp) (x:V) (v vl vu:Value) (lo hi:Option Int) (sl:Addr) (Q:VK),Inv X pins σ H s→RelV x v→s.heap.IsSliceOf sl vl vu .none→IsPart vl lo→IsPart vu hi→r x lo hi H Q →
    ∃T id,typeLookup (.type T) "__getitem__" = pure (some (.builtin id))∧s.TypeIs v T∧wpAny (model X.prog X.w) X.A (getItem v (.ref sl)) (EP X pins σ Q) X.xe s
def tSl (r:V→Option Int→Option Int→Hp→VK→Prop) (te:TE) (tl th:TO):TE:=fun σ H Q=>te σ H fun x H1=>tl σ H1 fun l H2=>th σ H2 fun u H3=>r x l u H3 Q
theorem j6 {r:V→Option Int→Option Int→Hp→VK→Prop} (hr:SlR X r) (he:PE X e te) (hl:PO X lo tl) (hu:PO X hi th):PE X (.Subscript e (.Slice lo hi none p2) pos) (tSl r te tl th):=by
  intro pins s σ H Q I h
  refine Subscript_ (thn (he pins s σ H _ I h) fun v s1 ⟨x,H1,I1,r1,q1⟩=>?_)
  refine wpAny_Slice (thn (hl pins s1 σ H1 _ I1 q1) fun vl s2 ⟨l,H2,I2,pl,q2⟩=>thn (hu pins s2 σ H2 _ I2 q2) fun vu s3 ⟨u,H3,I3,pu,q3⟩=>?_)
  rw[evalPart_none]
  refine wpAny_pure ?_
  have I4:Inv X pins σ H3 { s3 with heap:=s3.heap.push { cls:=.type "slice",data:=.fields #[vl,vu,.none] } }:=I3.kept (t':=s3.toks) fun b ob q=>Heap.get?_push_of_some _ q
  obtain ⟨T,id,hT,ht,hg⟩:=hr pins { s3 with heap:=s3.heap.push { cls:=.type "slice",data:=.fields #[vl,vu,.none] } } σ H3 x v vl vu l u s3.heap.objs.size Q I4 r1 (Heap.IsSliceOf.new ..) pl pu q3
  show wpAny (model X.prog X.w) X.A (subscriptTail e (.Slice lo hi none p2) v (.ref s3.heap.objs.size)) (EP X pins σ Q) X.xe { s3 with heap:=s3.heap.push { cls:=.type "slice",data:=.fields #[vl,vu,.none] } }
  exact tail_any (ops:=[.ref s3.heap.objs.size,v]) ht hT hg (by with_unfolding_all rfl)
def B7 (xs:List V) (lo hi:Option Int):List V:=(xs.drop (HT.sIx xs.length 0 lo)).take (HT.sIx xs.length xs.length hi - HT.sIx xs.length 0 lo)
theorem xW (xs:List V) (lo hi:Option Int):(B7 xs lo hi).length≤xs.length:=by
  unfold B7
  rw[List.length_take,List.length_drop]
  omega
end
end L2
namespace L2
open PySem PySem.Spec PyProof.Rows
def ixN (n:Nat) (i:Int):Option Nat:=if 0≤i then (if i<n then some i.toNat else none) else if -(n:Int)≤i then some (i+n).toNat else none
def atI {α:Type} (xs:List α) (i:Int):Option α:=(ixN xs.length i).bind fun j=>xs[j]?
theorem Bx {n:Nat}{i:Int}{j:Nat} (h:ixN n i=some j):seqIndex? i n=some j∧j<n∧-(n:Int)≤i∧i<n:=by
  unfold ixN at h
  by_cases h0:0≤i
  · rw[if_pos h0] at h
    by_cases h1:i<n
    · rw[if_pos h1] at h
      have e:i.toNat=j:=Option.some.inj h
      exact⟨by rw[seqIndex_of h0 h1,e],by omega,by omega,h1⟩
    · rw[if_neg h1] at h;cases h
  · rw[if_neg h0] at h
    by_cases h1 : -(n:Int)≤i
    · rw[if_pos h1] at h
      have e:(i+n).toNat=j:=Option.some.inj h
      exact⟨by rw[seqIndex_neg (by omega) h1,e],by omega,h1,by omega⟩
    · rw[if_neg h1] at h;cases h
theorem Bn {α:Type}{xs:List α}{i:Int}{v:α} (h:atI xs i=some v):∃j,seqIndex? i xs.length=some j∧xs[j]?=some v∧j<xs.length∧-(xs.length:Int)≤i∧i<xs.length:=by
  unfold atI at h
  cases e:ixN xs.length i with
  | none=>rw[e] at h;cases h
  | some j =>
    rw[e] at h
    obtain ⟨h1,h2,h3,h4⟩:=Bx e
    exact⟨j,h1,h,h2,h3,h4⟩
def FW (b:Expr):Prop:=∀o i,subscripted b false o i=operate [o,i] (getItem o i)
def IxR (X:Cx) (r:R2):Prop :=
  ∀(value slice:Expr) (pins:List (Addr × Obj)) (s:Shared) (σ:St) (H:Hp) (x y:V) (v u:Value) (Q:VK),Inv X pins σ H s→RelV x v→RelV y u→r x y H Q →
    subscripted slice false v u=operate [v,u] (getItem v u)→wpAny (model X.prog X.w) X.A (subscriptTail value slice v u) (EP X pins σ Q) X.xe s
def MtR (X:Cx) (id:String) (r:V→List V→Hp→VK→Prop):Prop :=
  ∀(pins:List (Addr × Obj)) (s:Shared) (σ:St) (H:Hp) (x:V) (xs:List V) (v:Value) (us:List Value) (Q:VK),Inv X pins σ H s→RelV x v→Vals xs us→r x xs H Q →
    wpAny (model X.prog X.w) X.A (call (.builtin id) (v::us)) (EP X pins σ Q) X.xe s
section
variable {X:Cx}{a b:Expr}{ta tb:TE}{pos:Pos}
theorem aB {r:R2} (hr:IxR X r) (ha:PE X a ta) (hb:PE X b tb) (hs:FW b):PE X (.Subscript a b pos) (tOp r ta tb):=by
  intro pins s σ H Q I h
  exact Subscript_ (Jm ha hb I h fun v u s2 x y H2 I2 rx ry q=>hr a b pins s2 σ H2 x y v u Q I2 rx ry q (hs _ _))
def DR (K:PySem.W.Frag):R2:=fun x y H Q=>∃p xs i v,x=.ref p∧y=.int i∧SqL K H p xs∧atI xs i=some v∧Q v H
def C8 (K:PySem.W.Frag):R2:=fun x y H Q=>∃p xs i v,x=.ref p∧y=.int i∧SqT K H p xs∧atI xs i=some v∧Q v H
theorem Gy:IxR X (DR X.K):=by
  intro value slice pins s σ H x y v u Q I rx ry h hs
  obtain ⟨p,xs,i,z,rfl,rfl,hq,he,q⟩:=h
  cases rx
  obtain ⟨t,rfl⟩:=ry
  obtain ⟨its,r,pl,hz⟩:=I.list hq
  obtain ⟨j,h1,h2,h3,h4,h5⟩:=Bn he
  obtain ⟨w,ew,rw'⟩:=r.get h2
  have hl:=r.length
  have hn:=wK
  have fin:EP X pins σ Q w s:=⟨z,H,I,rw',q⟩
  by_cases h0:0≤i
  · have hj:i.toNat=j:=by
      rw[seqIndex_of h0 h5] at h1
      exact Option.some.inj h1
    exact item_listR pl.isList h0 (by omega) (by rw[hj];simpa using ew) fin hs
  · have hj:(i+(its.toArray.size:Int)).toNat=j:=by
      rw[seqIndex_neg (by omega) h4] at h1
      rw[List.size_toArray,← hl]
      exact Option.some.inj h1
    exact subscriptTail_builtinR (x:=w) pl.isList.typeIs slot_list_getitem.lookup
      (wpAny_getItem_list_neg (Q:=fun r s'=>r=w∧EP X pins σ Q r s') pl.isList (by omega) (by rw[List.size_toArray]<;>omega) (by omega) (by rw[hj];simpa using ew) ⟨rfl,fin⟩) hs
theorem IW:IxR X (C8 X.K):=by
  intro value slice pins s σ H x y v u Q I rx ry h hs
  obtain ⟨p,xs,i,z,rfl,rfl,hq,he,q⟩:=h
  cases rx
  obtain ⟨t,rfl⟩:=ry
  obtain ⟨its,r,pl,hz⟩:=I.tuple hq
  obtain ⟨j,h1,h2,h3,h4,h5⟩:=Bn he
  obtain ⟨w,ew,rw'⟩:=r.get h2
  have hl:=r.length
  have hn:=wK
  have fin:EP X pins σ Q w s:=⟨z,H,I,rw',q⟩
  exact subscriptTail_builtinR (x:=w) pl.typeIs slot_tuple_getitem.lookup
    (getItem_tuple (j:=j) (Q:=fun r s'=>r=w∧EP X pins σ Q r s') pl (by omega) (by omega) (by rw[List.size_toArray,← hl];exact h1) (by simpa using ew) ⟨rfl,fin⟩) hs
theorem Al (its:List Value) (n j:Nat) (u:Value):Obj.mapSeq (·.setIfInBounds j u) { cls:=.type "list",data:=.seq its.toArray n }={ cls:=.type "list",data:=.seq (its.set j u).toArray n }:=by
  simp [Obj.mapSeq]
theorem Inv.lst {pins:List (Addr × Obj)}{σ:St}{H:Hp}{s:Shared}{p:Addr}{xs:List V} (I:Inv X pins σ H s) (h:H p=some (.lst xs)) :
    ∃(its:List Value) (n:Nat),Vals xs its∧s.heap.get? p=some { cls:=.type "list",data:=.seq its.toArray n }∧xs.length≤sizeLine:=by
  obtain ⟨z,its,n,r,e⟩:=I.hok p _ h
  exact⟨its,n,r,e,z⟩
theorem Inv.IZ {pins:List (Addr × Obj)}{σ:St}{H:Hp}{s:Shared}{p:Addr}{xs ys:List V}{its its':List Value}{n n':Nat}{f:Obj→Obj} (I:Inv X pins σ H s) (h:H p=some (.lst xs))
    (ho:s.heap.get? p=some { cls:=.type "list",data:=.seq its.toArray n }) (hf:f { cls:=.type "list",data:=.seq its.toArray n }={ cls:=.type "list",data:=.seq its'.toArray n' }) (r:Vals ys its') (hz:ys.length≤sizeLine) (t:Nat) :
    Inv X pins σ (upd H p (.lst ys)) { s with heap:=s.heap.update p f,toks:=t }:=by
  have e:(s.heap.update p f).get? p=some { cls:=.type "list",data:=.seq its'.toArray n' }:=by
    rw[Heap.get?_update_self f ho (by rw[hf]<;>rfl),hf]
  refine I.write (x:=p) (e:=p) (by rw[h];trivial) (.inl rfl) (fun b u hb q=>(Heap.get?_update_other _ _ (Ne.symm hb)).trans q) ⟨_,e⟩ ?_
  exact⟨hz,its',n',r,e⟩
def AG:V→V→V→Hp→(Hp→Prop)→Prop:=fun o i v H Q=>∃p xs k j,o=.ref p∧i=.int k∧H p=some (.lst xs)∧ixN xs.length k=some j∧Q (upd H p (.lst (xs.set j v)))
theorem set_list:JB X AG:=by
  intro pins s σ H o i v ov iv u Q I ro ri rv h
  obtain ⟨p,xs,k,j,rfl,rfl,hp,hj,q⟩:=h
  cases ro
  obtain ⟨t,rfl⟩:=ri
  obtain ⟨its,n,r,ho,hz⟩:=I.lst hp
  obtain ⟨h1,h2,h3,h4⟩:=Bx hj
  have hl:=r.length
  have hn:=wK
  have I':Inv X pins σ (upd H p (.lst (xs.set j v))) { s with heap:=s.heap.update p (Obj.mapSeq (·.setIfInBounds j u)) } :=
    I.IZ hp ho (Al its n j u) (r.set rv j) (by rw[List.length_set];exact hz) s.toks
  by_cases h0:0≤k
  · have hk:k.toNat=j:=by
      rw[seqIndex_of h0 h4] at h1
      exact Option.some.inj h1
    exact PySem.W.ki_setAt ho h0 (by omega) (by rw[List.size_toArray,← hl];exact h4) (by rw[hk];exact⟨_,I',q⟩)
  · have hk:(k+(its.toArray.size:Int)).toNat=j:=by
      rw[seqIndex_neg (by omega) h3] at h1
      rw[List.size_toArray,← hl]
      exact Option.some.inj h1
    exact PySem.W.ki_setBack ho (by omega) (by rw[List.size_toArray,← hl];exact h3) (by omega) (by rw[hk];exact⟨_,I',q⟩)
theorem xi (lo hi:Option Int) (n:Nat):(sliceBounds lo hi none n).1=((HT.sIx n 0 lo:Nat):Int)∧(sliceBounds lo hi none n).2.1=((HT.sIx n n hi:Nat):Int)∧(sliceBounds lo hi none n).2.2=1:=by
  refine⟨?_,?_,rfl⟩
  · cases lo with
    | none=>simp [sliceBounds,HT.sIx]
    | some i =>
      simp only[sliceBounds,HT.sIx,Option.getD_none,show (1:Int)>0 by decide,if_true]
      by_cases h:i<0
      · simp only[h,if_true]<;>omega
      · simp only[h,if_false]<;>omega
  · cases hi with
    | none=>simp [sliceBounds,HT.sIx]
    | some i =>
      simp only[sliceBounds,HT.sIx,Option.getD_none,show (1:Int)>0 by decide,if_true]
      by_cases h:i<0
      · simp only[h,if_true]<;>omega
      · simp only[h,if_false]<;>omega
theorem uU (its:List Value) (lo hi:Option Int):slicePick its.toArray lo hi none=((its.drop (HT.sIx its.length 0 lo)).take (HT.sIx its.length its.length hi - HT.sIx its.length 0 lo)).toArray:=by
  obtain ⟨h1,h2,h3⟩:=xi lo hi its.toArray.size
  unfold slicePick
  rw[h1,h2,h3]
  simp only[sliceRange_one,pick_run,List.size_toArray]<;>rfl
def Ik (K:PySem.W.Frag):V→Option Int→Option Int→Hp→VK→Prop:=fun x lo hi H Q=>∃a xs,x=.ref a∧SqL K H a xs∧∀p,H p=none→Q (.ref p) (upd H p (.lst (B7 xs lo hi)))
theorem FR:SlR X (Ik X.K):=by
  intro pins s σ H x v vl vu lo hi sl Q I rx hs pl pu h
  obtain ⟨a,xs,rfl,hx,q⟩:=h
  cases rx
  obtain ⟨its,r,ht,hz⟩:=I.list hx
  have hlen:=r.length
  refine⟨"list",_,slot_list_getitem.lookup,ht.isList.typeIs,?_⟩
  refine wpAny_getItem_list_slice ht.isList hs pl pu .none (by simp) ?_ (by rw[List.size_toArray]<;>omega)
  rw[uU,← hlen]
  refine⟨.ref s.heap.objs.size,_,I.laid (t':=s.toks) (o:=.lst (B7 xs lo hi)) (fun b ob q=>Heap.get?_push_of_some _ q) (Nat.le_refl _) ?_,rfl,q _ (I.hok.fresh (Nat.le_refl _))⟩
  exact⟨Nat.le_trans (xW xs lo hi) hz,_,0,(r.drop (HT.sIx xs.length 0 lo)).take (HT.sIx xs.length xs.length hi - HT.sIx xs.length 0 lo),Heap.get?_push_size _ rfl⟩
def fG:V→Bool
  | .non=>true
  | .bl _=>true
  | .int _=>true
  | .str _=>true
  | _=>false
def eqV:V→V→Bool
  | .non,.non=>true
  | .bl a,.bl b=>a == b
  | .bl a,.int b=>(if a then 1 else 0) == b
  | .int a,.bl b=>a == (if b then 1 else 0)
  | .int a,.int b=>a == b
  | .str a,.str b=>a == b
  | _,_=>false
theorem HU {A:Around}{s:Shared}{y x:V}{u v:Value} (ry:RelV y u) (rx:RelV x v) (fy:fG y=true) (fx:fG x=true):SeqAt.EqAt A s u v (eqV y x):=by
  cases y with
  | non =>
    cases ry
    cases x with
    | non=>cases rx;exact SeqAt.EqAt.same _
    | bl b=>cases rx;exact SeqAt.EqAt.none_bool b
    | int b=>obtain ⟨t,rfl⟩:=rx;exact SeqAt.EqAt.none_int b t
    | str b=>obtain ⟨t,rfl⟩:=rx;exact SeqAt.EqAt.none_str b t
    | _=>exact absurd (show false=true from fx) Bool.false_ne_true
  | bl a =>
    cases ry
    cases x with
    | non=>cases rx;exact SeqAt.EqAt.bool_none a
    | bl b=>cases rx;exact SeqAt.EqAt.bool_bool a b
    | int b=>obtain ⟨t,rfl⟩:=rx;exact SeqAt.EqAt.bool_int a b t
    | str b=>obtain ⟨t,rfl⟩:=rx;exact SeqAt.EqAt.bool_str a b t
    | _=>exact absurd (show false=true from fx) Bool.false_ne_true
  | int a =>
    obtain ⟨t',rfl⟩:=ry
    cases x with
    | non=>cases rx;exact SeqAt.EqAt.int_none a t'
    | bl b=>cases rx;exact SeqAt.EqAt.int_bool a t' b
    | int b=>obtain ⟨t,rfl⟩:=rx;exact SeqAt.EqAt.int_int a t' b t
    | str b=>obtain ⟨t,rfl⟩:=rx;exact SeqAt.EqAt.int_str a t' b t
    | _=>exact absurd (show false=true from fx) Bool.false_ne_true
  | str a =>
    obtain ⟨t',rfl⟩:=ry
    cases x with
    | non=>cases rx;exact SeqAt.EqAt.str_none a t'
    | bl b=>cases rx;exact SeqAt.EqAt.str_bool a t' b
    | int b=>obtain ⟨t,rfl⟩:=rx;exact SeqAt.EqAt.str_int a t' b t
    | str b=>obtain ⟨t,rfl⟩:=rx;exact SeqAt.EqAt.str_str a t' b t
    | _=>exact absurd (show false=true from fx) Bool.false_ne_true
  | _=>exact absurd (show false=true from fy) Bool.false_ne_true
def eqU (x:V) (u:Value):Bool:=match u with
  | .none=>eqV .non x
  | .bool b=>eqV (.bl b) x
  | .int i _=>eqV (.int i) x
  | .str z _=>eqV (.str z) x
  | _=>false
theorem xw {x y:V}{u:Value} (r:RelV y u) (f:fG y=true):eqU x u=eqV y x:=by
  cases y with
  | non=>cases r;rfl
  | bl b=>cases r;rfl
  | int i=>obtain ⟨t,rfl⟩:=r;rfl
  | str z=>obtain ⟨t,rfl⟩:=r;rfl
  | _=>exact absurd (show false=true from f) Bool.false_ne_true
theorem wc {x:V}:∀{xs:List V}{us:List Value},Vals xs us→xs.all fG=true→us.any (eqU x)=xs.any fun y=>eqV y x
  | _,_,.nil,_=>rfl
  | y::xs,u::us,.cons r t,f=>by
    rw[List.all_cons,Bool.and_eq_true] at f
    rw[List.any_cons,List.any_cons,xw r f.1,wc t f.2]
theorem nE {A:Around}{s:Shared}{x:V}{v:Value} (rx:RelV x v) (fx:fG x=true):∀{xs:List V}{us:List Value},Vals xs us→xs.all fG=true→∀u∈us,SeqAt.EqAt A s u v (eqU x u)
  | _,_,.nil,_=>fun u hu=>by cases hu
  | y::xs,u::us,.cons r t,f=>fun u' hu=>by
    rw[List.all_cons,Bool.and_eq_true] at f
    rcases List.mem_cons.mp hu with rfl | hu
    · rw[xw r f.1];exact HU r rx f.1 fx
    · exact nE rx fx t f.2 u' hu
def inV (x:V) (xs:List V):Bool:=xs.any fun y=>eqV y x
def rIn (K:PySem.W.Frag) (neg:Bool):R2:=fun x y H Q=>∃p xs,y=.ref p∧(SqL K H p xs∨SqT K H p xs)∧fG x=true∧xs.all fG=true∧Q (.bl (if neg then !inV x xs else inV x xs)) H
theorem wN:OpR X (compareOp .NotIn) (rIn X.K true):=by
  intro pins s σ H x y v u Q I rx ry h
  obtain ⟨p,xs,rfl,hq,fx,fs,q⟩:=h
  cases ry
  rcases hq with hq | hq
  · obtain ⟨its,r,pl,hz⟩:=I.list hq
    refine SeqAt.notIn_listAt (eqU x) pl.isList (fun w hw=>nE rx fx r fs w (by simpa using hw)) ⟨.bl _,H,I,rfl,?_⟩
    rw[show its.toArray.any (eqU x)=its.any (eqU x) by simp,wc r fs]
    exact q
  · obtain ⟨its,r,pl,hz⟩:=I.tuple hq
    refine SeqAt.notIn_tupleAt (eqU x) pl (fun w hw=>nE rx fx r fs w (by simpa using hw)) ⟨.bl _,H,I,rfl,?_⟩
    rw[show its.toArray.any (eqU x)=its.any (eqU x) by simp,wc r fs]
    exact q
theorem wD:iQ X (.builtin "len") (fun xs H Q=>∃p ys,xs=[.ref p]∧(SqL X.K H p ys∨SqT X.K H p ys)∧Q (.int ys.length) H):=by
  intro pins s σ H xs us Q I r h
  obtain ⟨p,ys,rfl,hq,q⟩:=h
  obtain ⟨u,rfl,rx⟩:=vals1 r
  cases rx
  have hn:=wK
  rcases hq with hq | hq
  · obtain ⟨its,r',pl,hz⟩:=I.list hq
    have hlen:=r'.length
    exact Calls.call_len_list pl.isList (by simp only[List.size_toArray]<;>omega) ⟨.int ys.length,H,I.tok _,⟨s.toks+1,by rw[List.size_toArray,hlen]⟩,q⟩
  · obtain ⟨its,r',pl,hz⟩:=I.tuple hq
    have hlen:=r'.length
    exact len_tuple pl (by simp only[List.size_toArray]<;>omega) ⟨.int ys.length,H,I.tok _,⟨s.toks+1,by rw[List.size_toArray,hlen]⟩,q⟩
theorem wR:iQ X (.type "list") (fun xs H Q=>∃p ys,xs=[.ref p]∧(SqL X.K H p ys∨SqT X.K H p ys)∧∀l,H l=none→Q (.ref l) (upd H l (.lst ys))):=by
  intro pins s σ H xs us Q I r h
  obtain ⟨p,ys,rfl,hq,q⟩:=h
  obtain ⟨u,rfl,rx⟩:=vals1 r
  cases rx
  have fin:∀(its:List Value),Vals ys its→ys.length≤sizeLine→∀(h':Heap) (c':Nat),(∀b o',s.heap.get? b=some o'→h'.get? b=some o') →
      h'.get? s.heap.objs.size=some { cls:=.type "list",dict:=none,data:=.seq its.toArray c',slots:=#[] }→EP X pins σ Q (.ref s.heap.objs.size) { s with heap:=h' }:=fun its r' hz h' c' kp e =>
    ⟨.ref s.heap.objs.size,_,I.laid (t':=s.toks) kp (Nat.le_refl _) (show cY X.prog X.w _ h' _ (.lst ys) from ⟨hz,its,c',r',e⟩),rfl,q _ (I.hok.fresh (Nat.le_refl _))⟩
  rcases hq with hq | hq
  · obtain ⟨its,r',pl,hz⟩:=I.list hq
    have hlen:=r'.length
    obtain ⟨o,ho,hc,n,hd⟩:=pl.isList
    exact call_list_seq p (.inl rfl) ho hc hd (fun h' c' kp e=>fin its r' hz h' c' kp e) (by simp only[List.size_toArray]<;>omega)
  · obtain ⟨its,r',pl,hz⟩:=I.tuple hq
    have hlen:=r'.length
    obtain ⟨o,ho,hc,n,hd⟩:=pl
    exact call_list_seq p (.inr rfl) ho hc hd (fun h' c' kp e=>fin its r' hz h' c' kp e) (by simp only[List.size_toArray]<;>omega)
theorem uJ:iQ X (.type "tuple") (fun xs H Q=>∃p ys,xs=[.ref p]∧((SqL X.K H p ys∧∀l,H l=none→Q (.ref l) (upd H l (.tup ys)))∨(SqT X.K H p ys∧Q (.ref p) H))):=by
  intro pins s σ H xs us Q I r h
  obtain ⟨p,ys,rfl,h⟩:=h
  obtain ⟨u,rfl,rx⟩:=vals1 r
  cases rx
  rcases h with ⟨hq,q⟩ | ⟨hq,q⟩
  · obtain ⟨its,r',pl,hz⟩:=I.list hq
    have hlen:=r'.length
    refine call_tuple_list pl.isList (fun h' kp=>?_) (by simp only[List.size_toArray]<;>omega)
    have I1:Inv X pins σ H { s with heap:=h' }:=I.kept (t':=s.toks) kp
    have I2:Inv X pins σ (upd H h'.objs.size (.tup ys)) { s with heap:=h'.push { cls:=.type "tuple",data:=.seq its.toArray } } :=
      I1.laid (t':=s.toks) (fun b o e=>Heap.get?_push_of_some _ e) (Nat.le_refl _) (show cY X.prog X.w _ _ _ (.tup ys) from ⟨hz,its,r',IsTup.new _ _⟩)
    exact⟨.ref h'.objs.size,_,I2,rfl,q _ (I1.hok.fresh (Nat.le_refl _))⟩
  · obtain ⟨its,r',pl,hz⟩:=I.tuple hq
    exact call_tuple_same pl ⟨.ref p,H,I,rfl,q⟩
def tyV (K:PySem.W.Frag) (T:String) (x:V) (H:Hp):Prop:=match x with
  | .str _=>T = "str"
  | .int _=>T = "int"
  | .ref p=>(T = "list"∧∃xs,SqL K H p xs)∨(T = "tuple"∧∃o,K.lookup p=some o∧o.cls=.type "tuple"∧o.dict=none) ∨
      (T = "dict"∧((∃kvs,H p=some (.dK kvs))∨∃kvs,H p=some (.dT kvs)))∨(T = "set"∧∃S n,H p=some (.set S n))
  | _=>False
theorem Jh {pins:List (Addr × Obj)}{σ:St}{H:Hp}{s:Shared}{T:String}{x:V}{v:Value} (I:Inv X pins σ H s) (r:RelV x v) (ty:tyV X.K T x H) :
    s.TypeIs v T∧∀a,v=.ref a→∃ob,s.heap.get? a=some ob∧ob.dict=none:=by
  cases x with
  | str z =>
    obtain ⟨t,rfl⟩:=r
    cases (show T = "str" from ty)
    exact⟨typeIs_str s z t,fun _ e=>nomatch e⟩
  | int i =>
    obtain ⟨t,rfl⟩:=r
    cases (show T = "int" from ty)
    exact⟨typeIs_int s i t,fun _ e=>nomatch e⟩
  | ref p =>
    cases r
    rcases ty with ⟨rfl,xs,hq⟩ | ⟨rfl,o,hk,hc,hd⟩ | ⟨rfl,hk⟩ | ⟨rfl,S,n,hk⟩
    · obtain ⟨its,_,pl,_⟩:=I.list hq
      refine⟨pl.isList.typeIs,fun a e=>?_⟩
      cases e
      obtain ⟨o,n,e,c,hd,_⟩:=pl
      exact⟨o,e,hd⟩
    · refine⟨⟨o,I.kIn p o hk,hc⟩,fun a e=>?_⟩
      cases e
      exact⟨o,I.kIn _ o hk,hd⟩
    · have z:∃o,s.heap.get? p=some o∧o.ExactDict:=by
        rcases hk with ⟨kvs,hk⟩ | ⟨kvs,hk⟩
        · obtain ⟨_,_,_,_,o,_,_,e,ex,_⟩:=I.hok p _ hk
          exact⟨o,e,ex⟩
        · obtain ⟨_,_,_,_,o,_,_,e,ex,_⟩:=I.hok p _ hk
          exact⟨o,e,ex⟩
      obtain ⟨o,e,ex⟩:=z
      refine⟨⟨o,e,ex.1⟩,fun a e2=>?_⟩
      cases e2
      exact⟨o,e,ex.2.1⟩
    · obtain ⟨o,_,_,_,e,ex,_⟩:=I.hok p _ hk
      refine⟨⟨o,e,ex.1⟩,fun a e2=>?_⟩
      cases e2
      exact⟨o,e,ex.2.1⟩
  | _=>exact False.elim ty
def tBM (K:PySem.W.Frag) (T:String) (r:V→List V→Hp→VK→Prop) (to:TE) (t:TA):TE:=fun σ H Q=>to σ H fun x H1=>tyV K T x H1∧t σ H1 fun xs H2=>r x xs H2 Q
variable {o e:Expr}{es:List Expr}{to:TE}{t:TA}{name:Str}{apos cpos:Pos}{T id:String}{r:V→List V→Hp→VK→Prop}
theorem rf (pa:PlainAttrs T) (slot:Slot T name id) (hty:typeOf (.builtin id)=pure (.type "method_descriptor")) (hm:MtR X id r) (ho:PE X o to) (ha:PA X (e::es) t)
    (hbase:attributeBase o name X.env (eval o X.env)=eval o X.env:=by rfl)
    (hfew:((backTo cpos (starEach (e::es) X.env)).all (fun x=>!x.1) && (backToKw cpos (keywordEach [] X.env)).all (fun x=>x.1.isSome)
      && decide ((e::es).length+([]:List Keyword).length+(if ([]:List Keyword).isEmpty then 0 else 1)<30))=true:=by rfl)
    (hline:(apos.endLine == cpos.line)=true:=by rfl) (hs:starEach (e::es) X.env=(false,eval e X.env)::starEach es X.env:=by rfl) (hplain:(backTo cpos (starEach es X.env)).any (·.1)=false:=by rfl) :
    PE X (.Call (.Attribute o name apos) (e::es) [] cpos) (tBM X.K T r to t):=by
  intro pins s σ H Q I h
  refine wpAny_Call_method_late hbase hfew hline rfl (thn (ho pins s σ H _ I h) fun v s1 ⟨x,H1,I1,r1,ty,q1⟩=>?_)
  obtain ⟨h1,h2⟩:=Jh I1 r1 ty
  refine⟨T,id,pa,slot,hty,h1,h2,?_⟩
  have hA:=ha cpos pins s1 σ H1 _ I1 q1
  rw[hs] at hA ⊢
  refine Calls.callWith_builtin (by show (false || (backTo cpos (starEach es X.env)).any (·.1))=false;rw[hplain]<;>rfl) (Calls.evalArgs_plain ?_)
  exact thn hA fun us s2 ⟨vs,H2,I2,r2,q2⟩=>hm pins s2 σ H2 x vs v us Q I2 r1 r2 q2
/- xs.append(e),list.index on a module's tuple .. are MtR facts of 06m -/
end
end L2
namespace L2
open PySem PySem.Spec PyProof.Rows
def MtM (X:Cx) (id:String) (r:V→List V→Hp→VK→Prop):Prop :=
  ∀(pins:List (Addr × Obj)) (s:Shared) (σ:St) (H:Hp) (x:V) (xs:List V) (v:Value) (us:List Value) (Q:VK),Inv X pins σ H s→RelV x v→Vals xs us→r x xs H Q →
    wpAny (model X.prog X.w) X.A (call (.builtin id) (v::us)) (EP X pins σ Q) X.xe s
theorem Vals.one:∀{x:V}{us:List Value},Vals [x] us→∃u,us=[u]∧RelV x u
  | _,_,.cons r .nil=>⟨_,rfl,r⟩
theorem Vals.eraseIdx:∀{xs:List V}{us:List Value} (i:Nat),Vals xs us→Vals (xs.eraseIdx i) (us.eraseIdx i)
  | _,_,_,.nil=>.nil
  | _,_,0,.cons _ t=>t
  | _,_,i+1,.cons r t=>.cons r (Vals.eraseIdx i t)
theorem Vals.reverse {xs:List V}{us:List Value} (h:Vals xs us):Vals xs.reverse us.reverse:=by
  induction h with
  | nil=>exact .nil
  | cons r t ih=>rw[List.reverse_cons,List.reverse_cons];exact Vals.append ih (.cons r .nil)
theorem Vals.rep {xs:List V}{us:List Value} (h:Vals xs us):∀k:Nat,Vals (List.replicate k xs).flatten (List.replicate k us).flatten
  | 0=>.nil
  | k+1=>by
    rw[List.replicate_succ,List.replicate_succ,List.flatten_cons,List.flatten_cons]
    exact Vals.append h (Vals.rep h k)
theorem foldl_rep (its:List Value):∀(k:Nat) (acc:List Value),
    List.foldl (fun x1 x2=>x1++x2) acc.toArray (List.replicate k its.toArray)=(acc++(List.replicate k its).flatten).toArray
  | 0,acc=>by simp
  | k+1,acc=>by
    have e:acc.toArray++its.toArray=(acc++its).toArray:=by simp
    have e2:(acc++its)++(List.replicate k its).flatten=acc++(List.replicate (k+1) its).flatten:=by
      rw[List.replicate_succ,List.flatten_cons,List.append_assoc]
    rw[← e2,← foldl_rep its k (acc++its),← e,List.replicate_succ,List.foldl_cons]
section
variable {X:Cx}{pins:List (Addr × Obj)}{σ:St}{H:Hp}{s:Shared}{l b:Addr}{xs ys zs:List V}
theorem Inv.JW {its its':List Value}{n:Nat}{f:Array Value→Array Value}{t':Nat} (I:Inv X pins σ H s) (hH:H l=some (.lst xs))
    (e:s.heap.get? l=some { cls:=.type "list",data:=.seq its.toArray n }) (hf:f its.toArray=its'.toArray) (hv:Vals ys its') (hz:ys.length≤sizeLine) :
    Inv X pins σ (upd H l (.lst ys)) { s with heap:=s.heap.update l (Obj.mapSeq f),toks:=t' }:=by
  have q:=PySem.IsL.update e f
  rw[hf] at q
  refine I.write (x:=l) (e:=l) (by rw[hH];exact trivial) (.inl rfl) (fun b' u hb hu=>(Heap.get?_update_other s.heap (Obj.mapSeq f) (Ne.symm hb)).trans hu) ⟨_,q⟩ ?_
  exact⟨hz,its',_,hv,q⟩
theorem Inv.JQ {its:List Value}{t':Nat} (I:Inv X pins σ H s) (hv:Vals ys its) (hz:ys.length≤sizeLine) :
    Inv X pins σ (upd H s.heap.objs.size (.lst ys)) { s with heap:=s.heap.push { cls:=.type "list",data:=.seq its.toArray },toks:=t' } :=
  I.laid (fun _ _ q=>Heap.get?_push_of_some _ q) (Nat.le_refl _) ⟨hz,its,0,hv,Heap.get?_push_size _ rfl⟩
theorem Inv.fresh (I:Inv X pins σ H s):H s.heap.objs.size=none:=I.hok.fresh (Nat.le_refl _)
theorem Inv.xP (I:Inv X pins σ H s) (hH:H l=some (.lst xs)):xs.length≤sizeLine∧∃(its:List Value) (n:Nat),Vals xs its∧xs.length=its.length∧s.heap.get? l=some { cls:=.type "list",data:=.seq its.toArray n }:=by
  obtain ⟨z,its,n,r,e⟩:=I.hok l _ hH
  exact⟨z,its,n,r,r.length,e⟩
theorem xO {n:Nat} (h:n≤sizeLine):Builtin.List.listTooLong n=false:=by
  unfold Builtin.List.listTooLong
  exact decide_eq_false (by omega)
end
section
variable {X:Cx}
def Bj:V→List V→Hp→VK→Prop:=fun x vs H Q=>∃l xs y,x=.ref l∧vs=[y]∧H l=some (.lst xs)∧xs.length<sizeLine∧Q .non (upd H l (.lst (xs++[y])))
theorem jS:MtM X "list.append" Bj:=by
  intro pins s σ H x vs v us Q I rx rv h
  obtain ⟨l,xs,y,rfl,rfl,hH,hz,q⟩:=h
  cases rx
  obtain ⟨u,rfl,ru⟩:=rv.one
  obtain ⟨z,its,n,r,hl,e⟩:=I.xP hH
  refine call_meets F.slot_list_append ⟨_,e,rfl⟩ F.entry_list_append (F.args_list_append_2 _ _) (PySem.list_append l its.toArray n u (by rw[List.size_toArray];omega)) ⟨e,?_⟩
  refine⟨.non,_,I.JW (its':=its++[u]) hH e (by simp) (r.append (.cons ru .nil)) ?_,rfl,q⟩
  rw[List.length_append,List.length_singleton]
  omega
def FK:V→List V→Hp→VK→Prop:=fun x vs H Q=>∃l b xs zs,x=.ref l∧vs=[.ref b]∧H l=some (.lst xs)∧H b=some (.lst zs)∧xs.length+zs.length≤sizeLine∧Q .non (upd H l (.lst (xs++zs)))
theorem Jr:MtM X "list.extend" FK:=by
  intro pins s σ H x vs v us Q I rx rv h
  obtain ⟨l,b,xs,zs,rfl,rfl,hH,hB,hz,q⟩:=h
  cases rx
  obtain ⟨u,rfl,ru⟩:=rv.one
  cases ru
  obtain ⟨z,its,n,r,hl,e⟩:=I.xP hH
  obtain ⟨z2,its2,n2,r2,hl2,e2⟩:=I.xP hB
  have hsz:its.toArray.size+its2.toArray.size≤sizeLine:=by rw[List.size_toArray,List.size_toArray];omega
  have hlong:¬ (!its.toArray.isEmpty && Builtin.List.listTooLong (its.toArray.size+its2.toArray.size))=true:=by
    rw[xO hsz,Bool.and_false]
    exact Bool.false_ne_true
  refine call_meets F.slot_list_extend ⟨_,e,rfl⟩ F.entry_list_extend (F.args_list_extend_2 _ _)
    (AutoSeq1.list_extend_list_list_0 l its.toArray n b its2.toArray n2 hlong (by rw[List.size_toArray];omega) (by omega)) ⟨e,e2,?_⟩
  refine⟨.non,_,I.JW (its':=its++its2) hH e (by simp) (r.append r2) ?_,rfl,q⟩
  rw[List.length_append]
  omega
def Ip:R2:=fun x y H Q=>∃l b xs zs,x=.ref l∧y=.ref b∧H l=some (.lst xs)∧H b=some (.lst zs)∧xs.length+zs.length≤sizeLine∧∀p,H p=none→Q (.ref p) (upd H p (.lst (xs++zs)))
theorem zA:OpR X (binaryOp .Add) Ip:=by
  intro pins s σ H x y v u Q I rx ry h
  obtain ⟨l,b,xs,zs,rfl,rfl,hH,hB,hz,q⟩:=h
  cases rx
  cases ry
  obtain ⟨z,its,n,r,hl,e⟩:=I.xP hH
  obtain ⟨z2,its2,n2,r2,hl2,e2⟩:=I.xP hB
  refine PySem.P.add_list e e2 ?_ (by rw[List.size_toArray,List.size_toArray];omega)
  have ea:its.toArray++its2.toArray=(its++its2).toArray:=by simp
  rw[ea]
  exact⟨.ref _,_,I.JQ (t':=s.toks) (r.append r2) (by rw[List.length_append];omega),rfl,q _ I.fresh⟩
def JJ:R2:=fun x y H Q=>∃l k xs,x=.ref l∧y=.int k∧H l=some (.lst xs)∧-(2 ^ 63)≤k∧k<2 ^ 63∧xs.length*k.toNat≤sizeLine ∧
  ∀p,H p=none→Q (.ref p) (upd H p (.lst (List.replicate k.toNat xs).flatten))
theorem len_rep {α:Type} (xs:List α) (k:Nat):(List.replicate k xs).flatten.length=k*xs.length:=by
  induction k with
  | zero=>simp
  | succ k ih=>rw[List.replicate_succ,List.flatten_cons,List.length_append,ih,Nat.succ_mul,Nat.add_comm]
theorem Fv:OpR X (binaryOp .Mult) JJ:=by
  intro pins s σ H x y v u Q I rx ry h
  obtain ⟨l,k,xs,rfl,rfl,hH,h1,h2,hz,q⟩:=h
  cases rx
  obtain ⟨t,rfl⟩:=ry
  obtain ⟨z,its,n,r,hl,e⟩:=I.xP hH
  have hlen:its.toArray.size*k.toNat≤sizeLine:=by rw[List.size_toArray,← hl];exact hz
  have hcap:¬ its.toArray.size*k.toNat>(2 ^ 63 - 1) / 8:=by
    have:(sizeLine:Nat)≤(2 ^ 63 - 1) / 8:=by decide
    omega
  have hfit:¬ (!Builtin.List.listFitsIndex k)=true:=by
    rw[fitsIndex_both h1 h2]
    exact Bool.false_ne_true
  have hlong:¬ Builtin.List.listTooLong (its.toArray.size*k.toNat)=true:=by
    rw[xO hlen]
    exact Bool.false_ne_true
  have hnew:List.foldl (fun x1 x2=>x1++x2) #[] (List.replicate (if its.toArray.isEmpty=true then 0 else k.toNat) its.toArray)=(List.replicate k.toNat its).flatten.toArray:=by
    have f0:∀m:Nat,List.foldl (fun x1 x2=>x1++x2) #[] (List.replicate m its.toArray)=(List.replicate m its).flatten.toArray:=fun m=>by
      have:=foldl_rep its m []
      rw[List.nil_append] at this
      exact this
    rw[f0]
    cases its with
    | nil=>simp
    | cons a r'=>rw[if_neg (by simp)]
  refine wpAny_binaryOp_repeat_ref (T:="list") (U:="int") (by decide) ⟨_,e,rfl⟩ (fun s'=>typeIs_int s' k t) noFill_list_mul F.fills_int_mul F.slot_int_rmul repeat_list F.slot_int_index.lookup
    (call_meets F.slot_int_rmul (typeIs_int s k t) F.entry_int_rmul (F.args_int_rmul_2 _ _) (int___rmul___int_list k t l its.toArray n)
      ⟨e,rfl,⟨_,e,rfl⟩,call_meets F.slot_list_mul ⟨_,e,rfl⟩ F.entry_list_mul (F.args_list_mul_2 _ _) (AutoListH.list___mul___list_int_3 l its.toArray n k t hfit hcap hlong) ⟨e,?_⟩⟩)
  rw[hnew]
  exact⟨.ref _,_,I.JQ (t':=s.toks) (r.rep k.toNat) (by rw[len_rep,Nat.mul_comm];exact hz),rfl,q _ I.fresh⟩
end
section
variable {prog:Program}{w:World}{A:Around}{E:Value→Shared→Prop}{s:Shared}
end
section
variable {X:Cx}
end
end L2
namespace Att
open PySem PySem.W PySem.Calls PyProof.Rows
theorem rS {P:Params}{h:Heap}:∀(ns:List Int) (vs:List Value),WellAll P h vs (ns.map WData.int)→IntsAre vs ns:=by
  intro ns
  induction ns with
  | nil =>
    intro vs w
    rw[List.map_nil] at w
    cases w
    exact .nil
  | cons n ns ih =>
    intro vs w
    rw[List.map_cons] at w
    cases w with
    | cons a b =>
      cases a
      exact .cons _ _ (ih _ b)
theorem BR {l:OpenLaw}{n:Nat} (hn:l.most=some n) {P:Params}{h:Heap}{args:List WData}{vals:List Value}
    (hpre:l.row.toRowW.claim.pre args=true) (hwl:WellAll P h vals args) :
    ∃a vs ns,vals=[Value.ref a]∧args=[WData.list (ns.map WData.int)]∧h.get? a=some { cls:=.type "list",data:=.seq vs.toArray }∧IntsAre vs ns∧ns.length≤n:=by
  have hsh:WShape.hasAll [] args [.list .int]=true:=(pre_splitW hpre).1
  have hc:l.pre.holds [] { args:=args }=true:=(pre_splitW hpre).2
  obtain ⟨d,r,rfl,h1,h2⟩:=hasAllW_cons hsh
  obtain rfl:=hasAllW_nil h2
  obtain ⟨xs,rfl,h3⟩:=hasW_list h1
  obtain ⟨ns,rfl⟩:=items_int h3
  have hlen:ns.length≤n:=by
    unfold OpenLaw.pre at hc
    have h4:(WTm.not (.lt (.lit (.int (n:Int))) (.len (.arg 0)))).holds [] { args:=[.list (ns.map .int)] }=true:=by
      have h4:=(holds_andW hc).1
      rw[hn] at h4
      exact h4
    have h5:=condW_of h4 (w_not (w_lt w_lit (w_len_list (w_arg rfl))))
    rw[List.length_map] at h5
    refine Nat.le_of_not_lt fun q=>?_
    have q':(n:Int)<((ns.length:Nat):Int):=by omega
    first
      | (rw[decide_eq_true q'] at h5;exact absurd h5 (by decide))
      | (simp at h5;omega)
  cases hwl with
  | cons w1 w2 =>
    cases w2
    cases w1 with
    | list ho hall=>exact⟨_,_,ns,rfl,rfl,ho,rS ns _ hall,hlen⟩
theorem BL (l:OpenLaw) (args:List WData):l.row.toRowW.claim.post args (.bool true) args=true :=
  postW_of (r:=l.row.toRowW) (X:=(true == true))
    (show WShape.has [] (.bool true) .bool=true by first | rfl | decide | simp [WShape.has,WShape.arms,WShape.armsAll])
    (show (WTm.eq .res (.lit (.bool true))).value [] { args:=args,res:=some (.bool true),after:=args }=some (.bool (true == true)) from w_eq_bool (w_res rfl) w_lit) rfl
theorem y3 {l:OpenLaw}{n:Nat}{q:Program}{loose:List Str}{XP:(Str→Option Value)→Heap→Prop}{YP:World→Heap→Prop}{d:DefRec}
    (hn:l.most=some n) (hdf:d.params.defaults=[])
    (call:∀(w:World) (s₀ s₁:Shared) (mg mb:Str→Option Value) (fa:Addr) (o:Obj) (pm cd doc:Value) (a:Addr) (vs:List Value) (ns:List Int),
      Ground q loose [] XP w s₀ mg mb s₁.heap→YP w s₁.heap →
      s₁.heap.get? fa=some o→o.data=.func (docDef d.name d.params d.body d.scope pm cd doc)→s₁.heap.CodeRec cd d.name→mg d.name=some (.ref fa) →
      s₁.heap.get? a=some { cls:=.type "list",data:=.seq vs.toArray }→IntsAre vs ns→ns.length≤n→s₁.gens=#[] →
      codeAny (model l.prog w) callerA (.call (.ref fa) ⟨[.ref a],[]⟩) (fun r s'=>r=.ok (.ret (.bool true))∧OldK s₁.heap s'.heap∧s'.os=s₁.os∧AllBare s'.gens) s₁) :
    WalkO q loose XP YP l.row.toRowW d [] (fun f vs=>PySem.call f vs):=by
  intro w s₀ s₁ mg mb G Y fa o pm cd doc dV kV ho hd hcd hD hmg hg args vals as hpre hlay hrd hwl hlo
  obtain rfl:dV=.none:=Dflts.none hD hdf
  obtain rfl:kV=.none:=Dflts.noKw hD
  obtain ⟨a,vs,ns,rfl,rfl,hobj,hints,hlen⟩:=BR hn hpre hwl
  refine enter_call (codeAny_mono (call w s₀ s₁ mg mb fa o pm cd doc a vs ns G Y ho (fd_plain hd) hcd hmg hobj hints hlen hg) fun r s' hq=>?_)
  obtain ⟨rfl,h2,h3,h4⟩:=hq
  exact⟨.inl ⟨.bool true,.bool true,[],rfl,fun _=>rfl,.bool true,BL l _,fun _=>⟨List.Pairwise.nil,fun _ hm=>(nomatch hm)⟩⟩,h2,h3,h4⟩
section
variable {prog:Program}{w:World}{A:Around}{E:Value→Shared→Prop}{s:Shared}{K:Frag}
def ledger (h:Heap) (L d:Addr):List (Addr × Obj):=(List.range h.objs.size).filterMap fun a=>if a=L∨a=d then none else (h.get? a).map fun o=>(a,o)
end
end Att
namespace L2
open PySem PySem.Spec PyProof.Rows
theorem vw:∀{vs:List Value}{ns:List Int},IntsAre vs ns→Vals (ns.map V.int) vs
  | _,_,.nil=>.nil
  | _,_,.cons n t h=>.cons ⟨t,rfl⟩ (vw h)
end L2
namespace L2
open PySem PySem.Spec PyProof.Rows
end L2
/- THE LAST THEOREM (shape; LID, My.* are yours):
   My.Adr: a structure of the addresses that your layer names (classes,functions);My.Txt K t: a structure (Prop) of the equations over K;
   My.txt_mk:{K}{implicit addresses ..} (e1:nsIn K mainGlobals "law" = some (some (.ref f))) (e2:K.lookup f=some ⟨oc,od,.func (fnOf "law" "law" params body scope dV kV doc pm an cdv ct),sl⟩) (e3:codeIn K cdv "law" = true) .. : ∃t,My.Txt K t
set_option maxRecDepth 100000 in
set_option maxHeartbeats 0 in
theorem PySem.Challenge.cw_LID_holds : PySem.Challenge.rw_LID.Holds := by
  w_on;o_law;k_head;(case hw=>w_witness2)
  k_fill
  refine L2.walk_of (l:=PySem.Challenge.rw_LID) (n:=63) (k:=40) (x:="script") (CX:=fun w=>..) (sp:=fun _=>My.sp_law) rfl (by decide) rfl ⟨rfl,by decide,by decide⟩ (fun w h Y=>PySem.W.kIn_of Y) ?F ?S ?C
  case F =>
    intro w mg fa h KX G hmg
    have T:∃t,My.Txt (L2.KOf KX) t:=by
      dsimp only[L2.KOf]                          -- K must stand as «<heap const> w.params» for k_is
      refine' My.txt_mk ?e1 ?e2 ?e3 ..
      (case e1=>PySem.W.k_is)                    -- in the order: a name -> its address -> its object -> its parts
      (case e2=>PySem.W.k_is)
      ..
    obtain ⟨t,T⟩:=T
    have e0:=hmg.symm.trans (PySem.W.mg_of KX G T.law)
    cases e0                                       -- fa is the law's own address
    exact⟨_,fun s u=>.of_eq rfl,fun base kb nb=>My.law_fn T kb nb⟩     -- if «.of_eq rfl» comes too early: refine' ⟨_,?b,fun base kb nb=>My.law_fn T kb nb⟩;exact fun s u=>.of_eq rfl
  case S=>exact fun w H a ns hl hO hS=>..
  case C=>exact ..
(the tactic k_is has no namespace: write k_is) -/
namespace L2
open PySem PySem.Spec PyProof.Rows
def aD (s:Stmt):Arguments:=match s with
  | .FunctionDef _ a _ _ _ _ _ _ _ _=>a
  | _=>{ posonlyargs:=[],args:=[],vararg:=none,kwonlyargs:=[],kw_defaults:=[],kwarg:=none,defaults:=[] }
def az (s:Stmt):List Stmt:=match s with
  | .FunctionDef _ _ b _ _ _ _ _ _ _=>b
  | _=>[]
def ai (s:Stmt):Scope:=match s with
  | .FunctionDef _ _ _ _ _ _ sc _ _ _=>sc
  | _=>{ kind:=.function,names:=[],isGenerator:=false,isCoroutine:=false }
abbrev CX0:CXT:=fun _ _ _ _ _ _=>False
abbrev E0:XK:=fun _ _ _=>False
theorem bj {X:Cx}:Passes CX0 X E0:=fun _ _ _ _ _ _ _ h=>h.elim
structure Fun (K:PySem.W.Frag) (x qual:Str) (st:Stmt) (f:Addr) (fd:FuncData):Prop where
  ex:∃(oc:Value) (od:Option Addr) (kV doc pm:Value) (an:Option Addr) (cdv ct:Value) (osl:Array (Option Value)),
    fd=PySem.W.fnOf x qual (aD st) (az st) (ai st) .none kV doc pm an cdv ct∧K.lookup f=some ⟨oc,od,.func fd,osl⟩∧PySem.W.codeIn K cdv qual=true
  kp:PySem.W.keepIn K (.ref f)=true
section
variable {P:Program}{w:World}{K:PySem.W.Frag}{mg:Str→Option Value}{base:Heap}
theorem Fun.ok {x qual:Str}{st:Stmt}{f:Addr}{fd:FuncData}{N ps:List Str}{k:Nat}{sp:Sp} (F:Fun K x qual st f fd) (S:aE N ps (ai st)) (len:∀vs H Q E,sp vs H Q E→vs.length=ps.length)
    (hbody:∀(cdv:Value) (A:Around) (outer:List Env) (s:Shared) (H:Hp) (vs:List V) (Q:VK) (E:XK),kO k (A.deeper (envOfC qual (ai st) s.heap.objs.size f cdv))→sp vs H Q E →
      ∃t,PSs (oS CX0 P w K mg base N qual (ai st) f cdv A outer s H E).nox (az st) t∧t { nx:=fun _ H'=>Q .non H',rt:=Q } (start N vs) H):aM P w K mg base CX0 (k+1) f fd ps sp:=by
  obtain ⟨oc,od,kV,doc,pm,an,cdv,ct,osl,rfl,lk,hcd⟩:=F.ex
  refine AY lk hcd S len fun A outer s H vs Q E hr hsp=>?_
  obtain ⟨t,h,q⟩:=hbody cdv A outer s H vs Q E hr hsp
  exact⟨t,h.nox,q⟩
theorem Fun.binds {x qual:Str}{st:Stmt}{f:Addr}{fd:FuncData}{ps:List Str} (F:Fun K x qual st f fd)
    (h:∀(kV doc pm:Value) (an:Option Addr) (cdv ct:Value) (us:List Value),us.length=ps.length→bindArgs (PySem.W.fnOf x qual (aD st) (az st) (ai st) .none kV doc pm an cdv ct) ⟨us,[]⟩=pure (ps.zip us)):Binds K fd ps []:=by
  obtain ⟨oc,od,kV,doc,pm,an,cdv,ct,osl,rfl,lk,hcd⟩:=F.ex
  exact .all (h kV doc pm an cdv ct)
theorem aT {x qual:Str}{st:Stmt}{f:Addr}{oc:Value}{od an:Option Addr}{osl:Array (Option Value)}{kV doc pm cdv ct:Value} (l:K.lookup f=some ⟨oc,od,.func (PySem.W.fnOf x qual (aD st) (az st) (ai st) .none kV doc pm an cdv ct),osl⟩)
    (c:PySem.W.codeIn K cdv qual=true) (k:PySem.W.keepIn K (.ref f)=true):Fun K x qual st f (PySem.W.fnOf x qual (aD st) (az st) (ai st) .none kV doc pm an cdv ct):=⟨⟨oc,od,kV,doc,pm,an,cdv,ct,osl,rfl,l,c⟩,k⟩
end
theorem yt {A:Around}{k:Nat} (hr:kO k A):A.units+1<cLine:=Nat.lt_of_le_of_lt (Nat.add_le_add_left (by decide:1≤64) _) hr.units
theorem qq {n:Nat} (h:n≤1000):n<sizeLine:=Nat.lt_of_le_of_lt h (by decide)
section
variable {X:Cx}
theorem pv (i:Nat) {x:Str}{pos:Pos} (hN:X.N[i]?=some x:=by rfl) (hv:Vis X.env.scope x:=by first | exact Or.inl rfl | exact Or.inr (Or.inl rfl) | exact Or.inr (Or.inr rfl)) (hd:(x == ("__debug__" : Str))=false:=by decide)
    (hcd:(x == ("__classdict__" : Str))=false:=by decide):PE X (.Name x pos) (pM i):=IS hN hv hd hcd
end
def Same (H H':Hp):Prop:=∀b o,H b=some o→H' b=some o
theorem Same.free {H H':Hp} (e:Same H H') {l:Addr} (h:H' l=Option.none):H l=Option.none:=by
  cases q:H l with
  | none=>rfl
  | some o =>
    rw[e l o q] at h
    cases h
end L2
set_option maxHeartbeats 4000000
namespace L2
open PySem PySem.Spec PyProof.Rows
def fD (env:Env):List (Str × NameKind)→List (Str × Addr)→List (Str × Addr)
  | [],acc=>acc
  | (n,k)::r,acc=>fD env r (if k == .free then (n,(env.cells.lookup n).getD 0)::acc else acc)
theorem uK {scope:Scope}{env:Env} (h:∀n,(n,NameKind.free)∈scope.names→∃c,env.cells.lookup n=some c):closureFor scope env=pure (fD env scope.names []):=by
  have go:∀(names:List (Str × NameKind)) (acc:List (Str × Addr)),(∀n,(n,NameKind.free)∈names→∃c,env.cells.lookup n=some c) →
      (forIn names acc (fun (x:Str × NameKind) (cs:List (Str × Addr))=>match x with
        | (name,kind)=>if (kind == .free)=true then (do let c ← cellOf env name;pure (ForInStep.yield ((name,c)::cs))) else pure (ForInStep.yield cs)):Sem (List (Str × Addr)))=pure (fD env names acc):=by
    intro names
    induction names with
    | nil=>intro acc _;rfl
    | cons x r ih =>
      intro acc hn
      obtain ⟨n,k⟩:=x
      rw[List.forIn_cons]
      have hr:∀m,(m,NameKind.free)∈r→∃c,env.cells.lookup m=some c:=fun m hm=>hn m (List.mem_cons_of_mem _ hm)
      by_cases hk:k=.free
      · subst hk
        obtain ⟨c,hc⟩:=hn n List.mem_cons_self
        have e:cellOf env n=pure c:=by unfold cellOf;rw[hc]
        have e2:fD env ((n,NameKind.free)::r) acc=fD env r ((n,c)::acc):=by
          show fD env r (if (NameKind.free == NameKind.free)=true then (n,(env.cells.lookup n).getD 0)::acc else acc)=_
          rw[if_pos (by decide),hc];rfl
        rw[e2,← ih _ hr]
        show (do let __do_lift ← (if (NameKind.free == NameKind.free)=true then (do let c ← cellOf env n;pure (ForInStep.yield ((n,c)::acc))) else pure (ForInStep.yield acc):Sem (ForInStep (List (Str × Addr))));_)=_
        rw[if_pos (by decide),e]
        rfl
      · have hb:(k == NameKind.free)=false:=by simpa using hk
        have e2:fD env ((n,k)::r) acc=fD env r acc:=by
          show fD env r (if (k == NameKind.free)=true then (n,(env.cells.lookup n).getD 0)::acc else acc)=_
          rw[hb];rfl
        rw[e2,← ih _ hr]
        show (do let __do_lift ← (if (k == NameKind.free)=true then (do let c ← cellOf env n;pure (ForInStep.yield ((n,c)::acc))) else pure (ForInStep.yield acc):Sem (ForInStep (List (Str × Addr))));_)=_
        rw[hb]
        rfl
  have e:=go scope.names [] h
  unfold closureFor
  exact congrArg (fun (m:Sem (List (Str × Addr)))=>m >>= fun r=>pure r) e
theorem t7 {env:Env}:∀{names:List (Str × NameKind)}{acc:List (Str × Addr)}{n:Str}{c:Addr},(n,c)∈fD env names acc→(n,c)∈acc∨((n,NameKind.free)∈names∧c=(env.cells.lookup n).getD 0)
  | [],acc,n,c,h=>.inl h
  | (m,k)::r,acc,n,c,h=>by
    rcases t7 (names:=r) h with h | ⟨h,e⟩
    · by_cases hk:k=.free
      · subst hk
        rw[if_pos (by decide)] at h
        rcases List.mem_cons.mp h with e | h
        · cases e;exact .inr ⟨List.mem_cons_self,rfl⟩
        · exact .inl h
      · have hb:(k == NameKind.free)=false:=by simpa using hk
        rw[hb] at h
        exact .inl h
    · exact .inr ⟨List.mem_cons_of_mem _ h,e⟩
theorem jf {α:Type}:∀{l:List (Str × α)}{n:Str}{c:α},(n,c)∈l→∃d,l.lookup n=some d
  | [],_,_,h=>nomatch h
  | (k,v)::r,n,c,h=>by
    rw[List.lookup_cons]
    cases hb:n == k with
    | true=>exact⟨v,rfl⟩
    | false =>
      rcases List.mem_cons.mp h with e | h
      · cases e;simp at hb
      · exact jf h
theorem tH {env:Env}:∀{names:List (Str × NameKind)}{acc:List (Str × Addr)}{n:Str}{c:Addr},(n,c)∈acc→(n,c)∈fD env names acc
  | [],acc,n,c,h=>h
  | (m,k)::r,acc,n,c,h=>by
    refine tH (names:=r) ?_
    split
    · exact List.mem_cons_of_mem _ h
    · exact h
theorem oI {env:Env}:∀{names:List (Str × NameKind)}{acc:List (Str × Addr)}{n:Str},(n,NameKind.free)∈names→(n,(env.cells.lookup n).getD 0)∈fD env names acc
  | [],acc,n,h=>nomatch h
  | (m,k)::r,acc,n,h=>by
    rcases List.mem_cons.mp h with e | h
    · cases e
      refine tH (names:=r) ?_
      rw[if_pos (by decide)]
      exact List.mem_cons_self
    · exact oI (names:=r) h
theorem kR:∀{names:List (Str × NameKind)}{n:Nat}{acc:List (Str × Addr)}{x:Str}{c:Addr},(x,c)∈cellsFrom n names acc→(x,c)∈acc∨((x,NameKind.cell)∈names∧n≤c)
  | [],n,acc,x,c,h=>.inl h
  | (m,k)::r,n,acc,x,c,h=>by
    unfold cellsFrom at h
    by_cases hk:k=.cell
    · subst hk
      rw[if_pos (by decide)] at h
      rcases kR (names:=r) h with h | ⟨h,e⟩
      · rcases List.mem_cons.mp h with e | h
        · cases e;exact .inr ⟨List.mem_cons_self,Nat.le_refl _⟩
        · exact .inl h
      · exact .inr ⟨List.mem_cons_of_mem _ h,by omega⟩
    · have hb:(k == NameKind.cell)=false:=by simpa using hk
      rw[hb] at h
      rcases kR (names:=r) h with h | ⟨h,e⟩
      · exact .inl h
      · exact .inr ⟨List.mem_cons_of_mem _ h,e⟩
theorem gJ:∀{names:List (Str × NameKind)}{n:Nat}{acc:List (Str × Addr)}{x:Str}{c:Addr},(x,c)∈acc→(x,c)∈cellsFrom n names acc
  | [],n,acc,x,c,h=>h
  | (m,k)::r,n,acc,x,c,h=>by
    unfold cellsFrom
    split
    · exact gJ (names:=r) (List.mem_cons_of_mem _ h)
    · exact gJ (names:=r) h
theorem kU:∀{names:List (Str × NameKind)}{n:Nat}{acc:List (Str × Addr)}{x:Str},(x,NameKind.cell)∈names→∃c,(x,c)∈cellsFrom n names acc
  | [],n,acc,x,h=>nomatch h
  | (m,k)::r,n,acc,x,h=>by
    unfold cellsFrom
    rcases List.mem_cons.mp h with e | h
    · cases e
      rw[if_pos (by decide)]
      exact⟨n,gJ (names:=r) List.mem_cons_self⟩
    · split
      · exact kU (names:=r) h
      · exact kU (names:=r) h
theorem ky:∀{names:List (Str × NameKind)}{h:Heap}{acc:List (Str × Addr)}{x:Str}{c:Addr},(x,c)∈cellsFrom h.objs.size names acc→(x,c)∈acc∨(pushCells h names).IsCell c none
  | [],h,acc,x,c,m=>.inl m
  | (n,k)::r,h,acc,x,c,m=>by
    unfold cellsFrom at m
    unfold pushCells
    split at m
    · rename_i hk
      rw[if_pos hk]
      have m':(x,c)∈cellsFrom (h.push { cls:=.type "cell",data:=.cell none }).objs.size r ((n,h.objs.size)::acc):=by rw[Heap.size_push];exact m
      rcases ky (names:=r) m' with z | z
      · rcases List.mem_cons.mp z with e | z
        · cases e
          exact .inr ⟨_,pushCells_keeps _ _ _ _ (Heap.get?_push_size _ rfl),rfl⟩
        · exact .inl z
      · exact .inr z
    · rename_i hk
      rw[if_neg hk]
      exact ky (names:=r) m
theorem kW:∀{names:List (Str × NameKind)}{n:Nat}{acc:List (Str × Addr)},(∀x c,(x,c)∈acc→c<n)→(∀x y c,(x,c)∈acc→(y,c)∈acc→x=y) →
    ∀x y c,(x,c)∈cellsFrom n names acc→(y,c)∈cellsFrom n names acc→x=y
  | [],n,acc,lt,inj,x,y,c,h,h'=>inj x y c h h'
  | (m,k)::r,n,acc,lt,inj,x,y,c,h,h'=>by
    unfold cellsFrom at h h'
    split at h
    · rename_i hk
      rw[if_pos hk] at h'
      refine kW (names:=r) (n:=n+1) (acc:=(m,n)::acc) (fun x c hm=>?_) (fun x y c hm hm'=>?_) x y c h h'
      · rcases List.mem_cons.mp hm with e | hm
        · cases e;exact Nat.lt_succ_self _
        · exact Nat.lt_succ_of_lt (lt _ _ hm)
      · rcases List.mem_cons.mp hm with e | hm<;>rcases List.mem_cons.mp hm' with e' | hm'
        · cases e;cases e';rfl
        · cases e;exact absurd (lt _ _ hm') (Nat.lt_irrefl _)
        · cases e';exact absurd (lt _ _ hm) (Nat.lt_irrefl _)
        · exact inj _ _ _ hm hm'
    · rename_i hk
      rw[if_neg hk] at h'
      exact kW (names:=r) lt inj x y c h h'
theorem j5 {env:Env}:∀{names:List (Str × NameKind)}{x:Str},
    (names.map fun (n,k)=>if (k == NameKind.free && env.scope.kind == .function && env.kindOf n == some .cell) then (n,NameKind.cell) else (n,k)).lookup x =
      (names.lookup x).map fun k=>if (k == NameKind.free && env.scope.kind == .function && env.kindOf x == some .cell)=true then NameKind.cell else k
  | [],x=>rfl
  | (n,k)::r,x=>by
    have ih:=@j5 env r x
    show List.lookup x ((if (k == NameKind.free && env.scope.kind == .function && env.kindOf n == some .cell)=true then (n,NameKind.cell) else (n,k))::_)=_
    have e:(if (k == NameKind.free && env.scope.kind == .function && env.kindOf n == some .cell)=true then (n,NameKind.cell) else (n,k))=(n,if (k == NameKind.free && env.scope.kind == .function && env.kindOf n == some .cell)=true then NameKind.cell else k):=by split<;>rfl
    rw[e,List.lookup_cons,List.lookup_cons]
    cases hx:x == n with
    | true =>
      have hx':=beq_iff_eq.mp hx
      subst hx'
      rfl
    | false=>exact ih
structure aL (X:Cx) (scope:Scope) (tn cap:List Str) (idx:List Nat):Prop where
  kind:scope.kind=.function
  nd:(scope.names.map (·.1)).Nodup
  tnd:(tn++cap).Nodup
  ct:∀y∈cap,scope.names.lookup y=some .free
  ci:idx.map (fun i=>X.N[i]?)=cap.map some
  fr:∀y∈scope.names,y.2=.free→X.env.scope.names.lookup y.1=some .cell∨X.env.scope.names.lookup y.1=some .free
theorem nK {α:Type}:∀{l:List (Str × α)}{n:Str}{c:α},(l.map (·.1)).Nodup→(n,c)∈l→l.lookup n=some c
  | [],_,_,_,h=>nomatch h
  | (k,v)::r,n,c,nd,h=>by
    obtain ⟨h1,h2⟩:=List.nodup_cons.mp nd
    rw[List.lookup_cons]
    rcases List.mem_cons.mp h with e | hm
    · cases e;simp
    · have hne:n≠k:=fun e=>h1 (List.mem_map.mpr ⟨_,hm,e⟩)
      have hb:(n == k)=false:=beq_eq_false_iff_ne.mpr hne
      rw[hb]
      exact nK h2 hm
def BQ (σ:St) (idx:List Nat):St:=idx.map fun i=>(σ[i]?).getD none
def iR (k:Nat) (idx:List Nat) (σ:St):St:=List.replicate k none++BQ σ idx
def cxC (X:Cx) (N':List Str) (scope:Scope) (cs:List (Str × Addr)) (C:Addr) (fp:List Addr) (s₀:Shared) (H₀:Hp):Cx where
  prog:=X.prog
  w:=X.w
  K:=X.K
  mg:=X.mg
  base:=X.base
  A:=X.A
  N:=N'
  s₀:=s₀
  H₀:=H₀
  env:=compEnvC scope cs C X.env
  outer:=X.stack
  stack:=X.stack
  ex:=fp
  fn:=fun x=>scope.names.lookup x == some .local || scope.names.lookup x == some .cell
  calm:=X.calm
  pn:=[]
  xe:=fun _ _=>False
theorem px {M:Model}{A:Around}{E:Value→Shared→Prop}{s:Shared}{scope:Scope}{globals:Addr}{cl:List (Str × Addr)}{qual:Str}{BP:Env}{Q:Env→Shared→Prop}
    (hQ:Q { scope:=scope,locals:=s.heap.objs.size,globals:=globals,cells:=cellsFrom (s.heap.objs.size+1) scope.names cl,qual:=qual,func:=none,code:=BP.code,frame:=BP.frame,builtins:=BP.builtins }
      { s with heap:=pushCells (s.heap.push { cls:=.type "dict",data:=.dict #[] }) scope.names }) :
    wpAny M A (newFunctionEnv scope globals cl [] qual none .none (some BP)) Q E s:=by
  simp only[newFunctionEnv,Option.isSome_some,if_true]
  refine wpAny_bind (wpAny_alloc ?_)
  refine wpAny_bind (wpAny_layCells _ (fun name kind cells=>by cases hkc:kind == NameKind.cell<;>simp [hkc]) _ _ _ _ ?_)
  rw[show ({ s with heap:=s.heap.push { cls:=.type "dict",data:=.dict #[] } }:Shared).heap.objs.size=s.heap.objs.size+1 from Heap.size_push ..]
  exact wpAny_bind (wpAny_pure (wpAny_pure hQ))
section
variable {prog:Program}{w:World}{A:Around}{R:Result→Shared→Prop}{s:Shared}
theorem wZ {elt target iter:Expr}{ifs:List Expr}{scope:Scope}{pos:Pos}{it acc:Value}{env:Env} (I:Nat→Shared→Prop)
    (turn:∀n s,I n s→wpAny (model prog w) A (pyNext it) (fun r s₁=>match r with
      | none=>R (.ok .next) s₁
      | some v=>wpAny (model prog w) A (letOwnedTupleGo target it v) (fun _ s₁'=>wpAny (model prog w) A (assign target env v) (fun _ s₂ =>
          wpAny (model prog w) A (forIn ifs true fun c r=>if r=true then do let ok ← isTrue c env (eval c env);pure (ForInStep.yield ok) else pure (ForInStep.yield r)) (fun ok s₃ =>
            if ok=true then wpAny (model prog w) A (eval elt env) (fun x s₄ =>
              wpAny (model prog w) A (call (.builtin "list.append") [acc,x]) (fun _ s₅=>∃m,m<n∧I m s₅) (fun _ _=>False) s₄) (fun _ _=>False) s₃
            else ∃m,m<n∧I m s₃) (fun _ _=>False) s₂) (fun _ _=>False) s₁') (fun _ _=>False) s₁) (fun _ _=>False) s)
    (n:Nat) (h:I n s) :
    codeAny (model prog w) A (.compLoop (.ListComp elt [⟨target,iter,ifs,0⟩] scope pos) 0 it acc env) R s:=by
  refine codeAny_loop rfl I (fun n s hI=>?_) n h
  show wpAny _ A ((compTurn (.ListComp elt [⟨target,iter,ifs,0⟩] scope pos) 0 it acc env).onRaise (fun x=>do noteFrame x env;theTreesLotGoes x)) _ _ s
  refine wpAny_noted ?_
  rw[compTurn_list]
  refine wpAny_bind (wpAny_standAt (wpAny_bind (wpAny_mono (turn n s hI) (fun r s₁ h₁=>?_) fun _ _ h'=>h'.elim)))
  cases r with
  | none=>exact wpAny_pure h₁
  | some v =>
    refine wpAny_bind (wpAny_mono h₁ (fun _ s₁' h₁'=>?_) fun _ _ h'=>h'.elim)
    refine wpAny_bind (wpAny_mono h₁' (fun _ s₂ h₂=>wpAny_bind (wpAny_mono h₂ (fun ok s₃ h₃=>?_) fun _ _ h'=>h'.elim)) fun _ _ h'=>h'.elim)
    cases ok with
    | false=>exact wpAny_pure ⟨rfl,h₃⟩
    | true =>
      exact wpAny_bind (wpAny_bind (wpAny_mono h₃ (fun x s₄ h₄=>wpAny_bind (wpAny_mono h₄ (fun _ s₅ h₅=>wpAny_pure (wpAny_pure ⟨rfl,h₅⟩)) fun _ _ h'=>h'.elim)) fun _ _ h'=>h'.elim))
end
section
variable {X:Cx}{pins:List (Addr × Obj)}{σ:St}{H:Hp}{s2:Shared}{scope:Scope}{tn cap:List Str}{idx:List Nat}{fp:List Addr}
abbrev qY:Obj:={ cls:=.type "list",data:=.seq ([]:List Value).toArray }
abbrev C2:Obj:={ cls:=.type "dict",data:=.dict #[] }
abbrev yB (h:Heap) (scope:Scope):Heap:=pushCells ((h.push qY).push C2) scope.names
abbrev wF (X:Cx) (h:Heap) (scope:Scope):List (Str × Addr):=cellsFrom (h.objs.size+1+1) scope.names (fD X.env scope.names [])
theorem D5 {σ:St}{idx:List Nat}{j:Nat}{v:V} (h:(BQ σ idx)[j]?=some (some v)):∃i,idx[j]?=some i∧σ[i]?=some (some v):=by
  unfold BQ at h
  rw[List.getElem?_map] at h
  cases e:idx[j]? with
  | none=>rw[e] at h;cases h
  | some i =>
    rw[e] at h
    have h':(σ[i]?).getD none=some v:=Option.some.inj h
    refine⟨i,rfl,?_⟩
    cases q:σ[i]? with
    | none=>rw[q] at h';cases h'
    | some o=>rw[q] at h';have h'':o=some v:=h';rw[h'']
theorem zW (I:Inv X pins σ H s2) (S:aL X scope tn cap idx) (hf:∀b∈fp,uH X pins H b) (hfl:∀b∈fp,b<s2.heap.objs.size) :
    Inv (cxC X (tn++cap) scope (wF X s2.heap scope) (s2.heap.objs.size+1) fp s2 H) [(s2.heap.objs.size,qY)] (iR tn.length idx σ) H { s2 with heap:=yB s2.heap scope }:=by
  have old:∀b o,s2.heap.get? b=some o→(yB s2.heap scope).get? b=some o:=fun b o e=>pushCells_keeps _ _ _ _ (Heap.get?_push_of_some _ (Heap.get?_push_of_some _ e))
  have hsz:((s2.heap.push qY).push C2).objs.size=s2.heap.objs.size+1+1:=by rw[Heap.size_push,Heap.size_push]
  have hacc:(yB s2.heap scope).get? s2.heap.objs.size=some qY:=pushCells_keeps _ _ _ _ (Heap.get?_push_of_some _ (Heap.get?_push_size _ rfl))
  have hns:(yB s2.heap scope).Ns (s2.heap.objs.size+1) (fun _=>none):=by
    have e:=(Heap.Ns.new (s2.heap.push qY) (.type "dict")).keeps (pushCells_keeps scope.names _)
    rw[Heap.size_push] at e
    exact e
  have clm:∀x c,(x,c)∈fD X.env scope.names []→X.env.cells.lookup x=some c∧(x,NameKind.free)∈scope.names:=fun x c h=>by
    rcases t7 h with z | ⟨z,e⟩
    · nomatch z
    · obtain ⟨d,hd⟩:=I.ok.has x (S.fr _ z rfl)
      rw[hd] at e
      have e':c=d:=e
      subst e'
      exact⟨hd,z⟩
  have csm:∀x c,(x,c)∈wF X s2.heap scope→(X.env.cells.lookup x=some c∧(x,NameKind.free)∈scope.names)∨((x,NameKind.cell)∈scope.names∧s2.heap.objs.size+1+1≤c):=fun x c h=>by
    rcases kR h with z | z
    · exact .inl (clm x c z)
    · exact .inr z
  have clt:∀x c,X.env.cells.lookup x=some c→c<s2.heap.objs.size:=fun x c h=>by
    obtain ⟨v,q⟩:=I.cell x c h
    exact q.lt
  have freeK:∀x,(x,NameKind.free)∈scope.names→scope.names.lookup x=some .free:=fun x h=>nK S.nd h
  have cellK:∀x,(x,NameKind.cell)∈scope.names→scope.names.lookup x=some .cell:=fun x h=>nK S.nd h
  refine⟨⟨I.ok.mod,S.kind,I.ok.glob,I.ok.blt,Nat.le_succ _,fun x y c h1 h2=>?_,fun x hx=>?_,fun x c hfn h=>?_,I.ok.hd,I.ok.frames,.inl rfl,fun b hb=>⟨?_,fun x c h=>?_⟩,I.bs,Nat.le_trans I.ok.bsz I.sz,fun b o e hb=>?_,fun b hb z=>?_,I.stack,I.wo⟩,
    rfl,I.bare,Un.kept old,⟨_,hns,fun i x v e1 e2 e3=>?_⟩,fun x c h=>?_,I.hok.fresh (Nat.le_succ _),fun x c h=>?_,fun p hp=>?_,I.hok.kept old,?_⟩
  · exact kW (fun x c h=>Nat.lt_succ_of_lt (Nat.lt_succ_of_lt (clt x c (clm x c h).1))) (fun x y c h h'=>I.ok.inj x y c (clm x c h).1 (clm y c h').1) x y c (PySem.mem_of_lookup h1) (PySem.mem_of_lookup h2)
  · have hx:(relabel scope X.env).names.lookup x=some .cell∨(relabel scope X.env).names.lookup x=some .free:=hx
    have e:=@j5 X.env scope.names x
    have hk:∃k,scope.names.lookup x=some k∧(k=.cell∨k=.free):=by
      cases q:scope.names.lookup x with
      | none =>
        rw[q] at e
        rcases hx with z | z
        · have z':=e.symm.trans z;cases z'
        · have z':=e.symm.trans z;cases z'
      | some k =>
        rw[q] at e
        refine⟨k,rfl,?_⟩
        cases k with
        | cell=>exact .inl rfl
        | free=>exact .inr rfl
        | _ =>
          exfalso
          rcases hx with z | z
          · have z':=e.symm.trans z;cases z'
          · have z':=e.symm.trans z;cases z'
    obtain ⟨k,hk,hk2⟩:=hk
    have hm:=PySem.mem_of_lookup hk
    rcases hk2 with rfl | rfl
    · obtain ⟨c,hc⟩:=kU (n:=s2.heap.objs.size+1+1) (acc:=fD X.env scope.names []) hm
      exact jf hc
    · exact jf (gJ (oI (env:=X.env) (acc:=[]) hm))
  · rcases csm x c (PySem.mem_of_lookup h) with ⟨_,z⟩ | ⟨_,z⟩
    · have hfn:(scope.names.lookup x == some .local || scope.names.lookup x == some .cell)=true:=hfn
      rw[freeK x z] at hfn
      exact absurd hfn (by decide)
    · show s2.heap.objs.size≤c
      omega
  · -- b is not the block's frame
    intro z
    have z':b=s2.heap.objs.size+1:=z
    exact absurd (hfl b hb) (by rw[z'];exact Nat.not_lt.mpr (Nat.le_succ _))
  · rcases csm x c (PySem.mem_of_lookup h) with ⟨z,_⟩ | ⟨_,z⟩
    · exact (hf b hb).2.2.2.2.1 x c z
    · intro e
      exact absurd (hfl b hb) (by rw[← e];exact Nat.not_lt.mpr (Nat.le_trans (Nat.le_trans (Nat.le_succ _) (Nat.le_succ _)) z))
  · rcases (hf b hb).2.2.2.1 with z | z
    · exact I.ok.noex b o e z
    · exact absurd (Nat.lt_of_lt_of_le (Heap.lt_size e) (Nat.le_trans I.ok.bsz z)) (Nat.lt_irrefl _)
  · obtain ⟨_,f1,f2,_⟩:=hf b hb
    rcases List.mem_cons.mp (I.tq b z) with e | e
    · exact f1 e
    · exact f2 e
  · -- the names
    have e1:(tn++cap)[i]?=some x:=e1
    have e2:(iR tn.length idx σ)[i]?=some (some v):=e2
    unfold iR at e2
    by_cases hi:i<tn.length
    · rw[List.getElem?_append_left (by rw[List.length_replicate];exact hi),List.getElem?_replicate,if_pos hi] at e2
      cases e2
    · rw[List.getElem?_append_right (by rw[List.length_replicate];omega),List.length_replicate] at e2
      rw[List.getElem?_append_right (by omega)] at e1
      obtain ⟨i0,h1,h2⟩:=D5 e2
      have hN:X.N[i0]?=some x:=by
        have q:=congrArg (fun l=>l[i - tn.length]?) S.ci
        simp only[List.getElem?_map,h1,e1,Option.map_some] at q
        exact Option.some.inj q
      have hfr:=S.ct x (List.mem_of_getElem? e1)
      have hmem:=PySem.mem_of_lookup hfr
      have hk:=S.fr _ hmem rfl
      obtain ⟨m,hn,hl⟩:=I.loc
      obtain ⟨u,r,l⟩:=hl i0 x v hN h2 (hk.elim (fun z=>.inr (.inl z)) fun z=>.inr (.inr z))
      refine⟨u,r,.inr ⟨?_,?_⟩⟩
      · show (relabel scope X.env).names.lookup x=some .cell∨(relabel scope X.env).names.lookup x=some .free
        have e:=@j5 X.env scope.names x
        rw[hfr] at e
        have e':(relabel scope X.env).names.lookup x=some (if (NameKind.free == NameKind.free && X.env.scope.kind == .function && X.env.kindOf x == some .cell)=true then NameKind.cell else NameKind.free):=e
        rw[e']
        split
        · exact .inl rfl
        · exact .inr rfl
      · rcases l with ⟨hk',_⟩ | ⟨_,c,hc,z⟩
        · exfalso
          have hk':X.env.scope.names.lookup x=some .local:=hk'
          rcases hk with q | q
          · have q:X.env.scope.names.lookup x=some .cell:=q
            rw[q] at hk';cases hk'
          · have q:X.env.scope.names.lookup x=some .free:=q
            rw[q] at hk';cases hk'
        · obtain ⟨d,hd⟩:=jf (gJ (names:=scope.names) (n:=s2.heap.objs.size+1+1) (oI (env:=X.env) (acc:=[]) hmem))
          refine⟨c,?_,z.keeps old⟩
          rcases csm x d (PySem.mem_of_lookup hd) with ⟨q,_⟩ | ⟨q,_⟩
          · rw[hc] at q;cases q;exact hd
          · have:=cellK x q;rw[hfr] at this;cases this
  · have hm:(x,c)∈cellsFrom ((s2.heap.push qY).push C2).objs.size scope.names (fD X.env scope.names []):=by rw[hsz];exact PySem.mem_of_lookup h
    rcases ky hm with z | z
    · obtain ⟨v,q⟩:=I.cell x c (clm x c z).1
      exact⟨v,q.keeps old⟩
    · exact⟨_,z⟩
  · rcases csm x c (PySem.mem_of_lookup h) with ⟨z,_⟩ | ⟨_,z⟩
    · exact I.freeC x c z
    · exact I.hok.fresh (by omega)
  · have hp':p∈[(s2.heap.objs.size,qY)]:=hp
    obtain rfl:=List.mem_singleton.mp hp'
    refine⟨hacc,I.hok.fresh (Nat.le_refl _),Nat.ne_of_lt (Nat.lt_succ_self _),fun z=>?_,fun v z=>?_⟩
    · rcases List.mem_cons.mp (I.tq _ z) with e | e
      · exact absurd I.lt (by rw[← e];exact Nat.lt_irrefl _)
      · exact I.J1 (Nat.le_refl _) e
    · have z':Data.seq _ _=Data.cell v:=z
      cases z'
  · show (iR tn.length idx σ).length=(tn++cap).length
    have:=congrArg List.length S.ci
    unfold iR BQ
    simp only[List.length_append,List.length_replicate,List.length_map] at this ⊢
    omega
theorem comp_back {N':List Str}{cs:List (Str × Addr)}{C D:Addr}{pins':List (Addr × Obj)}{σ':St}{H8:Hp}{s8:Shared}{vs:List V}{its:List Value}{n:Nat} (I:Inv X pins σ H s2) (hf:∀b∈fp,uH X pins H b)
    (J:Inv (cxC X N' scope cs C fp s2 H) pins' σ' H8 s8) (hD:s2.heap.objs.size≤D) (hD8:H8 D=none) (hget:s8.heap.get? D=some { cls:=.type "list",data:=.seq its.toArray n }) (r:Vals vs its) (hz:vs.length≤sizeLine) :
    Inv X pins σ (upd H8 D (.lst vs)) s8:=by
  have u:=J.base
  have hb:∀b o,s2.heap.get? b=some o→b≠D:=fun b o e=>Nat.ne_of_lt (Nat.lt_of_lt_of_le (Heap.lt_size e) hD)
  refine I.HJ (ch:=fp) J.os ⟨u.keep,u.slot,fun b o e n hx=>?_,u.there,fun b xs e=>?_,fun b o xs e=>?_,fun b ps e=>?_⟩ (fun b o e=>?_) J.bare fun b hbf=>?_
  · rw[aV (hb b o e)];exact u.free b o e n hx
  · have q:=u.tups b xs e
    rw[aV (bG q hD8)];exact q
  · have q:=u.frzs b o xs e
    rw[aV (bG q hD8)];exact q
  · obtain ⟨m,q⟩:=u.tbls b ps e
    exact⟨m,by rw[aV (bG q hD8)];exact q⟩
  · by_cases e1:b=D
    · subst e1
      rw[aG] at e
      cases e
      exact⟨hz,its,n,r,hget⟩
    · rw[aV e1] at e
      exact (J.hok b o e).wH (fun _ _ _ q=>q) (fun c q=>by rw[aV (bG q hD8)];exact q) fun c xs q=>by rw[aV (bG q hD8)];exact q
  · obtain ⟨_,f1,_,f3,f4,f5⟩:=hf b hbf
    exact⟨f3,f1,f4,f5⟩
def PTs (X:Cx) (ifs:List Expr) (tt:TT):Prop :=
  ∀(pins:List (Addr × Obj)) (s:Shared) (σ:St) (H:Hp) (Q:Bool→Hp→Prop),Inv X pins σ H s→tt σ H Q →
    wpAny (model X.prog X.w) X.A (forIn ifs true fun c r=>if r=true then do let ok ← isTrue c X.env (eval c X.env);pure (ForInStep.yield ok) else pure (ForInStep.yield r)) (TP X pins σ Q) X.xe s
def Gh:TT:=fun _ H Q=>Q true H
theorem A9:PTs X [] Gh:=fun _ _ _ H _ I h=>wpAny_tests_nil ⟨H,I,h⟩
theorem so {c:Expr}{tc:TT} (h:PT X c tc):PTs X [c] tc:=fun pins s σ H Q I q=>wpAny_tests_one (h pins s σ H Q I q)
def zj (wi:TI) (g:TG) (tt:TT) (te:TE) (k:Nat) (idx:List Nat):TE:=fun σ H Q=>wi σ H fun J H1 =>
  ∃W:Nat→Nat→List V→Hp→Prop,(∃m,W 0 m [] H1)∧∀i m vs H,W i m vs H →
    (J.stop i H∧vs.length≤sizeLine∧∀p,H p=none→Q (.ref p) (upd H p (.lst vs))) ∨
    (J.go i H∧vs.length≤sizeLine∧∃N:List V→Hp→Prop,(∀vs' H',N vs' H'→∃m',m' < m∧W (i+1) m' vs' H')∧∀x H',J.yld i H x H'→g x (iR k idx σ) H' fun σ2 H2=>tt σ2 H2 fun b H3 =>
      if b=true then te σ2 H3 fun v H4=>N (vs++[v]) H4 else N vs H3)
def fI (k:Nat) (g:TG):Prop:=∀x σ H Q,g x σ H Q→g x σ H fun σ2 H2=>Q σ2 H2∧σ2.length=σ.length∧∀j,k≤j→σ2[j]?=σ[j]?
theorem fI.name {i k:Nat} (h:i<k):fI k (mw i):=fun x σ H Q q=>⟨q,by simp,fun j hj=>by rw[List.getElem?_set_ne (by omega)]⟩
theorem B8 {k j:Nat}{idx:List Nat}{σ:St}{v:V} (h:(iR k idx σ)[j]?=some (some v)):k≤j:=by
  by_cases hj:j<k
  · unfold iR at h
    rw[List.getElem?_append_left (by rw[List.length_replicate];exact hj),List.getElem?_replicate,if_pos hj] at h
    cases h
  · omega
theorem uq {elt target iter:Expr}{ifs:List Expr}{pos:Pos}{g:TG}{tt:TT}{te:TE}{E:Value→Shared→Prop}{it:Addr}{tnn:Nat→Heap→Prop}{J:It}{Q:VK}{RR:Value→Addr→Result→Shared→Prop}
    (hcalm:X.calm=true) (S:aL X scope tn cap idx) (hgs:fI tn.length g)
    (hg:∀cs C fp s₀ H₀,PG (cxC X (tn++cap) scope cs C fp s₀ H₀) target g) (ht:∀cs C fp s₀ H₀,PTs (cxC X (tn++cap) scope cs C fp s₀ H₀) ifs tt)
    (he:∀cs C fp s₀ H₀,PE (cxC X (tn++cap) scope cs C fp s₀ H₀) elt te)
    (I:Inv X pins σ H s2) (T:Turn X.prog X.w X.K target J fp it tnn) (st2:tnn 0 s2.heap) (f2:∀b∈fp,uH X pins H b)
    (hW:∃W:Nat→Nat→List V→Hp→Prop,(∃m,W 0 m [] H)∧∀i m vs H,W i m vs H →
      (J.stop i H∧vs.length≤sizeLine∧∀p,H p=none→Q (.ref p) (upd H p (.lst vs))) ∨
      (J.go i H∧vs.length≤sizeLine∧∃N:List V→Hp→Prop,(∀vs' H',N vs' H'→∃m',m' < m∧W (i+1) m' vs' H')∧∀x H',J.yld i H x H'→g x (iR tn.length idx σ) H' fun σ2 H2=>tt σ2 H2 fun b H3 =>
        if b=true then te σ2 H3 fun v H4=>N (vs++[v]) H4 else N vs H3))
    (hRR:∀(s8:Shared) (H8:Hp) (C D:Addr) (m:Str→Option Value),Inv X pins σ H8 s8→s8.heap.Ns C m→H8 C=none→s2.heap.objs.size≤C→Q (.ref D) H8→RR (.ref D) C (.ok .next) s8) :
    wpAny (model X.prog X.w) X.A (newList []) (fun acc s₃=>wpAny (model X.prog X.w) X.A (newFunctionEnv scope X.env.globals (fD X.env scope.names []) [] X.env.qual none .none (some X.env)) (fun cenv s₄ =>
      codeAny (model X.prog X.w) X.A (.compStart (.ListComp elt [⟨target,iter,ifs,0⟩] scope pos) 0 (.ref it) acc { cenv with scope:=relabel scope X.env }) (RR acc cenv.locals) s₄) E s₃) E s2:=by
  obtain ⟨W,⟨m0,w0⟩,turn⟩:=hW
  have hfl:∀b∈fp,b<s2.heap.objs.size:=fun b hb=>by
    obtain ⟨o,e,_⟩:=T.obj _ _ st2 b hb
    exact Heap.lt_size e
  have I4:=zW I S f2 hfl
  refine wpAny_newObj_type (px ?_)
  have e1:({ s2 with heap:=s2.heap.push qY }:Shared).heap.objs.size=s2.heap.objs.size+1:=Heap.size_push ..
  rw[e1]
  generalize hX':cxC X (tn++cap) scope (wF X s2.heap scope) (s2.heap.objs.size+1) fp s2 H=X' at I4
  have hA:X'.A=X.A:=by subst hX';rfl
  have hprog:X'.prog=X.prog:=by subst hX';rfl
  have hw:X'.w=X.w:=by subst hX';rfl
  have hK:X'.K=X.K:=by subst hX';rfl
  have hcal:X'.calm=true:=by subst hX';exact hcalm
  have hxe:X'.xe=fun _ _=>False:=by subst hX';rfl
  have hloc:X'.env.locals=s2.heap.objs.size+1:=by subst hX';rfl
  have hpn:X'.pn=[]:=by subst hX';rfl
  have hex:X'.ex=fp:=by subst hX';rfl
  have hs0:X'.s₀=s2:=by subst hX';rfl
  have hg':PG X' target g:=by subst hX';exact hg _ _ _ _ _
  have ht':PTs X' ifs tt:=by subst hX';exact ht _ _ _ _ _
  have he':PE X' elt te:=by subst hX';exact he _ _ _ _ _
  have henv:X'.env={ scope:=relabel scope X.env,locals:=s2.heap.objs.size+1,globals:=X.env.globals,cells:=wF X s2.heap scope,qual:=X.env.qual,func:=none,code:=X.env.code,frame:=X.env.frame,builtins:=X.env.builtins }:=by subst hX';rfl
  let lo:List Value→Nat→Obj:=fun its n=>{ cls:=.type "list",data:=.seq its.toArray n }
  have stat:∀{H':Hp}{pl:List (Addr × Obj)},(∀b∈fp,H' b=none)→(∀p∈pl,p.1∉fp)→∀b∈fp,uH X' pl H' b:=fun {H' pl} hn hp b hb=>by
    have q:=I4.ok.exf b (by rw[hex];exact hb)
    have q2:=I4.ok.exfs b (by rw[hex];exact hb)
    refine⟨hn b hb,q.1,q2,.inl (by rw[hex];exact hb),q.2,fun p hp' z=>?_⟩
    rw[hpn] at hp'
    exact hp p hp' (by rw[z];exact hb)
  have Dfp:s2.heap.objs.size∉fp:=fun z=>Nat.lt_irrefl _ (hfl _ z)
  have D1:∀(o:Obj),∀p∈[((s2.heap.objs.size:Addr),o)],p.1∉fp:=fun o p hp=>by
    obtain rfl:=List.mem_singleton.mp hp
    exact Dfp
  have loop:∀s3:Shared,s3={ s2 with heap:=yB s2.heap scope } →
      codeAny (model X.prog X.w) X.A (.compLoop (.ListComp elt [⟨target,iter,ifs,0⟩] scope pos) 0 (.ref it) (.ref s2.heap.objs.size) X'.env) (RR (.ref s2.heap.objs.size) (s2.heap.objs.size+1)) s3:=by
    intro s3 hs3
    subst hs3
    refine wZ (fun n s'=>∃i vs its nn σ' H',Inv X' [(s2.heap.objs.size,lo its nn)] σ' H' s'∧(∀(j:Nat) v,(iR tn.length idx σ)[j]?=some (some v)→σ'[j]?=some (some v))∧σ'.length=(iR tn.length idx σ).length∧tnn i s'.heap∧(∀b∈fp,H' b=none)∧Vals vs its∧W i n vs H') ?_ m0
      ⟨0,[],[],0,_,H,I4,fun _ _ z=>z,rfl,T.keep _ _ _ st2 (fun b hb o e=>pushCells_keeps _ _ _ _ (Heap.get?_push_of_some _ (Heap.get?_push_of_some _ e))),fun b hb=>(f2 b hb).1,.nil,w0⟩
    rintro n s' ⟨i,vs,its,nn,σ',H',I',hσ,hσl,st',fr',rv,w'⟩
    have I5:Inv X' [(s2.heap.objs.size,lo its nn)] (iR tn.length idx σ) H' s':=I'.weak hσl.symm hσ
    rcases turn i n vs H' w' with ⟨stop,hz,q⟩ | ⟨go,hz,N,hN,step⟩
    · -- it ends
      have td:=T.done X' hprog hw hK hcal i _ s' _ H' (fun _ _=>False) I5 (stat fr' (D1 _)) st' stop
      rw[hA] at td
      refine thn td fun r s8 ⟨hr,I8⟩=>?_
      subst hr
      obtain ⟨hp1,hp2,_⟩:=I8.pin (s2.heap.objs.size,lo its nn) (by rw[hpn];exact List.mem_singleton.mpr rfl)
      have J8:Inv X pins σ (upd H' s2.heap.objs.size (.lst vs)) s8:=by
        subst hX'
        exact comp_back I f2 I8 (Nat.le_refl _) hp2 hp1 rv hz
      obtain ⟨m,hm,_⟩:=I8.loc
      rw[hloc] at hm
      have hCf:H' (s2.heap.objs.size+1)=none:=by have:=I8.free;rw[hloc] at this;exact this
      refine hRR s8 _ _ _ m J8 hm ?_ (Nat.le_succ _) (q _ hp2)
      rw[aV (Nat.ne_of_gt (Nat.lt_succ_self _))]
      exact hCf
    · -- a turn
      have ti:=T.item X' hprog hw hK hcal i _ s' _ H' (fun _ _=>False) I5 (stat fr' (D1 _)) st' go
      rw[hA] at ti
      refine thn ti fun r s5 ⟨u,hr,h5⟩=>?_
      subst hr
      refine thn h5 fun _ s6 ⟨x,H6,I6,r6,y6,st6,fr6⟩=>?_
      have I6':=I6.pinned (stat fr6 (D1 _)) (T.obj _ _ st6)
      have ag:=hg' _ s6 _ H6 x u _ I6' r6 (hgs _ _ _ _ (step x H6 y6))
      rw[hprog,hw,hA,hxe] at ag
      refine thn ag fun _ s7 ⟨σ7,H7,I7,q7,hl7,hj7⟩=>?_
      have at7:=ht' _ s7 σ7 H7 _ I7 q7
      rw[hprog,hw,hA,hxe] at at7
      refine thn at7 fun b s8 ⟨H8,I8,q8⟩=>?_
      have again:∀{s9:Shared}{H9:Hp}{vs9:List V}{its9:List Value}{n9:Nat},Inv X' ([(s2.heap.objs.size,lo its9 n9)]++nC fp s6.heap) σ7 H9 s9→Vals vs9 its9→N vs9 H9 →
          ∃m,m<n∧∃i vs its nn σ' H',Inv X' [(s2.heap.objs.size,lo its nn)] σ' H' s9∧(∀(j:Nat) v,(iR tn.length idx σ)[j]?=some (some v)→σ'[j]?=some (some v))∧σ'.length=(iR tn.length idx σ).length∧tnn i s9.heap∧(∀b∈fp,H' b=none)∧Vals vs its∧W i m vs H':=by
        intro s9 H9 vs9 its9 n9 I9 r9 n9'
        obtain ⟨m',hm',w9⟩:=hN _ _ n9'
        refine⟨m',hm',i+1,vs9,its9,n9,σ7,H9,I9.pz,fun j v e=>by rw[hj7 j (B8 e)];exact e,hl7,T.keep _ _ _ st6 fun b hb o e=>(I9.pin (b,o) (List.mem_append_right _ (List.mem_append_right _ (lL hb e)))).1,fun b hb=>?_,r9,w9⟩
        obtain ⟨o,e,d⟩:=T.obj _ _ st6 b hb
        exact (I9.pin (b,o) (List.mem_append_right _ (List.mem_append_right _ (lL hb e)))).2.1
      cases b with
      | false =>
        exact again I8 rv q8
      | true =>
        have ae:=he' _ s8 σ7 H8 _ I8 q8
        rw[hprog,hw,hA,hxe] at ae
        refine thn ae fun xv s9 ⟨v9,H9,I9,r9,q9⟩=>?_
        obtain ⟨hp1,hp2,hp3,hp4,_⟩:=I9.pin (s2.heap.objs.size,lo its nn) (List.mem_append_right _ (List.mem_append_left _ (List.mem_singleton.mpr rfl)))
        have rvl:=rv.length
        refine append_at (hsz:=by rw[List.size_toArray];omega) hp1 fun h' hs' ho'=>?_
        have nfp:∀p∈nC fp s6.heap,p.1≠s2.heap.objs.size:=fun p hp z=>Dfp (by rw[← z];exact (vL hp).1)
        have I10:Inv X' (nC fp s6.heap) σ7 H9 s9:=I9.sr fun p hp=>I9.pin p (List.mem_append_right _ (List.mem_append_right _ hp))
        have I11:Inv X' (nC fp s6.heap) σ7 H9 { s9 with heap:=h' }:=I10.turned (t':=s9.toks) (it:=s2.heap.objs.size) (fun b o hb e=>hs'.extBut b o hb e) hp2 hp3 (.inr (by rw[hs0];exact Nat.le_refl _))
          (fun x c e z=>by
            obtain ⟨v,o,q1,q2⟩:=I9.cell x c e
            rw[z,hp1] at q1
            cases q1
            cases q2) (fun p hp=>by rw[hpn] at hp;exact nfp p hp)
        have eo:({ cls:=.type "list",data:=.seq (its.toArray.push xv) (nn+1) }:Obj)=lo (its++[xv]) (nn+1):=by
          show ({ cls:=.type "list",data:=.seq (its.toArray.push xv) (nn+1) }:Obj)={ cls:=.type "list",data:=.seq (its++[xv]).toArray (nn+1) }
          rw[List.push_toArray]
        refine again (vs9:=vs++[v9]) (its9:=its++[xv]) (n9:=nn+1) (I11.sr fun p hp=>?_) (rv.append (.cons r9 .nil)) q9
        rcases List.mem_append.mp hp with hp | hp
        · obtain rfl:=List.mem_singleton.mp hp
          refine⟨ho'.trans (congrArg some eo),hp2,hp3,hp4,fun v z=>?_⟩
          have z':Data.seq _ _=Data.cell v:=z
          cases z'
        · exact I11.pin p (List.mem_append_right _ hp)
  refine codeAny_compStart_list ?_ ?_
  · have:=loop _ rfl
    rw[henv] at this
    exact this
  · refine T.self _ 0 _ _ _ (T.keep _ _ _ st2 (fun b hb o e=>pushCells_keeps _ _ _ _ (Heap.get?_push_of_some _ (Heap.get?_push_of_some _ e)))) ?_
    have:=loop _ rfl
    rw[henv] at this
    exact this
theorem Av (I:Inv X pins σ H s2) (S:aL X scope tn cap idx):closureFor scope X.env=pure (fD X.env scope.names []) :=
  uK fun n hm=>I.ok.has n (S.fr _ hm rfl)
theorem yR (S:aL X scope tn cap idx):∀x∈scope.names,x.2=.local→scope.names.lookup x.1=some .local:=fun x hx e=>by
  obtain ⟨n,k⟩:=x
  have e':k=NameKind.local:=e
  subst e'
  exact nK S.nd hx
theorem ph {elt target iter:Expr}{ifs:List Expr}{pos:Pos}{wi:TI}{g:TG}{tt:TT}{te:TE} (hcalm:X.calm=true) (S:aL X scope tn cap idx) (hi:PI X target iter wi) (hgs:fI tn.length g)
    (hg:∀cs C fp s₀ H₀,PG (cxC X (tn++cap) scope cs C fp s₀ H₀) target g) (ht:∀cs C fp s₀ H₀,PTs (cxC X (tn++cap) scope cs C fp s₀ H₀) ifs tt)
    (he:∀cs C fp s₀ H₀,PE (cxC X (tn++cap) scope cs C fp s₀ H₀) elt te) (hs:∀x,foldedSetIterable iter X.env x=pure x:=by intro _;rfl) :
    PE X (.ListComp elt [⟨target,iter,ifs,0⟩] scope pos) (zj wi g tt te tn.length idx):=by
  intro pins s σ H Q I h
  rw[eval_ListComp]
  refine wpAny_comprehension_free (use:=none) rfl hs (Av I S) S.kind (yR S) (thn (hi pins s σ H _ I h) fun v s1 h1=>thn h1 fun itv s2 h2=>?_)
  obtain ⟨it,fp,tnn,J,H2,e,I2,T,st2,f2,hW⟩:=h2
  subst e
  refine uq hcalm S hgs hg ht he I2 T st2 f2 hW fun s8 H8 C D m I8 hm hC hsz q=>?_
  refine⟨m,hm,fun h' hs'=>⟨.ref D,H8,?_,rfl,q⟩⟩
  exact I8.turned (t':=s8.toks) (it:=C) (fun b o hb e=>hs'.extBut b o hb e) hC (fun z=>absurd I2.lt (by rw[← z];exact Nat.not_lt.mpr hsz)) (.inr (Nat.le_trans I2.sz hsz))
    (fun x c e z=>by
      obtain ⟨v,q⟩:=I2.cell x c e
      exact absurd q.lt (by rw[z];exact Nat.not_lt.mpr hsz)) (fun p hp z=>absurd (Heap.lt_size (I2.pin p hp).1) (by rw[z];exact Nat.not_lt.mpr hsz))
theorem G3 {elt target iter:Expr}{ifs:List Expr}{pos spos py:Pos}{wi:TI}{g:TG}{tt:TT}{te:TE}{i:Nat}{y:Str} (hcalm:X.calm=true) (S:aL X scope tn cap idx) (hN:X.N.Nodup) (hy:X.N[i]?=some y) (hx:Loc X.env.scope y)
    (hi:PI X target iter wi) (hgs:fI tn.length g)
    (hg:∀cs C fp s₀ H₀,PG (cxC X (tn++cap) scope cs C fp s₀ H₀) target g) (ht:∀cs C fp s₀ H₀,PTs (cxC X (tn++cap) scope cs C fp s₀ H₀) ifs tt)
    (he:∀cs C fp s₀ H₀,PE (cxC X (tn++cap) scope cs C fp s₀ H₀) elt te)
    (hsw:swapsWith (.ListComp elt [⟨target,iter,ifs,0⟩] scope pos) (some (.Name y py)) spos.line X.env=pure true:=by rfl) (hs:∀x,foldedSetIterable iter X.env x=pure x:=by intro _;rfl)
    (hf:X.fn y=true∨X.env.scope.names.lookup y=some .local:=by first | exact .inl rfl | exact .inr rfl | assumption) :
    PS X (.Assign [.Name y py] (.ListComp elt [⟨target,iter,ifs,0⟩] scope pos) spos) (rj (zj wi g tt te tn.length idx) (mw i)):=by
  intro pins s σ H D I h
  rw[exec_Assign_Name_used _ _ _ _ hsw]
  refine wpAny_bind (wpAny_standAt (wpAny_bind ?_))
  show wpAny _ X.A (do let _ ← comprehension (.ListComp elt [⟨target,iter,ifs,0⟩] scope pos) scope X.env _ (newList []) false (eval iter X.env) (some (assign (.Name y py) X.env))) _ _ s
  refine wpAny_bind (wpAny_mono (wpAny_comprehension_free (use:=some (assign (.Name y py) X.env)) (Q:=fun _ s'=>SP X pins D .next s') rfl hs (Av I S) S.kind (yR S)
    (thn (hi pins s σ H _ I h) fun v s1 h1=>thn h1 fun itv s2 h2=>?_)) (fun _ s' hq=>wpAny_pure (wpAny_pure hq)) fun _ _ e=>e)
  obtain ⟨it,fp,tnn,J,H2,e,I2,T,st2,f2,hW⟩:=h2
  subst e
  refine uq (Q:=fun x H1=>mw i x σ H1 D.nx) hcalm S hgs hg ht he I2 T st2 f2 hW fun s8 H8 C DD m I8 hm hC hsz q=>?_
  show wpAny _ X.A (assign (.Name y py) X.env (.ref DD)) _ _ _
  have CL:C≠X.env.locals:=fun z=>absurd I2.lt (by rw[← z];exact Nat.not_lt.mpr hsz)
  have CC:∀x c,X.env.cells.lookup x=some c→c≠C:=fun x c e z=>by
    obtain ⟨v,q⟩:=I2.cell x c e
    exact absurd q.lt (by rw[z];exact Nat.not_lt.mpr hsz)
  refine wpAny_assign_Name (vO (v:=.ref DD) I8 hN hy hx rfl (fun s9 I9 ⟨a,hsb,ha⟩=>?_) hf)
  have aC:C≠a:=fun z=>by
    rcases ha with e | e
    · exact CL (z.trans e)
    · exact CC _ _ e z.symm
  refine⟨m,hm.sameBut hsb aC,fun h' hs'=>⟨_,H8,?_,q⟩⟩
  exact I9.turned (t':=s9.toks) (it:=C) (fun b o hb e=>hs'.extBut b o hb e) hC CL (.inr (Nat.le_trans I2.sz hsz)) CC (fun p hp z=>absurd (Heap.lt_size (I2.pin p hp).1) (by rw[z];exact Nat.not_lt.mpr hsz))
end
def CZ (J:It) (g:TG) (te:TE) (k:Nat) (idx:List Nat) (σ:St) (H1:Hp) (Q:VK):Prop :=
  ∃W:Nat→Nat→List V→Hp→Prop,(∃m,W 0 m [] H1)∧∀i m vs H,W i m vs H →
    (J.stop i H∧vs.length≤sizeLine∧∀p,H p=none→Q (.ref p) (upd H p (.lst vs))) ∨
    (J.go i H∧vs.length≤sizeLine∧∃N:List V→Hp→Prop,(∀vs' H',N vs' H'→∃m',m' < m∧W (i+1) m' vs' H')∧∀x H',J.yld i H x H'→g x (iR k idx σ) H' fun σ2 H2=>te σ2 H2 fun v H4=>N (vs++[v]) H4)
def tS (wi:TI) (g:TG) (te:TE) (k:Nat) (idx:List Nat):TE:=fun σ H Q=>wi σ H fun J H1=>CZ J g te k idx σ H1 Q
theorem qb {wi:TI}{g:TG}{te:TE}{k:Nat}{idx:List Nat}:tS wi g te k idx=zj wi g Gh te k idx:=by
  have e:∀(A B:Prop),(if true=true then A else B)=A:=fun A B=>if_pos rfl
  unfold tS CZ zj Gh
  simp only[if_true]
section
variable {X:Cx}{scope:Scope}{tn cap:List Str}{idx:List Nat}
theorem cH {elt target iter:Expr}{pos:Pos}{wi:TI}{g:TG}{te:TE} (S:aL X scope tn cap idx) (hi:PI X target iter wi) (hgs:fI tn.length g)
    (hg:∀cs C fp s₀ H₀,PG (cxC X (tn++cap) scope cs C fp s₀ H₀) target g)
    (he:∀cs C fp s₀ H₀,PE (cxC X (tn++cap) scope cs C fp s₀ H₀) elt te) (hcalm:X.calm=true:=by rfl) (hs:∀x,foldedSetIterable iter X.env x=pure x:=by intro _;rfl) :
    PE X (.ListComp elt [⟨target,iter,[],0⟩] scope pos) (tS wi g te tn.length idx):=by
  rw[qb]
  exact ph hcalm S hi hgs hg (fun _ _ _ _ _=>A9) he hs
theorem lI {elt target iter:Expr}{pos spos py:Pos}{wi:TI}{g:TG}{te:TE}{i:Nat}{y:Str} (S:aL X scope tn cap idx) (hN:X.N.Nodup) (hy:X.N[i]?=some y) (hx:Loc X.env.scope y)
    (hi:PI X target iter wi) (hgs:fI tn.length g)
    (hg:∀cs C fp s₀ H₀,PG (cxC X (tn++cap) scope cs C fp s₀ H₀) target g)
    (he:∀cs C fp s₀ H₀,PE (cxC X (tn++cap) scope cs C fp s₀ H₀) elt te) (hcalm:X.calm=true:=by rfl)
    (hsw:swapsWith (.ListComp elt [⟨target,iter,[],0⟩] scope pos) (some (.Name y py)) spos.line X.env=pure true:=by rfl) (hs:∀x,foldedSetIterable iter X.env x=pure x:=by intro _;rfl)
    (hf:X.fn y=true∨X.env.scope.names.lookup y=some .local:=by first | exact .inl rfl | exact .inr rfl | assumption) :
    PS X (.Assign [.Name y py] (.ListComp elt [⟨target,iter,[],0⟩] scope pos) spos) (rj (tS wi g te tn.length idx) (mw i)):=by
  rw[qb]
  exact G3 hcalm S hN hy hx hi hgs hg (fun _ _ _ _ _=>A9) he hsw hs hf
end
end L2
namespace L2
open PySem PySem.Spec PyProof.Rows
inductive D where
  | non | bl (b:Bool) | int (i:Int) | str (x:Str) | lst (ds:List D) | tup (ds:List D)
mutual
def Rf (H:Hp):D→V→List Addr→Prop
  | .non,v,fp=>v=.non∧fp=[]
  | .bl b,v,fp=>v=.bl b∧fp=[]
  | .int i,v,fp=>v=.int i∧fp=[]
  | .str x,v,fp=>v=.str x∧fp=[]
  | .lst ds,v,fp=>∃a xs fq,v=.ref a∧H a=some (.lst xs)∧fp=a::fq∧Rfs H ds xs fq
  | .tup ds,v,fp=>∃a xs,v=.ref a∧H a=some (.tup xs)∧Rfs H ds xs fp
def Rfs (H:Hp):List D→List V→List Addr→Prop
  | [],xs,fp=>xs=[]∧fp=[]
  | d::ds,xs,fp=>∃x r f1 f2,xs=x::r∧fp=f1++f2∧Rf H d x f1∧Rfs H ds r f2
end
def Rp (H:Hp) (d:D) (v:V):Prop:=∃fp,Rf H d v fp
mutual
theorem Rf.mono {H H':Hp}:∀{d:D}{v:V}{fp:List Addr},Rf H d v fp→(∀a∈fp,∀o,H a=some o→H' a=some o)→(∀a xs,H a=some (.tup xs)→H' a=some (.tup xs))→Rf H' d v fp
  | .non,_,_,h,_,_=>h
  | .bl _,_,_,h,_,_=>h
  | .int _,_,_,h,_,_=>h
  | .str _,_,_,h,_,_=>h
  | .lst ds,v,fp,h,k,t=>by
    obtain ⟨a,xs,fq,e1,e2,e3,h⟩:=h
    subst e3
    exact⟨a,xs,fq,e1,k a List.mem_cons_self _ e2,rfl,Rfs.mono h (fun b hb=>k b (List.mem_cons_of_mem _ hb)) t⟩
  | .tup ds,v,fp,h,k,t=>by
    obtain ⟨a,xs,e1,e2,h⟩:=h
    exact⟨a,xs,e1,t a xs e2,Rfs.mono h k t⟩
theorem Rfs.mono {H H':Hp}:∀{ds:List D}{vs:List V}{fp:List Addr},Rfs H ds vs fp→(∀a∈fp,∀o,H a=some o→H' a=some o)→(∀a xs,H a=some (.tup xs)→H' a=some (.tup xs))→Rfs H' ds vs fp
  | [],_,_,h,_,_=>h
  | d::ds,vs,fp,h,k,t=>by
    obtain ⟨x,r,f1,f2,e1,e2,h1,h2⟩:=h
    subst e2
    exact⟨x,r,f1,f2,e1,rfl,Rf.mono h1 (fun b hb=>k b (List.mem_append_left _ hb)) t,Rfs.mono h2 (fun b hb=>k b (List.mem_append_right _ hb)) t⟩
end
mutual
theorem Rf.dom {H:Hp}:∀{d:D}{v:V}{fp:List Addr},Rf H d v fp→∀a∈fp,∃xs,H a=some (.lst xs)
  | .non,_,_,h,a,ha=>by obtain ⟨_,rfl⟩:=h;nomatch ha
  | .bl _,_,_,h,a,ha=>by obtain ⟨_,rfl⟩:=h;nomatch ha
  | .int _,_,_,h,a,ha=>by obtain ⟨_,rfl⟩:=h;nomatch ha
  | .str _,_,_,h,a,ha=>by obtain ⟨_,rfl⟩:=h;nomatch ha
  | .lst ds,v,fp,h,b,hb=>by
    obtain ⟨a,xs,fq,e1,e2,e3,h⟩:=h
    subst e3
    rcases List.mem_cons.mp hb with e | hb
    · subst e;exact⟨xs,e2⟩
    · exact Rfs.dom h b hb
  | .tup ds,v,fp,h,b,hb=>by
    obtain ⟨a,xs,e1,e2,h⟩:=h
    exact Rfs.dom h b hb
theorem Rfs.dom {H:Hp}:∀{ds:List D}{vs:List V}{fp:List Addr},Rfs H ds vs fp→∀a∈fp,∃xs,H a=some (.lst xs)
  | [],_,_,h,a,ha=>by obtain ⟨_,rfl⟩:=h;nomatch ha
  | d::ds,vs,fp,h,b,hb=>by
    obtain ⟨x,r,f1,f2,e1,e2,h1,h2⟩:=h
    subst e2
    rcases List.mem_append.mp hb with hb | hb
    · exact Rf.dom h1 b hb
    · exact Rfs.dom h2 b hb
end
theorem Rf.upd {H:Hp}{d:D}{v:V}{fp:List Addr}{l:Addr}{o:HO} (h:Rf H d v fp) (hl:l∉fp) (hm:∀xs,H l≠some (.tup xs)):Rf (upd H l o) d v fp :=
  h.mono (fun a ha u e=>by rw[aV (fun z=>hl (by rw[← z];exact ha))];exact e) fun a xs e=>by rw[aV (fun z=>hm xs (by rw[← z];exact e))];exact e
theorem Rfs.length {H:Hp}:∀{ds:List D}{vs:List V}{fp:List Addr},Rfs H ds vs fp→vs.length=ds.length
  | [],_,_,h=>by obtain ⟨rfl,_⟩:=h;rfl
  | d::ds,vs,fp,h=>by
    obtain ⟨x,r,f1,f2,e1,e2,h1,h2⟩:=h
    subst e1
    rw[List.length_cons,List.length_cons,Rfs.length h2]
theorem Rfs.append {H:Hp}:∀{ds es:List D}{vs ws:List V}{fp fq:List Addr},Rfs H ds vs fp→Rfs H es ws fq→Rfs H (ds++es) (vs++ws) (fp++fq)
  | [],es,vs,ws,fp,fq,h,h'=>by obtain ⟨rfl,rfl⟩:=h;exact h'
  | d::ds,es,vs,ws,fp,fq,h,h'=>by
    obtain ⟨x,r,f1,f2,rfl,rfl,h1,h2⟩:=h
    exact⟨x,r++ws,f1,f2++fq,rfl,List.append_assoc ..,h1,Rfs.append h2 h'⟩
theorem Rfs.get {H:Hp}:∀{ds:List D}{vs:List V}{fp:List Addr}{i:Nat}{d:D},Rfs H ds vs fp→ds[i]?=some d→∃v f,vs[i]?=some v∧Rf H d v f∧(∀a∈f,a∈fp)
  | [],_,_,_,_,_,e=>by simp at e
  | d::ds,vs,fp,0,d',h,e=>by
    obtain ⟨x,r,f1,f2,rfl,rfl,h1,h2⟩:=h
    simp at e;subst e
    exact⟨x,f1,rfl,h1,fun a ha=>List.mem_append_left _ ha⟩
  | d::ds,vs,fp,i+1,d',h,e=>by
    obtain ⟨x,r,f1,f2,rfl,rfl,h1,h2⟩:=h
    obtain ⟨v,f,e1,h3,k⟩:=Rfs.get (i:=i) h2 (by simpa using e)
    exact⟨v,f,by simpa using e1,h3,fun a ha=>List.mem_append_right _ (k a ha)⟩
abbrev dI (xs:List Int):D:=.lst (xs.map D.int)
abbrev dT (t:List (List Int)):D:=.lst (t.map dI)
inductive Rows (H:Hp):List (List Int)→List Addr→Prop where
  | nil:Rows H [] []
  | cons {xs:List Int}{t:List (List Int)}{a:Addr}{as:List Addr}:H a=some (.lst (xs.map V.int))→Rows H t as→Rows H (xs::t) (a::as)
theorem Rows.length {H:Hp}{t:List (List Int)}{as:List Addr} (h:Rows H t as):as.length=t.length:=by
  induction h with
  | nil=>rfl
  | cons _ _ ih=>rw[List.length_cons,List.length_cons,ih]
theorem Rows.mono {H H':Hp}{t:List (List Int)}{as:List Addr} (h:Rows H t as) (k:∀a∈as,∀o,H a=some o→H' a=some o):Rows H' t as:=by
  induction h with
  | nil=>exact .nil
  | cons e _ ih=>exact .cons (k _ List.mem_cons_self _ e) (ih fun a ha=>k a (List.mem_cons_of_mem _ ha))
end L2
namespace L2
open PySem PySem.Spec PyProof.Rows
section
variable {X:Cx}
theorem xI:iQ X (.builtin "isinstance") (fun xs H Q=>∃x n t b,xs=[x,.ty n]∧nV X.K H x t∧PySem.W.kitOne X.K t (.type n)=some b∧Q (.bl b) H):=by
  intro pins s σ H xs us Q I r h
  obtain ⟨x,n,t,b,rfl,ty,e,q⟩:=h
  obtain ⟨u,w',rfl,rx,rn⟩:=vals2 r
  obtain rfl:w'=Value.type n:=rn
  exact Ci I rx ty e fun tk=>⟨.bl b,H,I.tok _,rfl,q⟩
theorem mS:∀{xs:List Int}{us:List Value},Vals (xs.map V.int) us→IntsAre us xs
  | [],us,r=>by cases r;exact .nil
  | x::xs,us,r=>by
    cases r with
    | cons r rr =>
      obtain ⟨t,rfl⟩:=r
      exact .cons _ _ (mS rr)
theorem DV (hc:X.calm=true):iQ X (.builtin "sum") (fun xs H Q=>∃(a:Addr) (ns:List Int),xs=[.ref a]∧SqL X.K H a (ns.map V.int)∧Q (.int ns.sum) H):=by
  intro pins s σ H xs us Q I r h
  obtain ⟨a,ns,rfl,hS,q⟩:=h
  obtain ⟨u,rfl,ru⟩:=vals1 r
  obtain rfl:u=Value.ref a:=ru
  obtain ⟨its,rv,pl,hz⟩:=I.list hS
  have hi:=mS rv
  obtain ⟨xs',e⟩:=hi.allInts.items
  have hl:s.heap.IsList a (intItems xs'):=by rw[← e];exact pl.isList
  refine sum_intListG (I.ok.hd hc) hl fun h' tk t' hk=>⟨.int ns.sum,H,I.kept hk,⟨t',?_⟩,q⟩
  have e2:numsOf its.toArray.toList=ns:=hi.numsOf
  rw[e,nums_intItems] at e2
  rw[preSum_eq,List.take_of_length_le (by simp),e2]
end
section
variable {X:Cx}
end
mutual
def D.plain:D→Bool
  | .non=>true | .bl _=>false | .int _=>true | .str _=>true
  | .lst ds=>D.dG ds | .tup ds=>D.dG ds
def D.dG:List D→Bool
  | []=>true
  | d::ds=>D.plain d && D.dG ds
end
mutual
def D.depth:D→Nat
  | .lst ds=>D.eA ds+1 | .tup ds=>D.eA ds+1
  | _=>0
def D.eA:List D→Nat
  | []=>0
  | d::ds=>max (D.depth d) (D.eA ds)
end
mutual
def D.eqb:D→D→Bool
  | .non,.non=>true
  | .int i,.int j=>i == j
  | .str i,.str j=>i == j
  | .lst a,.lst b=>D.jL a b
  | .tup a,.tup b=>D.jL a b
  | _,_=>false
def D.jL:List D→List D→Bool
  | [],[]=>true
  | a::as,b::bs=>D.eqb a b && D.jL as bs
  | _,_=>false
end
theorem D.lr:∀{a b:List D},D.jL a b=(decide (a.length=b.length) && (List.range a.length).all fun i=>match a[i]?,b[i]? with | some x,some y=>D.eqb x y | _,_=>false)
  | [],[]=>rfl
  | [],b::bs=>by simp [D.jL]
  | a::as,[]=>by simp [D.jL]
  | a::as,b::bs=>by
    rw[D.jL,D.lr (a:=as) (b:=bs),List.length_cons,List.range_succ_eq_map,List.all_cons,List.all_map]
    by_cases h:as.length=bs.length
    · simp [h,Function.comp_def]
    · simp [h]
end L2
namespace L2
open PySem PySem.Spec PyProof.Rows
open PySem.SeqAt
theorem D.fU:∀{ds:List D}{i:Nat}{d:D},D.dG ds=true→ds[i]?=some d→d.plain=true
  | [],i,d,_,e=>by simp at e
  | c::ds,0,d,h,e=>by
    simp at e;subst e
    rw[D.dG,Bool.and_eq_true] at h
    exact h.1
  | c::ds,i+1,d,h,e=>by
    rw[D.dG,Bool.and_eq_true] at h
    exact D.fU (i:=i) h.2 (by simpa using e)
theorem D.km:∀{ds:List D}{i:Nat}{d:D},ds[i]?=some d→d.depth≤D.eA ds
  | [],i,d,e=>by simp at e
  | c::ds,0,d,e=>by
    simp at e;subst e
    rw[D.eA]
    exact Nat.le_max_left _ _
  | c::ds,i+1,d,e=>by
    rw[D.eA]
    exact Nat.le_trans (D.km (i:=i) (by simpa using e)) (Nat.le_max_right _ _)
theorem D.EH {a b:List D} (hl:a.length=b.length) (f:Nat→Bool) (h:∀i x y,a[i]?=some x→b[i]?=some y→f i=D.eqb x y):D.jL a b=(List.range a.length).all f:=by
  rw[D.lr,decide_eq_true hl,Bool.true_and,Bool.eq_iff_iff]
  simp only[List.all_eq_true,List.mem_range]
  constructor
  · intro q i hi
    have:=q i hi
    rw[List.getElem?_eq_getElem hi,List.getElem?_eq_getElem (show i<b.length by omega)] at this
    rw[h i _ _ (List.getElem?_eq_getElem hi) (List.getElem?_eq_getElem (show i<b.length by omega))]
    exact this
  · intro q i hi
    have:=q i hi
    rw[h i _ _ (List.getElem?_eq_getElem hi) (List.getElem?_eq_getElem (show i<b.length by omega))] at this
    rw[List.getElem?_eq_getElem hi,List.getElem?_eq_getElem (show i<b.length by omega)]
    exact this
theorem D.oY {a b:List D} (hl:a.length≠b.length):D.jL a b=false:=by
  rw[D.lr,decide_eq_false hl,Bool.false_and]
theorem A6 {H:Hp}:∀(n:Nat) (d e:D) (v:V),d.depth≤n→Rp H d v→Rp H e v→d.plain=true→D.eqb d e=true:=by
  intro n
  induction n with
  | zero =>
    intro d e v hn hd he hp
    obtain ⟨f,hd⟩:=hd
    obtain ⟨g,he⟩:=he
    cases d with
    | non=>obtain ⟨rfl,_⟩:=hd;cases e with
      | non=>rfl
      | lst ds=>obtain ⟨_,_,_,z,_⟩:=he;cases z
      | tup ds=>obtain ⟨_,_,z,_⟩:=he;cases z
      | _=>obtain ⟨z,_⟩:=he;cases z
    | bl b=>cases hp
    | int i=>obtain ⟨rfl,_⟩:=hd;cases e with
      | int j=>obtain ⟨z,_⟩:=he;cases z;simp [D.eqb]
      | lst ds=>obtain ⟨_,_,_,z,_⟩:=he;cases z
      | tup ds=>obtain ⟨_,_,z,_⟩:=he;cases z
      | _=>obtain ⟨z,_⟩:=he;cases z
    | str i=>obtain ⟨rfl,_⟩:=hd;cases e with
      | str j=>obtain ⟨z,_⟩:=he;cases z;simp [D.eqb]
      | lst ds=>obtain ⟨_,_,_,z,_⟩:=he;cases z
      | tup ds=>obtain ⟨_,_,z,_⟩:=he;cases z
      | _=>obtain ⟨z,_⟩:=he;cases z
    | lst ds=>rw[D.depth] at hn;omega
    | tup ds=>rw[D.depth] at hn;omega
  | succ n ih =>
    intro d e v hn hd he hp
    have go:∀(ds es:List D) (xs:List V) (f g:List Addr),D.eA ds≤n→Rfs H ds xs f→Rfs H es xs g→D.dG ds=true→D.jL ds es=true:=by
      intro ds es xs f g hn h1 h2 hp
      have l1:=h1.length
      have l2:=h2.length
      rw[D.EH (by omega) (fun _=>true) (fun i x y e1 e2=>?_)]
      · simp
      · obtain ⟨v1,f1,q1,r1,_⟩:=h1.get e1
        obtain ⟨v2,f2,q2,r2,_⟩:=h2.get e2
        rw[q1] at q2;cases q2
        exact (ih x y v1 (Nat.le_trans (D.km e1) hn) ⟨_,r1⟩ ⟨_,r2⟩ (D.fU hp e1)).symm
    obtain ⟨f,hd⟩:=hd
    obtain ⟨g,he⟩:=he
    cases d with
    | non=>obtain ⟨rfl,_⟩:=hd;cases e with
      | non=>rfl
      | lst ds=>obtain ⟨_,_,_,z,_⟩:=he;cases z
      | tup ds=>obtain ⟨_,_,z,_⟩:=he;cases z
      | _=>obtain ⟨z,_⟩:=he;cases z
    | bl b=>cases hp
    | int i=>obtain ⟨rfl,_⟩:=hd;cases e with
      | int j=>obtain ⟨z,_⟩:=he;cases z;simp [D.eqb]
      | lst ds=>obtain ⟨_,_,_,z,_⟩:=he;cases z
      | tup ds=>obtain ⟨_,_,z,_⟩:=he;cases z
      | _=>obtain ⟨z,_⟩:=he;cases z
    | str i=>obtain ⟨rfl,_⟩:=hd;cases e with
      | str j=>obtain ⟨z,_⟩:=he;cases z;simp [D.eqb]
      | lst ds=>obtain ⟨_,_,_,z,_⟩:=he;cases z
      | tup ds=>obtain ⟨_,_,z,_⟩:=he;cases z
      | _=>obtain ⟨z,_⟩:=he;cases z
    | lst ds =>
      obtain ⟨a,xs,fq,rfl,e1,rfl,hd⟩:=hd
      cases e with
      | lst es =>
        obtain ⟨b,ys,gq,z,e2,rfl,he⟩:=he
        cases z
        rw[e1] at e2;cases e2
        rw[D.eqb]
        exact go ds es xs fq gq (by rw[D.depth] at hn;omega) hd he hp
      | tup es =>
        obtain ⟨b,ys,z,e2,he⟩:=he
        cases z
        rw[e1] at e2;cases e2
      | _=>obtain ⟨z,_⟩:=he;cases z
    | tup ds =>
      obtain ⟨a,xs,rfl,e1,hd⟩:=hd
      cases e with
      | tup es =>
        obtain ⟨b,ys,z,e2,he⟩:=he
        cases z
        rw[e1] at e2;cases e2
        rw[D.eqb]
        exact go ds es xs f g (by rw[D.depth] at hn;omega) hd he hp
      | lst es =>
        obtain ⟨b,ys,gq,z,e2,rfl,he⟩:=he
        cases z
        rw[e1] at e2;cases e2
      | _=>obtain ⟨z,_⟩:=he;cases z
theorem Jd {X:Cx}{pins:List (Addr × Obj)}{σ:St}{H:Hp}{s:Shared} (I:Inv X pins σ H s):∀(n:Nat) (d e:D) (x y:V) (u w:Value) (A:Around),d.depth≤n→Rp H d x→Rp H e y→RelV x u→RelV y w→d.plain=true→e.plain=true→A.units+n<cLine →
    EqAt A s u w (D.eqb d e):=by
  intro n
  induction n with
  | zero =>
    intro d e x y u w A hn hd he rx ry pd pe hu
    obtain ⟨f,hd⟩:=hd
    obtain ⟨g,he⟩:=he
    have hu':A.units<cLine:=by omega
    cases d with
    | non =>
      obtain ⟨rfl,_⟩:=hd;obtain rfl:u=.none:=rx
      cases e with
      | non=>obtain ⟨rfl,_⟩:=he;obtain rfl:w=.none:=ry;exact EqAt.same _
      | bl b=>cases pe
      | int j=>obtain ⟨rfl,_⟩:=he;obtain ⟨t,rfl⟩:=ry;exact EqAt.none_int _ _
      | str j=>obtain ⟨rfl,_⟩:=he;obtain ⟨t,rfl⟩:=ry;exact EqAt.none_str _ _
      | lst es=>obtain ⟨b,ys,gq,rfl,e2,_,he⟩:=he;obtain rfl:w=.ref b:=ry;obtain ⟨_,_,pl,_⟩:=I.list (SqL.of e2);exact EqAt.none_list pl.isList hu'
      | tup es=>obtain ⟨b,ys,rfl,e2,he⟩:=he;obtain rfl:w=.ref b:=ry;obtain ⟨_,_,pl,_⟩:=I.tuple (SqT.of e2);exact EqAt.none_tuple pl hu'
    | bl b=>cases pd
    | int i =>
      obtain ⟨rfl,_⟩:=hd;obtain ⟨t0,rfl⟩:=rx
      cases e with
      | non=>obtain ⟨rfl,_⟩:=he;obtain rfl:w=.none:=ry;exact EqAt.int_none _ _
      | bl b=>cases pe
      | int j=>obtain ⟨rfl,_⟩:=he;obtain ⟨t,rfl⟩:=ry;exact EqAt.int_int _ _ _ _
      | str j=>obtain ⟨rfl,_⟩:=he;obtain ⟨t,rfl⟩:=ry;exact EqAt.int_str _ _ _ _
      | lst es=>obtain ⟨b,ys,gq,rfl,e2,_,he⟩:=he;obtain rfl:w=.ref b:=ry;obtain ⟨_,_,pl,_⟩:=I.list (SqL.of e2);exact EqAt.int_list _ _ pl.isList hu'
      | tup es=>obtain ⟨b,ys,rfl,e2,he⟩:=he;obtain rfl:w=.ref b:=ry;obtain ⟨_,_,pl,_⟩:=I.tuple (SqT.of e2);exact EqAt.int_tuple _ _ pl hu'
    | str i =>
      obtain ⟨rfl,_⟩:=hd;obtain ⟨t0,rfl⟩:=rx
      cases e with
      | non=>obtain ⟨rfl,_⟩:=he;obtain rfl:w=.none:=ry;exact EqAt.str_none _ _
      | bl b=>cases pe
      | int j=>obtain ⟨rfl,_⟩:=he;obtain ⟨t,rfl⟩:=ry;exact EqAt.str_int _ _ _ _
      | str j=>obtain ⟨rfl,_⟩:=he;obtain ⟨t,rfl⟩:=ry;exact EqAt.str_str _ _ _ _
      | lst es=>obtain ⟨b,ys,gq,rfl,e2,_,he⟩:=he;obtain rfl:w=.ref b:=ry;obtain ⟨_,_,pl,_⟩:=I.list (SqL.of e2);exact EqAt.str_list _ _ pl.isList hu'
      | tup es=>obtain ⟨b,ys,rfl,e2,he⟩:=he;obtain rfl:w=.ref b:=ry;obtain ⟨_,_,pl,_⟩:=I.tuple (SqT.of e2);exact EqAt.str_tuple _ _ pl hu'
    | lst ds=>rw[D.depth] at hn;omega
    | tup ds=>rw[D.depth] at hn;omega
  | succ n ih =>
    intro d e x y u w A hn hd he rx ry pd pe hu
    have hu':A.units<cLine:=by omega
    have ud:A.in1.units+n<cLine:=by show A.units+1+n<cLine;omega
    cases d with
    | non=>exact ih _ _ x y u w A (by simp [D.depth]) hd he rx ry pd pe (by omega)
    | bl b=>cases pd
    | int i=>exact ih _ _ x y u w A (by simp [D.depth]) hd he rx ry pd pe (by omega)
    | str i=>exact ih _ _ x y u w A (by simp [D.depth]) hd he rx ry pd pe (by omega)
    | lst ds =>
      have hd0:=hd
      have he0:=he
      obtain ⟨f,a,xs,fq,rfl,e1,rfl,hd⟩:=hd
      obtain rfl:u=.ref a:=rx
      obtain ⟨its,rv,pl,hz⟩:=I.list (SqL.of e1)
      obtain ⟨g,he⟩:=he
      cases e with
      | non=>obtain ⟨rfl,_⟩:=he;obtain rfl:w=.none:=ry;exact EqAt.list_none pl.isList hu'
      | bl b=>cases pe
      | int j=>obtain ⟨rfl,_⟩:=he;obtain ⟨t,rfl⟩:=ry;exact EqAt.list_int _ _ pl.isList hu'
      | str j=>obtain ⟨rfl,_⟩:=he;obtain ⟨t,rfl⟩:=ry;exact EqAt.list_str _ _ pl.isList hu'
      | tup es=>obtain ⟨b,ys,rfl,e2,he⟩:=he;obtain rfl:w=.ref b:=ry;obtain ⟨_,_,pl2,_⟩:=I.tuple (SqT.of e2);exact EqAt.list_tuple pl.isList pl2 hu'
      | lst es =>
        obtain ⟨b,ys,gq,rfl,e2,rfl,he⟩:=he
        obtain rfl:w=.ref b:=ry
        by_cases hab:a=b
        · subst hab
          rw[A6 _ _ _ _ (Nat.le_refl _) hd0 he0 pd]
          exact EqAt.same _
        · obtain ⟨its2,rv2,pl2,hz2⟩:=I.list (SqL.of e2)
          refine EqAt.of_refs hab ?_
          have l1:=rv.length
          have l2:=rv2.length
          have m1:=hd.length
          have m2:=he.length
          by_cases hl:ds.length=es.length
          · have key:=RcAt.lists (A:=A) (e:=fun i=>match ds[i]?,es[i]? with | some x,some y=>D.eqb x y | _,_=>false) pl.isList pl2.isList (by simp;omega) hu' (fun j h1 h2=>by
              have j1:j<ds.length:=by simp at h1;omega
              have j2:j<es.length:=by omega
              simp only[List.getElem?_eq_getElem j1,List.getElem?_eq_getElem j2]
              obtain ⟨v1,f1,q1,r1,_⟩:=hd.get (List.getElem?_eq_getElem j1)
              obtain ⟨v2,f2,q2,r2,_⟩:=he.get (List.getElem?_eq_getElem j2)
              obtain ⟨u1,p1,t1⟩:=rv.get q1
              obtain ⟨u2,p2,t2⟩:=rv2.get q2
              have i1:its.toArray[j]=u1:=by
                have:=List.getElem?_eq_some_iff.mp p1
                obtain ⟨_,z⟩:=this
                simpa using z
              have i2:its2.toArray[j]=u2:=by
                have:=List.getElem?_eq_some_iff.mp p2
                obtain ⟨_,z⟩:=this
                simpa using z
              rw[i1,i2]
              exact ih _ _ v1 v2 u1 u2 A.in1 (by have:=D.km (List.getElem?_eq_getElem j1);rw[D.depth] at hn;omega) ⟨_,r1⟩ ⟨_,r2⟩ t1 t2 (D.fU pd (List.getElem?_eq_getElem j1)) (D.fU pe (List.getElem?_eq_getElem j2)) ud)
            have e3:D.eqb (.lst ds) (.lst es)=(List.range its.toArray.size).all fun i=>match ds[i]?,es[i]? with | some x,some y=>D.eqb x y | _,_=>false:=by
              rw[D.eqb,D.lr,decide_eq_true hl,Bool.true_and]
              rw[show its.toArray.size=ds.length by simp;omega]
              all_goals rfl
            rw[e3]
            exact key
          · rw[D.eqb,D.oY hl]
            exact RcAt.lists_lengths pl.isList pl2.isList (by simp;omega) hu'
    | tup ds =>
      have hd0:=hd
      have he0:=he
      obtain ⟨f,a,xs,rfl,e1,hd⟩:=hd
      obtain rfl:u=.ref a:=rx
      obtain ⟨its,rv,pl,hz⟩:=I.tuple (SqT.of e1)
      obtain ⟨g,he⟩:=he
      cases e with
      | non=>obtain ⟨rfl,_⟩:=he;obtain rfl:w=.none:=ry;exact EqAt.tuple_none pl hu'
      | bl b=>cases pe
      | int j=>obtain ⟨rfl,_⟩:=he;obtain ⟨t,rfl⟩:=ry;exact EqAt.tuple_int _ _ pl hu'
      | str j=>obtain ⟨rfl,_⟩:=he;obtain ⟨t,rfl⟩:=ry;exact EqAt.tuple_str _ _ pl hu'
      | lst es=>obtain ⟨b,ys,gq,rfl,e2,_,he⟩:=he;obtain rfl:w=.ref b:=ry;obtain ⟨_,_,pl2,_⟩:=I.list (SqL.of e2);exact EqAt.tuple_list pl pl2.isList hu'
      | tup es =>
        obtain ⟨b,ys,rfl,e2,he⟩:=he
        obtain rfl:w=.ref b:=ry
        by_cases hab:a=b
        · subst hab
          rw[A6 _ _ _ _ (Nat.le_refl _) hd0 he0 pd]
          exact EqAt.same _
        · obtain ⟨its2,rv2,pl2,hz2⟩:=I.tuple (SqT.of e2)
          refine EqAt.of_refs hab ?_
          have l1:=rv.length
          have l2:=rv2.length
          have m1:=hd.length
          have m2:=he.length
          have key:=RcAt.tuples (A:=A) (e:=fun i=>match ds[i]?,es[i]? with | some x,some y=>D.eqb x y | _,_=>false) pl pl2 hu' (fun j h1 h2=>by
              have j1:j<ds.length:=by simp at h1;omega
              have j2:j<es.length:=by simp at h2;omega
              simp only[List.getElem?_eq_getElem j1,List.getElem?_eq_getElem j2]
              obtain ⟨v1,f1,q1,r1,_⟩:=hd.get (List.getElem?_eq_getElem j1)
              obtain ⟨v2,f2,q2,r2,_⟩:=he.get (List.getElem?_eq_getElem j2)
              obtain ⟨u1,p1,t1⟩:=rv.get q1
              obtain ⟨u2,p2,t2⟩:=rv2.get q2
              have i1:its.toArray[j]=u1:=by
                have:=List.getElem?_eq_some_iff.mp p1
                obtain ⟨_,z⟩:=this
                simpa using z
              have i2:its2.toArray[j]=u2:=by
                have:=List.getElem?_eq_some_iff.mp p2
                obtain ⟨_,z⟩:=this
                simpa using z
              rw[i1,i2]
              exact ih _ _ v1 v2 u1 u2 A.in1 (by have:=D.km (List.getElem?_eq_getElem j1);rw[D.depth] at hn;omega) ⟨_,r1⟩ ⟨_,r2⟩ t1 t2 (D.fU pd (List.getElem?_eq_getElem j1)) (D.fU pe (List.getElem?_eq_getElem j2)) ud)
          have e3:D.eqb (.tup ds) (.tup es)=((List.range (min its.toArray.size its2.toArray.size)).all (fun i=>match ds[i]?,es[i]? with | some x,some y=>D.eqb x y | _,_=>false) && its.toArray.size == its2.toArray.size):=by
            rw[D.eqb]
            have z1:its.toArray.size=ds.length:=by simp;omega
            have z2:its2.toArray.size=es.length:=by simp;omega
            rw[z1,z2]
            by_cases hl:ds.length=es.length
            · rw[D.lr,decide_eq_true hl,Bool.true_and,hl,Nat.min_self,beq_self_eq_true,Bool.and_true]
              all_goals rfl
            · rw[D.oY hl]
              have:(ds.length == es.length)=false:=beq_eq_false_iff_ne.mpr hl
              rw[this,Bool.and_false]
          rw[e3]
          exact key
def FF (ds es:List D) (i:Nat):Bool:=match ds[i]?,es[i]? with | some x,some y=>D.eqb x y | _,_=>false
theorem yN {X:Cx}{pins:List (Addr × Obj)}{σ:St}{H:Hp}{s:Shared} (I:Inv X pins σ H s) {A:Around}{ds es:List D}{xs ys:List V}{f g:List Addr}{its its2:List Value} (hd:Rfs H ds xs f) (he:Rfs H es ys g) (rv:Vals xs its) (rv2:Vals ys its2)
    (pd:D.dG ds=true) (pe:D.dG es=true) (hu:A.units+1+D.eA ds<cLine):∀j (h1:j<its.toArray.size) (h2:j<its2.toArray.size),EqAt A.in1 s its.toArray[j] its2.toArray[j] (FF ds es j):=by
  intro j h1 h2
  have l1:=rv.length
  have l2:=rv2.length
  have m1:=hd.length
  have m2:=he.length
  have j1:j<ds.length:=by simp at h1;omega
  have j2:j<es.length:=by simp at h2;omega
  unfold FF
  simp only[List.getElem?_eq_getElem j1,List.getElem?_eq_getElem j2]
  obtain ⟨v1,f1,q1,r1,_⟩:=hd.get (List.getElem?_eq_getElem j1)
  obtain ⟨v2,f2,q2,r2,_⟩:=he.get (List.getElem?_eq_getElem j2)
  obtain ⟨u1,p1,t1⟩:=rv.get q1
  obtain ⟨u2,p2,t2⟩:=rv2.get q2
  have i1:its.toArray[j]=u1:=by
    obtain ⟨_,z⟩:=List.getElem?_eq_some_iff.mp p1
    simpa using z
  have i2:its2.toArray[j]=u2:=by
    obtain ⟨_,z⟩:=List.getElem?_eq_some_iff.mp p2
    simpa using z
  rw[i1,i2]
  exact Jd I _ _ _ v1 v2 u1 u2 A.in1 (D.km (List.getElem?_eq_getElem j1)) ⟨_,r1⟩ ⟨_,r2⟩ t1 t2 (D.fU pd (List.getElem?_eq_getElem j1)) (D.fU pe (List.getElem?_eq_getElem j2)) hu
theorem tL {ds es:List D} (hl:ds.length=es.length):D.jL ds es=(List.range ds.length).all (FF ds es):=by
  rw[D.lr,decide_eq_true hl,Bool.true_and]
  rfl
section
variable {X:Cx}
def Ej (neg:Bool):R2:=fun x y H Q=>∃ds es,Rp H (.lst ds) x∧Rp H (.lst es) y∧D.dG ds=true∧D.dG es=true∧D.eA ds≤60∧Q (.bl (if neg then !D.jL ds es else D.jL ds es)) H
theorem qA (hu:X.A.units+64<cLine):OpR X (compareOp .Eq) (Ej false):=by
  intro pins s σ H x y v u Q I rx ry h
  obtain ⟨ds,es,⟨f,a,xs,fq,rfl,e1,rfl,hd⟩,⟨g,b,ys,gq,rfl,e2,rfl,he⟩,pd,pe,hdp,q⟩:=h
  obtain rfl:v=.ref a:=rx
  obtain rfl:u=.ref b:=ry
  obtain ⟨its,rv,pl,hz⟩:=I.list (SqL.of e1)
  obtain ⟨its2,rv2,pl2,hz2⟩:=I.list (SqL.of e2)
  have l1:=rv.length
  have l2:=rv2.length
  have m1:=hd.length
  have m2:=he.length
  by_cases hl:ds.length=es.length
  · refine eq_listAt pl.isList pl2.isList (by simp;omega) (by omega) (yN I hd he rv rv2 pd pe (by omega)) (bJ I q ?_)
    rw[tL hl,show its.toArray.size=ds.length by simp;omega]
    all_goals rfl
  · refine eq_list_lengthsAt pl.isList pl2.isList (by simp;omega) (by omega) (bJ I q ?_)
    rw[D.oY hl]
    all_goals rfl
theorem Ab (hu:X.A.units+64<cLine):OpR X (compareOp .NotEq) (Ej true):=by
  intro pins s σ H x y v u Q I rx ry h
  obtain ⟨ds,es,⟨f,a,xs,fq,rfl,e1,rfl,hd⟩,⟨g,b,ys,gq,rfl,e2,rfl,he⟩,pd,pe,hdp,q⟩:=h
  obtain rfl:v=.ref a:=rx
  obtain rfl:u=.ref b:=ry
  obtain ⟨its,rv,pl,hz⟩:=I.list (SqL.of e1)
  obtain ⟨its2,rv2,pl2,hz2⟩:=I.list (SqL.of e2)
  have l1:=rv.length
  have l2:=rv2.length
  have m1:=hd.length
  have m2:=he.length
  by_cases hl:ds.length=es.length
  · refine RcNeAt.lists pl.isList pl2.isList (by simp;omega) (by omega) (yN I hd he rv rv2 pd pe (by omega)) _ _ _ _ (bJ I q ?_)
    rw[tL hl,show its.toArray.size=ds.length by simp;omega]
    all_goals rfl
  · refine RcNeAt.lists_lengths pl.isList pl2.isList (by simp;omega) (by omega) _ _ _ _ (bJ I q ?_)
    rw[D.oY hl]
    all_goals rfl
end
theorem D.jl:∀(xs:List Int),D.dG (xs.map D.int)=true
  | []=>rfl
  | x::xs=>by rw[List.map_cons,D.dG,D.jl xs];rfl
theorem D.mK:∀(t:List (List Int)),D.dG (t.map dI)=true
  | []=>rfl
  | x::xs=>by rw[List.map_cons,D.dG,D.mK xs,D.plain,D.jl];rfl
theorem D.kK:∀(xs:List Int),D.eA (xs.map D.int)=0
  | []=>rfl
  | x::xs=>by rw[List.map_cons,D.eA,D.kK xs];rfl
theorem D.qZ:∀(t:List (List Int)),D.eA (t.map dI)≤1
  | []=>by rw[List.map_nil,D.eA];omega
  | x::xs=>by
    have:=D.qZ xs
    rw[List.map_cons,D.eA,D.depth,D.kK]
    exact Nat.max_le.mpr ⟨Nat.le_refl _,this⟩
theorem D.nG:∀(xs ys:List Int),D.jL (xs.map D.int) (ys.map D.int)=decide (xs=ys)
  | [],[]=>rfl
  | [],y::ys=>rfl
  | x::xs,[]=>rfl
  | x::xs,y::ys=>by
    rw[List.map_cons,List.map_cons,D.jL,D.nG xs ys,D.eqb]
    by_cases h:x=y
    · subst h;simp
    · have:(x == y)=false:=beq_eq_false_iff_ne.mpr h
      simp [this,h]
theorem D.v3:∀(xs ys:List (List Int)),D.jL (xs.map dI) (ys.map dI)=decide (xs=ys)
  | [],[]=>rfl
  | [],y::ys=>rfl
  | x::xs,[]=>rfl
  | x::xs,y::ys=>by
    rw[List.map_cons,List.map_cons,D.jL,D.v3 xs ys,D.eqb,D.nG]
    by_cases h:x=y
    · subst h;simp
    · simp [h]
def JV (i j:Int):Prop:=∃m n:Nat,i.natAbs<2 ^ m∧j.natAbs<2 ^ n∧m+n≤100000000
def Ei (i j:Int):Prop:=0<j∧∃m:Nat,j.natAbs<2 ^ m∧m≤9000
section
variable {X:Cx}
theorem nO:OpR X (binaryOp .Mult) (rI JV fun i j=>.int (i*j)):=opI fun i j _ _ _ _ _ hc q=>by
  obtain ⟨m,n,h1,h2,h3⟩:=hc
  exact mul_int q (mulOk_of_bits (intBits_le h1) (intBits_le h2) (by omega))
theorem iO:OpR X (binaryOp .FloorDiv) (rI Ei fun i j=>.int (i / j)):=opI fun i j _ _ _ _ _ hc q=>by
  obtain ⟨h0,m,h1,h2⟩:=hc
  have hj:j.natAbs≠0:=by omega
  refine floordiv_int (by omega) ?_ (.inl (PyProof.noPylong_of_log2 (Nat.lt_of_lt_of_le ((Nat.log2_lt hj).mpr h1) h2)))
  rw[Int.fdiv_eq_ediv_of_nonneg i (by omega)]
  exact q
end
def ue:List Str→Bool
  | []=>true
  | x::xs=>!xs.contains x && ue xs
theorem aO:∀{l:List Str},ue l=true→l.Nodup
  | [],_=>List.nodup_nil
  | x::xs,h=>by
    rw[ue,Bool.and_eq_true,Bool.not_eq_true'] at h
    refine List.nodup_cons.mpr ⟨fun z=>?_,aO h.2⟩
    have:=List.contains_iff_mem.mpr z
    rw[this] at h
    exact absurd h.1 (by decide)
def EW (sc0 scope:Scope) (tn cap:List Str):Bool :=
  decide (scope.kind=.function) && ue (scope.names.map (·.1)) && ue (tn++cap) && cap.all (fun y=>decide (scope.names.lookup y=some .free)) &&
    scope.names.all fun y=>!decide (y.2=.free) || (decide (sc0.names.lookup y.1=some .cell) || decide (sc0.names.lookup y.1=some .free))
theorem aL.of {X:Cx}{sc0 scope:Scope}{tn cap:List Str}{idx:List Nat} (h:EW sc0 scope tn cap=true) (e:X.env.scope=sc0) (ci:idx.map (fun i=>X.N[i]?)=cap.map some):aL X scope tn cap idx:=by
  unfold EW at h
  simp only[Bool.and_eq_true,decide_eq_true_eq,List.all_eq_true,Bool.or_eq_true,Bool.not_eq_true',decide_eq_false_iff_not] at h
  obtain ⟨⟨⟨⟨h1,h2⟩,h3⟩,h4⟩,h5⟩:=h
  refine⟨h1,aO h2,aO h3,h4,ci,fun y hy hf=>?_⟩
  rw[e]
  rcases h5 y hy with z | z
  · exact absurd hf z
  · exact z
structure FnAt (K:PySem.W.Frag) (mg:Str→Option Value) (x:Str) (st:Stmt) (ps:List Str) (f:Addr) (fd:FuncData):Prop where
  fn:Fun K x x st f fd
  mg:mg x=some (.ref f)
  bd:Binds K fd ps []
end L2
namespace L2
open PySem PySem.Spec PyProof.Rows
theorem small {n:Nat} (h:n≤100000):n≤sizeLine:=Nat.le_trans h (by rw[sizeLine_eq];decide)
section
variable {X:Cx}{K:PySem.W.Frag}
theorem aw (h:X.K=K):IxR X (DR K):=by subst h;exact Gy
theorem aZ (h:X.K=K):IxR X (C8 K):=by subst h;exact IW
theorem bc {tg l:Expr}{tl:TE} (h:X.K=K) (hl:PE X l tl):PI X tg l (Fu K tl):=by subst h;exact Gg hl
theorem aR (h:X.K=K):iQ X (.builtin "len") (fun xs H Q=>∃p ys,xs=[.ref p]∧(SqL K H p ys∨SqT K H p ys)∧Q (.int ys.length) H):=by subst h;exact wD
theorem eg (h:X.K=K):iQ X (.builtin "isinstance") (fun xs H Q=>∃x n t b,xs=[x,.ty n]∧nV K H x t∧PySem.W.kitOne K t (.type n)=some b∧Q (.bl b) H):=by subst h;exact xI
theorem iZ (h:X.K=K) (hc:X.calm=true):iQ X (.builtin "sum") (fun xs H Q=>∃(a:Addr) (ns:List Int),xs=[.ref a]∧SqL K H a (ns.map V.int)∧Q (.int ns.sum) H):=by subst h;exact DV hc
theorem gP (h:X.K=K):iQ X (.type "list") (fun xs H Q=>∃p ys,xs=[.ref p]∧(SqL K H p ys∨SqT K H p ys)∧∀l,H l=none→Q (.ref l) (upd H l (.lst ys))):=by subst h;exact wR
theorem ke (h:X.K=K):SlR X (Ik K):=by subst h;exact FR
theorem CD (h:X.K=K):OpR X (compareOp .NotIn) (rIn K true):=by subst h;exact wN
theorem Bz {es:List Expr}{k:Nat}{t:TGs}{n:Nat}{pos:Pos} (h:X.K=K) (hc:X.calm=true) (ht:PGs X es t)
    (hn:(assignEach es X.env).length=n:=by rfl) (hst:(assignEach es X.env).findIdx? (·.1)=none:=by rfl):PG X (.Tuple es k pos) (GR K n t):=by subst h;exact IX hc ht hn hst
end
structure Et (H H':Hp) (bs:List Addr):Prop where
  keep:∀b o,H b=some o→b∉bs→H' b=some o
  there:∀b∈bs,∃xs,H' b=some (.lst xs)
theorem Et.clear {H H':Hp}{bs:List Addr}{c:Addr}{xs:List V} (s:Et H H' bs) (hc:c∈bs):Et H (L2.upd H' c (.lst xs)) bs :=
  ⟨fun b o e hb=>by rw[aV (fun z=>hb (by rw[z];exact hc))];exact s.keep b o e hb,fun b hb=>by
    by_cases z:b=c
    · subst z;exact⟨_,aG⟩
    · rw[aV z];exact s.there b hb⟩
theorem p7 {K:PySem.W.Frag}{n:String}:PySem.W.kitOne K (.type n) (.type n)=some true:=by unfold PySem.W.kitOne;rw[if_pos (beq_self_eq_true _)]
end L2
namespace L2
open PySem PySem.Spec PyProof.Rows
def En (X:Cx) (f:Value) (ks:List Str) (r:List V→List V→Hp→VK→Prop):Prop :=
  ∀(pins:List (Addr × Obj)) (s:Shared) (σ:St) (H:Hp) (xs zs:List V) (us ws:List Value) (Q:VK),Inv X pins σ H s→Vals xs us→Vals zs ws→r xs zs H Q →
    wpAny (model X.prog X.w) X.A (call f us (ks.zip ws)) (EP X pins σ Q) X.xe s
section
variable {X:Cx}{x:Str}{p pos:Pos}{e:Expr}{es:List Expr}{kws:List Keyword}{t tk:TA}{id:String}{ks:List Str}{r:List V→List V→Hp→VK→Prop}
def JC (r:List V→List V→Hp→VK→Prop) (t tk:TA):TE:=fun σ H Q=>t σ H fun vs H1=>tk σ H1 fun zs H2=>r vs zs H2 Q
theorem CF (hc:En X (.builtin id) ks r) (hg:Gl X x) (hm:X.mg x=none) (hv:bootBuiltins x=some (.builtin id)) (ha:PA X (e::es) t) (hkw:PK X kws tk) (hks:(backToKw pos (keywordEach kws X.env)).filterMap (·.1)=ks:=by rfl) (hn:x≠"__name__":=by decide) (hdb:(x == ("__debug__" : Str))=false:=by decide)
    (he:backTo pos (starEach (e::es) X.env)=(false,eval e X.env)::backTo pos (starEach es X.env):=by rfl) (hplain:(backTo pos (starEach (e::es) X.env)).any (·.1)=false:=by rfl) (hall:(backToKw pos (keywordEach kws X.env)).all (·.1.isSome)=true:=by rfl)
    (hkn:(backToKw pos (keywordEach kws X.env)).any (·.1.isNone)=false:=by rfl):PE X (.Call (.Name x p) (e::es) kws pos) (JC r t tk):=by
  intro pins s σ H Q I h
  refine wpAny_Call_Name_kw (lR I hg hm hv ?_ hn hdb)
  refine callWith_kw (thn (ha pos pins s σ H _ I h) fun us s1 ⟨vs,H1,I1,r1,q1⟩=>?_) he hplain hall hkn
  refine thn (hkw pos pins s1 σ H1 _ I1 q1) fun ws s2 ⟨zs,H2,I2,rz,q2⟩=>?_
  rw[hks]
  exact hc pins s2 σ H2 vs zs us ws Q I2 r1 rz q2
end
section
variable {X:Cx}{K:PySem.W.Frag}
theorem jI:∀{us:List Value}{ns:List Int},IntsAre us ns→Vals (ns.map V.int) us
  | _,_,.nil=>.nil
  | _,_,.cons n t h=>.cons ⟨t,rfl⟩ (jI h)
theorem rE (hK:X.K=K):En X (.builtin "sorted") ["reverse"] (fun xs zs H Q=>∃(a:Addr) (ns:List Int) (b:Bool),xs=[.ref a]∧zs=[.bl b]∧SqL K H a (ns.map V.int)∧ns.length<64 ∧
    ∀(l:Addr) (ms:List Int),H l=none→ms.Perm ns→Ordered b ms→Q (.ref l) (upd H l (.lst (ms.map V.int)))):=by
  subst hK
  intro pins s σ H xs zs us ws Q I r rz h
  obtain ⟨a,ns,b,rfl,rfl,hS,hz,q⟩:=h
  obtain ⟨u,rfl,ru⟩:=vals1 r
  obtain ⟨u2,rfl,ru2⟩:=vals1 rz
  obtain rfl:u=Value.ref a:=ru
  obtain rfl:u2=Value.bool b:=ru2
  obtain ⟨its,rv,pl,_⟩:=I.list hS
  have hl:=rv.length
  rw[List.length_map] at hl
  refine sorted_ints_rev pl.isList (mS rv) (by omega) fun out ms a1 a2 a3=>?_
  obtain ⟨n,he⟩:=sortedAll_at s.heap its out
  have hn:H (s.heap.objs.size+1)=none:=I.hok.fresh (Nat.le_succ _)
  have hlm:=a2.length_eq
  refine⟨.ref (s.heap.objs.size+1),_,I.laid (t':=s.toks) (o:=.lst (ms.map V.int)) (fun b o e=>sortedAll_old e) (Nat.le_succ _) ⟨?_,out.toList,n,jI a1,?_⟩,rfl,q _ ms hn a2 a3⟩
  · rw[List.length_map];exact small (by omega)
  · exact he
end
section
variable {prog:Program}{w:World}{A:Around}{E:Value→Shared→Prop}{s:Shared}
end
section
variable {X:Cx}{K:PySem.W.Frag}{e:Expr}{te:TE}{p p2 pos pos2:Pos}
end
end L2
namespace L2
open PySem PySem.Spec PyProof.Rows
def ja (ns:List Int):List Int:=ns.mergeSort fun a b=>decide (b≤a)
theorem iw (ns:List Int):(ja ns).Perm ns:=List.mergeSort_perm ns _
theorem lB (ns:List Int):(ja ns).Pairwise (·≥·):=by
  have h:=List.pairwise_mergeSort (le:=fun a b:Int=>decide (b≤a)) (fun a b c h1 h2=>by simp only[decide_eq_true_eq] at *;omega) (fun a b=>by simp only[Bool.or_eq_true,decide_eq_true_eq];omega) ns
  exact h.imp fun h=>by simpa using h
theorem AO {ms ns:List Int} (hp:ms.Perm ns) (h:ms.Pairwise (·≥·)):ms=ja ns :=
  (hp.trans (iw ns).symm).eq_of_pairwise (fun x y _ _ h1 h2=>Int.le_antisymm h2 h1) h (lB ns)
theorem cf (ns:List Int):(ja ns).length=ns.length:=(iw ns).length_eq
end L2
namespace L3
open PySem L2
inductive D where
  | non | bl (b:Bool) | int (i:Int) | str (x:Str) | lst (ds:List D) | tup (ds:List D) | dic (kvs:List (Key × V)) | dit (kvs:List (List Key × V)) | scr (ns:List Int) | pin (a:Addr) (d:D) | ins (C:Addr) (ns:List Str) (ds:List D)
def NT:HO→Prop | .tbl _=>False | _=>True
def yU:Str:="falling_places.<locals>.<lambda>"
def uT (c:Addr):HO:=.ext fun h=>h.CodeRec (.ref c) yU
def TabAt (P:Addr) (H:Hp):Prop:=∃ps,H P=some (.tbl ps)∧TriplesOk ps.toList∧∀pos cv,codeAmong pos ps.toList=some cv→∃c,cv=.ref c∧H c=some (uT c)
structure Same (H H':Hp):Prop where
  st:∀b o,H b=some o→NT o→H' b=some o
  tb:∀b ps,H b=some (.tbl ps)→∃ps',H' b=some (.tbl ps')
  ti:∀P,TabAt P H→TabAt P H'
theorem Same.refl (H:Hp):Same H H:=⟨fun _ _ h _=>h,fun _ ps h=>⟨ps,h⟩,fun _ h=>h⟩
theorem Same.trans {H H1 H2:Hp} (a:Same H H1) (b:Same H1 H2):Same H H2:=⟨fun c o h n=>b.st c o (a.st c o h n) n,fun c ps h=>let ⟨_,h1⟩:=a.tb c ps h;b.tb c _ h1,fun P h=>b.ti P (a.ti P h)⟩
theorem Same.free {H H':Hp} (e:Same H H') {l:Addr} (h:H' l=Option.none):H l=Option.none:=by
  cases q:H l with
  | none=>rfl
  | some o =>
    by_cases n:NT o
    · rw[e.st l o q n] at h;cases h
    · cases o with
      | tbl ps=>obtain ⟨ps',z⟩:=e.tb l ps q;rw[z] at h;cases h
      | _=>exact absurd trivial n
theorem Same.all {H H':Hp} (k:∀b u,H b=some u→H' b=some u):Same H H' :=
  ⟨fun b u e _=>k b u e,fun b ps e=>⟨ps,k b _ e⟩,fun P ⟨ps,e,g1,g2⟩=>⟨ps,k P _ e,g1,fun pos cv z=>let ⟨c,z1,z2⟩:=g2 pos cv z;⟨c,z1,k c _ z2⟩⟩⟩
theorem Same.mC {H:Hp}{p:Addr}{o:HO} (h:H p=none):Same H (upd H p o):=Same.all fun b u e=>by rw[aV (bG e h)];exact e
theorem Same.seq {K:PySem.W.Frag}{H H':Hp}{a:Addr}{xs:List V} (e:Same H H') (h:SqL K H a xs):SqL K H' a xs:=by
  rcases h with (h | ⟨o,h⟩) | h
  · exact .inl (.inl (e.st _ _ h trivial))
  · exact .inl (.inr ⟨o,e.st _ _ h trivial⟩)
  · exact .inr h
def uW:Addr:=207
def js (K:PySem.W.Frag) (H:Hp):Prop:=TabAt uW H
theorem js.same {K:PySem.W.Frag}{H H':Hp} (t:js K H) (s:Same H H'):js K H':=s.ti _ t
structure SB (K:PySem.W.Frag) (B H:Hp):Prop extends Same B H where
  tv:js K B
theorem SB.trans {K:PySem.W.Frag}{B H H':Hp} (a:SB K B H) (s:Same H H'):SB K B H':=⟨a.toSame.trans s,a.tv⟩
theorem SB.now {K:PySem.W.Frag}{B H:Hp} (a:SB K B H):js K H:=a.tv.same a.toSame
instance {K:PySem.W.Frag}{B H:Hp}:CoeOut (SB K B H) (Same B H):=⟨SB.toSame⟩
theorem SB.refl {K:PySem.W.Frag}{H:Hp} (t:js K H):SB K H H:=⟨Same.refl H,t⟩
def Kc (K:PySem.W.Frag) (a:Addr) (xs:List V):Prop :=
  ∃(o:Obj) (its:Array Value) (n:Nat),K.lookup a=some o∧o.cls=.type "list"∧o.dict=none∧o.data=.seq its n∧its.size≤sizeLine∧Vals xs its.toList
def Sc (K:PySem.W.Frag) (H:Hp) (a:Addr) (xs:List V):Prop:=(∃o,H a=some (.frz o (.lst xs)))∨Kc K a xs
theorem Sc.seq {K:PySem.W.Frag}{H:Hp}{a:Addr}{xs:List V} (h:Sc K H a xs):SqL K H a xs:=h.elim (fun ⟨o,h⟩=>.inl (.inr ⟨o,h⟩)) .inr
def Im (o:HO):Prop:=(∃xs,o=.tup xs)∨∃o' u,o=.frz o' u
section
variable {K:PySem.W.Frag}
mutual
def Rf (K:PySem.W.Frag) (H:Hp):D→V→List Addr→Prop
  | .non,v,fp=>v=.non∧fp=[]
  | .bl b,v,fp=>v=.bl b∧fp=[]
  | .int i,v,fp=>v=.int i∧fp=[]
  | .str x,v,fp=>v=.str x∧fp=[]
  | .lst ds,v,fp=>∃a xs fq,v=.ref a∧H a=some (.lst xs)∧fp=a::fq∧Rfs K H ds xs fq
  | .tup ds,v,fp=>∃a xs,v=.ref a∧H a=some (.tup xs)∧Rfs K H ds xs fp
  | .dic kvs,v,fp=>∃a,v=.ref a∧H a=some (.dK kvs)∧(∀p∈kvs,fG p.2=true)∧fp=[a]
  | .dit kvs,v,fp=>∃a,v=.ref a∧H a=some (.dT kvs)∧(∀p∈kvs,fG p.2=true)∧fp=[a]
  | .scr ns,v,fp=>∃a,v=.ref a∧Sc K H a (ns.map V.int)∧fp=[]
  | .pin a d,v,fp=>v=.ref a∧Rf K H d v fp
  | .ins C ns ds,v,fp=>∃a dx xs fq,v=.ref a∧H a=some (.ins C dx (ns.zip xs))∧fp=a::fq∧Rfs K H ds xs fq
def Rfs (K:PySem.W.Frag) (H:Hp):List D→List V→List Addr→Prop
  | [],xs,fp=>xs=[]∧fp=[]
  | d::ds,xs,fp=>∃x r f1 f2,xs=x::r∧fp=f1++f2∧Rf K H d x f1∧Rfs K H ds r f2
end
def Rp (K:PySem.W.Frag) (H:Hp) (d:D) (v:V):Prop:=∃fp,Rf K H d v fp
def Rps (K:PySem.W.Frag) (H:Hp) (ds:List D) (vs:List V):Prop:=∃fp,Rfs K H ds vs fp
mutual
theorem Rf.mono {H H':Hp}:∀{d:D}{v:V}{fp:List Addr},Rf K H d v fp→(∀a∈fp,∀o,H a=some o→H' a=some o)→(∀a o,H a=some o→Im o→H' a=some o)→Rf K H' d v fp
  | .non,_,_,h,_,_=>h
  | .bl _,_,_,h,_,_=>h
  | .int _,_,_,h,_,_=>h
  | .str _,_,_,h,_,_=>h
  | .lst ds,v,fp,h,k,t=>by
    obtain ⟨a,xs,fq,e1,e2,e3,h⟩:=h
    subst e3
    exact⟨a,xs,fq,e1,k a List.mem_cons_self _ e2,rfl,Rfs.mono h (fun b hb=>k b (List.mem_cons_of_mem _ hb)) t⟩
  | .tup ds,v,fp,h,k,t=>by
    obtain ⟨a,xs,e1,e2,h⟩:=h
    exact⟨a,xs,e1,t a _ e2 (.inl ⟨_,rfl⟩),Rfs.mono h k t⟩
  | .dic kvs,v,fp,h,k,t=>by
    obtain ⟨a,e1,e2,e3,e4⟩:=h
    subst e4
    exact⟨a,e1,k a List.mem_cons_self _ e2,e3,rfl⟩
  | .dit kvs,v,fp,h,k,t=>by
    obtain ⟨a,e1,e2,e3,e4⟩:=h
    subst e4
    exact⟨a,e1,k a List.mem_cons_self _ e2,e3,rfl⟩
  | .scr ns,v,fp,h,k,t=>by
    obtain ⟨a,e1,e2,e3⟩:=h
    refine⟨a,e1,?_,e3⟩
    rcases e2 with ⟨o,e2⟩ | e2
    · exact .inl ⟨o,t a _ e2 (.inr ⟨_,_,rfl⟩)⟩
    · exact .inr e2
  | .pin a d,v,fp,h,k,t=>⟨h.1,Rf.mono h.2 k t⟩
  | .ins C ns ds,v,fp,h,k,t=>by
    obtain ⟨a,dx,xs,fq,e1,e2,e3,h⟩:=h
    subst e3
    exact⟨a,dx,xs,fq,e1,k a List.mem_cons_self _ e2,rfl,Rfs.mono h (fun b hb=>k b (List.mem_cons_of_mem _ hb)) t⟩
theorem Rfs.mono {H H':Hp}:∀{ds:List D}{vs:List V}{fp:List Addr},Rfs K H ds vs fp→(∀a∈fp,∀o,H a=some o→H' a=some o)→(∀a o,H a=some o→Im o→H' a=some o)→Rfs K H' ds vs fp
  | [],_,_,h,_,_=>h
  | d::ds,vs,fp,h,k,t=>by
    obtain ⟨x,r,f1,f2,e1,e2,h1,h2⟩:=h
    subst e2
    exact⟨x,r,f1,f2,e1,rfl,Rf.mono h1 (fun b hb=>k b (List.mem_append_left _ hb)) t,Rfs.mono h2 (fun b hb=>k b (List.mem_append_right _ hb)) t⟩
end
mutual
theorem Rf.n6 {H H':Hp}:∀{d:D}{v:V}{fp:List Addr},Rf K H d v fp→(∀a∈fp,∀o,H a=some o→NT o→H' a=some o)→(∀a o,H a=some o→Im o→H' a=some o)→Rf K H' d v fp
  | .non,_,_,h,_,_=>h
  | .bl _,_,_,h,_,_=>h
  | .int _,_,_,h,_,_=>h
  | .str _,_,_,h,_,_=>h
  | .lst ds,v,fp,h,k,t=>by
    obtain ⟨a,xs,fq,e1,e2,e3,h⟩:=h
    subst e3
    exact⟨a,xs,fq,e1,k a List.mem_cons_self _ e2 trivial,rfl,Rfs.n6 h (fun b hb=>k b (List.mem_cons_of_mem _ hb)) t⟩
  | .tup ds,v,fp,h,k,t=>by
    obtain ⟨a,xs,e1,e2,h⟩:=h
    exact⟨a,xs,e1,t a _ e2 (.inl ⟨_,rfl⟩),Rfs.n6 h k t⟩
  | .dic kvs,v,fp,h,k,t=>by
    obtain ⟨a,e1,e2,e3,e4⟩:=h
    subst e4
    exact⟨a,e1,k a List.mem_cons_self _ e2 trivial,e3,rfl⟩
  | .dit kvs,v,fp,h,k,t=>by
    obtain ⟨a,e1,e2,e3,e4⟩:=h
    subst e4
    exact⟨a,e1,k a List.mem_cons_self _ e2 trivial,e3,rfl⟩
  | .scr ns,v,fp,h,k,t=>by
    obtain ⟨a,e1,e2,e3⟩:=h
    refine⟨a,e1,?_,e3⟩
    rcases e2 with ⟨o,e2⟩ | e2
    · exact .inl ⟨o,t a _ e2 (.inr ⟨_,_,rfl⟩)⟩
    · exact .inr e2
  | .pin a d,v,fp,h,k,t=>⟨h.1,Rf.n6 h.2 k t⟩
  | .ins C ns ds,v,fp,h,k,t=>by
    obtain ⟨a,dx,xs,fq,e1,e2,e3,h⟩:=h
    subst e3
    exact⟨a,dx,xs,fq,e1,k a List.mem_cons_self _ e2 trivial,rfl,Rfs.n6 h (fun b hb=>k b (List.mem_cons_of_mem _ hb)) t⟩
theorem Rfs.n6 {H H':Hp}:∀{ds:List D}{vs:List V}{fp:List Addr},Rfs K H ds vs fp→(∀a∈fp,∀o,H a=some o→NT o→H' a=some o)→(∀a o,H a=some o→Im o→H' a=some o)→Rfs K H' ds vs fp
  | [],_,_,h,_,_=>h
  | d::ds,vs,fp,h,k,t=>by
    obtain ⟨x,r,f1,f2,e1,e2,h1,h2⟩:=h
    subst e2
    exact⟨x,r,f1,f2,e1,rfl,Rf.n6 h1 (fun b hb=>k b (List.mem_append_left _ hb)) t,Rfs.n6 h2 (fun b hb=>k b (List.mem_append_right _ hb)) t⟩
end
theorem Rf.same {H H':Hp}{d:D}{v:V}{fp:List Addr} (h:Rf K H d v fp) (s:Same H H'):Rf K H' d v fp:=h.n6 (fun a _ o e n=>s.st a o e n) fun a o e i=>s.st a o e (by rcases i with ⟨_,rfl⟩ | ⟨_,_,rfl⟩<;>trivial)
theorem Rfs.same {H H':Hp}{d:List D}{v:List V}{fp:List Addr} (h:Rfs K H d v fp) (s:Same H H'):Rfs K H' d v fp:=h.n6 (fun a _ o e n=>s.st a o e n) fun a o e i=>s.st a o e (by rcases i with ⟨_,rfl⟩ | ⟨_,_,rfl⟩<;>trivial)
theorem Rp.same {H H':Hp}{d:D}{v:V} (h:Rp K H d v) (s:Same H H'):Rp K H' d v:=let ⟨fp,h⟩:=h;⟨fp,h.same s⟩
mutual
theorem Rf.dom {H:Hp}:∀{d:D}{v:V}{fp:List Addr},Rf K H d v fp→∀a∈fp,∃o,H a=some o∧¬ Im o
  | .non,_,_,h,a,ha=>by obtain ⟨_,rfl⟩:=h;nomatch ha
  | .bl _,_,_,h,a,ha=>by obtain ⟨_,rfl⟩:=h;nomatch ha
  | .int _,_,_,h,a,ha=>by obtain ⟨_,rfl⟩:=h;nomatch ha
  | .str _,_,_,h,a,ha=>by obtain ⟨_,rfl⟩:=h;nomatch ha
  | .lst ds,v,fp,h,b,hb=>by
    obtain ⟨a,xs,fq,e1,e2,e3,h⟩:=h
    subst e3
    rcases List.mem_cons.mp hb with e | hb
    · subst e;exact⟨_,e2,fun z=>by rcases z with ⟨_,z⟩ | ⟨_,_,z⟩<;>cases z⟩
    · exact Rfs.dom h b hb
  | .tup ds,v,fp,h,b,hb=>by
    obtain ⟨a,xs,e1,e2,h⟩:=h
    exact Rfs.dom h b hb
  | .dic kvs,v,fp,h,b,hb=>by
    obtain ⟨a,e1,e2,e3,e4⟩:=h
    subst e4
    cases List.mem_singleton.mp hb
    exact⟨_,e2,fun z=>by rcases z with ⟨_,z⟩ | ⟨_,_,z⟩<;>cases z⟩
  | .dit kvs,v,fp,h,b,hb=>by
    obtain ⟨a,e1,e2,e3,e4⟩:=h
    subst e4
    cases List.mem_singleton.mp hb
    exact⟨_,e2,fun z=>by rcases z with ⟨_,z⟩ | ⟨_,_,z⟩<;>cases z⟩
  | .scr ns,v,fp,h,b,hb=>by
    obtain ⟨a,e1,e2,e3⟩:=h
    subst e3;nomatch hb
  | .pin a d,v,fp,h,b,hb=>Rf.dom h.2 b hb
  | .ins C ns ds,v,fp,h,b,hb=>by
    obtain ⟨a,dx,xs,fq,e1,e2,e3,h⟩:=h
    subst e3
    rcases List.mem_cons.mp hb with e | hb
    · subst e;exact⟨_,e2,fun z=>by rcases z with ⟨_,z⟩ | ⟨_,_,z⟩<;>cases z⟩
    · exact Rfs.dom h b hb
theorem Rfs.dom {H:Hp}:∀{ds:List D}{vs:List V}{fp:List Addr},Rfs K H ds vs fp→∀a∈fp,∃o,H a=some o∧¬ Im o
  | [],_,_,h,a,ha=>by obtain ⟨_,rfl⟩:=h;nomatch ha
  | d::ds,vs,fp,h,b,hb=>by
    obtain ⟨x,r,f1,f2,e1,e2,h1,h2⟩:=h
    subst e2
    rcases List.mem_append.mp hb with hb | hb
    · exact Rf.dom h1 b hb
    · exact Rfs.dom h2 b hb
end
theorem Rf.upd {H:Hp}{d:D}{v:V}{fp:List Addr}{l:Addr}{o:HO} (h:Rf K H d v fp) (hl:l∉fp) (hm:∀o,H l=some o→¬ Im o):Rf K (upd H l o) d v fp :=
  h.mono (fun a ha u e=>by rw[aV (fun z=>hl (by rw[← z];exact ha))];exact e) fun a o e i=>by rw[aV (fun z=>hm o (by rw[← z];exact e) i)];exact e
theorem Rfs.upd {H:Hp}{d:List D}{v:List V}{fp:List Addr}{l:Addr}{o:HO} (h:Rfs K H d v fp) (hl:l∉fp) (hm:∀o,H l=some o→¬ Im o):Rfs K (upd H l o) d v fp :=
  h.mono (fun a ha u e=>by rw[aV (fun z=>hl (by rw[← z];exact ha))];exact e) fun a o e i=>by rw[aV (fun z=>hm o (by rw[← z];exact e) i)];exact e
theorem Rfs.length {H:Hp}:∀{ds:List D}{vs:List V}{fp:List Addr},Rfs K H ds vs fp→vs.length=ds.length
  | [],_,_,h=>by obtain ⟨rfl,_⟩:=h;rfl
  | d::ds,vs,fp,h=>by
    obtain ⟨x,r,f1,f2,e1,e2,h1,h2⟩:=h
    subst e1
    rw[List.length_cons,List.length_cons,Rfs.length h2]
theorem Rfs.append {H:Hp}:∀{ds es:List D}{vs ws:List V}{fp fq:List Addr},Rfs K H ds vs fp→Rfs K H es ws fq→Rfs K H (ds++es) (vs++ws) (fp++fq)
  | [],es,vs,ws,fp,fq,h,h'=>by obtain ⟨rfl,rfl⟩:=h;exact h'
  | d::ds,es,vs,ws,fp,fq,h,h'=>by
    obtain ⟨x,r,f1,f2,rfl,rfl,h1,h2⟩:=h
    exact⟨x,r++ws,f1,f2++fq,rfl,List.append_assoc ..,h1,Rfs.append h2 h'⟩
theorem Rfs.one {H:Hp}{d:D}{v:V}{fp:List Addr} (h:Rf K H d v fp):Rfs K H [d] [v] fp:=⟨v,[],fp,[],rfl,(List.append_nil _).symm,h,rfl,rfl⟩
theorem Rfs.get {H:Hp}:∀{ds:List D}{vs:List V}{fp:List Addr}{i:Nat}{d:D},Rfs K H ds vs fp→ds[i]?=some d→∃v f,vs[i]?=some v∧Rf K H d v f∧(∀a∈f,a∈fp)
  | [],_,_,_,_,_,e=>by simp at e
  | d::ds,vs,fp,0,d',h,e=>by
    obtain ⟨x,r,f1,f2,rfl,rfl,h1,h2⟩:=h
    simp at e;subst e
    exact⟨x,f1,rfl,h1,fun a ha=>List.mem_append_left _ ha⟩
  | d::ds,vs,fp,i+1,d',h,e=>by
    obtain ⟨x,r,f1,f2,rfl,rfl,h1,h2⟩:=h
    obtain ⟨v,f,e1,h3,k⟩:=Rfs.get (i:=i) h2 (by simpa using e)
    exact⟨v,f,by simpa using e1,h3,fun a ha=>List.mem_append_right _ (k a ha)⟩
theorem Rfs.get' {H:Hp}{ds:List D}{vs:List V}{fp:List Addr}{i:Nat}{v:V} (h:Rfs K H ds vs fp) (e:vs[i]?=some v):∃d f,ds[i]?=some d∧Rf K H d v f∧(∀a∈f,a∈fp):=by
  have hl:=h.length
  obtain ⟨hi,_⟩:=List.getElem?_eq_some_iff.mp e
  have hi':i<ds.length:=by omega
  obtain ⟨v',f,e1,h1,k⟩:=h.get (d:=ds[i]) (List.getElem?_eq_getElem hi')
  rw[e] at e1;cases e1
  exact⟨ds[i],f,List.getElem?_eq_getElem hi',h1,k⟩
def D.aW:D→Bool
  | .non=>true | .bl _=>true | .int _=>true | .str _=>true | _=>false
def D.toV:D→V
  | .non=>.non | .bl b=>.bl b | .int i=>.int i | .str x=>.str x | _=>.non
theorem Rf.aW {H:Hp}{d:D}{v:V}{fp:List Addr} (h:Rf K H d v fp) (s:d.aW=true):v=d.toV∧fp=[]:=by
  cases d<;>first | exact h | cases s
theorem Rf.xr {H:Hp}{d:D} (s:d.aW=true):Rf K H d d.toV []:=by
  cases d<;>first | exact⟨rfl,rfl⟩ | cases s
theorem Rp.int {H:Hp}{i:Int}{v:V} (h:Rp K H (.int i) v):v=.int i:=h.choose_spec.1
theorem Rp.bl {H:Hp}{i:Bool}{v:V} (h:Rp K H (.bl i) v):v=.bl i:=h.choose_spec.1
theorem Rfs.j8 {H:Hp}:∀{ds:List D}{vs:List V}{fp:List Addr},Rfs K H ds vs fp→ds.all D.aW=true→vs=ds.map D.toV∧fp=[]
  | [],vs,fp,h,_=>h
  | d::ds,vs,fp,h,s=>by
    obtain ⟨x,r,f1,f2,rfl,rfl,h1,h2⟩:=h
    simp only[List.all_cons,Bool.and_eq_true] at s
    obtain ⟨rfl,rfl⟩:=h1.aW s.1
    obtain ⟨rfl,rfl⟩:=Rfs.j8 h2 s.2
    exact⟨rfl,rfl⟩
theorem Rfs.w4 {H:Hp}:∀{ds:List D},ds.all D.aW=true→Rfs K H ds (ds.map D.toV) []
  | [],_=>⟨rfl,rfl⟩
  | d::ds,s=>by
    simp only[List.all_cons,Bool.and_eq_true] at s
    exact⟨_,_,[],[],rfl,rfl,Rf.xr s.1,Rfs.w4 s.2⟩
def D.items:D→Option (List D)
  | .lst ds=>some ds | .scr ns=>some (ns.map D.int) | _=>none
theorem Rfs.ofInts {H:Hp}:∀{ns:List Int},Rfs K H (ns.map D.int) (ns.map V.int) []
  | []=>⟨rfl,rfl⟩
  | n::ns=>⟨_,_,[],[],rfl,rfl,⟨rfl,rfl⟩,Rfs.ofInts⟩
theorem Rf.seq {H:Hp}{d:D}{ds:List D}{v:V}{fp:List Addr} (h:Rf K H d v fp) (e:d.items=some ds):∃a xs fq,v=.ref a∧SqL K H a xs∧Rfs K H ds xs fq∧∀b∈fq,b∈fp:=by
  cases d with
  | lst es =>
    cases e
    obtain ⟨a,xs,fq,e1,e2,rfl,h⟩:=h
    exact⟨a,xs,fq,e1,.inl (.inl e2),h,fun b hb=>List.mem_cons_of_mem _ hb⟩
  | scr ns =>
    cases e
    obtain ⟨a,e1,e2,e3⟩:=h
    exact⟨a,_,[],e1,e2.seq,Rfs.ofInts,fun b hb=>nomatch hb⟩
  | _=>cases e
theorem Rp.seq {H:Hp}{d:D}{ds:List D}{v:V} (h:Rp K H d v) (e:d.items=some ds):∃a xs fq,v=.ref a∧SqL K H a xs∧Rfs K H ds xs fq :=
  let ⟨_,h⟩:=h;let ⟨a,xs,fq,h1,h2,h3,_⟩:=h.seq e;⟨a,xs,fq,h1,h2,h3⟩
theorem Rp.tup {H:Hp}{ds:List D}{v:V} (h:Rp K H (.tup ds) v):∃a xs fq,v=.ref a∧SqT K H a xs∧Rfs K H ds xs fq:=by
  obtain ⟨fp,a,xs,e1,e2,h⟩:=h
  exact⟨a,xs,fp,e1,.inl (.inl e2),h⟩
def Mu (H:Hp) (a:Addr):Prop:=(∃xs,H a=some (.lst xs))∨(∃kvs,H a=some (.dK kvs))∨(∃kvs,H a=some (.dT kvs))∨∃C dx fs,H a=some (.ins C dx fs)
theorem Mu.same {H H':Hp}{a:Addr} (h:Mu H a) (s:Same H H'):Mu H' a:=by
  rcases h with ⟨x,h⟩ | ⟨x,h⟩ | ⟨x,h⟩ | ⟨C,dx,fs,h⟩
  · exact .inl ⟨x,s.st _ _ h trivial⟩
  · exact .inr (.inl ⟨x,s.st _ _ h trivial⟩)
  · exact .inr (.inr (.inl ⟨x,s.st _ _ h trivial⟩))
  · exact .inr (.inr (.inr ⟨C,dx,fs,s.st _ _ h trivial⟩))
theorem Mu.some {H:Hp}{a:Addr} (h:Mu H a):H a≠none:=by
  rcases h with ⟨x,h⟩ | ⟨x,h⟩ | ⟨x,h⟩ | ⟨C,dx,fs,h⟩<;>rw[h]<;>intro z<;>cases z
theorem Mu.yh {H:Hp}{a:Addr} (h:Mu H a):∀o,H a=Option.some o→¬ Im o:=by
  rcases h with ⟨x,h⟩ | ⟨x,h⟩ | ⟨x,h⟩ | ⟨C,dx,fs,h⟩<;>rw[h]<;>intro o e z<;>cases e<;>rcases z with ⟨_,z⟩ | ⟨_,_,z⟩<;>cases z
theorem Mu.upd {H:Hp}{a l:Addr}{o:HO} (h:Mu H a) (ho:(∃xs,o=.lst xs)∨(∃xs,o=.dK xs)∨(∃xs,o=.dT xs)∨∃C dx fs,o=.ins C dx fs):Mu (upd H l o) a:=by
  by_cases e:a=l
  · subst e
    rcases ho with ⟨xs,rfl⟩ | ⟨xs,rfl⟩ | ⟨xs,rfl⟩ | ⟨C,dx,fs,rfl⟩
    · exact .inl ⟨xs,aG⟩
    · exact .inr (.inl ⟨xs,aG⟩)
    · exact .inr (.inr (.inl ⟨xs,aG⟩))
    · exact .inr (.inr (.inr ⟨C,dx,fs,aG⟩))
  · unfold Mu
    rw[aV e]
    exact h
abbrev Dl:=List (Option D)
structure Ok (K:PySem.W.Frag) (B0:Hp) (Γ:List Nat) (fps:Nat→List Addr) (δ:Dl) (σ:St) (H:Hp):Prop where
  len:σ.length=δ.length
  b0:SB K B0 H
  val:∀i d,δ[i]?=some (some d)→∃v,σ[i]?=some (some v)∧Rf K H d v (fps i)
  non:∀i,(∀d,δ[i]?≠some (some d))→fps i=[]
  own:∀i∈Γ,(fps i).Nodup∧∀a∈fps i,B0 a=none∧Mu H a
  dj:∀i∈Γ,∀j,j≠i→∀a∈fps i,a∉fps j
variable {B0:Hp}{Γ:List Nat}{fps:Nat→List Addr}{δ:Dl}{σ:St}{H H':Hp}
theorem Ok.same (o:Ok K B0 Γ fps δ σ H) (s:Same H H'):Ok K B0 Γ fps δ σ H' :=
  ⟨o.len,o.b0.trans s,fun i d e=>let ⟨v,h1,h2⟩:=o.val i d e;⟨v,h1,h2.same s⟩,o.non,fun i hi=>⟨(o.own i hi).1,fun a ha=>⟨((o.own i hi).2 a ha).1,((o.own i hi).2 a ha).2.same s⟩⟩,o.dj⟩
theorem Ok.sub {Γ':List Nat} (o:Ok K B0 Γ fps δ σ H) (h:∀i∈Γ',i∈Γ):Ok K B0 Γ' fps δ σ H :=
  ⟨o.len,o.b0,o.val,o.non,fun i hi=>o.own i (h i hi),fun i hi=>o.dj i (h i hi)⟩
theorem Ok.dom (o:Ok K B0 Γ fps δ σ H) {i:Nat}{a:Addr} (h:a∈fps i):H a≠none:=by
  by_cases e:∃d,δ[i]?=some (some d)
  · obtain ⟨d,e⟩:=e
    obtain ⟨v,_,r⟩:=o.val i d e
    obtain ⟨u,hu,_⟩:=r.dom a h
    rw[hu];intro z;cases z
  · rw[o.non i (fun d z=>e ⟨d,z⟩)] at h
    nomatch h
structure Nw (H H':Hp) (fps:Nat→List Addr) (M:List Nat) (fp:List Addr):Prop where
  nd:fp.Nodup
  mu:∀a∈fp,Mu H' a
  src:∀a∈fp,H a=none∨∃j∈M,a∈fps j
theorem Nw.nil {M:List Nat}:Nw H H' fps M []:=⟨List.nodup_nil,fun _ h=>(nomatch h),fun _ h=>(nomatch h)⟩
theorem Nw.later {H1:Hp}{M:List Nat}{fp:List Addr} (n:Nw H1 H' fps M fp) (s:Same H H1):Nw H H' fps M fp :=
  ⟨n.nd,n.mu,fun a ha=>(n.src a ha).elim (fun z=>.inl (s.free z)) .inr⟩
theorem Nw.same {H1:Hp}{M:List Nat}{fp:List Addr} (n:Nw H H' fps M fp) (s:Same H' H1):Nw H H1 fps M fp:=⟨n.nd,fun a ha=>(n.mu a ha).same s,n.src⟩
theorem Nw.any {fps':Nat→List Addr}{fp:List Addr} (n:Nw H H' fps [] fp):Nw H H' fps' [] fp:=⟨n.nd,n.mu,fun a ha=>(n.src a ha).elim .inl fun ⟨_,h,_⟩=>nomatch h⟩
theorem Nw.fresh {fp:List Addr} (n:Nw H H' fps [] fp):∀a∈fp,H a=none:=fun a ha=>(n.src a ha).elim id fun ⟨_,h,_⟩=>nomatch h
def kill (M:List Nat) (δ:Dl):Dl:=M.foldl (fun δ j=>δ.set j none) δ
theorem jm:∀{M:List Nat}{δ:Dl},(kill M δ).length=δ.length
  | [],_=>rfl
  | j::M,δ=>by rw[kill,List.foldl_cons];exact (jm (M:=M)).trans (by simp)
theorem ur:∀{M:List Nat}{δ:Dl}{i:Nat}{d:D},(kill M δ)[i]?=some (some d)↔i∉M∧δ[i]?=some (some d)
  | [],_,_,_=>by simp [kill]
  | j::M,δ,i,d=>by
    rw[kill,List.foldl_cons]
    have:=ur (M:=M) (δ:=δ.set j none) (i:=i) (d:=d)
    rw[kill] at this
    rw[this,List.mem_cons]
    by_cases e:i=j
    · subst e
      simp [List.getElem?_set]
    · rw[List.getElem?_set_ne (Ne.symm e)]
      simp [e]
def minus (Γ M:List Nat):List Nat:=Γ.filter fun i=>!M.contains i
theorem dO {Γ M:List Nat}{i:Nat}:i∈minus Γ M↔i∈Γ∧i∉M:=by
  unfold minus
  rw[List.mem_filter]
  simp
theorem Ok.kill (o:Ok K B0 Γ fps δ σ H) (M:List Nat):Ok K B0 (minus Γ M) (fun i=>if i∈M then [] else fps i) (kill M δ) σ H:=by
  refine⟨by rw[jm];exact o.len,o.b0,fun i d e=>?_,fun i e=>?_,fun i hi=>?_,fun i hi j hj a ha=>?_⟩
  · obtain ⟨h1,h2⟩:=ur.mp e
    rw[if_neg h1]
    exact o.val i d h2
  · by_cases h:i∈M
    · rw[if_pos h]
    · rw[if_neg h]
      exact o.non i fun d z=>e d (ur.mpr ⟨h,z⟩)
  · obtain ⟨h1,h2⟩:=dO.mp hi
    rw[if_neg h2]
    exact o.own i h1
  · obtain ⟨h1,h2⟩:=dO.mp hi
    rw[if_neg h2] at ha
    by_cases h:j∈M
    · rw[if_pos h];exact List.not_mem_nil
    · rw[if_neg h];exact o.dj i h1 j hj a ha
theorem Ok.He {M:List Nat}{x:D}{v:V}{fp:List Addr} (o:Ok K B0 Γ fps δ σ H) (i:Nat) (hM:∀j∈M,j∈Γ) (s:Same H H') (r:Rf K H' x v fp) (n:Nw H H' fps M fp) :
    Ok K B0 (i::minus (minus Γ M) [i]) (fun j=>if j=i then (if i<δ.length then fp else []) else if j∈M then [] else fps j) ((L3.kill M δ).set i (some x)) (σ.set i (some v)) H':=by
  have ok:=(o.kill M).same s
  have sep:∀a∈fp,∀j,j∉M→a∉fps j:=fun a ha j hj z=>by
    rcases n.src a ha with e | ⟨k,hk,e⟩
    · exact o.dom z e
    · exact o.dj k (hM k hk) j (fun q=>hj (by rw[q];exact hk)) a e z
  refine⟨by simp [jm,o.len],ok.b0,fun j d e=>?_,fun j e=>?_,fun j hj=>?_,fun j hj k hk a ha=>?_⟩
  · by_cases h:j=i
    · subst h
      rw[List.getElem?_set] at e
      simp only[jm] at e
      by_cases hl:j<δ.length
      · simp [hl] at e
        subst e
        refine⟨v,?_,?_⟩
        · rw[List.getElem?_set];simp [o.len,hl]
        · rw[if_pos rfl,if_pos hl];exact r
      · simp [hl] at e
    · rw[List.getElem?_set_ne (Ne.symm h)] at e
      rw[List.getElem?_set_ne (Ne.symm h),if_neg h]
      exact ok.val j d e
  · by_cases h:j=i
    · subst h
      rw[if_pos rfl]
      by_cases hl:j<δ.length
      · exact absurd (by rw[List.getElem?_set];simp [jm,hl]) (e x)
      · rw[if_neg hl]
    · rw[if_neg h]
      exact ok.non j fun d z=>e d (by rw[List.getElem?_set_ne (Ne.symm h)];exact z)
  · by_cases h:j=i
    · subst h
      rw[if_pos rfl]
      split
      · refine⟨n.nd,fun a ha=>⟨?_,n.mu a ha⟩⟩
        rcases n.src a ha with e | ⟨k,hk,e⟩
        · exact o.b0.free e
        · exact ((o.own k (hM k hk)).2 a e).1
      · exact⟨List.nodup_nil,fun _ z=>nomatch z⟩
    · rw[if_neg h]
      rcases List.mem_cons.mp hj with z | hj
      · exact absurd z h
      · exact ok.own j (dO.mp hj).1
  · by_cases h:j=i
    · subst h
      rw[if_pos rfl] at ha
      rw[if_neg hk]
      split at ha
      · by_cases hm:k∈M
        · rw[if_pos hm];exact List.not_mem_nil
        · rw[if_neg hm];exact sep a ha k hm
      · nomatch ha
    · rcases List.mem_cons.mp hj with z | hj
      · exact absurd z h
      rw[if_neg h] at ha
      have hj':=dO.mp (dO.mp hj).1
      rw[if_neg hj'.2] at ha
      by_cases hki:k=i
      · rw[if_pos hki]
        split
        · exact fun z=>sep a z j hj'.2 ha
        · exact List.not_mem_nil
      · rw[if_neg hki]
        split
        · exact List.not_mem_nil
        · exact o.dj j hj'.1 k hk a ha
theorem Ok.Hi {x:D}{v:V}{fp:List Addr} (o:Ok K B0 Γ fps δ σ H) (i:Nat) (s:Same H H') (r:Rf K H' x v fp) (n:∀j∈Γ,∀a∈fp,a∉fps j) :
    Ok K B0 (minus Γ [i]) (fun j=>if j=i then (if i<δ.length then fp else []) else fps j) (δ.set i (some x)) (σ.set i (some v)) H':=by
  have ok:=o.same s
  refine⟨by simp [o.len],ok.b0,fun j d e=>?_,fun j e=>?_,fun j hj=>?_,fun j hj k hk a ha=>?_⟩
  · by_cases h:j=i
    · subst h
      rw[List.getElem?_set] at e
      by_cases hl:j<δ.length
      · simp [hl] at e
        subst e
        refine⟨v,?_,?_⟩
        · rw[List.getElem?_set];simp [o.len,hl]
        · rw[if_pos rfl,if_pos hl];exact r
      · simp [hl] at e
    · rw[List.getElem?_set_ne (Ne.symm h)] at e
      rw[List.getElem?_set_ne (Ne.symm h),if_neg h]
      exact ok.val j d e
  · by_cases h:j=i
    · subst h
      rw[if_pos rfl]
      by_cases hl:j<δ.length
      · exact absurd (by rw[List.getElem?_set];simp [hl]) (e x)
      · rw[if_neg hl]
    · rw[if_neg h]
      exact ok.non j fun d z=>e d (by rw[List.getElem?_set_ne (Ne.symm h)];exact z)
  · obtain ⟨h1,h2⟩:=dO.mp hj
    rw[if_neg (fun z=>h2 (by rw[z];exact List.mem_singleton.mpr rfl))]
    exact ok.own j h1
  · obtain ⟨h1,h2⟩:=dO.mp hj
    rw[if_neg (fun z=>h2 (by rw[z];exact List.mem_singleton.mpr rfl))] at ha
    by_cases hki:k=i
    · rw[if_pos hki]
      split
      · exact fun z=>n j h1 a z ha
      · exact List.not_mem_nil
    · rw[if_neg hki]
      exact o.dj j h1 k hk a ha
theorem Ak {H:Hp}{c:Addr} (h:H c=some (uT c)):¬ Mu H c:=by
  rintro (⟨x,z⟩ | ⟨x,z⟩ | ⟨x,z⟩ | ⟨C,dx,fs,z⟩)<;>rw[h] at z<;>cases z
theorem SB.keep {fp:List Addr} (b:SB K B0 H) (n:∀a∈fp,B0 a=none∧Mu H a) (keep:∀b u,b∉fp→H b=some u→H' b=some u):SB K B0 H':=by
  have nb:∀{c u},B0 c=some u→c∉fp:=fun {c u} e z=>by have:=(n c z).1;rw[e] at this;cases this
  refine⟨⟨fun c u e x=>keep c u (nb e) (b.st c u e x),fun c ps e=>let ⟨ps',z⟩:=b.tb c ps e;⟨ps',keep c _ (nb e) z⟩,fun P t=>?_⟩,b.tv⟩
  obtain ⟨ps0,e0,_⟩:=id t
  obtain ⟨ps,e,g1,g2⟩:=b.ti P t
  exact⟨ps,keep P _ (nb e0) e,g1,fun pos cv z=>let ⟨c,z1,z2⟩:=g2 pos cv z;⟨c,z1,keep c _ (fun y=>Ak z2 (n c y).2) z2⟩⟩
theorem Ok.rebase (o:Ok K B0 Γ fps δ σ H):∃B1,Same B0 B1∧Ok K B1 Γ fps δ σ H∧(∀a,(∀j∈Γ,a∉fps j)→B1 a=H a):=by
  have key:∀b u,B0 b=some u→¬ ∃j∈Γ,b∈fps j:=fun b u e ⟨j,hj,hb⟩=>by
    have:=((o.own j hj).2 b hb).1
    rw[e] at this;cases this
  have s1:Same B0 (fun a=>if (∃j∈Γ,a∈fps j) then none else H a):=⟨fun b u e n=>by
      show (if _ then _ else _)=_
      rw[if_neg (key b u e)]
      exact o.b0.st b u e n,fun b ps e=>by
      obtain ⟨ps',z⟩:=o.b0.tb b ps e
      refine⟨ps',?_⟩
      show (if _ then _ else _)=_
      rw[if_neg (key b _ e)];exact z,fun P t=>by
      obtain ⟨ps0,e0,_⟩:=id t
      obtain ⟨ps,e,g1,g2⟩:=o.b0.ti P t
      refine⟨ps,?_,g1,fun pos cv z=>?_⟩
      · show (if _ then _ else _)=_
        rw[if_neg (key P _ e0)];exact e
      · obtain ⟨c,z1,z2⟩:=g2 pos cv z
        refine⟨c,z1,?_⟩
        show (if _ then _ else _)=_
        rw[if_neg (fun ⟨j,hj,hc⟩=>Ak z2 ((o.own j hj).2 c hc).2)];exact z2⟩
  have s2:Same (fun a=>if (∃j∈Γ,a∈fps j) then none else H a) H:=Same.all fun b u e=>by
    by_cases z:∃j∈Γ,b∈fps j
    · simp only[if_pos z] at e;cases e
    · simp only[if_neg z] at e;exact e
  refine⟨fun a=>if (∃j∈Γ,a∈fps j) then none else H a,s1,⟨o.len,⟨s2,o.b0.tv.same s1⟩,o.val,o.non,fun i hi=>⟨(o.own i hi).1,fun a ha=>⟨?_,((o.own i hi).2 a ha).2⟩⟩,o.dj⟩,fun a h=>?_⟩
  · show (if _ then _ else _)=_
    rw[if_pos ⟨i,hi,ha⟩]
  · show (if _ then _ else _)=_
    rw[if_neg (fun ⟨j,hj,z⟩=>h j hj z)]
theorem Ok.base {B1:Hp} (o:Ok K B1 Γ fps δ σ H) (s:Same B0 B1) (t:js K B0):Ok K B0 Γ fps δ σ H :=
  ⟨o.len,⟨s.trans o.b0.toSame,t⟩,o.val,o.non,fun i hi=>⟨(o.own i hi).1,fun a ha=>⟨s.free ((o.own i hi).2 a ha).1,((o.own i hi).2 a ha).2⟩⟩,o.dj⟩
end
end L3
namespace L3
open PySem L2
abbrev DK:=D→Prop
abbrev DE:=Dl→DK→Prop
abbrev DT:=Dl→(Bool→Prop)→Prop
abbrev DA:=Dl→(List D→Prop)→Prop
structure ER (K:PySem.W.Frag) (Γ:List Nat) (t:TE) (d:DE):Prop where
  mono:∀δ (P P':DK),(∀x,P x→P' x)→d δ P→d δ P'
  run:∀{B0 fps δ σ H Q},Ok K B0 Γ fps δ σ H→d δ (fun x=>∀v H',Same H H'→Rp K H' x v→Q v H')→t σ H Q
structure ES (K:PySem.W.Frag) (Γ:List Nat) (t:TE) (d:DE):Prop where
  mono:∀δ (P P':DK),(∀x,P x→P' x)→d δ P→d δ P'
  run:∀{B0 fps δ σ H Q},Ok K B0 Γ fps δ σ H→d δ (fun x=>∀v H' fp,Same H H'→Rf K H' x v fp→(∀j∈Γ,∀a∈fp,a∉fps j)→Q v H')→t σ H Q
structure EM (K:PySem.W.Frag) (Γ M:List Nat) (t:TE) (d:DE):Prop where
  mono:∀δ (P P':DK),(∀x,P x→P' x)→d δ P→d δ P'
  run:∀{B0 fps δ σ H Q},Ok K B0 Γ fps δ σ H→d δ (fun x=>∀v H' fp,Same H H'→Rf K H' x v fp→Nw H H' fps M fp→Q v H')→t σ H Q
structure TR (K:PySem.W.Frag) (Γ:List Nat) (t:TT) (d:DT):Prop where
  mono:∀δ (P P':Bool→Prop),(∀x,P x→P' x)→d δ P→d δ P'
  run:∀{B0 fps δ σ H Q},Ok K B0 Γ fps δ σ H→d δ (fun b=>∀H',Same H H'→Q b H')→t σ H Q
structure AR (K:PySem.W.Frag) (Γ:List Nat) (t:TA) (d:DA):Prop where
  mono:∀δ (P P':List D→Prop),(∀x,P x→P' x)→d δ P→d δ P'
  run:∀{B0 fps δ σ H Q},Ok K B0 Γ fps δ σ H→d δ (fun xs=>∀vs H',Same H H'→Rps K H' xs vs→Q vs H')→t σ H Q
structure AM (K:PySem.W.Frag) (Γ M:List Nat) (t:TA) (d:DA):Prop where
  mono:∀δ (P P':List D→Prop),(∀x,P x→P' x)→d δ P→d δ P'
  run:∀{B0 fps δ σ H Q},Ok K B0 Γ fps δ σ H→d δ (fun xs=>∀vs H' fp,Same H H'→Rfs K H' xs vs fp→Nw H H' fps M fp→Q vs H')→t σ H Q
section
variable {K:PySem.W.Frag}{Γ M:List Nat}{t ta tb tc:TE}{d da db dc:DE}
theorem EM.es (h:EM K Γ [] t d):ES K Γ t d:=⟨h.mono,fun o q=>h.run o (h.mono _ _ _ (fun x z v H' fp s r n=>z v H' fp s r fun j _ a ha y=>o.dom y (n.fresh a ha)) q)⟩
theorem ES.er (h:ES K Γ t d):ER K Γ t d:=⟨h.mono,fun o q=>h.run o (h.mono _ _ _ (fun x z v H' fp s r n=>z v H' s ⟨fp,r⟩) q)⟩
theorem EM.er (h:EM K Γ M t d):ER K Γ t d:=⟨h.mono,fun o q=>h.run o (h.mono _ _ _ (fun x z v H' fp s r n=>z v H' s ⟨fp,r⟩) q)⟩
def Di (d:DE) (δ:Dl) (P:DK):Prop:=d δ fun x=>x.aW=true∧P x
theorem ER.aW (h:ER K Γ t d):EM K Γ [] t (Di d):=⟨fun δ P P' k q=>h.mono _ _ _ (fun x z=>⟨z.1,k x z.2⟩) q,fun o q=>h.run o (h.mono _ _ _ (fun x z v H' s r=>by
  obtain ⟨fp,r⟩:=r
  obtain ⟨_,rfl⟩:=r.aW z.1
  exact z.2 v H' [] s r Nw.nil) q)⟩
def lY (i:Nat) (δ:Dl) (P:DK):Prop:=match δ[i]? with | some (some d)=>P d | _=>False
theorem gG {i:Nat}{δ:Dl}{P:DK} (h:lY i δ P):∃d,δ[i]?=some (some d)∧P d:=by
  unfold lY at h
  split at h
  · exact⟨_,by assumption,h⟩
  · exact h.elim
theorem lh {i:Nat}:∀δ (P P':DK),(∀x,P x→P' x)→lY i δ P→lY i δ P':=fun δ P P' k h=>by
  unfold lY at h ⊢
  split
  · rename_i e;rw[e] at h;exact k _ h
  · rename_i e;revert h;split
    · rename_i e';exact absurd e' (e _)
    · exact id
theorem bL (i:Nat):ER K Γ (pM i) (lY i):=⟨lh,fun {B0 fps δ σ H Q} o q=>by
  obtain ⟨d,e,q⟩:=gG q
  obtain ⟨v,e1,r⟩:=o.val i d e
  exact⟨v,e1,q v H (Same.refl H) ⟨_,r⟩⟩⟩
theorem aa (i:Nat) (h:i∉Γ:=by decide):ES K Γ (pM i) (lY i):=⟨lh,fun {B0 fps δ σ H Q} o q=>by
  obtain ⟨d,e,q⟩:=gG q
  obtain ⟨v,e1,r⟩:=o.val i d e
  exact⟨v,e1,q v H _ (Same.refl H) r fun j hj a ha z=>o.dj j hj i (fun y=>h (by rw[y];exact hj)) a z ha⟩⟩
theorem fC (i:Nat) (h:i∈Γ:=by decide):EM K Γ [i] (pM i) (lY i):=⟨lh,fun {B0 fps δ σ H Q} o q=>by
  obtain ⟨d,e,q⟩:=gG q
  obtain ⟨v,e1,r⟩:=o.val i d e
  exact⟨v,e1,q v H _ (Same.refl H) r ⟨(o.own i h).1,fun a ha=>((o.own i h).2 a ha).2,fun a ha=>.inr ⟨i,List.mem_singleton.mpr rfl,ha⟩⟩⟩⟩
def vC (d:D) (_u0:Dl) (P:DK):Prop:=P d
theorem au {i:Int}:EM K Γ [] (tC (.int i)) (vC (.int i)):=⟨fun _ _ _ k h=>k _ h,fun {_ _ _ _ H _} _ q=>q _ H [] (Same.refl H) ⟨rfl,rfl⟩ Nw.nil⟩
theorem kB {i:Bool}:EM K Γ [] (tC (.bl i)) (vC (.bl i)):=⟨fun _ _ _ k h=>k _ h,fun {_ _ _ _ H _} _ q=>q _ H [] (Same.refl H) ⟨rfl,rfl⟩ Nw.nil⟩
theorem kd {i:Str}:EM K Γ [] (tC (.str i)) (vC (.str i)):=⟨fun _ _ _ k h=>k _ h,fun {_ _ _ _ H _} _ q=>q _ H [] (Same.refl H) ⟨rfl,rfl⟩ Nw.nil⟩
theorem wI:EM K Γ [] (tC .non) (vC .non):=⟨fun _ _ _ k h=>k _ h,fun {_ _ _ _ H _} _ q=>q _ H [] (Same.refl H) ⟨rfl,rfl⟩ Nw.nil⟩
abbrev D2:=D→D→DK→Prop
abbrev nf:Nat→List Addr:=fun _=>[]
structure OpV (K:PySem.W.Frag) (r:R2) (rv:D2):Prop where
  mono:∀x y (P P':DK),(∀z,P z→P' z)→rv x y P→rv x y P'
  run:∀{H x y v w Q},Rp K H x v→Rp K H y w→rv x y (fun z=>∀u H' fp,Same H H'→Rf K H' z u fp→Nw H H' nf [] fp→Q u H')→r v w H Q
def vOp (rv:D2) (da db:DE) (δ:Dl) (P:DK):Prop:=da δ fun x=>db δ fun y=>rv x y P
theorem aA {r:R2}{rv:D2} (ho:OpV K r rv) (ha:ER K Γ ta da) (hb:ER K Γ tb db):EM K Γ [] (tOp r ta tb) (vOp rv da db) :=
  ⟨fun δ P P' k h=>ha.mono _ _ _ (fun x z=>hb.mono _ _ _ (fun y z=>ho.mono x y _ _ k z) z) h,
   fun o q=>ha.run o (ha.mono _ _ _ (fun x z v H1 s1 r1=>hb.run (o.same s1) (hb.mono _ _ _ (fun y z w H2 s2 r2=>ho.run (r1.same s2) r2 (ho.mono _ _ _ _ (fun u z u' H' fp s r n=>z u' H' fp ((s1.trans s2).trans s) r (n.any.later (s1.trans s2))) z)) z)) q)⟩
abbrev D1:=D→DK→Prop
structure UnV (K:PySem.W.Frag) (r:V→Hp→VK→Prop) (rv:D1):Prop where
  mono:∀x (P P':DK),(∀z,P z→P' z)→rv x P→rv x P'
  run:∀{H x v Q},Rp K H x v→rv x (fun z=>∀u H' fp,Same H H'→Rf K H' z u fp→Nw H H' nf [] fp→Q u H')→r v H Q
def vUn (rv:D1) (da:DE) (δ:Dl) (P:DK):Prop:=da δ fun x=>rv x P
theorem Hq {r:V→Hp→VK→Prop}{rv:D1} (ho:UnV K r rv) (ha:ER K Γ ta da):EM K Γ [] (tUn r ta) (vUn rv da) :=
  ⟨fun δ P P' k h=>ha.mono _ _ _ (fun x z=>ho.mono x _ _ k z) h,
   fun o q=>ha.run o (ha.mono _ _ _ (fun x z v H1 s1 r1=>ho.run r1 (ho.mono _ _ _ (fun u z u' H' fp s r n=>z u' H' fp (s1.trans s) r (n.any.later s1)) z)) q)⟩
def vI0 (g:Int→Int→D) (x:D) (y:D) (P:DK):Prop:=match x,y with | .int i,.int j=>P (g i j) | _,_=>False
def vI (C:Int→Int→Prop) (g:Int→Int→D) (x:D) (y:D) (P:DK):Prop:=match x,y with | .int i,.int j=>C i j∧P (g i j) | _,_=>False
def vU (g:Int→D) (x:D) (P:DK):Prop:=match x with | .int i=>P (g i) | _=>False
theorem Fz {g:Int→Int→D}:∀x y (P P':DK),(∀z,P z→P' z)→vI0 g x y P→vI0 g x y P':=fun x y P P' k h=>by
  unfold vI0 at h ⊢;revert h;split<;>first | exact k _ | exact id
theorem Gm {C:Int→Int→Prop}{g:Int→Int→D}:∀x y (P P':DK),(∀z,P z→P' z)→vI C g x y P→vI C g x y P':=fun x y P P' k h=>by
  unfold vI at h ⊢;revert h;split<;>first | exact fun h=>⟨h.1,k _ h.2⟩ | exact id
theorem A5 {f:Int→Int→V}{g:Int→Int→D} (hs:∀i j,(g i j).aW=true∧(g i j).toV=f i j):OpV K (rI0 f) (vI0 g):=⟨Fz,fun {H x y v w Q} r1 r2 h=>by
  unfold vI0 at h
  split at h
  · rename_i i j
    refine⟨i,j,r1.int,r2.int,?_⟩
    rw[← (hs i j).2]
    exact h _ H [] (Same.refl H) (Rf.xr (hs i j).1) Nw.nil
  · exact h.elim⟩
theorem HR {C:Int→Int→Prop}{f:Int→Int→V}{g:Int→Int→D} (hs:∀i j,(g i j).aW=true∧(g i j).toV=f i j):OpV K (rI C f) (vI C g):=⟨Gm,fun {H x y v w Q} r1 r2 h=>by
  unfold vI at h
  split at h
  · rename_i i j
    refine⟨i,j,r1.int,r2.int,h.1,?_⟩
    rw[← (hs i j).2]
    exact h.2 _ H [] (Same.refl H) (Rf.xr (hs i j).1) Nw.nil
  · exact h.elim⟩
theorem eE {f:Int→Int→Int}:OpV K (rI0 fun i j=>.int (f i j)) (vI0 fun i j=>.int (f i j)):=A5 fun _ _=>⟨rfl,rfl⟩
theorem kE {f:Int→Int→Bool}:OpV K (rI0 fun i j=>.bl (f i j)) (vI0 fun i j=>.bl (f i j)):=A5 fun _ _=>⟨rfl,rfl⟩
theorem bW {C:Int→Int→Prop}{f:Int→Int→Int}:OpV K (rI C fun i j=>.int (f i j)) (vI C fun i j=>.int (f i j)):=HR fun _ _=>⟨rfl,rfl⟩
theorem Hh {f:Int→Int}:UnV K (rU fun i=>.int (f i)) (vU fun i=>.int (f i)):=⟨fun x P P' k h=>by unfold vU at h ⊢;revert h;split<;>first | exact k _ | exact id,fun {H x v Q} r1 h=>by
  unfold vU at h
  split at h
  · rename_i i
    exact⟨i,r1.int,h _ H [] (Same.refl H) ⟨rfl,rfl⟩ Nw.nil⟩
  · exact h.elim⟩
def uA (neg:Bool) (x:D) (y:D) (P:DK):Prop:=x.aW=true∧y.aW=true∧aW x.toV y.toV=true∧P (.bl (if neg then !decide (x.toV=y.toV) else decide (x.toV=y.toV)))
theorem vS {neg:Bool}:∀x y (P P':DK),(∀z,P z→P' z)→uA neg x y P→uA neg x y P':=fun x y P P' k h=>⟨h.1,h.2.1,h.2.2.1,k _ h.2.2.2⟩
theorem Ce:OpV K rEq (uA false):=⟨vS,fun {H x y v w Q} ⟨f1,r1⟩ ⟨f2,r2⟩ h=>by
  rw[(r1.aW h.1).1,(r2.aW h.2.1).1]
  exact⟨h.2.2.1,h.2.2.2 _ H [] (Same.refl H) ⟨rfl,rfl⟩ Nw.nil⟩⟩
theorem uy:OpV K rNe (uA true):=⟨vS,fun {H x y v w Q} ⟨f1,r1⟩ ⟨f2,r2⟩ h=>by
  rw[(r1.aW h.1).1,(r2.aW h.2.1).1]
  exact⟨h.2.2.1,h.2.2.2 _ H [] (Same.refl H) ⟨rfl,rfl⟩ Nw.nil⟩⟩
theorem yq {neg:Bool}{i j:Int}{P:DK}:uA neg (.int i) (.int j) P↔P (.bl (if neg then !decide (i=j) else decide (i=j))):=by
  unfold uA
  simp only[D.aW,D.toV,aW,true_and,V.int.injEq]
def uO (x:D) (y:D) (P:DK):Prop:=match x.items,y with | some ds,.int i=>(match atI ds i with | some d=>P d | none=>False) | _,_=>False
def qm (x:D) (y:D) (P:DK):Prop:=match x,y with | .tup ds,.int i=>(match atI ds i with | some d=>P d | none=>False) | _,_=>False
theorem sW {x y:D}{P:DK} (h:uO x y P):∃ds i d,x.items=some ds∧y=.int i∧atI ds i=some d∧P d:=by
  unfold uO at h
  split at h
  · split at h
    · exact⟨_,_,_,by assumption,rfl,by assumption,h⟩
    · exact h.elim
  · exact h.elim
theorem sX {x y:D}{P:DK} (h:qm x y P):∃ds i d,x=.tup ds∧y=.int i∧atI ds i=some d∧P d:=by
  unfold qm at h
  split at h
  · split at h
    · exact⟨_,_,_,rfl,rfl,by assumption,h⟩
    · exact h.elim
  · exact h.elim
theorem FX {x:D}{ds:List D}{i:Int}{d:D}{P:DK} (ex:x.items=some ds) (e:atI ds i=some d) (h:P d):uO x (.int i) P:=by unfold uO;simp only[ex,e];exact h
theorem Ge {ds:List D}{i:Int}{d:D}{P:DK} (e:atI ds i=some d) (h:P d):qm (.tup ds) (.int i) P:=by unfold qm;simp only[e];exact h
theorem vo:∀x y (P P':DK),(∀z,P z→P' z)→uO x y P→uO x y P':=fun x y P P' k h=>by
  obtain ⟨ds,i,d,ex,rfl,e,h⟩:=sW h;exact FX ex e (k _ h)
theorem vp:∀x y (P P':DK),(∀z,P z→P' z)→qm x y P→qm x y P':=fun x y P P' k h=>by
  obtain ⟨ds,i,d,rfl,rfl,e,h⟩:=sX h;exact Ge e (k _ h)
theorem Rfs.at {H:Hp}{ds:List D}{xs:List V}{fq:List Addr}{i:Int}{d:D} (h:Rfs K H ds xs fq) (e:atI ds i=some d):∃v f,atI xs i=some v∧Rf K H d v f∧∀a∈f,a∈fq:=by
  unfold atI at e ⊢
  rw[h.length]
  cases hj:ixN ds.length i with
  | none=>rw[hj] at e;cases e
  | some j=>rw[hj] at e;exact h.get e
theorem fF (ha:ER K Γ ta da) (hb:ER K Γ tb db):ER K Γ (tOp (DR K) ta tb) (vOp uO da db) :=
  ⟨fun δ P P' k h=>ha.mono _ _ _ (fun x z=>hb.mono _ _ _ (fun y z=>vo x y _ _ k z) z) h,
   fun o q=>ha.run o (ha.mono _ _ _ (fun x z v H1 s1 r1=>hb.run (o.same s1) (hb.mono _ _ _ (fun y z w H2 s2 r2=>by
    obtain ⟨ds,i,d,ex,rfl,e,z⟩:=sW z
    obtain ⟨a,xs,fq,rfl,hs,hr⟩:=(r1.same s2).seq ex
    obtain ⟨v,f,e1,r3,_⟩:=hr.at e
    exact⟨a,xs,i,v,rfl,r2.int,hs,e1,z v H2 (s1.trans s2) ⟨f,r3⟩⟩) z)) q)⟩
theorem Jn (ha:ER K Γ ta da) (hb:ER K Γ tb db):ER K Γ (tOp (C8 K) ta tb) (vOp qm da db) :=
  ⟨fun δ P P' k h=>ha.mono _ _ _ (fun x z=>hb.mono _ _ _ (fun y z=>vp x y _ _ k z) z) h,
   fun o q=>ha.run o (ha.mono _ _ _ (fun x z v H1 s1 r1=>hb.run (o.same s1) (hb.mono _ _ _ (fun y z w H2 s2 r2=>by
    obtain ⟨ds,i,d,rfl,rfl,e,z⟩:=sX z
    obtain ⟨a,xs,fq,rfl,hs,hr⟩:=(r1.same s2).tup
    obtain ⟨v,f,e1,r3,_⟩:=hr.at e
    exact⟨a,xs,i,v,rfl,r2.int,hs,e1,z v H2 (s1.trans s2) ⟨f,r3⟩⟩) z)) q)⟩
theorem aX (ha:ES K Γ ta da) (hb:ER K Γ tb db):ES K Γ (tOp (DR K) ta tb) (vOp uO da db) :=
  ⟨fun δ P P' k h=>ha.mono _ _ _ (fun x z=>hb.mono _ _ _ (fun y z=>vo x y _ _ k z) z) h,
   fun o q=>ha.run o (ha.mono _ _ _ (fun x z v H1 fp s1 r1 n=>hb.run (o.same s1) (hb.mono _ _ _ (fun y z w H2 s2 r2=>by
    obtain ⟨ds,i,d,ex,rfl,e,z⟩:=sW z
    obtain ⟨a,xs,fq,rfl,hs,hr,hin⟩:=(r1.same s2).seq ex
    obtain ⟨v,f,e1,r3,k⟩:=hr.at e
    exact⟨a,xs,i,v,rfl,r2.int,hs,e1,z v H2 f (s1.trans s2) r3 fun j hj b hb=>n j hj b (hin b (k b hb))⟩) z)) q)⟩
theorem bK (ha:ES K Γ ta da) (hb:ER K Γ tb db):ES K Γ (tOp (C8 K) ta tb) (vOp qm da db) :=
  ⟨fun δ P P' k h=>ha.mono _ _ _ (fun x z=>hb.mono _ _ _ (fun y z=>vp x y _ _ k z) z) h,
   fun o q=>ha.run o (ha.mono _ _ _ (fun x z v H1 fp s1 r1 n=>hb.run (o.same s1) (hb.mono _ _ _ (fun y z w H2 s2 r2=>by
    obtain ⟨ds,i,d,rfl,rfl,e,z⟩:=sX z
    obtain ⟨a,xs,rfl,hs,hr⟩:=r1.same s2
    obtain ⟨v,f,e1,r3,k⟩:=hr.at e
    exact⟨a,xs,i,v,rfl,r2.int,.inl (.inl hs),e1,z v H2 f (s1.trans s2) r3 fun j hj b hb=>n j hj b (k b hb)⟩) z)) q)⟩
def asB (x:D) (P:Bool→Prop):Prop:=match x with | .bl k=>P k | _=>False
def tG (d:DE) (δ:Dl) (P:Bool→Prop):Prop:=d δ fun x=>asB x P
theorem qh {x:D}{P:Bool→Prop} (h:asB x P):∃k,x=.bl k∧P k:=by
  unfold asB at h
  split at h
  · exact⟨_,rfl,h⟩
  · exact h.elim
theorem De {x:D}{P P':Bool→Prop} (k:∀b,P b→P' b) (h:asB x P):asB x P':=by
  obtain ⟨b,rfl,h⟩:=qh h;exact k b h
theorem aY (h:ER K Γ t d):TR K Γ (HG t) (tG d):=⟨fun δ P P' k q=>h.mono _ _ _ (fun x z=>De k z) q,fun o q=>h.run o (h.mono _ _ _ (fun x z v H' s r=>by
  obtain ⟨b,rfl,z⟩:=qh z;exact⟨b,r.bl,z H' s⟩) q)⟩
theorem mU (h:ER K Γ t d):TR K Γ (tB t) (tG d):=⟨fun δ P P' k q=>h.mono _ _ _ (fun x z=>De k z) q,fun o q=>h.run o (h.mono _ _ _ (fun x z v H' s r=>by
  obtain ⟨b,rfl,z⟩:=qh z;exact⟨b,r.bl,z H' s⟩) q)⟩
def IJ (c e:DT) (δ:Dl) (P:Bool→Prop):Prop:=c δ fun k=>if k=true then e δ P else P false
def vOr (c e:DT) (δ:Dl) (P:Bool→Prop):Prop:=c δ fun k=>if k=true then P true else e δ P
def Ih (c:DT) (δ:Dl) (P:Bool→Prop):Prop:=c δ fun k=>P (!k)
theorem eW {b:Bool}{A B A' B':Prop} (h1:A→A') (h2:B→B') (h:if b=true then A else B):if b=true then A' else B':=by
  cases b
  · exact h2 h
  · exact h1 h
theorem Fd {u1 u2:TT}{c e:DT} (h1:TR K Γ u1 c) (h2:TR K Γ u2 e):TR K Γ (Jy u1 u2) (IJ c e) :=
  ⟨fun δ P P' k q=>h1.mono _ _ _ (fun b z=>eW (h2.mono _ _ _ k) (k _) z) q,
   fun o q=>h1.run o (h1.mono _ _ _ (fun b z H' s=>eW (fun z=>h2.run (o.same s) (h2.mono _ _ _ (fun b z H2 s2=>z H2 (s.trans s2)) z)) (fun z=>z H' s) z) q)⟩
theorem nX {u1 u2:TT}{c e:DT} (h1:TR K Γ u1 c) (h2:TR K Γ u2 e):TR K Γ (tOr u1 u2) (vOr c e) :=
  ⟨fun δ P P' k q=>h1.mono _ _ _ (fun b z=>eW (k _) (h2.mono _ _ _ k) z) q,
   fun o q=>h1.run o (h1.mono _ _ _ (fun b z H' s=>eW (fun z=>z H' s) (fun z=>h2.run (o.same s) (h2.mono _ _ _ (fun b z H2 s2=>z H2 (s.trans s2)) z)) z) q)⟩
theorem iJ {u1:TT}{c:DT} (h1:TR K Γ u1 c):TR K Γ (JR u1) (Ih c) :=
  ⟨fun δ P P' k q=>h1.mono _ _ _ (fun b z=>k _ z) q,fun o q=>h1.run o (h1.mono _ _ _ (fun b z H' s=>z H' s) q)⟩
def Fe (da db:DE) (δ:Dl) (P:DK):Prop:=tG da δ fun k=>if k=true then db δ P else P (.bl false)
def JU (da db:DE) (δ:Dl) (P:DK):Prop:=tG da δ fun k=>if k=true then P (.bl true) else db δ P
def Eh (da:DE) (δ:Dl) (P:DK):Prop:=tG da δ fun k=>P (.bl (!k))
theorem mn (ha:ER K Γ ta da) (hb:EM K Γ [] tb db):EM K Γ [] (HN ta tb) (Fe da db) :=
  ⟨fun δ P P' k q=>(aY ha).mono _ _ _ (fun b z=>eW (hb.mono _ _ _ k) (k _) z) q,
   fun o q=>ha.run o (ha.mono _ _ _ (fun x z v H' s r=>by
    obtain ⟨b,rfl,z⟩:=qh z
    exact⟨b,r.bl,eW (fun z=>hb.run (o.same s) (hb.mono _ _ _ (fun y z u H2 fp s2 r2 n2=>z u H2 fp (s.trans s2) r2 (n2.later s)) z)) (fun z=>z _ H' [] s ⟨rfl,rfl⟩ Nw.nil) z⟩) q)⟩
theorem BC (ha:ER K Γ ta da):EM K Γ [] (Hs ta) (Eh da) :=
  ⟨fun δ P P' k q=>(aY ha).mono _ _ _ (fun b z=>k _ z) q,
   fun o q=>ha.run o (ha.mono _ _ _ (fun x z v H' s r=>by
    obtain ⟨b,rfl,z⟩:=qh z
    exact⟨b,r.bl,z _ H' [] s ⟨rfl,rfl⟩ Nw.nil⟩) q)⟩
def vIf (c:DT) (da db:DE) (δ:Dl) (P:DK):Prop:=c δ fun k=>if k=true then da δ P else db δ P
theorem HC {u:TT}{c:DT} (hc:TR K Γ u c) (ha:EM K Γ [] ta da) (hb:EM K Γ [] tb db):EM K Γ [] (tIf u ta tb) (vIf c da db) :=
  ⟨fun δ P P' k q=>hc.mono _ _ _ (fun b z=>eW (ha.mono _ _ _ k) (hb.mono _ _ _ k) z) q,
   fun o q=>hc.run o (hc.mono _ _ _ (fun b z H' s=>eW (fun z=>ha.run (o.same s) (ha.mono _ _ _ (fun y z u H2 fp s2 r2 n2=>z u H2 fp (s.trans s2) r2 (n2.later s)) z)) (fun z=>hb.run (o.same s) (hb.mono _ _ _ (fun y z u H2 fp s2 r2 n2=>z u H2 fp (s.trans s2) r2 (n2.later s)) z)) z) q)⟩
def Ag (r r':D2) (da db dc:DE) (δ:Dl) (P:DK):Prop:=da δ fun x=>db δ fun y=>r x y fun z=>asB z fun k=>if k=true then dc δ fun w=>r' y w P else P (.bl false)
theorem sN {r r':R2}{rv rv':D2} (ho:OpV K r rv) (ho':OpV K r' rv') (ha:ER K Γ ta da) (hb:ER K Γ tb db) (hc:ER K Γ tc dc):EM K Γ [] (Dp r r' ta tb tc) (Ag rv rv' da db dc) :=
  ⟨fun δ P P' k h=>ha.mono _ _ _ (fun x z=>hb.mono _ _ _ (fun y z=>ho.mono x y _ _ (fun u z=>De (fun b z=>eW (hc.mono _ _ _ fun w z=>ho'.mono _ _ _ _ k z) (k _) z) z) z) z) h,
   fun o q=>ha.run o (ha.mono _ _ _ (fun x z v H1 s1 r1=>hb.run (o.same s1) (hb.mono _ _ _ (fun y z w H2 s2 r2=>ho.run (r1.same s2) r2 (ho.mono _ _ _ _ (fun u z u' H3 fp s3 r3 n3=>by
    obtain ⟨b,rfl,z⟩:=qh z
    have s13:=(s1.trans s2).trans s3
    refine⟨b,r3.1,eW (fun z=>?_) (fun z=>z _ H3 [] s13 ⟨rfl,rfl⟩ Nw.nil) z⟩
    exact hc.run (o.same s13) (hc.mono _ _ _ (fun w z w' H4 s4 r4=>ho'.run (r2.same (s3.trans s4)) r4 (ho'.mono _ _ _ _ (fun u z u' H' fp s r n=>z u' H' fp ((s13.trans s4).trans s) r (n.any.later (s13.trans s4))) z)) z)) z)) z)) q)⟩
def FC (_u0:Dl) (P:List D→Prop):Prop:=P []
def rb (da:DE) (dr:DA) (δ:Dl) (P:List D→Prop):Prop:=da δ fun x=>dr δ fun xs=>P (x::xs)
theorem ao:AR K Γ rm FC:=⟨fun _ _ _ k h=>k _ h,fun {_ _ _ _ H _} o q=>q [] H (Same.refl H) ⟨[],rfl,rfl⟩⟩
theorem dw:AM K Γ [] rm FC:=⟨fun _ _ _ k h=>k _ h,fun {_ _ _ _ H _} o q=>q [] H [] (Same.refl H) ⟨rfl,rfl⟩ Nw.nil⟩
theorem ah {tr:TA}{dr:DA} (ha:ER K Γ ta da) (hr:AR K Γ tr dr):AR K Γ (jr ta tr) (rb da dr) :=
  ⟨fun δ P P' k h=>ha.mono _ _ _ (fun x z=>hr.mono _ _ _ (fun y z=>k _ z) z) h,
   fun o q=>ha.run o (ha.mono _ _ _ (fun x z v H1 s1 r1=>hr.run (o.same s1) (hr.mono _ _ _ (fun xs z vs H2 s2 r2=>by
    obtain ⟨f1,r1⟩:=r1.same s2
    obtain ⟨f2,r2⟩:=r2
    exact z _ H2 (s1.trans s2) ⟨f1++f2,_,_,f1,f2,rfl,rfl,r1,r2⟩) z)) q)⟩
theorem gu {M':List Nat}{tr:TA}{dr:DA} (ha:EM K Γ M ta da) (hr:AM K Γ M' tr dr) (hM:∀i∈M,i∈Γ∧i∉M':=by decide) (hM':∀i∈M',i∈Γ:=by decide):AM K Γ (M++M') (jr ta tr) (rb da dr) :=
  ⟨fun δ P P' k h=>ha.mono _ _ _ (fun x z=>hr.mono _ _ _ (fun y z=>k _ z) z) h,
   fun {B0 fps δ σ H Q} o q=>ha.run o (ha.mono _ _ _ (fun x z v H1 f1 s1 r1 n1=>hr.run (o.same s1) (hr.mono _ _ _ (fun xs z vs H2 f2 s2 r2 n2=>by
    refine z _ H2 (f1++f2) (s1.trans s2) ⟨_,_,f1,f2,rfl,rfl,r1.same s2,r2⟩ ⟨?_,fun a ha=>(List.mem_append.mp ha).elim (fun h=>(n1.mu a h).same s2) (n2.mu a),fun a ha=>?_⟩
    · refine List.nodup_append.mpr ⟨n1.nd,n2.nd,fun a h1 b h2 e=>?_⟩
      subst e
      rcases n2.src a h2 with e | ⟨j,hj,e⟩
      · exact (n1.mu a h1).some e
      · rcases n1.src a h1 with e' | ⟨i,hi,e'⟩
        · exact o.dom e e'
        · exact o.dj i (hM i hi).1 j (fun y=>(hM i hi).2 (by rw[← y];exact hj)) a e' e
    · rcases List.mem_append.mp ha with h | h
      · exact (n1.src a h).imp id fun ⟨j,h1,h2⟩=>⟨j,List.mem_append_left _ h1,h2⟩
      · exact (n2.src a h).elim (fun e=>.inl (s1.free e)) fun ⟨j,h1,h2⟩=>.inr ⟨j,List.mem_append_right _ h1,h2⟩) z)) q)⟩
theorem ml {n:Nat} (h:n≤1000):n≤sizeLine:=Nat.le_trans h (by rw[sizeLine_eq];decide)
def Gd (da:DA) (δ:Dl) (P:DK):Prop:=da δ fun xs=>xs.length≤1000∧P (.lst xs)
def IK (da:DA) (δ:Dl) (P:DK):Prop:=da δ fun xs=>xs.length≤1000∧P (.tup xs)
theorem jB {u:TA}{dr:DA} (hr:AM K Γ M u dr) (hM:∀i∈M,i∈Γ:=by decide):EM K Γ M (IP u) (Gd dr) :=
  ⟨fun δ P P' k h=>hr.mono _ _ _ (fun y z=>⟨z.1,k _ z.2⟩) h,
   fun {B0 fps δ σ H Q} o q=>hr.run o (hr.mono _ _ _ (fun xs z vs H1 fp s1 r1 n1=>by
    refine⟨by rw[r1.length];exact ml z.1,fun p hp=>?_⟩
    have hs:Same H1 (upd H1 p (.lst vs)):=Same.mC hp
    refine z.2 _ _ (p::fp) (s1.trans hs) ⟨p,vs,fp,rfl,aG,rfl,r1.same hs⟩ ⟨List.nodup_cons.mpr ⟨fun h=>(n1.mu p h).some hp,n1.nd⟩,fun a ha=>?_,fun a ha=>?_⟩
    · rcases List.mem_cons.mp ha with e | h
      · subst e;exact .inl ⟨vs,aG⟩
      · exact (n1.mu a h).same hs
    · rcases List.mem_cons.mp ha with e | h
      · subst e;exact .inl (s1.free hp)
      · exact n1.src a h) q)⟩
theorem j0 {u:TA}{dr:DA} (hr:AM K Γ M u dr):EM K Γ M (JL u) (IK dr) :=
  ⟨fun δ P P' k h=>hr.mono _ _ _ (fun y z=>⟨z.1,k _ z.2⟩) h,
   fun {B0 fps δ σ H Q} o q=>hr.run o (hr.mono _ _ _ (fun xs z vs H1 fp s1 r1 n1=>by
    refine⟨by rw[r1.length];exact ml z.1,fun p hp=>?_⟩
    have hs:Same H1 (upd H1 p (.tup vs)):=Same.mC hp
    exact z.2 _ _ fp (s1.trans hs) ⟨p,vs,rfl,aG,r1.same hs⟩ (n1.same hs)) q)⟩
theorem FE {u:TA}{dr:DA} (hr:AR K Γ u dr):ER K Γ (IP u) (Gd dr) :=
  ⟨fun δ P P' k h=>hr.mono _ _ _ (fun y z=>⟨z.1,k _ z.2⟩) h,
   fun {B0 fps δ σ H Q} o q=>hr.run o (hr.mono _ _ _ (fun xs z vs H1 s1 r1=>by
    obtain ⟨fp,r1⟩:=r1
    refine⟨by rw[r1.length];exact ml z.1,fun p hp=>?_⟩
    have hs:Same H1 (upd H1 p (.lst vs)):=Same.mC hp
    exact z.2 _ _ (s1.trans hs) ⟨p::fp,p,vs,fp,rfl,aG,rfl,r1.same hs⟩) q)⟩
abbrev DSp:=List D→DK→Prop
def bE (S:DSp):Prop:=∀xs (P P':DK),(∀z,P z→P' z)→S xs P→S xs P'
def spP (K:PySem.W.Frag) (S:DSp):Sp:=fun vs H Q _=>∃ds,Rps K H ds vs∧js K H∧S ds fun x=>∀v H' fp,Same H H'→Rf K H' x v fp→Nw H H' nf [] fp→Q v H'
def spR (K:PySem.W.Frag) (S:DSp):Sp:=fun vs H Q _=>∃ds,Rps K H ds vs∧js K H∧S ds fun x=>∀v H',Same H H'→Rp K H' x v→Q v H'
structure nD (K:PySem.W.Frag) (r:List V→Hp→VK→Prop) (S:DSp):Prop where
  mono:bE S
  run:∀{H xs vs Q},Rps K H xs vs→S xs (fun z=>∀u H' fp,Same H H'→Rf K H' z u fp→Nw H H' nf [] fp→Q u H')→r vs H Q
def tU (S:DSp) (dr:DA) (δ:Dl) (P:DK):Prop:=dr δ fun xs=>S xs P
theorem bf {r:List V→Hp→VK→Prop}{S:DSp}{u:TA}{dr:DA} (hc:nD K r S) (hr:AR K Γ u dr):EM K Γ [] (tCB r u) (tU S dr) :=
  ⟨fun δ P P' k h=>hr.mono _ _ _ (fun y z=>hc.mono _ _ _ k z) h,
   fun {B0 fps δ σ H Q} o q=>hr.run o (hr.mono _ _ _ (fun xs z vs H1 s1 r1=>hc.run r1 (hc.mono _ _ _ (fun u z u' H' fp s r n=>z u' H' fp (s1.trans s) r (n.any.later s1)) z)) q)⟩
theorem aK {S:DSp}{E:XK}{u:TA}{dr:DA} (hS:bE S) (hr:AR K Γ u dr):EM K Γ [] (nZ (spP K S) [] E u) (tU S dr) :=
  ⟨fun δ P P' k h=>hr.mono _ _ _ (fun y z=>hS _ _ _ k z) h,
   fun {B0 fps δ σ H Q} o q=>hr.run o (hr.mono _ _ _ (fun xs z vs H1 s1 r1=>⟨xs,by rw[List.append_nil];exact r1,(o.b0.trans s1).now,hS _ _ _ (fun u z u' H' fp s r n=>z u' H' fp (s1.trans s) r (n.any.later s1)) z⟩) q)⟩
theorem Bw {S:DSp}{E:XK}{u:TA}{dr:DA} (hS:bE S) (hr:AR K Γ u dr):ER K Γ (nZ (spR K S) [] E u) (tU S dr) :=
  ⟨fun δ P P' k h=>hr.mono _ _ _ (fun y z=>hS _ _ _ k z) h,
   fun {B0 fps δ σ H Q} o q=>hr.run o (hr.mono _ _ _ (fun xs z vs H1 s1 r1=>⟨xs,by rw[List.append_nil];exact r1,(o.b0.trans s1).now,hS _ _ _ (fun u z u' H' s r=>z u' H' (s1.trans s) r) z⟩) q)⟩
end
end L3
namespace L3
open PySem L2
structure bC where
  nx:Dl→Prop
  rt:D→Dl→Prop
  bk:Dl→Prop
  ct:Dl→Prop
abbrev DS:=bC→Dl→Prop
structure RtI (B0:Hp) (Γr:List Nat) (fps:Nat→List Addr) (H:Hp) (fp:List Addr):Prop where
  nd:fp.Nodup
  mu:∀a∈fp,Mu H a
  nw:∀a∈fp,B0 a=none
  dj:∀j∈Γr,∀a∈fp,a∉fps j
structure EOk (K:PySem.W.Frag) (ρ:Bool) (Γr Γl Γn:List Nat) (B0:Hp) (Dn:Ends) (E:bC):Prop where
  nx:∀{fps δ σ H},Ok K B0 Γn fps δ σ H→E.nx δ→Dn.nx σ H
  bk:∀{fps δ σ H},Ok K B0 Γl fps δ σ H→E.bk δ→Dn.bk σ H
  ct:∀{fps δ σ H},Ok K B0 Γl fps δ σ H→E.ct δ→Dn.ct σ H
  rt:∀{fps δ σ H x v fp},Ok K B0 Γr fps δ σ H→Rf K H x v fp→(ρ=true→RtI B0 Γr fps H fp)→E.rt x δ→Dn.rt v H
def ST (K:PySem.W.Frag) (ρ:Bool) (Γr Γl:List Nat) (t:TS) (Γ Γn:List Nat) (d:DS):Prop :=
  ∀⦃B0:Hp⦄ ⦃Dn:Ends⦄ ⦃E:bC⦄ ⦃fps:Nat→List Addr⦄ ⦃δ:Dl⦄ ⦃σ:St⦄ ⦃H:Hp⦄,EOk K ρ Γr Γl Γn B0 Dn E→Ok K B0 Γ fps δ σ H→d E δ→t Dn σ H
section
variable {K:PySem.W.Frag}{ρ:Bool}{Γr Γl Γ Γ1 Γ2 Γn M:List Nat}{t u:TS}{te ta tb:TE}{de da db:DE}{d e:DS}
def Dk (E:bC) (δ:Dl):Prop:=E.nx δ
def zM (d e:DS) (E:bC) (δ:Dl):Prop:=d { E with nx:=e E } δ
theorem br:ST K ρ Γr Γl Hz Γ Γ Dk:=fun _ _ _ _ _ _ _ k o h=>k.nx o h
theorem ar (h1:ST K ρ Γr Γl t Γ Γ1 d) (h2:ST K ρ Γr Γl u Γ1 Γ2 e):ST K ρ Γr Γl (Iy t u) Γ Γ2 (zM d e) :=
  fun {B0 Dn E fps δ σ H} k o h=>h1 (Dn:={ Dn with nx:=u Dn }) (E:={ E with nx:=e E }) ⟨fun o h=>h2 k o h,k.bk,k.ct,k.rt⟩ o h
theorem ST.pre (h:ST K ρ Γr Γl t Γ1 Γn d) (s:∀i∈Γ1,i∈Γ:=by decide):ST K ρ Γr Γl t Γ Γn d:=fun _ _ _ _ _ _ _ k o q=>h k (o.sub s) q
theorem ST.post (h:ST K ρ Γr Γl t Γ Γ1 d) (s:∀i∈Γn,i∈Γ1:=by decide):ST K ρ Γr Γl t Γ Γn d:=fun _ _ _ _ _ _ _ k o q=>h ⟨fun o h=>k.nx (o.sub s) h,k.bk,k.ct,k.rt⟩ o q
def Dt (M:List Nat) (i:Nat) (de:DE) (E:bC) (δ:Dl):Prop:=de δ fun x=>E.nx ((kill M δ).set i (some x))
theorem bQ (i:Nat) (he:EM K Γ M te de) (hM:∀j∈M,j∈Γ:=by decide):ST K ρ Γr Γl (rj te (mw i)) Γ (i::minus (minus Γ M) [i]) (Dt M i de) :=
  fun _ _ _ _ _ _ _ k o h=>he.run o (he.mono _ _ _ (fun x z v H' fp s r n=>k.nx (o.He i hM s r n) z) h)
def I0 (i:Nat) (de:DE) (E:bC) (δ:Dl):Prop:=de δ fun x=>E.nx (δ.set i (some x))
theorem aP (i:Nat) (he:ES K Γ te de):ST K ρ Γr Γl (rj te (mw i)) Γ (minus Γ [i]) (I0 i de) :=
  fun _ _ _ _ _ _ _ k o h=>he.run o (he.mono _ _ _ (fun x z v H' fp s r n=>k.nx (o.Hi i s r n) z) h)
def HE (de:DE) (E:bC) (δ:Dl):Prop:=de δ fun _=>E.nx δ
def G4 (M:List Nat) (de:DE) (E:bC) (δ:Dl):Prop:=de δ fun x=>E.rt x (kill M δ)
theorem aJ (he:EM K Γ M te de) (hM:∀j∈M,j∈Γ:=by decide) (hr:∀j∈Γr,j∈Γ∧j∉M:=by decide):ST K ρ Γr Γl (HW te) Γ Γn (G4 M de) :=
  fun {B0 Dn E fps δ σ H} k o h=>he.run o (he.mono _ _ _ (fun x z v H' fp s r n=>by
    have ok:=((o.kill M).same s).sub (Γ':=Γr) fun i hi=>dO.mpr (hr i hi)
    refine k.rt ok r (fun _=>⟨n.nd,n.mu,fun a ha=>?_,fun j hj a ha=>?_⟩) z
    · rcases n.src a ha with e | ⟨i,hi,e⟩
      · exact o.b0.free e
      · exact ((o.own i (hM i hi)).2 a e).1
    · show a∉if j∈M then [] else fps j
      rw[if_neg (hr j hj).2]
      intro z
      rcases n.src a ha with e | ⟨i,hi,e⟩
      · exact o.dom z e
      · exact o.dj i (hM i hi) j (fun y=>(hr j hj).2 (by rw[y];exact hi)) a e z) h)
theorem w5 (he:ER K Γ te de) (hr:∀j∈Γr,j∈Γ:=by decide):ST K false Γr Γl (HW te) Γ Γn (G4 [] de) :=
  fun {B0 Dn E fps δ σ H} k o h=>he.run o (he.mono _ _ _ (fun x z v H' s r=>by
    obtain ⟨fp,r⟩:=r
    exact k.rt ((o.same s).sub hr) r (fun z=>by cases z) z) h)
def DZ (E:bC) (δ:Dl):Prop:=E.rt .non δ
theorem J6 (hr:∀j∈Γr,j∈Γ:=by decide):ST K ρ Γr Γl JE Γ Γn DZ :=
  fun {B0 Dn E fps δ σ H} k o h=>k.rt (o.sub hr) (Rf.xr (d:=.non) rfl) (fun _=>⟨List.nodup_nil,fun _ h=>(nomatch h),fun _ h=>(nomatch h),fun _ _ _ h=>(nomatch h)⟩) h
def G0 (c:DT) (d e:DS) (E:bC) (δ:Dl):Prop:=c δ fun b=>if b=true then d E δ else e E δ
theorem ft {c:TT}{dc:DT} (hc:TR K Γ c dc) (h1:ST K ρ Γr Γl t Γ Γn d) (h2:ST K ρ Γr Γl u Γ Γn e):ST K ρ Γr Γl (Jj c t u) Γ Γn (G0 dc d e) :=
  fun _ _ _ _ _ _ _ k o h=>hc.run o (hc.mono _ _ _ (fun b z H' s=>eW (fun z=>h1 k (o.same s) z) (fun z=>h2 k (o.same s) z) z) h)
def Ji (_u0:bC) (_u1:Dl):Prop:=False
theorem xN:ST K ρ Γr Γl t Γ Γn Ji:=fun _ _ _ _ _ _ _ _ _ h=>h.elim
structure GT (K:PySem.W.Frag) (Γ:List Nat) (g:TG) (dg:D→Dl→(Dl→Prop)→Prop):Prop where
  mono:∀x δ (P P':Dl→Prop),(∀z,P z→P' z)→dg x δ P→dg x δ P'
  run:∀{B0 fps δ σ H x v fp Q},Ok K B0 Γ fps δ σ H→Rf K H x v fp→(∀j∈Γ,∀a∈fp,a∉fps j)→dg x δ (fun δ'=>∀fps' σ',Ok K B0 Γ fps' δ' σ' H→(∀j∈Γ,fps' j=fps j)→Q σ' H)→g v σ H Q
structure GTs (K:PySem.W.Frag) (Γ:List Nat) (g:TGs) (dg:List D→Dl→(Dl→Prop)→Prop):Prop where
  mono:∀x δ (P P':Dl→Prop),(∀z,P z→P' z)→dg x δ P→dg x δ P'
  run:∀{B0 fps δ σ H x v fp Q},Ok K B0 Γ fps δ σ H→Rfs K H x v fp→(∀j∈Γ,∀a∈fp,a∉fps j)→dg x δ (fun δ'=>∀fps' σ',Ok K B0 Γ fps' δ' σ' H→(∀j∈Γ,fps' j=fps j)→Q σ' H)→g v σ H Q
def zX (i:Nat) (x:D) (δ:Dl) (P:Dl→Prop):Prop:=P (δ.set i (some x))
theorem aS (i:Nat) (h:i∉Γ:=by decide):GT K Γ (mw i) (zX i):=⟨fun _ _ _ _ k h=>k _ h,fun {B0 fps δ σ H x v fp Q} o r n q=>by
  have ok:=(o.Hi i (Same.refl H) r n).sub (Γ':=Γ) fun j hj=>dO.mpr ⟨hj,fun z=>h (by rw[← List.mem_singleton.mp z];exact hj)⟩
  exact q _ _ ok fun j hj=>by rw[if_neg (fun z=>h (by rw[← z];exact hj))]⟩
def Hg (xs:List D) (δ:Dl) (P:Dl→Prop):Prop:=match xs with | []=>P δ | _=>False
def Fn (dg:D→Dl→(Dl→Prop)→Prop) (dr:List D→Dl→(Dl→Prop)→Prop) (xs:List D) (δ:Dl) (P:Dl→Prop):Prop:=match xs with | x::r=>dg x δ fun δ'=>dr r δ' P | []=>False
theorem wW:GTs K Γ Ic Hg:=⟨fun x _ _ _ k h=>by cases x with | nil=>exact k _ h | cons _ _=>exact h,fun {B0 fps δ σ H x v fp Q} o r n q=>by
  cases x with
  | nil=>obtain ⟨rfl,_⟩:=r;exact⟨rfl,q _ _ o fun _ _=>rfl⟩
  | cons _ _=>exact q.elim⟩
theorem lE {g:TG}{gs:TGs}{dg:D→Dl→(Dl→Prop)→Prop}{dr:List D→Dl→(Dl→Prop)→Prop} (h1:GT K Γ g dg) (h2:GTs K Γ gs dr):GTs K Γ (C7 g gs) (Fn dg dr) :=
  ⟨fun x _ _ _ k h=>by
    cases x with
    | nil=>exact h
    | cons x r=>exact h1.mono _ _ _ _ (fun z h=>h2.mono _ _ _ _ k h) h,
   fun {B0 fps δ σ H x v fp Q} o r n q=>by
    cases x with
    | nil=>exact q.elim
    | cons x xs =>
      obtain ⟨y,ys,f1,f2,rfl,rfl,r1,r2⟩:=r
      refine⟨y,ys,rfl,h1.run o r1 (fun j hj a ha=>n j hj a (List.mem_append_left _ ha)) (h1.mono _ _ _ _ (fun δ' z fps' σ' o' e=>?_) q)⟩
      exact h2.run o' r2 (fun j hj a ha=>by rw[e j hj];exact n j hj a (List.mem_append_right _ ha)) (h2.mono _ _ _ _ (fun δ2 z fps2 σ2 o2 e2=>z fps2 σ2 o2 fun j hj=>(e2 j hj).trans (e j hj)) z)⟩
def AL (n:Nat) (dg:List D→Dl→(Dl→Prop)→Prop) (x:D) (δ:Dl) (P:Dl→Prop):Prop:=match x with | .tup ds=>ds.length=n∧dg ds δ P | _=>False
theorem CO {n:Nat}{g:TGs}{dg:List D→Dl→(Dl→Prop)→Prop} (h:GTs K Γ g dg):GT K Γ (GR K n g) (AL n dg) :=
  ⟨fun x δ P P' k h'=>by unfold AL at h' ⊢;revert h';split<;>first | exact fun h'=>⟨h'.1,h.mono _ _ _ _ k h'.2⟩ | exact id,
   fun {B0 fps δ σ H x v fp Q} o r nn q=>by
    unfold AL at q
    split at q
    · obtain ⟨a,xs,e1,e2,r⟩:=r
      exact⟨a,xs,e1,.inl (.inl e2),r.length.trans q.1,h.run o r nn q.2⟩
    · exact q.elim⟩
def IC (de:DE) (dg:D→Dl→(Dl→Prop)→Prop) (E:bC) (δ:Dl):Prop:=de δ fun x=>dg x δ E.nx
theorem Gq {g:TG}{dg:D→Dl→(Dl→Prop)→Prop} (he:ES K Γ te de) (hg:GT K Γ g dg):ST K ρ Γr Γl (rj te g) Γ Γ (IC de dg) :=
  fun _ _ _ _ _ _ _ k o h=>he.run o (he.mono _ _ _ (fun x z v H' fp s r n=>hg.run (o.same s) r n (hg.mono _ _ _ _ (fun δ' z fps' σ' o' _=>k.nx o' z) z)) h)
structure GO (K:PySem.W.Frag) (J:It) (B:Hp) (ds:List D):Prop where
  go:∀{i H},Same B H→i<ds.length→J.go i H
  yld:∀{i H x H' d},Same B H→J.yld i H x H'→ds[i]?=some d→Same H H'∧∃fp,Rf K H' d x fp∧∀a∈fp,B a≠none
  stop:∀{i H},Same B H→ds.length≤i→J.stop i H
abbrev DI:=Dl→(List D→Prop)→Prop
structure IT (K:PySem.W.Frag) (Γ:List Nat) (wi:TI) (di:DI):Prop where
  mono:∀δ (P P':List D→Prop),(∀x,P x→P' x)→di δ P→di δ P'
  run:∀{B0 fps δ σ H R},Ok K B0 Γ fps δ σ H→di δ (fun ds=>∀(J:It) (H':Hp) (fq:List Addr),Same H H'→(∀j∈Γ,∀a∈fq,a∉fps j) →
    (∀B,Same B H'→(∀a∈fq,B a=H' a)→(∀a o,H' a=some o→Im o→B a=some o)→GO K J B ds)→R J H')→wi σ H R
def asL (x:D) (P:List D→Prop):Prop:=match x.items with | some ds=>P ds | none=>False
theorem dF {x:D}{P:List D→Prop} (h:asL x P):∃ds,x.items=some ds∧P ds:=by
  unfold asL at h;split at h
  · exact⟨_,by assumption,h⟩
  · exact h.elim
theorem kM {x:D}{ds:List D}{P:List D→Prop} (e:x.items=some ds) (h:P ds):asL x P:=by unfold asL;rw[e];exact h
def Jg (de:DE) (δ:Dl) (P:List D→Prop):Prop:=de δ fun x=>asL x P
theorem bB (he:ES K Γ te de):IT K Γ (Fu K te) (Jg de) :=
  ⟨fun δ P P' k h=>he.mono _ _ _ (fun x z=>by obtain ⟨ds,e,z⟩:=dF z;exact kM e (k _ z)) h,
   fun {B0 fps δ σ H R} o h=>he.run o (he.mono _ _ _ (fun x z v H' fp s r n=>by
    obtain ⟨ds,ex,z⟩:=dF z
    obtain ⟨a,xs,fq,rfl,hs,hr,hin⟩:=r.seq ex
    refine⟨a,rfl,⟨xs,hs⟩,z (Itl K a) H' fp s n fun B sB ag im=>?_⟩
    have rB:Rf K B x (.ref a) fp:=r.mono (fun b hb u e=>by rw[ag b hb];exact e) im
    obtain ⟨a',xs',fq',e1,hs',hr',hin'⟩:=rB.seq ex
    cases e1
    have sq:∀{H2:Hp},Same B H2→SqL K H2 a xs':=fun s2=>by
      rcases hs' with (h | ⟨o',h⟩) | h
      · exact .inl (.inl (s2.st _ _ h trivial))
      · exact .inl (.inr ⟨o',s2.st _ _ h trivial⟩)
      · exact .inr h
    have hl:=hr'.length
    refine⟨fun {i H2} s2 hi=>⟨xs',xs'[i]'(by omega),sq s2,by simp [hl,hi]⟩,fun {i H2 y H3 d} s2 hy hd=>?_,fun {i H2} s2 hi=>⟨xs',sq s2,by omega⟩⟩
    obtain ⟨rfl,hy⟩:=hy
    have e2:=hy xs' (sq s2)
    obtain ⟨d',f,e3,r3,k3⟩:=hr'.get' e2
    rw[hd] at e3;cases e3
    exact⟨Same.refl _,f,r3.same s2,fun b hb=>by
      obtain ⟨u,hu,_⟩:=r3.dom b hb
      rw[hu];intro z;cases z⟩) h)⟩
def asI (xs:List D) (P:Int→Prop):Prop:=match xs with | [.int j]=>P j | _=>False
def BI (xs:List D) (P:Int→Int→Prop):Prop:=match xs with | [.int i,.int j]=>P i j | _=>False
theorem pk {xs:List D}{P:Int→Prop} (h:asI xs P):∃j,xs=[.int j]∧P j:=by
  unfold asI at h;split at h
  · exact⟨_,rfl,h⟩
  · exact h.elim
theorem yu {xs:List D}{P:Int→Int→Prop} (h:BI xs P):∃i j,xs=[.int i,.int j]∧P i j:=by
  unfold BI at h;split at h
  · exact⟨_,_,rfl,h⟩
  · exact h.elim
def pP (lo:Int) (n:Nat):List D:=(List.range n).map fun (k:Nat)=>.int (lo+(k:Int))
theorem Iv {lo:Int}{n:Nat}{B:Hp}:GO K (Itr lo n) B (pP lo n):=⟨fun {i H2} s2 hi=>by unfold Itr;simpa [pP] using hi,fun {i H2 y H3 d} s2 hy hd=>by
  obtain ⟨rfl,rfl⟩:=hy
  unfold pP at hd
  rw[List.getElem?_map] at hd
  cases e:(List.range n)[i]? with
  | none=>rw[e] at hd;cases hd
  | some k =>
    rw[e] at hd
    obtain ⟨h1,h2⟩:=List.getElem?_eq_some_iff.mp e
    rw[List.getElem_range] at h2
    subst h2
    cases hd
    exact⟨Same.refl _,[],⟨rfl,rfl⟩,fun _ h=>nomatch h⟩,fun {i H2} s2 hi=>by unfold Itr;simpa [pP] using hi⟩
def EG (da:DA) (δ:Dl) (P:List D→Prop):Prop:=da δ fun xs=>asI xs fun j=>(-(2 ^ 62)≤j∧j<2 ^ 62)∧P (pP 0 j.toNat)
def Hc (da:DA) (δ:Dl) (P:List D→Prop):Prop:=da δ fun xs=>BI xs fun i j=>(-(2 ^ 62)≤i∧i<2 ^ 62∧-(2 ^ 62)≤j∧j<2 ^ 62)∧P (pP i (j - i).toNat)
theorem Rps.ints1 {H:Hp}{j:Int}{vs:List V} (h:Rps K H [.int j] vs):vs=[.int j]:=by
  obtain ⟨fp,x,r,f1,f2,rfl,_,⟨rfl,_⟩,⟨rfl,_⟩⟩:=h;rfl
theorem Rps.ints2 {H:Hp}{i j:Int}{vs:List V} (h:Rps K H [.int i,.int j] vs):vs=[.int i,.int j]:=by
  obtain ⟨fp,x,r,f1,f2,rfl,_,⟨rfl,_⟩,y,r',f1,f2,rfl,_,⟨rfl,_⟩,⟨rfl,_⟩⟩:=h;rfl
theorem fH {u:TA}{da:DA} (ha:AR K Γ u da):IT K Γ (Hx u) (EG da) :=
  ⟨fun δ P P' k h=>ha.mono _ _ _ (fun x z=>by obtain ⟨j,rfl,z⟩:=pk z;exact⟨z.1,k _ z.2⟩) h,
   fun {B0 fps δ σ H R} o h=>ha.run o (ha.mono _ _ _ (fun xs z vs H' s r=>by
    obtain ⟨j,rfl,z⟩:=pk z
    exact⟨j,r.ints1,z.1.1,z.1.2,z.2 _ H' [] s (fun _ _ _ h=>(nomatch h)) fun B _ _ _=>Iv⟩) h)⟩
def oh (dg:D→Dl→(Dl→Prop)→Prop) (db:DS) (E:bC):List D→Dl→Prop
  | [],δ=>E.nx δ
  | x::xs,δ=>dg x δ fun δ'=>db { nx:=oh dg db E xs,ct:=oh dg db E xs,bk:=E.nx,rt:=E.rt } δ'
def II (di:DI) (dg:D→Dl→(Dl→Prop)→Prop) (db:DS) (E:bC) (δ:Dl):Prop:=di δ fun ds=>oh dg db E ds δ
theorem RtI.base {B1 B0:Hp}{fps:Nat→List Addr}{H:Hp}{fp:List Addr} (r:RtI B1 Γr fps H fp) (s:Same B0 B1) (_:js K B0):RtI B0 Γr fps H fp:=⟨r.nd,r.mu,fun a ha=>s.free (r.nw a ha),r.dj⟩
theorem fQ {wi:TI}{di:DI}{g:TG}{dg:D→Dl→(Dl→Prop)→Prop}{tb:TS}{db:DS} (hi:IT K Γ wi di) (hg:GT K Γ g dg) (hb:ST K ρ Γr Γ tb Γ Γ db):ST K ρ Γr Γl (Jz wi g tb) Γ Γ (II di dg db):=by
  intro B0 Dn E fps δ σ H k o h
  refine hi.run o (hi.mono _ _ _ (fun ds z J H1 fq s1 n1 hit=>?_) h)
  obtain ⟨B1,sB,o1,ag⟩:=(o.same s1).rebase
  have hJ:GO K J B1 ds:=hit B1 o1.b0 (fun a ha=>ag a fun j hj=>n1 j hj a ha) fun a u e im=>by
    rw[ag a fun j hj ha=>((o1.own j hj).2 a ha).2.yh u e im];exact e
  refine⟨fun i m σ H=>m=ds.length - i∧i≤ds.length∧∃fps δ,Ok K B1 Γ fps δ σ H∧oh dg db E (ds.drop i) δ,⟨ds.length,by omega,Nat.zero_le _,fps,δ,o1,by rw[List.drop_zero];exact z⟩,?_⟩
  rintro i m σ2 H2 ⟨rfl,hi2,fps2,δ2,o2,z2⟩
  by_cases hlt:i<ds.length
  · refine .inr ⟨hJ.go o2.b0 hlt,_,fun σ' H' q=>q,fun x H3 hy=>?_⟩
    obtain ⟨s3,fp,r3,n3⟩:=hJ.yld o2.b0 hy (List.getElem?_eq_getElem hlt)
    rw[List.drop_eq_getElem_cons hlt] at z2
    refine hg.run (o2.same s3) r3 (fun j hj a ha hz=>n3 a ha ((o2.own j hj).2 a hz).1) (hg.mono _ _ _ _ (fun δ' z' fps' σ' o' e'=>?_) z2)
    refine hb (E:={ nx:=oh dg db E (ds.drop (i+1)),ct:=oh dg db E (ds.drop (i+1)),bk:=E.nx,rt:=E.rt }) ⟨fun o4 z4=>⟨ds.length - (i+1),by omega,rfl,hlt,_,_,o4,z4⟩,fun o4 z4=>k.nx (o4.base sB o.b0.tv) z4,fun o4 z4=>⟨ds.length - (i+1),by omega,rfl,hlt,_,_,o4,z4⟩,fun o4 r4 i4 z4=>k.rt (o4.base sB o.b0.tv) r4 (fun y=>(i4 y).base sB o.b0.tv) z4⟩ o' z'
  · have e:i=ds.length:=by omega
    subst e
    rw[List.drop_length] at z2
    exact .inl ⟨hJ.stop o2.b0 (Nat.le_refl _),k.nx (o2.base sB o.b0.tv) z2⟩
def Ib (c:DT) (db:DS) (E:bC) (δ:Dl):Prop:=∃W:Nat→Dl→Prop,(∃m,W m δ)∧∀m δ,W m δ→c δ fun b=>if b=true then db { nx:=fun δ'=>∃m',m' < m∧W m' δ',ct:=fun δ'=>∃m',m' < m∧W m' δ',bk:=E.nx,rt:=E.rt } δ else E.nx δ
theorem mY {c:TT}{dc:DT}{tb:TS}{db:DS} (hc:TR K Γ c dc) (hb:ST K ρ Γr Γ tb Γ Γ db):ST K ρ Γr Γl (Ef c tb) Γ Γ (Ib dc db):=by
  intro B0 Dn E fps δ σ H k o h
  obtain ⟨W,⟨m,w0⟩,turn⟩:=h
  refine⟨fun m σ H=>∃fps δ,Ok K B0 Γ fps δ σ H∧W m δ,⟨m,fps,δ,o,w0⟩,?_⟩
  rintro m σ2 H2 ⟨fps2,δ2,o2,w2⟩
  refine hc.run o2 (hc.mono _ _ _ (fun b z H' s=>eW (fun z=>?_) (fun z=>k.nx (o2.same s) z) z) (turn m δ2 w2))
  refine⟨fun σ H=>∃m',m' < m∧∃fps δ,Ok K B0 Γ fps δ σ H∧W m' δ,fun σ' H' q=>q,hb (E:={ nx:=fun δ'=>∃m',m' < m∧W m' δ',ct:=fun δ'=>∃m',m' < m∧W m' δ',bk:=E.nx,rt:=E.rt }) ⟨?_,fun o4 z4=>k.nx o4 z4,?_,k.rt⟩ (o2.same s) z⟩
  · rintro fps δ σ H o4 ⟨m',h1,h2⟩
    exact⟨m',h1,fps,δ,o4,h2⟩
  · rintro fps δ σ H o4 ⟨m',h1,h2⟩
    exact⟨m',h1,fps,δ,o4,h2⟩
def vK (f:D→(List D→Prop)→Prop):List D→List D→(List D→Prop)→Prop
  | [],acc,P=>P acc
  | x::xs,acc,P=>f x fun ys=>vK f xs (acc++ys) P
theorem sM {f:D→(List D→Prop)→Prop} (hf:∀x P P',(∀z,P z→P' z)→f x P→f x P'):∀xs acc (P P':List D→Prop),(∀z,P z→P' z)→vK f xs acc P→vK f xs acc P'
  | [],acc,P,P',k,h=>k _ h
  | x::xs,acc,P,P',k,h=>hf x _ _ (fun z h=>sM hf xs _ P P' k h) h
def fE (k:Nat) (idx:List Nat) (δ:Dl):Dl:=List.replicate k none++idx.map fun i=>(δ[i]?).getD none
theorem JT {k:Nat}{idx:List Nat}{B0:Hp}{fps:Nat→List Addr}{δ:Dl}{σ:St}{H:Hp} (o:Ok K B0 Γ fps δ σ H):Ok K H [] (fun j=>match (fE k idx δ)[j]? with | some (some _)=>fps (idx.getD (j - k) 0) | _=>[]) (fE k idx δ) (iR k idx σ) H:=by
  refine⟨by simp [fE,iR,BQ],SB.refl o.b0.now,fun i d e=>?_,fun i h=>?_,fun _ h=>(nomatch h),fun _ h=>(nomatch h)⟩
  · rw[e]
    unfold fE at e
    unfold iR BQ
    by_cases hi:i<k
    · rw[List.getElem?_append_left (by simpa using hi)] at e
      simp [hi] at e
    · rw[List.getElem?_append_right (by simpa using hi),List.length_replicate,List.getElem?_map] at e
      cases ej:idx[i - k]? with
      | none=>rw[ej] at e;simp at e
      | some j =>
        rw[ej] at e
        simp only[Option.map_some,Option.some.injEq] at e
        have e':δ[j]?=some (some d):=by
          cases q:δ[j]? with
          | none=>rw[q] at e;cases e
          | some x=>rw[q] at e;simp at e;rw[e]
        obtain ⟨v,h1,h2⟩:=o.val j d e'
        refine⟨v,?_,?_⟩
        · rw[List.getElem?_append_right (by simpa using hi),List.length_replicate,List.getElem?_map,ej]
          simp [h1]
        · show Rf K H d v (fps (idx.getD (i - k) 0))
          rw[List.getD_eq_getElem?_getD,ej]
          exact h2
  · show (match (fE k idx δ)[i]? with | some (some _)=>_ | _=>_)=_
    split
    · exact absurd (by assumption) (h _)
    · rfl
def kC (dg:D→Dl→(Dl→Prop)→Prop) (dt:DT) (de:DE) (δ:Dl) (x:D) (R:List D→Prop):Prop:=dg x δ fun δ2=>dt δ2 fun b=>if b=true then de δ2 fun y=>R [y] else R []
def mx (di:DI) (dg:D→Dl→(Dl→Prop)→Prop) (dt:DT) (de:DE) (k:Nat) (idx:List Nat) (δ:Dl) (P:DK):Prop:=di δ fun ds=>ds.length≤1000∧vK (kC dg dt de (fE k idx δ)) ds [] fun ys=>P (.lst ys)
theorem zT {Γ':List Nat}{g:TG}{dg:D→Dl→(Dl→Prop)→Prop}{tt:TT}{dt:DT} (hg:GT K Γ' g dg) (ht:TR K Γ' tt dt) (hm:∀δ (P P':DK),(∀x,P x→P' x)→de δ P→de δ P') (δ:Dl):∀x P P',(∀z,P z→P' z)→kC dg dt de δ x P→kC dg dt de δ x P' :=
  fun x P P' k h=>hg.mono _ _ _ _ (fun δ2 h=>ht.mono _ _ _ (fun b h=>eW (hm _ _ _ fun y h=>k _ h) (k _) h) h) h
theorem pI {wi:TI}{di:DI}{g:TG}{dg:D→Dl→(Dl→Prop)→Prop}{tt:TT}{dt:DT}{k:Nat}{idx:List Nat} (hi:IT K [] wi di) (hg:GT K [] g dg) (ht:TR K [] tt dt) (he:EM K [] [] te de) :
    EM K Γ [] (zj wi g tt te k idx) (mx di dg dt de k idx):=by
  have hm:=zT hg ht he.mono
  refine⟨fun δ P P' k h=>hi.mono _ _ _ (fun ds z=>⟨z.1,sM (hm _) _ _ _ _ (fun ys h=>k _ h) z.2⟩) h,fun {B0 fps δ σ H Q} o h=>hi.run (o.sub (Γ':=[]) fun _ h=>(nomatch h)) (hi.mono _ _ _ (fun ds z J H1 fq s1 n1 hit=>?_) h)⟩
  have hJ:GO K J H1 ds:=hit H1 (Same.refl _) (fun _ _=>rfl) fun a u e im=>e
  obtain ⟨hz,z⟩:=z
  refine⟨fun i m vs H2=>m=ds.length - i∧i≤ds.length∧Same H1 H2∧vs.length≤i∧∃ys fp,Rfs K H2 ys vs fp∧Nw H1 H2 nf [] fp∧vK (kC dg dt de (fE k idx δ)) (ds.drop i) ys fun ys=>∀v H' fp,Same H H'→Rf K H' (.lst ys) v fp→Nw H H' fps [] fp→Q v H',
    ⟨ds.length,by omega,Nat.zero_le _,Same.refl _,Nat.zero_le _,[],[],⟨rfl,rfl⟩,Nw.nil,by rw[List.drop_zero];exact z⟩,?_⟩
  rintro i m vs H2 ⟨rfl,hi2,s2,hvs,ys,fp,r2,n2,z2⟩
  by_cases hlt:i<ds.length
  · refine .inr ⟨hJ.go s2 hlt,ml (by omega),_,fun vs' H' q=>q,fun x H3 hy=>?_⟩
    obtain ⟨s3,fx,r3,n3⟩:=hJ.yld s2 hy (List.getElem?_eq_getElem hlt)
    rw[List.drop_eq_getElem_cons hlt] at z2
    have oi:=(JT (k:=k) (idx:=idx) ((o.same s1).same (s2.trans s3)))
    refine hg.run oi r3 (fun _ h=>(nomatch h)) (hg.mono _ _ _ _ (fun δ' z' fps' σ' o' e'=>?_) z2)
    refine ht.run o' (ht.mono _ _ _ (fun b z' H4 s4=>eW (fun z'=>he.run (o'.same s4) (he.mono _ _ _ (fun y z' v H5 f5 s5 r5 n5=>?_) z')) (fun z'=>?_) z') z')
    · have s25:=s3.trans (s4.trans s5)
      refine⟨ds.length - (i+1),by omega,rfl,hlt,s2.trans s25,by simp;omega,ys++[y],fp++f5,(r2.same s25).append (Rfs.one r5),⟨?_,fun a ha=>?_,fun a ha=>?_⟩,z'⟩
      · refine List.nodup_append.mpr ⟨n2.nd,n5.nd,fun a h1 b h2 e=>?_⟩
        subst e
        exact ((n2.mu a h1).same (s3.trans s4)).some (n5.fresh a h2)
      · rcases List.mem_append.mp ha with h | h
        · exact (n2.mu a h).same s25
        · exact n5.mu a h
      · rcases List.mem_append.mp ha with h | h
        · exact n2.src a h
        · exact .inl ((s2.trans (s3.trans s4)).free (n5.fresh a h))
    · have s24:=s3.trans s4
      dsimp only at z'
      rw[List.append_nil] at z'
      exact⟨ds.length - (i+1),by omega,rfl,hlt,s2.trans s24,by omega,ys,fp,r2.same s24,n2.same s24,z'⟩
  · have e:i=ds.length:=by omega
    subst e
    rw[List.drop_length] at z2
    refine .inl ⟨hJ.stop s2 (Nat.le_refl _),ml (by omega),fun p hp=>?_⟩
    have hs:Same H2 (upd H2 p (.lst vs)):=Same.mC hp
    refine z2 _ _ (p::fp) ((s1.trans s2).trans hs) ⟨p,vs,fp,rfl,aG,rfl,r2.same hs⟩ ⟨List.nodup_cons.mpr ⟨fun h=>(n2.mu p h).some hp,n2.nd⟩,fun a ha=>?_,fun a ha=>?_⟩
    · rcases List.mem_cons.mp ha with e | h
      · subst e;exact .inl ⟨vs,aG⟩
      · exact (n2.mu a h).same hs
    · rcases List.mem_cons.mp ha with e | h
      · subst e;exact .inl ((s1.trans s2).free hp)
      · exact .inl (s1.free (n2.fresh a h))
def GW (_u0:Dl) (P:Bool→Prop):Prop:=P true
theorem IQ:TR K Γ Gh GW:=⟨fun _ _ _ k h=>k _ h,fun {_ _ _ _ H _} o q=>q H (Same.refl H)⟩
def aN (N:List Str) (ds:List D):Dl:=ds.map some++List.replicate (N.length - ds.length) none
theorem Rfs.split {H:Hp}:∀{ds:List D}{vs:List V}{fp:List Addr},Rfs K H ds vs fp→∃fps:Nat→List Addr,(∀i d,ds[i]?=some d→∃v,vs[i]?=some v∧Rf K H d v (fps i))∧∀i,ds.length≤i→fps i=[]
  | [],vs,fp,h=>⟨fun _=>[],fun i d e=>by simp at e,fun _ _=>rfl⟩
  | d::ds,vs,fp,h=>by
    obtain ⟨x,r,f1,f2,rfl,rfl,h1,h2⟩:=h
    obtain ⟨fps,k1,k2⟩:=Rfs.split h2
    refine⟨fun i=>match i with | 0=>f1 | j+1=>fps j,fun i d' e=>?_,fun i hi=>?_⟩
    · cases i with
      | zero=>simp at e;subst e;exact⟨x,rfl,h1⟩
      | succ j=>simpa using k1 j d' (by simpa using e)
    · cases i with
      | zero=>simp at hi
      | succ j=>exact k2 j (by simpa using hi)
theorem tJ {N:List Str}{ds:List D}{vs:List V}{H:Hp} (h:Rps K H ds vs) (tv:js K H):∃fps,Ok K H [] fps (aN N ds) (L2.start N vs) H:=by
  obtain ⟨fp,h⟩:=h
  have hl:=h.length
  obtain ⟨fps,k1,k2⟩:=h.split
  refine⟨fps,by simp [aN,L2.start,hl],SB.refl tv,fun i d e=>?_,fun i e=>?_,fun _ h=>(nomatch h),fun _ h=>(nomatch h)⟩
  · unfold aN at e
    unfold L2.start
    by_cases hi:i<ds.length
    · rw[List.getElem?_append_left (by simpa using hi),List.getElem?_map,List.getElem?_eq_getElem hi] at e
      simp at e
      obtain ⟨v,h1,h2⟩:=k1 i d (by rw[List.getElem?_eq_getElem hi,e])
      exact⟨v,by rw[List.getElem?_append_left (by simpa [hl] using hi),List.getElem?_map,h1];rfl,h2⟩
    · rw[List.getElem?_append_right (by simpa using hi),List.getElem?_replicate] at e
      split at e<;>cases e
  · by_cases hi:i<ds.length
    · refine absurd ?_ (e ds[i])
      unfold aN
      rw[List.getElem?_append_left (by simpa using hi),List.getElem?_map,List.getElem?_eq_getElem hi]
      rfl
    · exact k2 i (by omega)
abbrev qV (P:DK):bC:=⟨fun _=>P .non,fun x _=>P x,fun _=>False,fun _=>False⟩
theorem bq {N:List Str}{S:DSp} (hs:ST K true [] [] t [] Γn d) (hd:∀ds P,S ds P→d (qV P) (aN N ds)) :
    ∀{vs H Q E},spP K S vs H Q E→t { nx:=fun _ H'=>Q .non H',rt:=Q } (L2.start N vs) H:=by
  rintro vs H Q E ⟨ds,r,tv,h⟩
  obtain ⟨fps,o⟩:=tJ (N:=N) r tv
  refine hs (E:=qV _) ⟨fun {fps δ σ H'} o z=>?_,fun o (z:False)=>z.elim,fun o (z:False)=>z.elim,fun o r i z=>?_⟩ o (hd ds _ h)
  · exact z _ H' [] o.b0 ⟨rfl,rfl⟩ Nw.nil
  · exact z _ _ _ o.b0 r ⟨(i rfl).nd,(i rfl).mu,fun a ha=>.inl ((i rfl).nw a ha)⟩
theorem Bf {N:List Str}{S:DSp} (hs:ST K false [] [] t [] Γn d) (hd:∀ds P,S ds P→d (qV P) (aN N ds)) :
    ∀{vs H Q E},spR K S vs H Q E→t { nx:=fun _ H'=>Q .non H',rt:=Q } (L2.start N vs) H:=by
  rintro vs H Q E ⟨ds,r,tv,h⟩
  obtain ⟨fps,o⟩:=tJ (N:=N) r tv
  refine hs (E:=qV _) ⟨fun {fps δ σ H'} o z=>?_,fun o (z:False)=>z.elim,fun o (z:False)=>z.elim,fun o r i z=>?_⟩ o (hd ds _ h)
  · exact z _ H' o.b0 ⟨[],rfl,rfl⟩
  · exact z _ _ o.b0 ⟨_,r⟩
end
end L3
namespace L3
open PySem L2
section
variable {K:PySem.W.Frag}{ρ:Bool}{Γr Γl Γ Γ1 Γ2 Γn M:List Nat}{t u:TS}{te ta tb tx t1 t2:TE}{de da db dx d1 d2:DE}{d e:DS}
variable {B0:Hp}{fps:Nat→List Addr}{δ:Dl}{σ:St}{H H':Hp}
theorem Ok.Eu (o:Ok K B0 Γ fps δ σ H) {i:Nat} (hi:i∈Γ) {d':D}{v:V}{fp':List Addr} (hv:σ[i]?=some (some v)) (r:Rf K H' d' v fp') (nd:fp'.Nodup) (mu:∀a∈fp',Mu H' a)
    (src:∀a∈fp',a∈fps i∨(B0 a=none∧∀j,a∉fps j)) (sb:SB K B0 H') (keep:∀b u,b∉fps i→H b=some u→NT u→H' b=some u) :
    Ok K B0 Γ (fun j=>if j=i then fp' else fps j) (δ.set i (some d')) σ H':=by
  have hlt:i<δ.length:=by rw[← o.len];exact (List.getElem?_eq_some_iff.mp hv).1
  refine⟨by simp [o.len],sb,fun j d e=>?_,fun j h=>?_,fun j hj=>?_,fun j hj k hk a ha=>?_⟩
  · by_cases h:j=i
    · subst h
      rw[List.getElem?_set] at e
      simp [hlt] at e
      subst e
      exact⟨v,hv,by rw[if_pos rfl];exact r⟩
    · rw[List.getElem?_set_ne (Ne.symm h)] at e
      obtain ⟨w,h1,h2⟩:=o.val j d e
      refine⟨w,h1,?_⟩
      rw[if_neg h]
      exact h2.n6 (fun a ha u e n=>keep a u (fun z=>o.dj i hi j h a z ha) e n) fun a u e im=>keep a u (fun z=>((o.own i hi).2 a z).2.yh u e im) e (by rcases im with ⟨_,rfl⟩ | ⟨_,_,rfl⟩<;>trivial)
  · by_cases h':j=i
    · subst h'
      exact absurd (by rw[List.getElem?_set];simp [hlt]) (h d')
    · rw[if_neg h']
      exact o.non j fun d z=>h d (by rw[List.getElem?_set_ne (Ne.symm h')];exact z)
  · by_cases h:j=i
    · subst h
      rw[if_pos rfl]
      refine⟨nd,fun a ha=>⟨?_,mu a ha⟩⟩
      rcases src a ha with z | z
      · exact ((o.own j hi).2 a z).1
      · exact z.1
    · rw[if_neg h]
      refine⟨(o.own j hj).1,fun a ha=>⟨((o.own j hj).2 a ha).1,?_⟩⟩
      have hn:a∉fps i:=fun z=>o.dj i hi j h a z ha
      rcases ((o.own j hj).2 a ha).2 with ⟨x,z⟩ | ⟨x,z⟩ | ⟨x,z⟩ | ⟨C,dx,fs,z⟩
      · exact .inl ⟨x,keep a _ hn z trivial⟩
      · exact .inr (.inl ⟨x,keep a _ hn z trivial⟩)
      · exact .inr (.inr (.inl ⟨x,keep a _ hn z trivial⟩))
      · exact .inr (.inr (.inr ⟨C,dx,fs,keep a _ hn z trivial⟩))
  · by_cases h:j=i
    · subst h
      rw[if_pos rfl] at ha
      rw[if_neg hk]
      rcases src a ha with z | z
      · exact o.dj j hi k hk a z
      · exact z.2 k
    · rw[if_neg h] at ha
      by_cases hki:k=i
      · rw[if_pos hki]
        intro z
        rcases src a z with y | y
        · exact o.dj j hj i (Ne.symm h) a ha y
        · exact y.2 j ha
      · rw[if_neg hki]
        exact o.dj j hj k hk a ha
def lF (δ:Dl) (i:Nat) (P:List D→Prop):Prop:=match δ[i]? with | some (some (.lst ds))=>P ds | _=>False
theorem Ok.write (o:Ok K B0 Γ fps δ σ H) {i:Nat} (hi:i∈Γ) {d':D}{v:V}{fp':List Addr} (hv:σ[i]?=some (some v)) (r:Rf K H' d' v fp') (nd:fp'.Nodup) (mu:∀a∈fp',Mu H' a)
    (src:∀a∈fp',a∈fps i∨(B0 a=none∧∀j,a∉fps j)) (keep:∀b u,b∉fps i→H b=some u→H' b=some u) :
    Ok K B0 Γ (fun j=>if j=i then fp' else fps j) (δ.set i (some d')) σ H':=o.Eu hi hv r nd mu src (o.b0.keep (fun a ha=>(o.own i hi).2 a ha) keep) fun b u n e _=>keep b u n e
theorem nP {δ:Dl}{i:Nat}{P:List D→Prop} (h:lF δ i P):∃ds,δ[i]?=some (some (.lst ds))∧P ds:=by
  unfold lF at h;split at h
  · exact⟨_,by assumption,h⟩
  · exact h.elim
theorem Ok.BV (o:Ok K B0 Γ fps δ σ H) {i:Nat}{ds:List D} (e:δ[i]?=some (some (.lst ds))):∃a xs fq,σ[i]?=some (some (.ref a))∧H a=some (.lst xs)∧fps i=a::fq∧Rfs K H ds xs fq:=by
  obtain ⟨v,h1,a,xs,fq,rfl,h2,h3,h4⟩:=o.val i _ e
  exact⟨a,xs,fq,h1,h2,h3,h4⟩
theorem pN {a:Addr}{w:HO}{fp:List Addr} (ha:a∈fp):∀b u,b∉fp→H b=some u→upd H a w b=some u:=fun b u hb e=>by
  rw[aV (fun z=>hb (by rw[z];exact ha))];exact e
def wG (M:List Nat) (i:Nat) (de:DE) (E:bC) (δ:Dl):Prop:=lF δ i fun ds=>de δ fun x=>ds.length<1000∧E.nx ((kill M δ).set i (some (.lst (ds++[x]))))
theorem jO (i:Nat) (he:EM K Γ M te de) (hi:i∈Γ∧i∉M:=by decide) (hM:∀j∈M,j∈Γ:=by decide):ST K ρ Γr Γl (An (tBM K "list" Bj (pM i) (jr te rm))) Γ (minus Γ M) (wG M i de):=by
  intro B0 Dn E fps δ σ H k o h
  obtain ⟨ds,e,h⟩:=nP h
  obtain ⟨a,xs,fq,h1,h2,h3,h4⟩:=o.BV e
  refine⟨.ref a,h1,.inl ⟨rfl,xs,.inl (.inl h2)⟩,he.run o (he.mono _ _ _ (fun x z v H1 fp s r n=>?_) h)⟩
  refine⟨a,xs,v,rfl,rfl,s.st _ _ h2 trivial,by rw[h4.length];exact Nat.lt_of_lt_of_le z.1 (ml (Nat.le_refl _)),?_⟩
  have ok:=(o.kill M).same s
  have hil:i∈minus Γ M:=dO.mpr hi
  have hown:=o.own i hi.1
  rw[h3] at hown
  obtain ⟨nd,hmu⟩:=hown
  obtain ⟨na,ndq⟩:=List.nodup_cons.mp nd
  have hfa:∀b∈fp,b≠a∧b∉fq:=fun b hb=>by
    have:b∉fps i:=fun z=>by
      rcases n.src b hb with y | ⟨j,hj,y⟩
      · exact o.dom z y
      · exact o.dj j (hM j hj) i (fun w=>hi.2 (by rw[w];exact hj)) b y z
    rw[h3] at this
    exact⟨fun z=>this (by rw[z];exact List.mem_cons_self),fun z=>this (List.mem_cons_of_mem _ z)⟩
  have nt:=((hmu a List.mem_cons_self).2.same s).yh
  refine k.nx (ok.write hil (d':=.lst (ds++[x])) (fp':=a::(fq++fp)) h1 ⟨a,xs++[v],fq++fp,rfl,aG,rfl,?_⟩ ?_ (fun b hb=>?_) (fun b hb=>?_) ?_) z.2
  · exact ((h4.same s).upd na nt).append ((Rfs.one r).upd (fun w=>(hfa a w).1 rfl) nt)
  · refine List.nodup_cons.mpr ⟨fun w=>?_,List.nodup_append.mpr ⟨ndq,n.nd,fun b h1 c h2 z=>?_⟩⟩
    · rcases List.mem_append.mp w with w | w
      · exact na w
      · exact (hfa a w).1 rfl
    · subst z;exact (hfa b h2).2 h1
  · refine Mu.upd ?_ (.inl ⟨_,rfl⟩)
    rcases List.mem_cons.mp hb with w | w
    · subst w;exact .inl ⟨xs,s.st _ _ h2 trivial⟩
    · rcases List.mem_append.mp w with w | w
      · exact (hmu b (List.mem_cons_of_mem _ w)).2.same s
      · exact n.mu b w
  · show b∈(if i∈M then [] else fps i)∨_
    rw[if_neg hi.2,h3]
    rcases List.mem_cons.mp hb with w | w
    · subst w;exact .inl List.mem_cons_self
    · rcases List.mem_append.mp w with w | w
      · exact .inl (List.mem_cons_of_mem _ w)
      · refine .inr ⟨?_,fun j=>?_⟩
        · rcases n.src b w with y | ⟨j,hj,y⟩
          · exact o.b0.free y
          · exact ((o.own j (hM j hj)).2 b y).1
        · show b∉(if j∈M then [] else fps j)
          split
          · exact List.not_mem_nil
          · rename_i hj
            intro z
            rcases n.src b w with y | ⟨j',hj',y⟩
            · exact o.dom z y
            · exact o.dj j' (hM j' hj') j (fun q=>hj (by rw[q];exact hj')) b y z
  · show ∀b u,b∉(if i∈M then [] else fps i)→_
    rw[if_neg hi.2,h3]
    exact pN List.mem_cons_self
theorem Rfs.set {H:Hp}{x:D}{v:V}{fp:List Addr} (r:Rf K H x v fp) (nd:fp.Nodup):∀{ds:List D}{xs:List V}{fq:List Addr}{j:Nat},Rfs K H ds xs fq→fq.Nodup→(∀a∈fp,a∉fq)→j<ds.length →
    ∃fq',Rfs K H (ds.set j x) (xs.set j v) fq'∧fq'.Nodup∧∀a∈fq',a∈fq∨a∈fp
  | [],xs,fq,j,h,_,_,hj=>by simp at hj
  | d::ds,xs,fq,j,h,hn,hd,hj=>by
    obtain ⟨y,ys,f1,f2,rfl,rfl,h1,h2⟩:=h
    obtain ⟨n1,n2,n3⟩:=List.nodup_append.mp hn
    cases j with
    | zero =>
      refine⟨fp++f2,⟨v,ys,fp,f2,rfl,rfl,r,h2⟩,List.nodup_append.mpr ⟨nd,n2,fun a ha b hb z=>?_⟩,fun a ha=>?_⟩
      · subst z;exact hd a ha (List.mem_append_right _ hb)
      · exact (List.mem_append.mp ha).elim .inr fun z=>.inl (List.mem_append_right _ z)
    | succ j =>
      obtain ⟨fq',r',nd',k'⟩:=Rfs.set r nd (j:=j) h2 n2 (fun a ha z=>hd a ha (List.mem_append_right _ z)) (by simpa using hj)
      refine⟨f1++fq',⟨y,ys.set j v,f1,fq',rfl,rfl,h1,r'⟩,List.nodup_append.mpr ⟨n1,nd',fun a ha b hb z=>?_⟩,fun a ha=>?_⟩
      · subst z
        rcases k' a hb with w | w
        · exact n3 a ha a w rfl
        · exact hd a w (List.mem_append_left _ ha)
      · rcases List.mem_append.mp ha with w | w
        · exact .inl (List.mem_append_left _ w)
        · exact (k' a w).imp (List.mem_append_right _) id
def jj (i:Nat) (de dx:DE) (E:bC) (δ:Dl):Prop:=de δ fun x=>lF δ i fun ds=>dx δ fun k=>asI [k] fun n=>match ixN ds.length n with | some j=>E.nx (δ.set i (some (.lst (ds.set j x)))) | none=>False
theorem zC {n:Nat}{i:Int}{j:Nat} (h:ixN n i=some j):j<n:=by
  unfold ixN at h
  split at h
  · split at h
    · cases h;omega
    · cases h
  · split at h
    · cases h;omega
    · cases h
theorem ug (o:Ok K B0 Γ fps δ σ H) {i j:Nat} (hi:i∈Γ) {ds:List D}{x:D}{v:V}{fp:List Addr} (e:δ[i]?=some (some (.lst ds))) (r:Rf K H x v fp) (nd:fp.Nodup) (mu:∀a∈fp,Mu H a) (src:∀a∈fp,B0 a=none∧∀j,a∉fps j) (hj:j<ds.length) :
    ∃a xs,σ[i]?=some (some (.ref a))∧H a=some (.lst xs)∧xs.length=ds.length∧∃fps',Ok K B0 Γ fps' (δ.set i (some (.lst (ds.set j x)))) σ (upd H a (.lst (xs.set j v))):=by
  obtain ⟨a,xs,fq,h1,h2,h3,h4⟩:=o.BV e
  have hown:=o.own i hi
  rw[h3] at hown
  obtain ⟨nd0,hmu⟩:=hown
  obtain ⟨na,ndq⟩:=List.nodup_cons.mp nd0
  have nt:=(hmu a List.mem_cons_self).2.yh
  have hfq:∀b∈fp,b∉fps i:=fun b hb=>(src b hb).2 i
  rw[h3] at hfq
  obtain ⟨fq',r',nd',k'⟩:=Rfs.set r nd h4 ndq (fun b hb z=>hfq b hb (List.mem_cons_of_mem _ z)) hj
  have naq:a∉fq':=fun z=>(k' a z).elim na fun w=>hfq a w List.mem_cons_self
  refine⟨a,xs,h1,h2,h4.length,_,o.write hi (fp':=a::fq') h1 ⟨a,xs.set j v,fq',rfl,aG,rfl,r'.upd naq nt⟩ (List.nodup_cons.mpr ⟨naq,nd'⟩) (fun b hb=>Mu.upd ?_ (.inl ⟨_,rfl⟩)) (fun b hb=>?_) ?_⟩
  · rcases List.mem_cons.mp hb with w | w
    · subst w;exact .inl ⟨xs,h2⟩
    · rcases k' b w with w | w
      · exact (hmu b (List.mem_cons_of_mem _ w)).2
      · exact mu b w
  · rw[h3]
    rcases List.mem_cons.mp hb with w | w
    · subst w;exact .inl List.mem_cons_self
    · rcases k' b w with w | w
      · exact .inl (List.mem_cons_of_mem _ w)
      · exact .inr (src b w)
  · rw[h3];exact pN List.mem_cons_self
theorem dA {x:D}{P:Int→Prop} (h:asI [x] P):∃j,x=.int j∧P j:=by
  obtain ⟨j,e,h⟩:=pk h;cases e;exact⟨j,rfl,h⟩
theorem ff (i:Nat) (he:EM K Γ [] te de) (hx:ER K Γ tx dx) (hi:i∈Γ:=by decide):ST K ρ Γr Γl (rj te (GH (pM i) tx AG)) Γ Γ (jj i de dx):=by
  intro B0 Dn E fps δ σ H k o h
  refine he.run o (he.mono _ _ _ (fun x z v H1 fp s r n=>?_) h)
  obtain ⟨ds,e,z⟩:=nP z
  obtain ⟨a0,_,_,h1,_⟩:=(o.same s).BV e
  refine⟨.ref a0,h1,hx.run (o.same s) (hx.mono _ _ _ (fun y z w H2 s2 r2=>?_) z)⟩
  obtain ⟨m,em,z9⟩:=dA z
  subst em
  cases ej:ixN ds.length m with
  | none=>rw[ej] at z9;exact z9.elim
  | some j =>
    rw[ej] at z9
    obtain ⟨a,xs,e1,e2,e3,fps',o'⟩:=ug ((o.same s).same s2) hi e (r.same s2) n.nd (fun a ha=>(n.mu a ha).same s2) (fun a ha=>⟨o.b0.free (n.fresh a ha),fun j z=>o.dom z (n.fresh a ha)⟩) (zC ej)
    rw[h1] at e1;cases e1
    exact⟨a0,xs,m,j,rfl,r2.int,e2,by rw[e3];exact ej,k.nx o' z9⟩
theorem Rfs.inner {H:Hp}:∀{ds:List D}{xs:List V}{fq:List Addr}{j:Nat}{es:List D},Rfs K H ds xs fq→fq.Nodup→ds[j]?=some (.lst es) →
    ∃b ys fe,xs[j]?=some (.ref b)∧H b=some (.lst ys)∧Rfs K H es ys fe∧b∈fq∧(∀a∈fe,a∈fq)∧b∉fe∧fe.Nodup ∧
      ∀{H':Hp}{es':List D}{ys':List V}{fe':List Addr},(∀c u,c≠b→H c=some u→H' c=some u)→H' b=some (.lst ys')→(∀u,H b=some u→¬ Im u)→Rfs K H' es' ys' fe'→fe'.Nodup→b∉fe'→(∀a∈fe',a∈fe∨a∉fq) →
        ∃fq',Rfs K H' (ds.set j (.lst es')) xs fq'∧fq'.Nodup∧∀a∈fq',a∈fq∨a∈fe'
  | [],xs,fq,j,es,h,_,e=>by simp at e
  | d::ds,xs,fq,j,es,h,hn,e=>by
    obtain ⟨y,ys,f1,f2,rfl,rfl,h1,h2⟩:=h
    obtain ⟨n1,n2,n3⟩:=List.nodup_append.mp hn
    cases j with
    | zero =>
      simp at e;subst e
      obtain ⟨b,zs,fe,rfl,hb,rfl,h3⟩:=h1
      obtain ⟨m1,m2⟩:=List.nodup_cons.mp n1
      refine⟨b,zs,fe,rfl,hb,h3,List.mem_append_left _ List.mem_cons_self,fun a ha=>List.mem_append_left _ (List.mem_cons_of_mem _ ha),m1,m2,fun {H' es' ys' fe'} k1 k2 k3 k4 k5 k6 k7=>?_⟩
      refine⟨(b::fe')++f2,⟨_,ys,b::fe',f2,rfl,rfl,⟨b,ys',fe',rfl,k2,rfl,k4⟩,?_⟩,List.nodup_append.mpr ⟨List.nodup_cons.mpr ⟨k6,k5⟩,n2,fun a ha c hc z=>?_⟩,fun a ha=>?_⟩
      · exact h2.mono (fun c hc u e=>k1 c u (fun z=>n3 b List.mem_cons_self c hc z.symm) e) fun c u e im=>k1 c u (fun z=>k3 u (by rw[← z];exact e) im) e
      · subst z
        rcases List.mem_cons.mp ha with w | w
        · exact n3 a (by rw[w];exact List.mem_cons_self) a hc rfl
        · rcases k7 a w with w | w
          · exact n3 a (List.mem_cons_of_mem _ w) a hc rfl
          · exact w (List.mem_append_right _ hc)
      · rcases List.mem_append.mp ha with w | w
        · rcases List.mem_cons.mp w with w | w
          · exact .inl (List.mem_append_left _ (by rw[w];exact List.mem_cons_self))
          · exact .inr w
        · exact .inl (List.mem_append_right _ w)
    | succ j =>
      obtain ⟨b,zs,fe,e1,hb,h3,hbq,hfe,hbe,hnd,K'⟩:=Rfs.inner (j:=j) h2 n2 (by simpa using e)
      refine⟨b,zs,fe,by simpa using e1,hb,h3,List.mem_append_right _ hbq,fun a ha=>List.mem_append_right _ (hfe a ha),hbe,hnd,fun {H' es' ys' fe'} k1 k2 k3 k4 k5 k6 k7=>?_⟩
      obtain ⟨fq',r',nd',s'⟩:=K' k1 k2 k3 k4 k5 k6 fun a ha=>(k7 a ha).imp id fun w z=>w (List.mem_append_right _ z)
      have hy:Rf K H' d y f1:=h1.mono (fun c hc u e=>k1 c u (fun z=>n3 c hc b hbq z) e) fun c u e im=>k1 c u (fun z=>k3 u (by rw[← z];exact e) im) e
      refine⟨f1++fq',⟨y,ys,f1,fq',rfl,rfl,hy,r'⟩,List.nodup_append.mpr ⟨n1,nd',fun a ha c hc z=>?_⟩,fun a ha=>?_⟩
      · subst z
        rcases s' a hc with w | w
        · exact n3 a ha a w rfl
        · rcases k7 a w with w | w
          · exact n3 a ha a (hfe a w) rfl
          · exact w (List.mem_append_left _ ha)
      · rcases List.mem_append.mp ha with w | w
        · exact .inl (List.mem_append_left _ w)
        · exact (s' a w).imp (List.mem_append_right _) id
theorem zr (o:Ok K B0 Γ fps δ σ H) {i j:Nat} (hi:i∈Γ) {ds es es':List D} (e:δ[i]?=some (some (.lst ds))) (ej:ds[j]?=some (.lst es)) :
    ∃a xs b ys fe,σ[i]?=some (some (.ref a))∧H a=some (.lst xs)∧xs.length=ds.length∧xs[j]?=some (.ref b)∧H b=some (.lst ys)∧Rfs K H es ys fe∧fe.Nodup∧b∉fe∧(∀a∈fe,a∈fps i)∧b∈fps i ∧
      ∀{ys':List V}{fe':List Addr},Rfs K H es' ys' fe'→fe'.Nodup→b∉fe'→(∀c∈fe',Mu H c)→(∀c∈fe',c∈fe∨(B0 c=none∧∀j,c∉fps j))→∃fps',Ok K B0 Γ fps' (δ.set i (some (.lst (ds.set j (.lst es'))))) σ (upd H b (.lst ys')):=by
  obtain ⟨a,xs,fq,h1,h2,h3,h4⟩:=o.BV e
  have hown:=o.own i hi
  rw[h3] at hown
  obtain ⟨nd0,hmu⟩:=hown
  obtain ⟨na,ndq⟩:=List.nodup_cons.mp nd0
  obtain ⟨b,ys,fe,e1,hb,h5,hbq,hfe,hbe,hnd,K'⟩:=h4.inner ndq ej
  refine⟨a,xs,b,ys,fe,h1,h2,h4.length,e1,hb,h5,hnd,hbe,fun c hc=>by rw[h3];exact List.mem_cons_of_mem _ (hfe c hc),by rw[h3];exact List.mem_cons_of_mem _ hbq,fun {ys' fe'} r nd nb mu src=>?_⟩
  have nt:=(hmu b (List.mem_cons_of_mem _ hbq)).2.yh
  have hab:a≠b:=fun z=>na (by rw[z];exact hbq)
  obtain ⟨fq',r',nd',k'⟩:=K' (H':=upd H b (.lst ys')) (fun c u hc e=>by rw[aV hc];exact e) aG nt (r.upd nb nt) nd nb fun c hc=>(src c hc).imp id fun w z=>w.2 i (by rw[h3];exact List.mem_cons_of_mem _ z)
  have naq:a∉fq':=fun z=>by
    rcases k' a z with w | w
    · exact na w
    · rcases src a w with w | w
      · exact na (hfe a w)
      · exact w.2 i (by rw[h3];exact List.mem_cons_self)
  refine⟨_,o.write hi (fp':=a::fq') h1 ⟨a,xs,fq',rfl,by rw[aV hab];exact h2,rfl,r'⟩ (List.nodup_cons.mpr ⟨naq,nd'⟩) (fun c hc=>Mu.upd ?_ (.inl ⟨_,rfl⟩)) (fun c hc=>?_) ?_⟩
  · rcases List.mem_cons.mp hc with w | w
    · subst w;exact .inl ⟨xs,h2⟩
    · rcases k' c w with w | w
      · exact (hmu c (List.mem_cons_of_mem _ w)).2
      · exact mu c w
  · rw[h3]
    rcases List.mem_cons.mp hc with w | w
    · subst w;exact .inl List.mem_cons_self
    · rcases k' c w with w | w
      · exact .inl (List.mem_cons_of_mem _ w)
      · rcases src c w with w | w
        · exact .inl (List.mem_cons_of_mem _ (hfe c w))
        · exact .inr w
  · rw[h3];exact pN (List.mem_cons_of_mem _ hbq)
def pB (o:Option D) (P:List D→Prop):Prop:=match o with | some (.lst es)=>P es | _=>False
theorem lj {o:Option D}{P:List D→Prop} (h:pB o P):∃es,o=some (.lst es)∧P es:=by
  unfold pB at h;split at h
  · exact⟨_,rfl,h⟩
  · exact h.elim
def qL (i:Nat) (de d1 d2:DE) (E:bC) (δ:Dl):Prop:=de δ fun x=>lF δ i fun ds=>d1 δ fun k=>asI [k] fun m=>pB (atI ds m) fun es=>d2 δ fun k2=>asI [k2] fun m2=>match ixN ds.length m,ixN es.length m2 with | some j,some j2=>E.nx (δ.set i (some (.lst (ds.set j (.lst (es.set j2 x)))))) | _,_=>False
def Dr (i:Nat) (E:bC) (δ:Dl):Prop:=lF δ i fun _=>E.nx (δ.set i (some (.lst [])))
def cutD (ds:List D) (lo hi:Option Int):List D:=(ds.drop (HT.sIx ds.length 0 lo)).take (HT.sIx ds.length ds.length hi - HT.sIx ds.length 0 lo)
abbrev DO:=Dl→(Option Int→Prop)→Prop
structure OR (K:PySem.W.Frag) (Γ:List Nat) (t:TO) (d:DO):Prop where
  mono:∀δ (P P':Option Int→Prop),(∀x,P x→P' x)→d δ P→d δ P'
  run:∀{B0 fps δ σ H Q},Ok K B0 Γ fps δ σ H→d δ (fun x=>∀H',Same H H'→Q x H')→t σ H Q
def xm (_u0:Dl) (P:Option Int→Prop):Prop:=P none
def Fl (d:DE) (δ:Dl) (P:Option Int→Prop):Prop:=d δ fun x=>asI [x] fun i=>P (some i)
theorem or_none:OR K Γ Bs xm:=⟨fun _ _ _ k h=>k _ h,fun {_ _ _ _ H _} o q=>q H (Same.refl H)⟩
theorem or_some (h:ER K Γ te de):OR K Γ (Ht te) (Fl de):=⟨fun δ P P' k q=>h.mono _ _ _ (fun x z=>by obtain ⟨j,rfl,z⟩:=dA z;exact k _ z) q,
  fun o q=>h.run o (h.mono _ _ _ (fun x z v H' s r=>by obtain ⟨j,rfl,z⟩:=dA z;exact⟨j,r.int,z H' s⟩) q)⟩
def vSl (de:DE) (dl dh:DO) (δ:Dl) (P:DK):Prop:=de δ fun x=>dl δ fun l=>dh δ fun u=>asL x fun ds=>ds.all D.aW=true∧P (.lst (cutD ds l u))
theorem GX {ds:List D}{lo hi:Option Int}:B7 (ds.map D.toV) lo hi=(cutD ds lo hi).map D.toV:=by
  unfold B7 cutD
  rw[List.length_map,List.map_take,List.map_drop]
theorem Ff {ds:List D}{lo hi:Option Int} (h:ds.all D.aW=true):(cutD ds lo hi).all D.aW=true:=by
  unfold cutD
  rw[List.all_eq_true] at h ⊢
  exact fun x hx=>h x (List.mem_of_mem_drop (List.mem_of_mem_take hx))
theorem tV {tl th:TO}{dl dh:DO} (he:ER K Γ te de) (hl:OR K Γ tl dl) (hh:OR K Γ th dh):EM K Γ [] (tSl (Ik K) te tl th) (vSl de dl dh) :=
  ⟨fun δ P P' k h=>he.mono _ _ _ (fun x z=>hl.mono _ _ _ (fun l z=>hh.mono _ _ _ (fun u z=>by obtain ⟨ds,e,z⟩:=dF z;exact kM e ⟨z.1,k _ z.2⟩) z) z) h,
   fun {B0 fps δ σ H Q} o h=>he.run o (he.mono _ _ _ (fun x z v H1 s1 r1=>hl.run (o.same s1) (hl.mono _ _ _ (fun l z H2 s2=>hh.run ((o.same s1).same s2) (hh.mono _ _ _ (fun u z H3 s3=>by
    obtain ⟨ds,e,z⟩:=dF z
    obtain ⟨a,xs,fq,rfl,hs,hr⟩:=(r1.same (s2.trans s3)).seq e
    obtain ⟨rfl,rfl⟩:=hr.j8 z.1
    refine⟨a,_,rfl,hs,fun p hp=>?_⟩
    rw[GX]
    have s4:Same H3 (upd H3 p (.lst ((cutD ds l u).map D.toV))):=Same.mC hp
    refine z.2 _ _ [p] (((s1.trans s2).trans s3).trans s4) ⟨p,_,[],rfl,aG,rfl,Rfs.w4 (Ff z.1)⟩ ⟨by simp,fun b hb=>?_,fun b hb=>?_⟩
    · cases List.mem_singleton.mp hb;exact .inl ⟨_,aG⟩
    · cases List.mem_singleton.mp hb;exact .inl (((s1.trans s2).trans s3).free hp)) z)) z)) h)⟩
def FT (x:D) (y:D) (P:DK):Prop:=match x,y with | .lst a,.lst b=>(a.all D.aW=true∧b.all D.aW=true∧a.length+b.length≤1000)∧P (.lst (a++b)) | _,_=>False
theorem Iz {H:Hp}{p:Addr}{ds:List D} (h:ds.all D.aW=true) (hp:H p=none):Same H (upd H p (.lst (ds.map D.toV)))∧Rf K (upd H p (.lst (ds.map D.toV))) (.lst ds) (.ref p) [p]∧Nw H (upd H p (.lst (ds.map D.toV))) nf [] [p] :=
  ⟨Same.mC hp,⟨p,_,[],rfl,aG,rfl,Rfs.w4 h⟩,⟨by simp,fun b hb=>by cases List.mem_singleton.mp hb;exact .inl ⟨_,aG⟩,fun b hb=>by cases List.mem_singleton.mp hb;exact .inl hp⟩⟩
theorem Hn:OpV K Ip FT:=⟨fun x y P P' k h=>by unfold FT at h ⊢;revert h;split<;>first | exact fun h=>⟨h.1,k _ h.2⟩ | exact id,fun {H x y v w Q} r1 r2 h=>by
  unfold FT at h
  split at h
  · rename_i a b
    obtain ⟨⟨s1,s2,hl⟩,h⟩:=h
    obtain ⟨f1,l1,xs,q1,rfl,e1,_,hr1⟩:=r1
    obtain ⟨f2,l2,ys,q2,rfl,e2,_,hr2⟩:=r2
    obtain ⟨rfl,_⟩:=hr1.j8 s1
    obtain ⟨rfl,_⟩:=hr2.j8 s2
    refine⟨l1,l2,_,_,rfl,rfl,e1,e2,by rw[List.length_map,List.length_map];exact ml hl,fun p hp=>?_⟩
    rw[← List.map_append]
    obtain ⟨n1,n2,n3⟩:=Iz (K:=K) (ds:=a++b) (by rw[List.all_append,s1,s2];rfl) hp
    exact h _ _ _ n1 n2 n3
  · exact h.elim⟩
def rM (xs:List D) (k:Nat):List D:=(List.replicate k xs).flatten
def Gn (x:D) (y:D) (P:DK):Prop:=match x,y with | .lst a,.int k=>(a.all D.aW=true∧(-(2 ^ 63)≤k∧k<2 ^ 63)∧a.length*k.toNat≤1000)∧P (.lst (rM a k.toNat)) | _,_=>False
theorem Hf:OpV K JJ Gn:=⟨fun x y P P' k h=>by unfold Gn at h ⊢;revert h;split<;>first | exact fun h=>⟨h.1,k _ h.2⟩ | exact id,fun {H x y v w Q} r1 r2 h=>by
  unfold Gn at h
  split at h
  · rename_i a n
    obtain ⟨⟨s1,⟨b1,b2⟩,hl⟩,h⟩:=h
    obtain ⟨f1,l1,xs,q1,rfl,e1,_,hr1⟩:=r1
    obtain ⟨rfl,_⟩:=hr1.j8 s1
    refine⟨l1,n,_,rfl,r2.int,e1,b1,b2,by rw[List.length_map];exact ml hl,fun p hp=>?_⟩
    have:(List.replicate n.toNat (a.map D.toV)).flatten=(rM a n.toNat).map D.toV:=by unfold rM;rw[List.map_flatten,List.map_replicate]
    rw[this]
    obtain ⟨n1,n2,n3⟩:=Iz (K:=K) (ds:=rM a n.toNat) (by
      rw[List.all_eq_true] at s1 ⊢
      intro x hx
      unfold rM at hx
      obtain ⟨l,h1,h2⟩:=List.mem_flatten.mp hx
      rw[(List.mem_replicate.mp h1).2] at h2
      exact s1 x h2) hp
    exact h _ _ _ n1 n2 n3
  · exact h.elim⟩
def inD (x:D) (ds:List D):Bool:=inV x.toV (ds.map D.toV)
def vIn (neg:Bool) (x:D) (y:D) (P:DK):Prop:=x.aW=true∧asL y fun ds=>ds.all D.aW=true∧P (.bl (if neg then !inD x ds else inD x ds))
theorem ir {d:D} (h:d.aW=true):fG d.toV=true:=by cases d<;>first | rfl | cases h
theorem J9 {neg:Bool}:OpV K (rIn K neg) (vIn neg):=⟨fun x y P P' k h=>⟨h.1,by obtain ⟨ds,e,z⟩:=dF h.2;exact kM e ⟨z.1,k _ z.2⟩⟩,fun {H x y v w Q} r1 r2 h=>by
  obtain ⟨hx,h⟩:=h
  obtain ⟨ds,e,hs,h⟩:=dF h
  obtain ⟨f1,r1⟩:=r1
  obtain ⟨rfl,_⟩:=r1.aW hx
  obtain ⟨a,xs,fq,rfl,hsq,hr⟩:=r2.seq e
  obtain ⟨rfl,_⟩:=hr.j8 hs
  refine⟨a,_,rfl,.inl hsq,ir hx,?_,h _ H [] (Same.refl H) ⟨rfl,rfl⟩ Nw.nil⟩
  rw[List.all_map,List.all_eq_true]
  rw[List.all_eq_true] at hs
  exact fun y hy=>ir (hs y hy)⟩
def BO (xs:List D) (P:DK):Prop:=match xs with | [x]=>(match x with | .tup ds=>P (.int ds.length) | x=>asL x fun ds=>P (.int ds.length)) | _=>False
theorem Rps.one {H:Hp}{x:D}{vs:List V} (h:Rps K H [x] vs):∃v,vs=[v]∧Rp K H x v:=by
  obtain ⟨fp,y,r,f1,f2,rfl,_,h1,⟨rfl,_⟩⟩:=h
  exact⟨y,rfl,f1,h1⟩
theorem cP:nD K (fun xs H Q=>∃p ys,xs=[.ref p]∧(SqL K H p ys∨SqT K H p ys)∧Q (.int ys.length) H) BO:=⟨fun xs P P' k h=>by
    unfold BO at h ⊢
    revert h
    split
    · split
      · exact fun h=>k _ h
      · exact fun h=>by obtain ⟨ds,e,z⟩:=dF h;exact kM e (k _ z)
    · exact id,
  fun {H xs vs Q} r h=>by
    unfold BO at h
    split at h
    · obtain ⟨v,rfl,r0⟩:=r.one
      split at h
      · obtain ⟨a,ys,fq,rfl,hs,hr⟩:=r0.tup
        refine⟨a,ys,rfl,.inr hs,?_⟩
        rw[hr.length]
        exact h _ H [] (Same.refl H) ⟨rfl,rfl⟩ Nw.nil
      · obtain ⟨ds,e,h⟩:=dF h
        obtain ⟨a,ys,fq,rfl,hs,hr⟩:=r0.seq e
        refine⟨a,ys,rfl,.inl hs,?_⟩
        rw[hr.length]
        exact h _ H [] (Same.refl H) ⟨rfl,rfl⟩ Nw.nil
    · exact h.elim⟩
theorem yO {ds:List D}{P:DK}:BO [.lst ds] P↔P (.int ds.length):=Iff.rfl
theorem yc {ds:List Int}{P:DK}:BO [.scr ds] P↔P (.int ds.length):=by
  show P (.int ((ds.map D.int).length:Nat))↔_
  rw[List.length_map]
def jv:List D→Option (List Int)
  | []=>some []
  | .int i::ds=>(jv ds).map (i::·)
  | _=>none
theorem ko:∀{ns:List Int},jv (ns.map D.int)=some ns
  | []=>rfl
  | n::ns=>by rw[List.map_cons,jv,ko];rfl
theorem qI:∀{ds:List D}{ns:List Int},jv ds=some ns→ds=ns.map D.int
  | [],ns,h=>by cases h;rfl
  | .int i::ds,ns,h=>by
    rw[jv] at h
    cases e:jv ds with
    | none=>rw[e] at h;cases h
    | some ms=>rw[e] at h;cases h;rw[qI e];rfl
  | .non::_,_,h=>by cases h
  | .bl _::_,_,h=>by cases h
  | .str _::_,_,h=>by cases h
  | .lst _::_,_,h=>by cases h
  | .tup _::_,_,h=>by cases h
  | .dic _::_,_,h=>by cases h
  | .dit _::_,_,h=>by cases h
  | .scr _::_,_,h=>by cases h
theorem Rfs.yW {H:Hp}{ns:List Int}{vs:List V}{fp:List Addr} (h:Rfs K H (ns.map D.int) vs fp):vs=ns.map V.int:=by
  have hs:(ns.map D.int).all D.aW=true:=by rw[List.all_map,List.all_eq_true];exact fun _ _=>rfl
  rw[(h.j8 hs).1,List.map_map]
  rfl
def yr (x:D) (P:List Int→Prop):Prop:=asL x fun ds=>match jv ds with | some ns=>P ns | none=>False
theorem jn {x:D}{P:List Int→Prop} (h:yr x P):∃ns,x.items=some (ns.map D.int)∧P ns:=by
  obtain ⟨ds,e,h⟩:=dF h
  cases q:jv ds with
  | none=>rw[q] at h;exact h.elim
  | some ns=>rw[q] at h;rw[qI q] at e;exact⟨ns,e,h⟩
theorem sk {x:D}{ns:List Int}{P:List Int→Prop} (e:x.items=some (ns.map D.int)) (h:P ns):yr x P:=by
  refine kM e ?_
  rw[ko];exact h
def FP (xs:List D) (P:DK):Prop:=match xs with | [x]=>yr x fun ns=>P (.int ns.sum) | _=>False
theorem tW:nD K (fun xs H Q=>∃(a:Addr) (ns:List Int),xs=[.ref a]∧SqL K H a (ns.map V.int)∧Q (.int ns.sum) H) FP:=⟨fun xs P P' k h=>by
    unfold FP at h ⊢
    revert h
    split
    · exact fun h=>by obtain ⟨ns,e,z⟩:=jn h;exact sk e (k _ z)
    · exact id,
  fun {H xs vs Q} r h=>by
    unfold FP at h
    split at h
    · obtain ⟨v,rfl,r0⟩:=r.one
      obtain ⟨ns,e,h⟩:=jn h
      obtain ⟨a,ys,fq,rfl,hs,hr⟩:=r0.seq e
      rw[hr.yW] at hs
      exact⟨a,ns,rfl,hs,h _ H [] (Same.refl H) ⟨rfl,rfl⟩ Nw.nil⟩
    · exact h.elim⟩
def xX (xs:List D) (P:DK):Prop:=match xs with | [x]=>asL x fun ds=>ds.all D.aW=true∧P (.lst ds) | _=>False
theorem ou:nD K (fun xs H Q=>∃p ys,xs=[.ref p]∧(SqL K H p ys∨SqT K H p ys)∧∀l,H l=none→Q (.ref l) (upd H l (.lst ys))) xX:=⟨fun xs P P' k h=>by
    unfold xX at h ⊢
    revert h
    split
    · exact fun h=>by obtain ⟨ds,e,z⟩:=dF h;exact kM e ⟨z.1,k _ z.2⟩
    · exact id,
  fun {H xs vs Q} r h=>by
    unfold xX at h
    split at h
    · obtain ⟨v,rfl,r0⟩:=r.one
      obtain ⟨ds,e,hsc,h⟩:=dF h
      obtain ⟨a,ys,fq,rfl,hs,hr⟩:=r0.seq e
      obtain ⟨rfl,_⟩:=hr.j8 hsc
      refine⟨a,_,rfl,.inl hs,fun l hl=>?_⟩
      obtain ⟨n1,n2,n3⟩:=Iz (K:=K) hsc hl
      exact h _ _ _ n1 n2 n3
    · exact h.elim⟩
end
end L3
namespace L3
open PySem L2
open PyProof.Rows (Ordered)
section
variable {K:PySem.W.Frag}{Γ M:List Nat}{te ta tb:TE}{de da db:DE}
theorem bF {wi:TI}{di:DI}{g:TG}{dg:D→Dl→(Dl→Prop)→Prop}{k:Nat}{idx:List Nat} (hi:IT K [] wi di) (hg:GT K [] g dg) (he:EM K [] [] te de):EM K Γ [] (tS wi g te k idx) (mx di dg GW de k idx):=by
  rw[qb];exact pI hi hg IQ he
def D.tyn:D→Option String
  | .non=>some "NoneType" | .bl _=>some "bool" | .int _=>some "int" | .str _=>some "str" | .lst _=>some "list" | .tup _=>some "tuple" | .dic _=>some "dict" | .dit _=>some "dict" | .scr _=>none | .pin _ _=>none | .ins _ _ _=>none
theorem Rp.ty {H:Hp}{d:D}{v:V}{n:String} (h:Rp K H d v) (e:d.tyn=some n):nV K H v (.type n):=by
  obtain ⟨fp,h⟩:=h
  cases d with
  | non=>cases e;obtain ⟨rfl,_⟩:=h;exact .non
  | bl b=>cases e;obtain ⟨rfl,_⟩:=h;exact .bl _
  | int b=>cases e;obtain ⟨rfl,_⟩:=h;exact .int _
  | str b=>cases e;obtain ⟨rfl,_⟩:=h;exact .str _
  | lst ds=>cases e;obtain ⟨a,xs,fq,rfl,h2,_⟩:=h;exact .lst h2
  | tup ds=>cases e;obtain ⟨a,xs,rfl,h2,_⟩:=h;exact .tup h2
  | dic ds=>cases e;obtain ⟨a,rfl,h2,_⟩:=h;exact .dK h2
  | dit ds=>cases e;obtain ⟨a,rfl,h2,_⟩:=h;exact .dT h2
  | scr ns=>cases e
  | pin a d=>cases e
  | ins C ns ds=>cases e
def isB (m n:String):Bool:=m == n || (m == "bool" && n == "int")
def xS (n:String):Prop:=∀(K:PySem.W.Frag) (d:D) (m:String),d.tyn=some m→PySem.W.kitOne K (.type m) (.type n)=some (isB m n)
theorem Aw:xS "int":=fun K d m e=>by cases d<;>cases e<;>first | exact p7 | with_unfolding_all rfl
theorem yK:xS "bool":=fun K d m e=>by cases d<;>cases e<;>first | exact p7 | with_unfolding_all rfl
theorem yI:xS "list":=fun K d m e=>by cases d<;>cases e<;>first | exact p7 | with_unfolding_all rfl
theorem kit_tuple:xS "tuple":=fun K d m e=>by cases d<;>cases e<;>first | exact p7 | with_unfolding_all rfl
def vIs (n:String) (da:DE) (δ:Dl) (P:DK):Prop:=da δ fun x=>match x.tyn with | some m=>P (.bl (isB m n)) | none=>False
theorem iz {n:String} (hk:xS n) (ha:ER K Γ ta da):EM K Γ [] (tCB (fun xs H Q=>∃x n t b,xs=[x,.ty n]∧nV K H x t∧PySem.W.kitOne K t (.type n)=some b∧Q (.bl b) H) (jr ta (jr (tC (.ty n)) rm))) (vIs n da) :=
  ⟨fun δ P P' k h=>ha.mono _ _ _ (fun x z=>by
      revert z;split
      · exact fun z=>k _ z
      · exact id) h,
   fun {B0 fps δ σ H Q} o h=>ha.run o (ha.mono _ _ _ (fun x z v H1 s1 r1=>by
      split at z
      · rename_i m e
        exact⟨v,n,_,_,rfl,r1.ty e,hk K x m e,z _ H1 [] s1 ⟨rfl,rfl⟩ Nw.nil⟩
      · exact z.elim) h)⟩
mutual
def D.old:D→Option L2.D
  | .non=>some .non | .bl b=>some (.bl b) | .int i=>some (.int i) | .str x=>some (.str x)
  | .lst ds=>(D.olds ds).map L2.D.lst | .tup ds=>(D.olds ds).map L2.D.tup
  | .dic _=>none | .dit _=>none | .scr _=>none | .pin _ _=>none | .ins _ _ _=>none
def D.olds:List D→Option (List L2.D)
  | []=>some []
  | d::ds=>match D.old d,D.olds ds with | some x,some xs=>some (x::xs) | _,_=>none
end
mutual
theorem Rf.old {H:Hp}:∀{d:D}{d':L2.D}{v:V}{fp:List Addr},Rf K H d v fp→d.old=some d'→L2.Rf H d' v fp
  | .non,d',v,fp,h,e=>by rw[D.old] at e;cases e;rw[L2.Rf];exact h
  | .bl _,d',v,fp,h,e=>by rw[D.old] at e;cases e;rw[L2.Rf];exact h
  | .int _,d',v,fp,h,e=>by rw[D.old] at e;cases e;rw[L2.Rf];exact h
  | .str _,d',v,fp,h,e=>by rw[D.old] at e;cases e;rw[L2.Rf];exact h
  | .lst ds,d',v,fp,h,e=>by
    rw[D.old] at e
    cases q:D.olds ds with
    | none=>rw[q] at e;cases e
    | some es =>
      rw[q] at e;cases e
      obtain ⟨a,xs,fq,e1,e2,e3,h⟩:=h
      rw[L2.Rf]
      exact⟨a,xs,fq,e1,e2,e3,Rfs.old h q⟩
  | .tup ds,d',v,fp,h,e=>by
    rw[D.old] at e
    cases q:D.olds ds with
    | none=>rw[q] at e;cases e
    | some es =>
      rw[q] at e;cases e
      obtain ⟨a,xs,e1,e2,h⟩:=h
      rw[L2.Rf]
      exact⟨a,xs,e1,e2,Rfs.old h q⟩
  | .dic _,d',v,fp,h,e=>by rw[D.old] at e;cases e
  | .dit _,d',v,fp,h,e=>by rw[D.old] at e;cases e
  | .scr _,d',v,fp,h,e=>by rw[D.old] at e;cases e
  | .pin _ _,d',v,fp,h,e=>by rw[D.old] at e;cases e
  | .ins _ _ _,d',v,fp,h,e=>by rw[D.old] at e;cases e
theorem Rfs.old {H:Hp}:∀{ds:List D}{ds':List L2.D}{vs:List V}{fp:List Addr},Rfs K H ds vs fp→D.olds ds=some ds'→L2.Rfs H ds' vs fp
  | [],ds',vs,fp,h,e=>by rw[D.olds] at e;cases e;rw[L2.Rfs];exact h
  | d::ds,ds',vs,fp,h,e=>by
    rw[D.olds] at e
    obtain ⟨x,r,f1,f2,e1,e2,h1,h2⟩:=h
    cases q1:d.old with
    | none=>rw[q1] at e;simp at e
    | some x' =>
      cases q2:D.olds ds with
      | none=>rw[q1,q2] at e;simp at e
      | some xs' =>
        rw[q1,q2] at e
        cases e
        rw[L2.Rfs]
        exact⟨x,r,f1,f2,e1,e2,Rf.old h1 q1,Rfs.old h2 q2⟩
end
abbrev dI (xs:List Int):D:=.lst (xs.map D.int)
abbrev dT (t:List (List Int)):D:=.lst (t.map dI)
def Cr (neg:Bool) (x:D) (y:D) (P:DK):Prop:=∃a b,x.old=some (.lst a)∧y.old=some (.lst b)∧L2.D.dG a=true∧L2.D.dG b=true∧L2.D.eA a≤60∧P (.bl (if neg then !L2.D.jL a b else L2.D.jL a b))
theorem yf {neg:Bool}:OpV K (Ej neg) (Cr neg):=⟨fun x y P P' k h=>by
    obtain ⟨a,b,h1,h2,h3,h4,h5,h⟩:=h
    exact⟨a,b,h1,h2,h3,h4,h5,k _ h⟩,
  fun {H x y v w Q} ⟨f1,r1⟩ ⟨f2,r2⟩ h=>by
    obtain ⟨a,b,h1,h2,h3,h4,h5,h⟩:=h
    exact⟨a,b,⟨f1,r1.old h1⟩,⟨f2,r2.old h2⟩,h3,h4,h5,h _ H [] (Same.refl H) ⟨rfl,rfl⟩ Nw.nil⟩⟩
theorem v7:OpV K (Ej false) (Cr false):=yf
theorem CH:OpV K (Ej true) (Cr true):=yf
theorem vT:∀{ns:List Int},D.olds (ns.map D.int)=some (ns.map L2.D.int)
  | []=>by rw[List.map_nil,D.olds];rfl
  | n::ns=>by rw[List.map_cons,D.olds,vT,D.old];rfl
theorem xl {ns:List Int}:(dI ns).old=some (L2.dI ns):=by rw[D.old,vT];rfl
theorem vM:∀{t:List (List Int)},D.olds (t.map dI)=some (t.map L2.dI)
  | []=>by rw[List.map_nil,D.olds];rfl
  | n::ns=>by rw[List.map_cons,D.olds,vM,xl];rfl
theorem Fy {t:List (List Int)}:(dT t).old=some (L2.dT t):=by rw[D.old,vM];rfl
theorem jb {neg:Bool}{xs ys:List Int}{P:DK} (h:P (.bl (if neg then !decide (xs=ys) else decide (xs=ys)))):Cr neg (dI xs) (dI ys) P :=
  ⟨_,_,xl,xl,D.jl _,D.jl _,by rw[D.kK];omega,by rw[D.nG];exact h⟩
theorem vR {neg:Bool}{xs ys:List (List Int)}{P:DK} (h:P (.bl (if neg then !decide (xs=ys) else decide (xs=ys)))):Cr neg (dT xs) (dT ys) P :=
  ⟨_,_,Fy,Fy,D.mK _,D.mK _,Nat.le_trans (D.qZ _) (by omega),by rw[D.v3];exact h⟩
def nM (b:Bool) (xs:List D) (P:DK):Prop:=match xs with | [x]=>yr x fun ns=>ns.length<64∧∀ms:List Int,ms.Perm ns→Ordered b ms→P (dI ms) | _=>False
theorem Rf.ofInts {H:Hp}{p:Addr}{ms:List Int} (e:H p=some (.lst (ms.map V.int))):Rf K H (dI ms) (.ref p) [p]:=⟨p,_,[],rfl,e,rfl,Rfs.ofInts⟩
theorem Nw.one {H H':Hp}{p:Addr}{xs:List V} (h:H p=none) (e:H' p=some (.lst xs)):Nw H H' nf [] [p]:=⟨by simp,fun b hb=>by cases List.mem_singleton.mp hb;exact .inl ⟨_,e⟩,fun b hb=>by cases List.mem_singleton.mp hb;exact .inl h⟩
theorem wY {u:TA}{dr:DA}{b:Bool} (hr:AR K Γ u dr):EM K Γ [] (JC (fun xs zs H Q=>∃(a:Addr) (ns:List Int) (b:Bool),xs=[.ref a]∧zs=[.bl b]∧SqL K H a (ns.map V.int)∧ns.length<64 ∧
    ∀(l:Addr) (ms:List Int),H l=none→ms.Perm ns→Ordered b ms→Q (.ref l) (upd H l (.lst (ms.map V.int)))) u (jr (tC (.bl b)) rm)) (tU (nM b) dr):=by
  have mono:bE (nM b):=fun xs P P' k h=>by
    unfold nM at h ⊢
    revert h
    split
    · exact fun h=>by obtain ⟨ns,e,z⟩:=jn h;exact sk e ⟨z.1,fun ms a b=>k _ (z.2 ms a b)⟩
    · exact id
  refine⟨fun δ P P' k h=>hr.mono _ _ _ (fun y z=>mono _ _ _ k z) h,fun {B0 fps δ σ H Q} o q=>hr.run o (hr.mono _ _ _ (fun xs z vs H1 s1 r1=>?_) q)⟩
  unfold nM at z
  split at z
  · obtain ⟨v,rfl,r0⟩:=r1.one
    obtain ⟨ns,e,z⟩:=jn z
    obtain ⟨a,ys,fq,rfl,hs,hr⟩:=r0.seq e
    rw[hr.yW] at hs
    refine⟨a,ns,b,rfl,rfl,hs,z.1,fun l ms hl hp ho=>?_⟩
    have s2:Same H1 (upd H1 l (.lst (ms.map V.int))):=Same.mC hl
    exact z.2 ms hp ho _ _ [l] (s1.trans s2) (Rf.ofInts aG) ((Nw.one hl aG).any.later s1)
  · exact z.elim
def J2 (da:DE) (δ:Dl) (P:DK):Prop:=da δ fun x=>asL x fun ds=>ds.all D.aW=true∧P (.lst ds.reverse)
def Io (xs:List D) (P:DK):Prop:=asI xs fun i=>P (.int (if i<0 then -i else i))
theorem JP:nD K (fun xs H Q=>∃i,xs=[.int i]∧Q (.int (if i<0 then -i else i)) H) Io:=⟨fun xs P P' k h=>by obtain ⟨i,rfl,z⟩:=pk h;exact k _ z,
  fun {H xs vs Q} r h=>by obtain ⟨i,rfl,z⟩:=pk h;exact⟨i,r.ints1,z _ H [] (Same.refl H) ⟨rfl,rfl⟩ Nw.nil⟩⟩
def HQ (xs:List D) (P:DK):Prop:=BI xs fun i j=>P (.int (if j>i then j else i))
def Eb (xs:List D) (P:DK):Prop:=BI xs fun i j=>P (.int (if j<i then j else i))
theorem IY:nD K (fun xs H Q=>∃i j,xs=[.int i,.int j]∧Q (.int (if j<i then j else i)) H) Eb:=⟨fun xs P P' k h=>by obtain ⟨i,j,rfl,z⟩:=yu h;exact k _ z,
  fun {H xs vs Q} r h=>by obtain ⟨i,j,rfl,z⟩:=yu h;exact⟨i,j,r.ints2,z _ H [] (Same.refl H) ⟨rfl,rfl⟩ Nw.nil⟩⟩
def D.sO:D→Bool | .non=>true | _=>false
theorem Rp.GC {H:Hp}{d:D}{v:V} (h:Rp K H d v):decide (v=.non)=d.sO:=by
  obtain ⟨fp,h⟩:=h
  cases d with
  | non=>obtain ⟨rfl,_⟩:=h;rfl
  | bl b=>obtain ⟨rfl,_⟩:=h;rfl
  | int b=>obtain ⟨rfl,_⟩:=h;rfl
  | str b=>obtain ⟨rfl,_⟩:=h;rfl
  | lst ds=>obtain ⟨a,xs,fq,rfl,_⟩:=h;rfl
  | tup ds=>obtain ⟨a,xs,rfl,_⟩:=h;rfl
  | dic ds=>obtain ⟨a,rfl,_⟩:=h;rfl
  | dit ds=>obtain ⟨a,rfl,_⟩:=h;rfl
  | scr ns=>obtain ⟨a,rfl,_⟩:=h;rfl
  | pin a d=>obtain ⟨rfl,_⟩:=h;rfl
  | ins C ns ds=>obtain ⟨a,dx,xs,fq,rfl,_⟩:=h;rfl
def Cz (neg:Bool) (x:D) (y:D) (P:DK):Prop:=match y with | .non=>P (.bl (if neg then !x.sO else x.sO)) | _=>False
theorem Cj {neg:Bool}:∀x y (P P':DK),(∀z,P z→P' z)→Cz neg x y P→Cz neg x y P':=fun x y P P' k h=>by
  unfold Cz at h ⊢;revert h;split<;>first | exact k _ | exact id
theorem Fm:OpV K (fun x y H Q=>y=.non∧Q (.bl (!decide (x=.non))) H) (Cz true):=⟨Cj,fun {H x y v w Q} r1 r2 h=>by
  unfold Cz at h
  split at h
  · refine⟨r2.choose_spec.1,?_⟩
    rw[r1.GC];exact h _ H [] (Same.refl H) ⟨rfl,rfl⟩ Nw.nil
  · exact h.elim⟩
end
theorem aU {K:PySem.W.Frag}{S:DSp}{n:Nat} (hS:∀ds P,S ds P→ds.length=n) {vs:List V}{H:Hp}{Q:VK}{E:XK} (h:spP K S vs H Q E):vs.length=n:=by
  obtain ⟨ds,⟨fp,r⟩,_,h⟩:=h
  rw[r.length];exact hS _ _ h
theorem Ay {K:PySem.W.Frag}{S:DSp}{n:Nat} (hS:∀ds P,S ds P→ds.length=n) {vs:List V}{H:Hp}{Q:VK}{E:XK} (h:spR K S vs H Q E):vs.length=n:=by
  obtain ⟨ds,⟨fp,r⟩,_,h⟩:=h
  rw[r.length];exact hS _ _ h
theorem DF {dg:D→Dl→(Dl→Prop)→Prop}{db:DS}{E:bC} (I:Nat→Dl→Prop) {ds:List D}{δ:Dl} (h0:I 0 δ)
    (hs:∀i d δ (N:Dl→Prop),ds[i]?=some d→I i δ→(∀δ',I (i+1) δ'→N δ')→dg d δ fun δ'=>db { nx:=N,ct:=N,bk:=E.nx,rt:=E.rt } δ')
    (hd:∀δ,I ds.length δ→E.nx δ):oh dg db E ds δ:=by
  have key:∀(n:Nat) (i:Nat) (δ:Dl),ds.length - i=n→i≤ds.length→I i δ→oh dg db E (ds.drop i) δ:=by
    intro n
    induction n with
    | zero =>
      intro i δ h1 h2 hI
      have:i=ds.length:=by omega
      subst this
      rw[List.drop_length]
      exact hd δ hI
    | succ n ih =>
      intro i δ h1 h2 hI
      have hlt:i<ds.length:=by omega
      rw[List.drop_eq_getElem_cons hlt]
      exact hs i _ δ _ (List.getElem?_eq_getElem hlt) hI fun δ' h'=>ih (i+1) δ' (by omega) hlt h'
  have:=key ds.length 0 δ (by omega) (Nat.zero_le _) h0
  rwa [List.drop_zero] at this
end L3
namespace L3
open PySem L2
end L3
namespace L3
open PySem
open L2 hiding D Rf Rfs Rp dI dT
section
variable {di:DI}{dg:D→Dl→(Dl→Prop)→Prop}{dt:DT}{de:DE}{k:Nat}{idx:List Nat}{δ:Dl}{P:DK}
theorem mJ {α:Type}{as:List α}{f:α→D}{p:α→Bool}{g:α→D} (hdi:∀R:List D→Prop,R (as.map f)→di δ R) (hl:as.length≤1000)
    (hb:∀a∈as,∀R:List D→Prop,R (if p a then [g a] else [])→kC dg dt de (fE k idx δ) (f a) R) (h:P (.lst ((as.filter p).map g))):mx di dg dt de k idx δ P:=by
  refine hdi _ ⟨by rw[List.length_map];exact hl,?_⟩
  have key:∀(as:List α) (acc:List D),(∀a∈as,∀R:List D→Prop,R (if p a then [g a] else [])→kC dg dt de (fE k idx δ) (f a) R)→P (.lst (acc++(as.filter p).map g))→vK (kC dg dt de (fE k idx δ)) (as.map f) acc fun ys=>P (.lst ys):=by
    intro as
    induction as with
    | nil=>intro acc _ h;rw[List.filter_nil,List.map_nil,List.append_nil] at h;exact h
    | cons a as ih =>
      intro acc hb h
      refine hb a List.mem_cons_self _ (ih _ (fun x hx=>hb x (List.mem_cons_of_mem _ hx)) ?_)
      by_cases hp:p a=true
      · rw[if_pos hp,List.append_assoc];rwa [List.filter_cons_of_pos hp] at h
      · rw[if_neg hp,List.append_nil];rwa [List.filter_cons_of_neg hp] at h
  exact key as [] hb h
theorem pF {α:Type}{as:List α}{f:α→D}{g:α→D} (hdi:∀R:List D→Prop,R (as.map f)→di δ R) (hl:as.length≤1000)
    (hb:∀a∈as,∀R:List D→Prop,R [g a]→kC dg dt de (fE k idx δ) (f a) R) (h:P (.lst (as.map g))):mx di dg dt de k idx δ P:=by
  refine mJ (p:=fun _=>true) hdi hl (fun a ha R h=>hb a ha R h) ?_
  rw[List.filter_eq_self.mpr (fun _ _=>rfl)]
  exact h
theorem jR {ns:List Int}{g:Int→D} (hdi:∀R:List D→Prop,R (ns.map D.int)→di δ R) (hl:ns.length≤1000)
    (hb:∀n∈ns,∀R:List D→Prop,R [g n]→kC dg dt de (fE k idx δ) (.int n) R) (h:P (.lst (ns.map g))):mx di dg dt de k idx δ P:=pF hdi hl hb h
theorem zG {ns:List Int}{p:Int→Bool}{g:Int→D} (hdi:∀R:List D→Prop,R (ns.map D.int)→di δ R) (hl:ns.length≤1000)
    (hb:∀n∈ns,∀R:List D→Prop,R (if p n then [g n] else [])→kC dg dt de (fE k idx δ) (.int n) R) (h:P (.lst ((ns.filter p).map g))):mx di dg dt de k idx δ P:=mJ hdi hl hb h
theorem jY {lo:Int}{n:Nat}{g:Nat→D} (hdi:∀R:List D→Prop,R (pP lo n)→di δ R) (hl:n≤1000)
    (hb:∀i,i<n→∀R:List D→Prop,R [g i]→kC dg dt de (fE k idx δ) (.int (lo+(i:Int))) R) (h:P (.lst ((List.range n).map g))):mx di dg dt de k idx δ P :=
  pF (as:=List.range n) (f:=fun (k:Nat)=>D.int (lo+(k:Int))) hdi (by rw[List.length_range];exact hl) (fun a ha=>hb a (List.mem_range.mp ha)) h
theorem vd {lo:Int}{n:Nat}{p:Nat→Bool}{g:Nat→D} (hdi:∀R:List D→Prop,R (pP lo n)→di δ R) (hl:n≤1000)
    (hb:∀i,i<n→∀R:List D→Prop,R (if p i then [g i] else [])→kC dg dt de (fE k idx δ) (.int (lo+(i:Int))) R) (h:P (.lst (((List.range n).filter p).map g))):mx di dg dt de k idx δ P :=
  mJ (as:=List.range n) (f:=fun (k:Nat)=>D.int (lo+(k:Int))) hdi (by rw[List.length_range];exact hl) (fun a ha=>hb a (List.mem_range.mp ha)) h
theorem iV {t:List (List Int)}{g:List Int→D} (hdi:∀R:List D→Prop,R (t.map dI)→di δ R) (hl:t.length≤1000)
    (hb:∀r∈t,∀R:List D→Prop,R [g r]→kC dg dt de (fE k idx δ) (dI r) R) (h:P (.lst (t.map g))):mx di dg dt de k idx δ P:=pF hdi hl hb h
variable {db:DS}{E:bC}
theorem eG {α:Type}{as:List α}{f:α→D} (I:Nat→Dl→Prop) (h0:I 0 δ)
    (hs:∀i a δ (N:Dl→Prop),as[i]?=some a→I i δ→(∀δ',I (i+1) δ'→N δ')→dg (f a) δ fun δ'=>db { nx:=N,ct:=N,bk:=E.nx,rt:=E.rt } δ')
    (hd:∀δ,I as.length δ→E.nx δ):oh dg db E (as.map f) δ:=by
  refine DF I h0 (fun i d δ N e hI hN=>?_) (fun δ hI=>hd δ (by rwa [List.length_map] at hI))
  rw[List.getElem?_map] at e
  cases q:as[i]? with
  | none=>rw[q] at e;cases e
  | some a=>rw[q] at e;cases e;exact hs i a δ N q hI hN
theorem m7 {lo:Int}{n:Nat} (I:Nat→Dl→Prop) (h0:I 0 δ)
    (hs:∀i δ (N:Dl→Prop),i<n→I i δ→(∀δ',I (i+1) δ'→N δ')→dg (.int (lo+(i:Int))) δ fun δ'=>db { nx:=N,ct:=N,bk:=E.nx,rt:=E.rt } δ')
    (hd:∀δ,I n δ→E.nx δ):oh dg db E (pP lo n) δ:=by
  refine eG (as:=List.range n) (f:=fun (k:Nat)=>D.int (lo+(k:Int))) I h0 (fun i a δ N e hI hN=>?_) (fun δ hI=>hd δ (by rwa [List.length_range] at hI))
  obtain ⟨h1,h2⟩:=List.getElem?_eq_some_iff.mp e
  rw[List.getElem_range] at h2
  subst h2
  exact hs i δ N (by simpa using h1) hI hN
end
theorem Hl {ns:List Int}{i:Int} (h0:0≤i) (h:i<ns.length):atI (ns.map D.int) i=some (.int (ns.getD i.toNat 0)):=by
  unfold atI ixN
  rw[if_pos h0,List.length_map,if_pos h]
  show (ns.map D.int)[i.toNat]?=_
  rw[List.getElem?_map,List.getD_eq_getElem?_getD]
  have:i.toNat<ns.length:=by omega
  rw[List.getElem?_eq_getElem this]
  rfl
theorem dJ {ns:List Int}:(ns.map D.int).all D.aW=true:=by rw[List.all_map,List.all_eq_true];exact fun _ _=>rfl
theorem gM {n:Nat}{i:Int} (h0:0≤i) (h:i<n):ixN n i=some i.toNat:=by unfold ixN;rw[if_pos h0,if_pos h]
theorem D7 {ns:List Int}{j:Nat}{v:Int}:(ns.map D.int).set j (.int v)=(ns.set j v).map D.int:=(List.map_set ..).symm
theorem AH {ns:List Int}{v:Int}:ns.map D.int++[.int v]=(ns++[v]).map D.int:=by simp
theorem emod_lt {x n:Int} (h:0<n):0≤x % n∧x % n<n:=⟨Int.emod_nonneg x (by omega),Int.emod_lt_of_pos x h⟩
theorem nv {ns:List Int}{lo hi:Option Int}:∃ms:List Int,cutD (ns.map D.int) lo hi=ms.map D.int∧ms=(ns.drop (HT.sIx ns.length 0 lo)).take (HT.sIx ns.length ns.length hi - HT.sIx ns.length 0 lo):=by
  refine⟨_,?_,rfl⟩
  unfold cutD
  rw[List.length_map,← List.map_drop,← List.map_take]
section
variable {P:DK}
def asO (o:Option D) (P:DK):Prop:=match o with | some d=>P d | none=>False
theorem tQ {d:D}:asO (some d) P↔P d:=Iff.rfl
theorem xg {o:Option D}{d:D} (h:o=some d):asO o P↔P d:=by rw[h];rfl
theorem Fh {k:Bool}{Q:Bool→Prop}:asB (.bl k) Q↔Q k:=Iff.rfl
theorem AQ {g:Int→Int→D}{i j:Int}:vI0 g (.int i) (.int j) P↔P (g i j):=Iff.rfl
theorem D6 {C:Int→Int→Prop}{g:Int→Int→D}{i j:Int}:vI C g (.int i) (.int j) P↔C i j∧P (g i j):=Iff.rfl
theorem Dm {g:Int→D}{i:Int}:vU g (.int i) P↔P (g i):=Iff.rfl
theorem xu {i:Int}{Q:Int→Prop}:asI [.int i] Q↔Q i:=Iff.rfl
theorem za {i j:Int}{Q:Int→Int→Prop}:BI [.int i,.int j] Q↔Q i j:=Iff.rfl
theorem A8 {ds:List D}{Q:List D→Prop}:asL (.lst ds) Q↔Q ds:=Iff.rfl
theorem AF {ns:List Int}{Q:List D→Prop}:asL (.scr ns) Q↔Q (ns.map D.int):=Iff.rfl
theorem zl {ds:List D}{i:Int}:uO (.lst ds) (.int i) P↔asO (atI ds i) P:=Iff.rfl
theorem yT {ns:List Int}{i:Int}:uO (.scr ns) (.int i) P↔asO (atI (ns.map D.int) i) P:=Iff.rfl
theorem yQ {ds:List D}{i:Int}:qm (.tup ds) (.int i) P↔asO (atI ds i) P:=Iff.rfl
theorem yZ {ds:List D}:BO [.tup ds] P↔P (.int ds.length):=Iff.rfl
theorem yk {neg:Bool}{x:D}:Cz neg x .non P↔P (.bl (if neg then !x.sO else x.sO)):=Iff.rfl
theorem yy {a b:List D}:FT (.lst a) (.lst b) P↔(a.all D.aW=true∧b.all D.aW=true∧a.length+b.length≤1000)∧P (.lst (a++b)):=Iff.rfl
theorem yV {a:List D}{k:Int}:Gn (.lst a) (.int k) P↔(a.all D.aW=true∧(-(2 ^ 63)≤k∧k<2 ^ 63)∧a.length*k.toNat≤1000)∧P (.lst (rM a k.toNat)):=Iff.rfl
theorem vQ {ds:List D}:xX [.lst ds] P↔ds.all D.aW=true∧P (.lst ds):=Iff.rfl
theorem vx {ns:List Int}:xX [.scr ns] P↔P (dI ns):=by
  show ((ns.map D.int).all D.aW=true∧P _)↔_
  rw[dJ];exact⟨fun h=>h.2,fun h=>⟨rfl,h⟩⟩
theorem wa {ns:List Int}:FP [dI ns] P↔P (.int ns.sum):=by
  show (match jv (ns.map D.int) with | some ns=>P (.int ns.sum) | none=>False)↔_
  rw[ko]
theorem jT {ns:List Int}{Q:List Int→Prop}:yr (dI ns) Q↔Q ns:=by
  show (match jv (ns.map D.int) with | some ns=>Q ns | none=>False)↔_
  rw[ko]
theorem Dz {g:List D→Dl→(Dl→Prop)→Prop}{n:Nat}{ds:List D}{δ:Dl}{Q:Dl→Prop}:AL n g (.tup ds) δ Q↔ds.length=n∧g ds δ Q:=Iff.rfl
theorem zk {g:D→Dl→(Dl→Prop)→Prop}{gs:List D→Dl→(Dl→Prop)→Prop}{x:D}{xs:List D}{δ:Dl}{Q:Dl→Prop}:Fn g gs (x::xs) δ Q↔g x δ fun δ'=>gs xs δ' Q:=Iff.rfl
theorem Au {δ:Dl}{Q:Dl→Prop}:Hg [] δ Q↔Q δ:=Iff.rfl
theorem sf {i:Nat}{δ:Dl}{ds:List D}{Q:List D→Prop} (h:δ[i]?=some (some (.lst ds))):lF δ i Q↔Q ds:=by unfold lF;rw[h]
theorem AK {i:Int}:(D.int i).tyn=some "int":=rfl
theorem Ec {i:Bool}:(D.bl i).tyn=some "bool":=rfl
theorem Bq {i:List D}:(D.lst i).tyn=some "list":=rfl
theorem Bg {i:List D}:(D.tup i).tyn=some "tuple":=rfl
theorem Bp {i:Str}:(D.str i).tyn=some "str":=rfl
theorem AV:D.non.tyn=some "NoneType":=rfl
theorem Du:isB "int" "int" = true:=rfl
theorem CJ:isB "int" "bool" = false:=rfl
theorem Ee:isB "list" "list" = true:=rfl
theorem Em:isB "tuple" "tuple" = true:=rfl
theorem EJ:isB "str" "str" = true:=rfl
theorem Ek:isB "bool" "bool" = true:=rfl
theorem C6:isB "bool" "int" = true:=rfl
theorem EV:isB "int" "list" = false:=rfl
theorem EO:isB "NoneType" "list" = false:=rfl
end
end L3
namespace L2
open PySem PySem.Spec PyProof.Rows
section
variable {X:Cx}{K:PySem.W.Frag}
theorem qi (hK:X.K=K) (hc:X.calm=true):iQ X (.builtin "min") (fun xs H Q=>∃(a:Addr) (ns:List Int),xs=[.ref a]∧SqL K H a (ns.map V.int)∧0<ns.length∧∀M,M∈ns→(∀x∈ns,M≤x)→Q (.int M) H):=by
  subst hK
  intro pins s σ H xs us Q I r h
  obtain ⟨a,ns,rfl,hS,hne,q⟩:=h
  obtain ⟨u,rfl,ru⟩:=vals1 r
  obtain rfl:u=Value.ref a:=ru
  obtain ⟨its,rv,pl,hz⟩:=I.list hS
  have hi:=mS rv
  obtain ⟨xs',e⟩:=hi.allInts.items
  have hl:s.heap.IsList a (intItems xs'):=by rw[← e];exact pl.isList
  have hns:ns=xs'.toList.map (·.1):=by rw[← hi.numsOf,← nums_intItems,← e]
  have hsz:0<xs'.size:=by
    have h3:=hne;rw[hns,List.length_map,Array.length_toList] at h3;exact h3
  refine min_intList (I.ok.hd hc) hl hsz fun v h' tk hv hk=>?_
  obtain ⟨t,rfl⟩:=intItems_at hv
  obtain ⟨h1,h2⟩:=argBest_lt (numAt xs') (xs'.size - 1)
  refine⟨.int _,H,I.kept hk,⟨t,rfl⟩,q _ ?_ fun b hb=>?_⟩
  · rw[hns,numAt_eq];exact getD_mem (by rw[List.length_map,Array.length_toList];omega)
  · rw[hns] at hb
    obtain ⟨j,hj,rfl⟩:=mem_getD hb
    rw[List.length_map,Array.length_toList] at hj
    rw[← numAt_eq];exact h2 j (by omega)
theorem qz:∀{bs:List Bool}{its:List Value},Vals (bs.map V.bl) its→LSm.BoolsAre its bs
  | [],_,.nil=>.nil
  | b::bs,_,.cons r t=>by
    cases (show _=Value.bool b from r)
    exact .cons b (qz t)
theorem vq (hK:X.K=K) (hc:X.calm=true):iQ X (.builtin "all") (fun xs H Q=>∃(a:Addr) (bs:List Bool),xs=[.ref a]∧SqL K H a (bs.map V.bl)∧Q (.bl (bs.all id)) H):=by
  subst hK
  intro pins s σ H xs us Q I r h
  obtain ⟨l,bs,rfl,hS,q⟩:=h
  obtain ⟨u,rfl,ru⟩:=vals1 r
  obtain rfl:u=Value.ref l:=ru
  obtain ⟨vs,rv,pl,hz⟩:=I.list hS
  have hb:=qz rv
  have hl:=pl.isList
  have hlt:l<s.heap.objs.size:=by obtain ⟨_,e,_⟩:=hl;exact Heap.lt_size e
  refine PySem.call_all_walk (wpAny_pyIter_list hl ?_)
  refine⟨s.heap.objs.size,[s.heap.objs.size,l],[s.heap.objs.size],vs.toArray.size,_,_,fun i=>(bs[i]?).getD true,rfl,Walks.list (A:=X.A.in1) (I.ok.hd hc) _ l (Nat.ne_of_lt hlt) vs.toArray,
    ⟨⟨_,Heap.get?_push_size _ rfl,rfl,rfl⟩,hl.push _⟩,fun i v s' Q' E' hP hQ=>?_,fun h' tk hk=>?_⟩
  · obtain ⟨b,e,rfl⟩:=hb.get i v (by simpa using hP)
    simp only[e,Option.getD_some] at hQ
    exact wpAny_truthy_bool hQ
  · have e:((List.range vs.toArray.size).all fun i=>(bs[i]?).getD true)=bs.all id:=by
      rw[List.size_toArray,hb.length];exact LSm.range_all bs
    rw[e]
    exact⟨.bl _,H,I.kept (LSm.kept_iter hk),rfl,q⟩
theorem Ct (hK:X.K=K) (hc:X.calm=true):iQ X (.builtin "any") (fun xs H Q=>∃(a:Addr) (bs:List Bool),xs=[.ref a]∧SqL K H a (bs.map V.bl)∧Q (.bl (bs.any id)) H):=by
  subst hK
  intro pins s σ H xs us Q I r h
  obtain ⟨l,bs,rfl,hS,q⟩:=h
  obtain ⟨u,rfl,ru⟩:=vals1 r
  obtain rfl:u=Value.ref l:=ru
  obtain ⟨vs,rv,pl,hz⟩:=I.list hS
  have hb:=qz rv
  have hl:=pl.isList
  have hlt:l<s.heap.objs.size:=by obtain ⟨_,e,_⟩:=hl;exact Heap.lt_size e
  refine PySem.call_any_walk (wpAny_pyIter_list hl ?_)
  refine⟨s.heap.objs.size,[s.heap.objs.size,l],[s.heap.objs.size],vs.toArray.size,_,_,fun i=>(bs[i]?).getD false,rfl,Walks.list (A:=X.A.in1) (I.ok.hd hc) _ l (Nat.ne_of_lt hlt) vs.toArray,
    ⟨⟨_,Heap.get?_push_size _ rfl,rfl,rfl⟩,hl.push _⟩,fun i v s' Q' E' hP hQ=>?_,fun h' tk hk=>?_⟩
  · obtain ⟨b,e,rfl⟩:=hb.get i v (by simpa using hP)
    simp only[e,Option.getD_some] at hQ
    exact wpAny_truthy_bool hQ
  · have e:((List.range vs.toArray.size).any fun i=>(bs[i]?).getD false)=bs.any id:=by
      rw[List.size_toArray,hb.length];exact LSm.range_any bs
    rw[e]
    exact⟨.bl _,H,I.kept (LSm.kept_iter hk),rfl,q⟩
def Cn (n:Nat):List V:=(List.range n).map fun (k:Nat)=>.int (k:Int)
def y0 (te:TE):TE:=fun σ H Q=>te σ H fun x H1=>∃j:Int,x=.int j∧j≤100000∧-(2 ^ 62)≤j∧∀l,H1 l=none→Q (.ref l) (upd H1 l (.lst (Cn j.toNat)))
theorem rd {e:Expr}{te:TE}{p p2 pos pos2:Pos} (hc:X.calm=true) (hg:Gl X "list") (hm:X.mg "list" = none) (hg2:Gl X "range") (hm2:X.mg "range" = none) (he:PE X e te)
    (hs:starEach [Expr.Call (.Name "range" p2) [e] [] pos2] X.env=[(false,eval (.Call (.Name "range" p2) [e] [] pos2) X.env)]:=by rfl) (hs2:starEach [e] X.env=[(false,eval e X.env)]:=by rfl) :
    PE X (.Call (.Name "list" p) [.Call (.Name "range" p2) [e] [] pos2] [] pos) (y0 te):=by
  intro pins s σ H Q I h
  refine wpAny_Call_Name_kw (lR I hg hm boot_list ?_)
  refine PyProof.Rows.callWith_type1 ?_ hs rfl
  rw[hs]
  refine Calls.spliced_cons ?_
  refine wpAny_Call_Name_kw (lR I hg2 hm2 boot_range ?_)
  refine PyProof.Rows.callWith_type1 ?_ hs2 rfl
  rw[hs2]
  refine Calls.spliced_cons (thn (he pins s σ H _ I h) fun v s1 ⟨x,H1,I1,r1,j,ex,hj,hj2,q⟩=>?_)
  subst ex
  obtain ⟨t,rfl⟩:=r1
  refine Calls.spliced_nil (call_range_1 (Calls.spliced_nil ?_))
  have hn:Builtin.Range.rangeSize 0 j 1=(j.toNat:Nat):=by rw[rangeSize_one];split<;>omega
  refine call_list_range (n:=j.toNat) (I.ok.hd hc) (IsRange.new ..) (small_one (by omega) (by omega) hj2 (by omega)) hn (by omega) fun h' tk acc' c' hk hS' hacc=>?_
  have hsz:∀o:Obj,(s1.heap.push o).objs.size=s1.heap.objs.size+1:=fun o=>Heap.size_push ..
  have k1:∀b o,s1.heap.get? b=some o→h'.get? b=some o:=fun b o e=>hk b o (Heap.get?_push_of_some _ e)
  have hn1:H1 (s1.heap.objs.size+1)=none:=I1.hok.fresh (Nat.le_succ _)
  dsimp only at hS' ⊢
  rw[hsz] at hS' ⊢
  have hacc2:Vals (Cn j.toNat) acc'.toList:=by
    obtain ⟨a1,a2⟩:=hacc
    have key:∀(n:Nat) (f:Nat→V) (its:List Value),its.length=n→(∀i v,its[i]?=some v→RelV (f i) v)→Vals ((List.range n).map f) its:=by
      intro n
      induction n with
      | zero=>intro f its h1 h2;cases its with | nil=>exact .nil | cons _ _=>simp at h1
      | succ n ih =>
        intro f its h1 h2
        cases its with
        | nil=>simp at h1
        | cons v vs =>
          rw[List.range_succ_eq_map,List.map_cons,List.map_map]
          exact .cons (h2 0 v rfl) (ih (f ∘ Nat.succ) vs (by simpa using h1) fun i w e=>h2 (i+1) w (by simpa using e))
    refine key _ _ _ (by simpa using a1) fun i v e=>?_
    obtain ⟨t,hv⟩:=a2 i v (by simpa using e)
    exact⟨t,by rw[hv];simp⟩
  refine⟨.ref (s1.heap.objs.size+1),_,I1.laid (t':=tk) (o:=.lst (Cn j.toNat)) k1 (Nat.le_succ _) ⟨by unfold Cn;rw[List.length_map,List.length_range];exact small (by omega),acc'.toList,c',hacc2,?_⟩,rfl,q _ hn1⟩
  rw[hS']
end
end L2
namespace L2
open PySem PySem.Spec PyProof.Rows
section
variable {X:Cx}{K:PySem.W.Frag}
end
end L2
namespace L2
open PySem PySem.Spec PyProof.Rows
section
variable {X:Cx}
end
end L2
namespace L3
open PySem
open L2 hiding D Rf Rfs Rp dI dT
section
variable {K:PySem.W.Frag}{ρ:Bool}{Γr Γl Γ Γ1 Γ2 Γn M:List Nat}{t u:TS}{te ta tb tx t1 t2:TE}{de da db dx d1 d2:DE}{d e:DS}
variable {B0:Hp}{fps:Nat→List Addr}{δ:Dl}{σ:St}{H H':Hp}
def Bm (xs:List D) (P:DK):Prop:=match xs with | [x]=>yr x fun ns=>0<ns.length∧∀M,M∈ns→(∀x∈ns,M≤x)→P (.int M) | _=>False
def Jx (xs:List D) (P:DK):Prop:=match xs with | [x]=>yr x fun ns=>0<ns.length∧∀M,M∈ns→(∀x∈ns,x≤M)→P (.int M) | _=>False
theorem z7:nD K (fun xs H Q=>∃(a:Addr) (ns:List Int),xs=[.ref a]∧SqL K H a (ns.map V.int)∧0<ns.length∧∀M,M∈ns→(∀x∈ns,M≤x)→Q (.int M) H) Bm:=⟨fun xs P P' k h=>by
    unfold Bm at h ⊢
    revert h
    split
    · exact fun h=>by obtain ⟨ns,e,z⟩:=jn h;exact sk e ⟨z.1,fun M a b=>k _ (z.2 M a b)⟩
    · exact id,
  fun {H xs vs Q} r h=>by
    unfold Bm at h
    split at h
    · obtain ⟨v,rfl,r0⟩:=r.one
      obtain ⟨ns,e,h⟩:=jn h
      obtain ⟨a,ys,fq,rfl,hs,hr⟩:=r0.seq e
      rw[hr.yW] at hs
      exact⟨a,ns,rfl,hs,h.1,fun M h1 h2=>h.2 M h1 h2 _ H [] (Same.refl H) ⟨rfl,rfl⟩ Nw.nil⟩
    · exact h.elim⟩
def je:List D→Option (List Bool)
  | []=>some []
  | .bl i::ds=>(je ds).map (i::·)
  | _=>none
theorem kF:∀{ns:List Bool},je (ns.map D.bl)=some ns
  | []=>rfl
  | n::ns=>by rw[List.map_cons,je,kF];rfl
theorem tj:∀{ds:List D}{ns:List Bool},je ds=some ns→ds=ns.map D.bl
  | [],ns,h=>by cases h;rfl
  | .bl i::ds,ns,h=>by
    rw[je] at h
    cases e:je ds with
    | none=>rw[e] at h;cases h
    | some ms=>rw[e] at h;cases h;rw[tj e];rfl
  | .non::_,_,h=>by cases h
  | .int _::_,_,h=>by cases h
  | .str _::_,_,h=>by cases h
  | .lst _::_,_,h=>by cases h
  | .tup _::_,_,h=>by cases h
  | .dic _::_,_,h=>by cases h
  | .dit _::_,_,h=>by cases h
  | .scr _::_,_,h=>by cases h
def GF (x:D) (P:List Bool→Prop):Prop:=asL x fun ds=>match je ds with | some ns=>P ns | none=>False
theorem pK {x:D}{P:List Bool→Prop} (h:GF x P):∃ns,x.items=some (ns.map D.bl)∧P ns:=by
  obtain ⟨ds,e,h⟩:=dF h
  cases q:je ds with
  | none=>rw[q] at h;exact h.elim
  | some ns=>rw[q] at h;rw[tj q] at e;exact⟨ns,e,h⟩
theorem Ba {x:D}{ns:List Bool}{P:List Bool→Prop} (e:x.items=some (ns.map D.bl)) (h:P ns):GF x P:=by
  refine kM e ?_
  rw[kF];exact h
theorem Rfs.DU {ns:List Bool}{vs:List V}{fp:List Addr} (h:Rfs K H (ns.map D.bl) vs fp):vs=ns.map V.bl:=by
  have hs:(ns.map D.bl).all D.aW=true:=by rw[List.all_map,List.all_eq_true];exact fun _ _=>rfl
  rw[(h.j8 hs).1,List.map_map]
  rfl
def Gi (xs:List D) (P:DK):Prop:=match xs with | [x]=>GF x fun ns=>P (.bl (ns.all id)) | _=>False
def G5 (xs:List D) (P:DK):Prop:=match xs with | [x]=>GF x fun ns=>P (.bl (ns.any id)) | _=>False
theorem Dd:nD K (fun xs H Q=>∃(a:Addr) (bs:List Bool),xs=[.ref a]∧SqL K H a (bs.map V.bl)∧Q (.bl (bs.all id)) H) Gi:=⟨fun xs P P' k h=>by
    unfold Gi at h ⊢
    revert h
    split
    · exact fun h=>by obtain ⟨ns,e,z⟩:=pK h;exact Ba e (k _ z)
    · exact id,
  fun {H xs vs Q} r h=>by
    unfold Gi at h
    split at h
    · obtain ⟨v,rfl,r0⟩:=r.one
      obtain ⟨ns,e,h⟩:=pK h
      obtain ⟨a,ys,fq,rfl,hs,hr⟩:=r0.seq e
      rw[hr.DU] at hs
      exact⟨a,ns,rfl,hs,h _ H [] (Same.refl H) ⟨rfl,rfl⟩ Nw.nil⟩
    · exact h.elim⟩
theorem Ij:nD K (fun xs H Q=>∃(a:Addr) (bs:List Bool),xs=[.ref a]∧SqL K H a (bs.map V.bl)∧Q (.bl (bs.any id)) H) G5:=⟨fun xs P P' k h=>by
    unfold G5 at h ⊢
    revert h
    split
    · exact fun h=>by obtain ⟨ns,e,z⟩:=pK h;exact Ba e (k _ z)
    · exact id,
  fun {H xs vs Q} r h=>by
    unfold G5 at h
    split at h
    · obtain ⟨v,rfl,r0⟩:=r.one
      obtain ⟨ns,e,h⟩:=pK h
      obtain ⟨a,ys,fq,rfl,hs,hr⟩:=r0.seq e
      rw[hr.DU] at hs
      exact⟨a,ns,rfl,hs,h _ H [] (Same.refl H) ⟨rfl,rfl⟩ Nw.nil⟩
    · exact h.elim⟩
theorem t5 {ns:List Bool}{P:DK}:Gi [.lst (ns.map D.bl)] P↔P (.bl (ns.all id)):=by
  show (match je (ns.map D.bl) with | some ns=>P (.bl (ns.all id)) | none=>False)↔_
  rw[kF]
theorem uu {ns:List Bool}{P:DK}:G5 [.lst (ns.map D.bl)] P↔P (.bl (ns.any id)):=by
  show (match je (ns.map D.bl) with | some ns=>P (.bl (ns.any id)) | none=>False)↔_
  rw[kF]
theorem tu {ns:List Int}{P:DK}:Bm [dI ns] P↔0<ns.length∧∀M,M∈ns→(∀x∈ns,M≤x)→P (.int M):=jT
theorem sS {ns:List Int}{P:DK}:Jx [dI ns] P↔0<ns.length∧∀M,M∈ns→(∀x∈ns,x≤M)→P (.int M):=jT
def iA (n:Nat):List Int:=(List.range n).map fun (k:Nat)=>(k:Int)
def uv (de:DE) (δ:Dl) (P:DK):Prop:=de δ fun x=>asI [x] fun j=>(j≤100000∧-(2 ^ 62)≤j)∧P (dI (iA j.toNat))
theorem sV (he:ER K Γ te de):EM K Γ [] (y0 te) (uv de) :=
  ⟨fun δ P P' k h=>he.mono _ _ _ (fun x z=>by obtain ⟨j,rfl,z⟩:=dA z;exact⟨z.1,k _ z.2⟩) h,
   fun {B0 fps δ σ H Q} o h=>he.run o (he.mono _ _ _ (fun x z v H1 s1 r1=>by
    obtain ⟨j,ej,z'⟩:=dA z
    subst ej
    refine⟨j,r1.int,z'.1.1,z'.1.2,fun l hl=>?_⟩
    have e:Cn j.toNat=(iA j.toNat).map V.int:=by unfold Cn iA;rw[List.map_map];rfl
    rw[e]
    have s2:Same H1 (upd H1 l (.lst ((iA j.toNat).map V.int))):=Same.mC hl
    exact z'.2 _ _ [l] (s1.trans s2) (Rf.ofInts aG) ((Nw.one hl aG).any.later s1)) h)⟩
theorem pS {o:Option D}{es:List D}{Q:List D→Prop} (e:o=some (.lst es)) (h:Q es):pB o Q:=by rw[e];exact h
def JK (de:DE) (dl dh:DO) (δ:Dl) (P:DK):Prop:=de δ fun x=>dl δ fun l=>dh δ fun u=>asL x fun ds=>P (.lst (cutD ds l u))
def Jv (x y:D) (P:DK):Prop:=match x,y with | .lst a,.lst b=>a.length+b.length≤1000∧P (.lst (a++b)) | _,_=>False
theorem vt {a b:List D}{P:DK}:Jv (.lst a) (.lst b) P↔a.length+b.length≤1000∧P (.lst (a++b)):=Iff.rfl
def JZ (x y:D) (P:DK):Prop:=match x,y with | .lst a,.int k=>((-(2 ^ 63)≤k∧k<2 ^ 63)∧a.length*k.toNat≤1000)∧P (.lst (rM a k.toNat)) | _,_=>False
theorem ve {a:List D}{k:Int}{P:DK}:JZ (.lst a) (.int k) P↔((-(2 ^ 63)≤k∧k<2 ^ 63)∧a.length*k.toNat≤1000)∧P (.lst (rM a k.toNat)):=Iff.rfl
def Jo (xs:List D) (P:DK):Prop:=match xs with | [x]=>asL x fun ds=>P (.lst ds) | _=>False
theorem sI {ds:List D}{P:DK}:Jo [.lst ds] P↔P (.lst ds):=Iff.rfl
def Hv (da:DE) (δ:Dl) (P:DK):Prop:=da δ fun x=>asL x fun ds=>P (.lst ds.reverse)
def Bo (i k:Nat) (dn:DE) (E:bC) (δ:Dl):Prop:=lF δ i fun ds=>lF δ k fun es=>dn δ fun x=>asI [x] fun n=>(ds.length<1000∧es.all D.aW=true∧0≤n∧n<2 ^ 63)∧asO (es[n.toNat]?) fun y=>E.nx ((δ.set k (some (.lst (es.eraseIdx n.toNat)))).set i (some (.lst (ds++[y]))))
theorem BA {neg:Bool}{i j:Bool}{P:DK}:uA neg (.bl i) (.bl j) P↔P (.bl (if neg then !decide (i=j) else decide (i=j))):=by
  unfold uA
  simp only[D.aW,D.toV,aW,true_and,V.bl.injEq]
theorem yA {neg:Bool}{i j:Str}{P:DK}:uA neg (.str i) (.str j) P↔P (.bl (if neg then !decide (i=j) else decide (i=j))):=by
  unfold uA
  simp only[D.aW,D.toV,aW,true_and,V.str.injEq]
end
end L3
namespace L3
open PySem
open L2 hiding D Rf Rfs Rp dI dT
def dH (n m:Nat) (t:List (List Int)):Prop:=t.length=n∧∀r∈t,r.length=m
abbrev rowAt (t:List (List Int)) (i:Nat):List Int:=t.getD i []
abbrev cellAt (t:List (List Int)) (i j:Nat):Int:=(t.getD i []).getD j 0
abbrev setCell (t:List (List Int)) (i j:Nat) (v:Int):List (List Int):=t.set i ((t.getD i []).set j v)
theorem nF {t:List (List Int)}{i:Nat} (h:i<t.length):rowAt t i∈t:=by
  unfold rowAt
  rw[List.getD_eq_getElem?_getD,List.getElem?_eq_getElem h]
  exact List.getElem_mem h
theorem dH.row {n m:Nat}{t:List (List Int)} (h:dH n m t) {i:Nat} (hi:i<n):(rowAt t i).length=m:=h.2 _ (nF (by rw[h.1];exact hi))
theorem dH.set {n m:Nat}{t:List (List Int)} (h:dH n m t) {i:Nat}{r:List Int} (hr:r.length=m):dH n m (t.set i r):=by
  refine⟨by rw[List.length_set];exact h.1,fun x hx=>?_⟩
  rcases List.mem_or_eq_of_mem_set hx with z | z
  · exact h.2 x z
  · rw[z];exact hr
theorem dH.setCell {n m:Nat}{t:List (List Int)} (h:dH n m t) {i j:Nat}{v:Int} (hi:i<n):dH n m (setCell t i j v):=h.set (by rw[List.length_set];exact h.row hi)
theorem IM {t:List (List Int)}{i:Nat} (h:i<t.length):(t.map dI)[i]?=some (dI (rowAt t i)):=by
  unfold rowAt
  rw[List.getElem?_map,List.getD_eq_getElem?_getD,List.getElem?_eq_getElem h]
  rfl
theorem Hu {t:List (List Int)}{i:Int} (h0:0≤i) (h:i<t.length):atI (t.map dI) i=some (dI (rowAt t i.toNat)):=by
  unfold atI
  rw[gM h0 (by rw[List.length_map];exact h)]
  exact IM (by omega)
theorem Ed {t:List (List Int)}{i:Nat}{r:List Int}:(t.map dI).set i (dI r)=(t.set i r).map dI:=(List.map_set ..).symm
section
variable {i j:Nat}{δ:Dl}{de d1 d2 dx:DE}{E:bC}{t:List (List Int)}{r:List Int}{a b v:Int}
theorem fi (hs:δ[i]?=some (some (dI r))) (hde:∀R:DK,R (.int v)→de δ R) (hdx:∀R:DK,R (.int a)→dx δ R) (ha:0≤a∧a<r.length) (h:E.nx (δ.set i (some (dI (r.set a.toNat v))))):jj i de dx E δ:=by
  unfold jj
  refine hde _ ((sf hs).mpr (hdx _ ?_))
  show match ixN (r.map D.int).length a with | some j=>E.nx (δ.set i (some (.lst ((r.map D.int).set j (.int v))))) | none=>False
  rw[gM ha.1 (by rw[List.length_map];exact ha.2)]
  show E.nx (δ.set i (some (.lst ((r.map D.int).set a.toNat (.int v)))))
  rw[D7];exact h
theorem wC (hs:δ[i]?=some (some (dT t))) (hde:∀R:DK,R (.int v)→de δ R) (h1:∀R:DK,R (.int a)→d1 δ R) (h2:∀R:DK,R (.int b)→d2 δ R) (ha:0≤a∧a<t.length) (hb:0≤b∧b<(rowAt t a.toNat).length)
    (h:E.nx (δ.set i (some (dT (setCell t a.toNat b.toNat v))))):qL i de d1 d2 E δ:=by
  unfold qL
  refine hde _ ((sf hs).mpr (h1 _ ?_))
  show pB (atI (t.map dI) a) _
  rw[Hu ha.1 ha.2]
  refine h2 _ ?_
  show match ixN (t.map dI).length a,ixN ((rowAt t a.toNat).map D.int).length b with | some j,some j2=>E.nx (δ.set i (some (.lst ((t.map dI).set j (.lst (((rowAt t a.toNat).map D.int).set j2 (.int v))))))) | _,_=>False
  rw[gM ha.1 (by rw[List.length_map];exact ha.2),gM hb.1 (by rw[List.length_map];exact hb.2)]
  show E.nx (δ.set i (some (.lst ((t.map dI).set a.toNat (.lst (((rowAt t a.toNat).map D.int).set b.toNat (.int v)))))))
  rw[D7,Ed];exact h
end
theorem aF {r:List Int}{a:Int}{P:DK} (ha:0≤a∧a<r.length) (h:P (.int (r.getD a.toNat 0))):asO (atI (r.map D.int) a) P:=(xg (Hl ha.1 ha.2)).mpr h
theorem fR {t:List (List Int)}{a:Int}{P:DK} (ha:0≤a∧a<t.length) (h:P (dI (rowAt t a.toNat))):asO (atI (t.map dI) a) P:=(xg (Hu ha.1 ha.2)).mpr h
theorem Fb {n:Nat}{x:Int}:rM [D.int x] n=(List.replicate n x).map D.int:=by
  unfold rM
  induction n with
  | zero=>rfl
  | succ n ih=>rw[List.replicate_succ,List.flatten_cons,ih,List.replicate_succ];rfl
theorem zx {α:Type}{as:List α}{f:α→List Int}:as.map (fun a=>dI (f a))=(as.map f).map dI:=by rw[List.map_map];rfl
theorem iM {α:Type}{as:List α}{f:α→Int}:as.map (fun a=>D.int (f a))=(as.map f).map D.int:=by rw[List.map_map];rfl
theorem cD {K:PySem.W.Frag}{Γ:List Nat}{ta:TE}{da:DE}{tr:TA}{dr:DA} (ha:EM K Γ [] ta da) (hr:AM K Γ [] tr dr):AM K Γ [] (jr ta tr) (rb da dr):=gu ha hr (fun _ h=>(nomatch h)) (fun _ h=>(nomatch h))
theorem vW {di:DI}{dg:D→Dl→(Dl→Prop)→Prop}{dt:DT}{de:DE}{k:Nat}{idx:List Nat}{δ:Dl}{P:DK}{t:List (List Int)} (hdi:∀R:List D→Prop,R (t.map dI)→di δ R) (hl:t.length≤1000)
    (hb:∀r∈t,∀R:List D→Prop,R [dI r]→kC dg dt de (fE k idx δ) (dI r) R) (h:P (dT t)):mx di dg dt de k idx δ P:=iV (g:=dI) hdi hl hb h
theorem Df {α:Type}{as:List α}{f:α→Bool}:as.map (fun a=>D.bl (f a))=(as.map f).map D.bl:=by rw[List.map_map];rfl
theorem EU {a b:List Int}:a.map D.int++b.map D.int=(a++b).map D.int:=List.map_append.symm
theorem GI {n:Nat}:(iA n).length=n:=by unfold iA;rw[List.length_map,List.length_range]
theorem Gp {n:Nat}{x:Int}:x∈iA n↔0≤x∧x<n:=by
  unfold iA
  rw[List.mem_map]
  constructor
  · rintro ⟨k,hk,rfl⟩
    have:=List.mem_range.mp hk
    omega
  · rintro ⟨h0,h1⟩
    exact⟨x.toNat,List.mem_range.mpr (by omega),by omega⟩
theorem wg {n i:Nat}{p:List Int} (h:p.Perm (iA n)) (hi:i<n):i<p.length∧0≤p.getD i 0∧p.getD i 0<n:=by
  have hl:p.length=n:=by rw[h.length_eq,GI]
  have hlt:i<p.length:=by omega
  have:p.getD i 0∈iA n:=h.mem_iff.mp (by rw[List.getD_eq_getElem?_getD,List.getElem?_eq_getElem hlt];exact List.getElem_mem hlt)
  exact⟨hlt,Gp.mp this⟩
def qX (t:List (List Int)) (j:Nat):List Int:=t.map fun r=>r.getD j 0
end L3
namespace L3
open PySem
open L2 hiding D Rf Rfs Rp dI dT
def Hr (ns:List Int) (δ:Dl) (P:List D→Prop):Prop:=P (ns.map D.int)
end L3
namespace L3
open PySem
open L2 hiding D Rf Rfs Rp dI dT
theorem Gk {ds:List D}{k:Int} (h:0≤k):cutD ds none (some k)=ds.take k.toNat:=by
  obtain ⟨n,rfl⟩:=Int.eq_ofNat_of_zero_le h
  unfold cutD
  rw[HT.su,HT.yx,Nat.sub_zero,List.drop_zero,← List.take_eq_take_min]
  rfl
theorem B5 {ds:List D}{k:Int} (h:0≤k) (h2:k≤ds.length):cutD ds (some k) none=ds.drop k.toNat:=by
  obtain ⟨n,rfl⟩:=Int.eq_ofNat_of_zero_le h
  unfold cutD
  rw[HT.su,HT.yx,Nat.min_eq_left (by omega),List.take_of_length_le (by rw[List.length_drop];exact Nat.le_refl _)]
  rfl
theorem Gz {α:Type}{as:List α}{f:α→D}{i:Int}{P:DK} (hne:1≤as.length) (hi:i=0∨i=-1) (h:∀a∈as,P (f a)):asO (atI (as.map f) i) P:=by
  have key:∀j,j<as.length→asO ((as.map f)[j]?) P:=fun j hj=>by
    rw[List.getElem?_map,List.getElem?_eq_getElem hj]
    exact h _ (List.getElem_mem hj)
  unfold atI
  rcases hi with rfl | rfl
  · rw[gM (by omega) (by rw[List.length_map];omega)]
    exact key 0 (by omega)
  · have:ixN (as.map f).length (-1)=some (as.length - 1):=by
      unfold ixN
      rw[List.length_map,if_neg (by omega),if_pos (by omega)]
      congr 1;omega
    rw[this]
    exact key _ (by omega)
theorem EA {a:D}{ds:List D}:atI (a::ds) 0=some a:=by
  unfold atI;rw[gM (by omega) (by rw[List.length_cons];omega)];rfl
theorem EN {a b:D}{ds:List D}:atI (a::b::ds) 1=some b:=by
  unfold atI;rw[gM (by omega) (by rw[List.length_cons,List.length_cons];omega)];rfl
theorem EY {a b c:D}{ds:List D}:atI (a::b::c::ds) 2=some c:=by
  unfold atI;rw[gM (by omega) (by rw[List.length_cons,List.length_cons,List.length_cons];omega)];rfl
theorem CI {a b c d:D}{ds:List D}:atI (a::b::c::d::ds) 3=some d:=by
  unfold atI;rw[gM (by omega) (by rw[List.length_cons,List.length_cons,List.length_cons,List.length_cons];omega)];rfl
end L3
namespace L2
open PySem PySem.Spec PyProof.Rows
section
variable {prog:Program}{w:World}{A:Around}{E:Value→Shared→Prop}{s:Shared}
theorem vV {it t:Addr}{items:Array Value} (hne:t≠it):∀(n i:Nat) (s:Shared) (Q:List Value→Shared→Prop),s.heap.IsListIter it t i→s.heap.IsList t items→i+n≤items.size →
    (∀h',h'.IsListIter it t (i+n)→Heap.SameBut it s.heap h'→Q ((items.toList.drop i).take n) { s with heap:=h' })→wpAny (model prog w) A (draw (.ref it) n) Q E s
  | 0,i,s,Q,hit,_,_,hQ=>by
    show wpAny _ _ (pure []) Q E s
    exact wpAny_pure (by simpa using hQ s.heap hit (Heap.SameBut.refl ..))
  | n+1,i,s,Q,hit,ht,hle,hQ=>by
    have hlt:i<items.size:=by omega
    show wpAny _ _ (pyNext (.ref it) >>= _) Q E s
    refine wpAny_bind (wpAny_pyNext_list_item hit ht (x:=items[i]) (by simp [hlt]) fun h₁ hit₁ hs₁=>?_)
    have ht₁:h₁.IsList t items:=ht.at fun o e=>(hs₁.2 t hne).trans e
    refine wpAny_bind (wpAny_holding (vV hne n (i+1) _ _ hit₁ ht₁ (by omega) fun h₂ hit₂ hs₂=>wpAny_pure ?_))
    have hd:items.toList.drop i=items[i]::items.toList.drop (i+1):=by simp [List.drop_eq_getElem_cons,hlt]
    have:=hQ h₂ (by rw[show i+(n+1)=i+1+n by omega];exact hit₂) (hs₁.trans hs₂)
    rw[hd,List.take_succ_cons] at this
    exact this
theorem qf {t:Addr}{items:Array Value}{Q:List Value→Shared→Prop} (hh:A.handled=none) (ht:s.heap.IsList t items)
    (hQ:∀h',Heap.ExtBut s.heap.objs.size s.heap h'→Q items.toList { s with heap:=h' }):wpAny (model prog w) A (unpackItems (.ref t) items.size none) Q E s:=by
  have hlt:t≠s.heap.objs.size:=by obtain ⟨o,ho,_⟩:=ht;exact Nat.ne_of_lt (Heap.lt_size ho)
  unfold unpackItems
  refine wpAny_bind ?_
  · unfold notIterableAtAll
    refine wpAny_bind (wpAny_specialOf ht.typeIs PySem.F.slot_list_iter.lookup ?_)
    refine wpAny_pure ?_
    simp only[Bool.false_eq_true,if_false]
    refine wpAny_bind (wpAny_holding (wpAny_pyIter_list ht ?_))
    refine wpAny_bind (wpAny_holding (vV hlt items.size 0 _ _ ⟨_,Heap.get?_push_size _ rfl,rfl,rfl⟩ (ht.push _) (by omega) fun h₁ hit₁ hs₁=>?_))
    have hall:List.take items.size (List.drop 0 items.toList)=items.toList:=by
      rw[List.drop_zero];exact List.take_of_length_le (by simp)
    rw[hall]
    rw[if_neg (by simp)]
    have ht₁:h₁.IsList t items:=(ht.push _).at fun o e=>(hs₁.2 t hlt).trans e
    refine wpAny_bind (wpAny_holding (wpAny_pyNext_list_end hh hit₁ ht₁ (by simp) fun h₂ he₂=>?_))
    simp only[Option.isSome_none,Bool.false_eq_true,if_false]
    refine wpAny_pure (hQ h₂ fun b o hb e=>he₂ b o hb ((hs₁.2 b hb).trans (Heap.get?_push_of_some _ e)))
theorem pQ {env:Env}{elts:List Expr}{x1}{pos:Pos}{t:Addr}{items:Array Value}{Q:Unit→Shared→Prop} (hh:A.handled=none) (ht:s.heap.IsList t items)
    (hn:(assignEach elts env).length=items.size) (hstar:(assignEach elts env).findIdx? (·.1)=none)
    (h:∀h',Heap.ExtBut s.heap.objs.size s.heap h'→wpAny (model prog w) A (assignInOrder ((assignEach elts env).map (·.2)) items.toList) Q E { s with heap:=h' }) :
    wpAny (model prog w) A (assign (.Tuple elts x1 pos) env (.ref t)) Q E s:=by
  rw[assign_Tuple]
  refine wpAny_bind (wpAny_standAt ?_)
  unfold unpack
  rw[hn,hstar]
  exact wpAny_bind (wpAny_holding (qf hh ht h))
end
section
variable {X:Cx}{K:PySem.W.Frag}
def J3 (K:PySem.W.Frag) (n:Nat) (t:TGs):TG:=fun v σ H Q=>∃a xs,v=.ref a∧SqL K H a xs∧xs.length=n∧t xs σ H Q
theorem GP {es:List Expr}{k:Nat}{t:TGs}{n:Nat}{pos:Pos} (hK:X.K=K) (hc:X.calm=true) (h:PGs X es t)
    (hn:(assignEach es X.env).length=n:=by rfl) (hst:(assignEach es X.env).findIdx? (·.1)=none:=by rfl):PG X (.Tuple es k pos) (J3 K n t):=by
  subst hK
  intro pins s σ H v u Q I r hw
  obtain ⟨a,xs,e1,hq,hl,hw⟩:=hw
  subst e1
  cases r
  obtain ⟨its,rv,ht,hz⟩:=I.list hq
  refine pQ (I.ok.hd hc) ht.isList (by simp [hn,← hl,rv.length]) hst fun h' hx=>?_
  have I1:Inv X pins σ H { s with heap:=h' }:=I.kept (t':=s.toks) fun b o e=>hx b o (Nat.ne_of_lt (Heap.lt_size e)) e
  exact h pins _ σ H xs _ Q I1 (by simpa using rv) hw
def pT (k:Nat) (g:TGs):Prop:=∀x σ H Q,g x σ H Q→g x σ H fun σ2 H2=>Q σ2 H2∧σ2.length=σ.length∧∀j,k≤j→σ2[j]?=σ[j]?
theorem pT.nil {k:Nat}:pT k Ic:=fun x σ H Q q=>⟨q.1,q.2,rfl,fun _ _=>rfl⟩
end
end L2
namespace Maj
open L2 (ja iw lB cf)
def nW (xs:List Int) (k:Nat):Int:=((ja xs).take k).sum
def jK:List Bool→List Int→Int
  | true::m,x::xs=>x+jK m xs
  | false::m,_::xs=>jK m xs
  | _,_=>0
def cnt:List Bool→Nat
  | true::m=>cnt m+1
  | false::m=>cnt m
  | []=>0
theorem sC:∀{k:Nat}{y:Int}{ys:List Int},(y::ys).Pairwise (·≥·)→k≤ys.length→(ys.take k).sum≤((y::ys).take k).sum
  | 0,y,ys,_,_=>by simp
  | k+1,y,[],_,h=>by simp at h
  | k+1,y,z::zs,hp,h=>by
    rw[List.take_succ_cons,List.take_succ_cons,List.sum_cons,List.sum_cons]
    obtain ⟨h1,h2⟩:=List.pairwise_cons.mp hp
    have:=sC (k:=k) h2 (by simpa using h)
    have:=h1 z List.mem_cons_self
    omega
theorem mV:∀{ys:List Int}{m:List Bool},ys.Pairwise (·≥·)→m.length=ys.length→jK m ys≤(ys.take (cnt m)).sum
  | [],[],_,_=>by simp [jK,cnt]
  | [],_::_,_,h=>by simp at h
  | _::_,[],_,h=>by simp at h
  | y::ys,true::m,hp,h=>by
    have:=mV (List.pairwise_cons.mp hp).2 (show m.length=ys.length by simpa using h)
    rw[jK,cnt,List.take_succ_cons,List.sum_cons];omega
  | y::ys,false::m,hp,h=>by
    have hl:m.length=ys.length:=by simpa using h
    have h1:=mV (List.pairwise_cons.mp hp).2 hl
    have h2:cnt m≤ys.length:=by
      have:∀m:List Bool,cnt m≤m.length:=fun m=>by
        induction m with
        | nil=>simp [cnt]
        | cons b m ih=>cases b<;>simp [cnt]<;>omega
      rw[← hl];exact this m
    have:=sC hp h2
    rw[jK,cnt];omega
theorem qD {xs ys:List Int} (h:xs.Perm ys):∀m:List Bool,m.length=xs.length→∃m':List Bool,m'.length=ys.length∧cnt m'=cnt m∧jK m' ys=jK m xs:=by
  induction h with
  | nil=>exact fun m h=>⟨m,h,rfl,rfl⟩
  | cons x _ ih =>
    intro m h
    cases m with
    | nil=>simp at h
    | cons b m =>
      obtain ⟨m',h1,h2,h3⟩:=ih m (by simpa using h)
      refine⟨b::m',by simp [h1],?_,?_⟩
      · cases b<;>simp [cnt,h2]
      · cases b<;>simp [jK,h3]
  | swap x y l =>
    intro m h
    match m,h with
    | b::c::m,h =>
      refine⟨c::b::m,by simpa using h,?_,?_⟩
      · cases b<;>cases c<;>simp [cnt]
      · cases b<;>cases c<;>simp [jK]<;>omega
    | [_],h=>simp at h
    | [],h=>simp at h
  | trans _ _ ih1 ih2 =>
    intro m h
    obtain ⟨m1,a1,a2,a3⟩:=ih1 m h
    obtain ⟨m2,b1,b2,b3⟩:=ih2 m1 a1
    exact⟨m2,b1,b2.trans a2,b3.trans a3⟩
theorem w6 {xs:List Int}{m:List Bool} (h:m.length=xs.length):jK m xs≤nW xs (cnt m):=by
  obtain ⟨m',h1,h2,h3⟩:=qD (iw xs).symm m h
  rw[← h3,← h2]
  exact mV (lB xs) h1
theorem vi:∀{ys:List Int}{k:Nat},k≤ys.length→∃m:List Bool,m.length=ys.length∧cnt m=k∧jK m ys=(ys.take k).sum
  | ys,0,_=>by
    refine⟨List.replicate ys.length false,List.length_replicate,?_,?_⟩
    · have:∀n,cnt (List.replicate n false)=0:=fun n=>by induction n with | zero=>rfl | succ n ih=>rw[List.replicate_succ,cnt];exact ih
      exact this _
    · rw[List.take_zero]
      have:∀ys:List Int,jK (List.replicate ys.length false) ys=0:=fun ys=>by
        induction ys with
        | nil=>rfl
        | cons y ys ih=>rw[List.length_cons,List.replicate_succ,jK];exact ih
      exact this ys
  | [],k+1,h=>by simp at h
  | y::ys,k+1,h=>by
    obtain ⟨m,h1,h2,h3⟩:=vi (ys:=ys) (k:=k) (by simpa using h)
    exact⟨true::m,by simp [h1],by simp [cnt,h2],by rw[jK,h3,List.take_succ_cons,List.sum_cons]⟩
theorem yJ {xs:List Int}{k:Nat} (h:k≤xs.length):∃m:List Bool,m.length=xs.length∧cnt m=k∧jK m xs=nW xs k:=by
  obtain ⟨m,h1,h2,h3⟩:=vi (ys:=ja xs) (k:=k) (by rw[cf];exact h)
  obtain ⟨m',a1,a2,a3⟩:=qD (iw xs) m h1
  exact⟨m',a1,a2.trans h2,a3.trans h3⟩
theorem um:∀{xs:List Int}{m:List Bool}{i:Nat}{v:Int},m.length=xs.length→i<xs.length→jK m (xs.set i v)=jK m xs+(if m.getD i false=true then v - xs.getD i 0 else 0)
  | x::xs,b::m,0,v,h,_=>by cases b<;>simp [jK]<;>omega
  | x::xs,b::m,i+1,v,h,hi=>by
    have:=um (xs:=xs) (m:=m) (i:=i) (v:=v) (by simpa using h) (by simpa using hi)
    cases b<;>simp [jK,this]<;>omega
  | x::xs,[],_,_,h,_=>by simp at h
  | [],_,_,_,_,hi=>by simp at hi
theorem qR:∀{xs:List Int}{m:List Bool}{i:Nat}{b:Bool},m.length=xs.length→i<xs.length→jK (m.set i b) xs=jK m xs+(if b=true then xs.getD i 0 else 0) - (if m.getD i false=true then xs.getD i 0 else 0)
  | x::xs,c::m,0,b,h,_=>by cases b<;>cases c<;>simp [jK]<;>omega
  | x::xs,c::m,i+1,b,h,hi=>by
    have:=qR (xs:=xs) (m:=m) (i:=i) (b:=b) (by simpa using h) (by simpa using hi)
    cases c<;>simp [jK,this]<;>omega
  | x::xs,[],_,_,h,_=>by simp at h
  | [],_,_,_,_,hi=>by simp at hi
theorem xk:∀{m:List Bool}{i:Nat}{b:Bool},i<m.length→(cnt (m.set i b):Int)=cnt m+(if b=true then 1 else 0) - (if m.getD i false=true then 1 else 0)
  | c::m,0,b,_=>by cases b<;>cases c<;>simp [cnt]<;>omega
  | c::m,i+1,b,hi=>by
    have:=xk (m:=m) (i:=i) (b:=b) (by simpa using hi)
    cases c<;>simp only[List.set_cons_succ,cnt,List.getD_cons_succ]<;>omega
  | [],_,_,hi=>by simp at hi
def Le (xs ys:List Int):Prop:=∀k,k≤xs.length→nW xs k≤nW ys k
theorem Le.refl {xs:List Int}:Le xs xs:=fun _ _=>Int.le_refl _
theorem Le.trans {xs ys zs:List Int} (a:Le xs ys) (b:Le ys zs) (h:xs.length=ys.length):Le xs zs:=fun k hk=>Int.le_trans (a k hk) (b k (by omega))
def bw (xs:List Int) (g t:Nat) (a:Int):List Int:=(xs.set g (xs.getD g 0 - a)).set t ((xs.set g (xs.getD g 0 - a)).getD t 0+a)
theorem fL {xs:List Int}{i j:Nat}{v:Int} (h:i≠j):(xs.set i v).getD j 0=xs.getD j 0:=by
  rw[List.getD_eq_getElem?_getD,List.getD_eq_getElem?_getD,List.getElem?_set_ne h]
theorem GQ {xs:List Int}{g t:Nat}{a:Int} (hg:g<xs.length) (ht:t<xs.length) (hne:g≠t) (h1:0≤a) (h2:a≤xs.getD g 0 - xs.getD t 0):Le (bw xs g t a) xs:=by
  intro k hk
  have hl:(bw xs g t a).length=xs.length:=by unfold bw;rw[List.length_set,List.length_set]
  rw[hl] at hk
  obtain ⟨m,m1,m2,m3⟩:=yJ (xs:=bw xs g t a) (k:=k) (by rw[hl];exact hk)
  rw[hl] at m1
  rw[← m3]
  unfold bw
  rw[um (by rw[List.length_set];exact m1) (by rw[List.length_set];exact ht),um m1 hg,fL hne]
  have base:=w6 m1
  rw[m2] at base
  by_cases ct:m.getD t false=true
  · by_cases cg:m.getD g false=true
    · rw[if_pos ct,if_pos cg];omega
    · rw[if_pos ct,if_neg cg]
      have l1:(m.set g true).length=xs.length:=by rw[List.length_set];exact m1
      have e1:=qR (xs:=xs) (m:=m.set g true) (i:=t) (b:=false) l1 ht
      have e2:=qR (xs:=xs) (m:=m) (i:=g) (b:=true) m1 hg
      have gt:(m.set g true).getD t false=m.getD t false:=by rw[List.getD_eq_getElem?_getD,List.getD_eq_getElem?_getD,List.getElem?_set_ne hne]
      have c1:=xk (m:=m.set g true) (i:=t) (b:=false) (by omega)
      have c2:=xk (m:=m) (i:=g) (b:=true) (by omega)
      rw[gt,if_pos ct] at e1 c1
      rw[if_neg cg] at e2 c2
      simp only[Bool.false_eq_true,if_false,if_true] at e1 e2 c1 c2
      have top:=w6 (xs:=xs) (m:=(m.set g true).set t false) (by rw[List.length_set];exact l1)
      have:cnt ((m.set g true).set t false)=k:=by omega
      rw[this] at top
      omega
  · rw[if_neg ct]
    split<;>omega
theorem sum_set:∀{xs:List Int}{i:Nat}{v:Int},i<xs.length→(xs.set i v).sum=xs.sum+v - xs.getD i 0
  | x::xs,0,v,_=>by simp;omega
  | x::xs,i+1,v,h=>by
    have:=sum_set (xs:=xs) (i:=i) (v:=v) (by simpa using h)
    simp [this];omega
  | [],_,_,h=>by simp at h
theorem Dh {xs:List Int}{g t:Nat}{a:Int} (hg:g<xs.length) (ht:t<xs.length) (hne:g≠t):(bw xs g t a).sum=xs.sum:=by
  unfold bw
  rw[sum_set (by rw[List.length_set];exact ht),sum_set hg]
  omega
theorem mP {xs:List Int}{g t:Nat}{a:Int}:(bw xs g t a).length=xs.length:=by unfold bw;rw[List.length_set,List.length_set]
def above (one other:List Int):List Nat:=(List.range one.length).filter fun p=>decide (nW other (p+1)<nW one (p+1))
theorem BN {one other:List Int} (h:Le one other):above one other=[]:=by
  unfold above
  rw[List.filter_eq_nil_iff]
  intro p hp
  have:=h (p+1) (by have:=List.mem_range.mp hp;omega)
  simp;omega
end Maj
namespace L3
open PySem
open L2 hiding D Rf Rfs Rp dI dT
section
variable {K:PySem.W.Frag}{ρ:Bool}{Γr Γl Γ Γn:List Nat}{te:TE}{de:DE}
def Ey (n:Nat) (dg:List D→Dl→(Dl→Prop)→Prop) (x:D) (δ:Dl) (P:Dl→Prop):Prop:=asL x fun ds=>ds.length=n∧dg ds δ P
theorem Jc {n:Nat}{g:TGs}{dg:List D→Dl→(Dl→Prop)→Prop} (h:GTs K Γ g dg):GT K Γ (J3 K n g) (Ey n dg) :=
  ⟨fun x δ P P' k q=>by obtain ⟨ds,e,z⟩:=dF q;exact kM e ⟨z.1,h.mono _ _ _ _ k z.2⟩,
   fun {B0 fps δ σ H x v fp Q} o r nn q=>by
    obtain ⟨ds,e,z⟩:=dF q
    obtain ⟨a,xs,fq,rfl,hs,hr,hin⟩:=r.seq e
    exact⟨a,xs,rfl,hs,hr.length.trans z.1,h.run o hr (fun j hj b hb=>nn j hj b (hin b hb)) z.2⟩⟩
theorem ER.es0 (h:ER K [] te de):ES K [] te de:=⟨h.mono,fun o q=>h.run o (h.mono _ _ _ (fun x z v H' s r=>let ⟨fp,r⟩:=r;z v H' fp s r fun j hj=>(nomatch hj)) q)⟩
def JO (i j:Nat) (da:DA) (E:bC) (δ:Dl):Prop:=da δ fun xs=>match xs with | [x,y]=>E.nx ((δ.set i (some x)).set j (some y)) | _=>False
end
end L3
namespace L3
open PySem L2
section
variable {K:PySem.W.Frag}
def Ir (xs:List D) (P:Int→Prop):Prop:=match xs with | [.int j]=>P j | [.bl b]=>P (if b then 1 else 0) | _=>False
theorem yM {i:Int}{P:Int→Prop}:Ir [.int i] P↔P i:=Iff.rfl
theorem BD {b:Bool}{P:Int→Prop}:Ir [.bl b] P↔P (if b then 1 else 0):=Iff.rfl
def HM (xs:List D) (P:DK):Prop:=Ir xs fun i=>P (.int i)
end
end L3
namespace L3
open PySem
open L2 hiding D Rf Rfs Rp dI dT
theorem GK {ns:List Int} (h:1≤ns.length):atI (ns.map D.int) (-1)=some (.int (ns.getD (ns.length - 1) 0)):=by
  unfold atI
  have:ixN (ns.map D.int).length (-1)=some (ns.length - 1):=by
    unfold ixN
    rw[List.length_map,if_neg (by omega),if_pos (by omega)]
    congr 1;omega
  rw[this]
  show (ns.map D.int)[ns.length - 1]?=_
  rw[List.getElem?_map,List.getD_eq_getElem?_getD,List.getElem?_eq_getElem (by omega)];rfl
theorem Cw {ns:List Int}{P:DK} (h:1≤ns.length) (k:P (.int (ns.getD (ns.length - 1) 0))):asO (atI (ns.map D.int) (-1)) P:=(xg (GK h)).mpr k
end L3
namespace L3
open PySem L2
section
variable {K:PySem.W.Frag}{ρ:Bool}{Γr Γl Γ:List Nat}{B0:Hp}{i j m:Nat}{a0:Addr}{fps:Nat→List Addr}{δ:Dl}{σ:St}{H H':Hp}{t u:TS}{d e:Nat→DS}{te tx t1:TE}{de dx d1:DE}
end
end L3
namespace L3
open PySem
open L2 hiding D Rf Rfs Rp dI dT
section
variable {δ:Dl}{i j:Nat}{t:List (List Int)}{a b v:Int}{d1 de dx:DE}{d:Nat→DS}{E:bC}
end
end L3
namespace L3
open PySem L2
def D.flat:D→Bool
  | .tup ds=>ds.all D.aW
  | d=>d.aW
theorem Rf.flat {K:PySem.W.Frag}{H:Hp}{d:D}{v:V}{fp:List Addr} (h:Rf K H d v fp) (s:d.flat=true):fp=[]:=by
  cases d with
  | tup ds =>
    obtain ⟨a,xs,rfl,h2,h3⟩:=h
    exact (h3.j8 s).2
  | _=>first | exact (h.aW s).2 | cases s
theorem ya {i:Int}:(D.int i).flat=true:=rfl
theorem AD {b:Bool}:(D.bl b).flat=true:=rfl
theorem vJ {a b c d:Int}:(D.tup [.int a,.int b,.int c,.int d]).flat=true:=rfl
theorem u9 {a b c:Int}:(D.tup [.int a,.int b,.int c]).flat=true:=rfl
theorem v5 {a b:Int}:(D.tup [.int a,.int b]).flat=true:=rfl
def FI (d:DE) (δ:Dl) (P:DK):Prop:=d δ fun x=>x.flat=true∧P x
theorem ER.flat {K:PySem.W.Frag}{Γ:List Nat}{t:TE}{d:DE} (h:ER K Γ t d):EM K Γ [] t (FI d):=⟨fun δ P P' k q=>h.mono _ _ _ (fun x z=>⟨z.1,k x z.2⟩) q,fun o q=>h.run o (h.mono _ _ _ (fun x z v H' s r=>by
  obtain ⟨fp,r⟩:=r
  have e:=r.flat z.1
  subst e
  exact z.2 v H' [] s r Nw.nil) q)⟩
end L3
namespace L3
open PySem
open L2 hiding D Rf Rfs Rp dI dT
theorem D3 {t:List (List Int)}{n m a b c d:Nat}{v:Int} (hR:dH n m t) (ha:a<n) (hb:b<m):cellAt (setCell t a b v) c d=if a=c∧b=d then v else cellAt t c d:=by
  have hl:=hR.1
  have hr:=hR.row ha
  unfold setCell cellAt
  by_cases h:a=c
  · subst h
    rw[List.getD_eq_getElem?_getD (l:=t.set a _),List.getElem?_set_self (by omega),Option.getD_some]
    by_cases h2:b=d
    · subst h2
      rw[if_pos ⟨rfl,rfl⟩,List.getD_eq_getElem?_getD,List.getElem?_set_self (by rw[show (t.getD a []).length=m from hr];exact hb),Option.getD_some]
    · rw[if_neg (fun z=>h2 z.2),List.getD_eq_getElem?_getD,List.getElem?_set_ne h2,← List.getD_eq_getElem?_getD]
  · rw[if_neg (fun z=>h z.1),List.getD_eq_getElem?_getD (l:=t.set a _),List.getElem?_set_ne h,← List.getD_eq_getElem?_getD]
theorem dH.ext {t u:List (List Int)}{n m:Nat} (h1:dH n m t) (h2:dH n m u) (h:∀a b,a<n→b<m→cellAt t a b=cellAt u a b):t=u:=by
  refine List.ext_getElem (by rw[h1.1,h2.1]) fun a ha hb=>?_
  have la:=h1.2 _ (List.getElem_mem ha)
  have lb:=h2.2 _ (List.getElem_mem hb)
  refine List.ext_getElem (by rw[la,lb]) fun b hc hd=>?_
  have:=h a b (by rw[← h1.1];exact ha) (by rw[← la];exact hc)
  unfold cellAt at this
  rw[List.getD_eq_getElem?_getD,List.getD_eq_getElem?_getD (l:=t),List.getD_eq_getElem?_getD,List.getD_eq_getElem?_getD (l:=u),List.getElem?_eq_getElem ha,List.getElem?_eq_getElem hb,Option.getD_some,Option.getD_some,List.getElem?_eq_getElem hc,List.getElem?_eq_getElem hd] at this
  exact this
def IH (n m:Nat) (t:List (List Int)):Prop:=dH n m t∧∀r∈t,∀x∈r,x=0∨x=1
theorem IH.set {n m a b:Nat}{t:List (List Int)}{v:Int} (h:IH n m t) (ha:a<n) (hv:v=0∨v=1):IH n m (setCell t a b v):=by
  refine⟨h.1.setCell ha,fun r hr x hx=>?_⟩
  have hl:=h.1.1
  rcases List.mem_or_eq_of_mem_set hr with z | z
  · exact h.2 r z x hx
  · rw[z] at hx
    rcases List.mem_or_eq_of_mem_set hx with w | w
    · exact h.2 _ (nF (by omega)) x w
    · rw[w];exact hv
def A3 (n m:Nat) (t:List (List Int)) (i j k l:Int):Prop:=(0≤i∧i<n)∧(0≤k∧k<n)∧(0≤j∧j<m)∧(0≤l∧l<m)∧cellAt t i.toNat j.toNat=1∧cellAt t i.toNat l.toNat=0∧cellAt t k.toNat j.toNat=0∧cellAt t k.toNat l.toNat=1
instance {n m:Nat}{t:List (List Int)}{i j k l:Int}:Decidable (A3 n m t i j k l):=by unfold A3;infer_instance
end L3
namespace L2
open PySem PySem.Spec PyProof.Rows
section
variable {κ:Type} [DecidableEq κ]
def gS (kvs:List (κ × V)) (k:κ):Option V:=(kvs.find? fun kv=>decide (kv.1=k)).map (·.2)
def putK (kvs:List (κ × V)) (k:κ) (v:V):List (κ × V) :=
  if (kvs.any fun kv=>decide (kv.1=k))=true then kvs.map (fun kv=>if kv.1=k then (kv.1,v) else kv) else kvs++[(k,v)]
theorem gf {p:κ × V}{r:List (κ × V)}{k:κ} (e:p.1=k):gS (p::r) k=some p.2:=by simp [gS,List.find?_cons,e]
theorem gi {p:κ × V}{r:List (κ × V)}{k:κ} (e:¬ p.1=k):gS (p::r) k=gS r k:=by simp [gS,List.find?_cons,e]
theorem pZ (k:κ):∀kvs:List (κ × V),(kvs.any fun kv=>decide (kv.1=k))=(gS kvs k).isSome
  | []=>rfl
  | p::r=>by
    rw[List.any_cons]
    by_cases e:p.1=k
    · simp only[gf e,decide_eq_true e,Bool.true_or,Option.isSome_some]
    · rw[gi e,decide_eq_false e,Bool.false_or];exact pZ k r
theorem y9 (k j:κ) (y:V):∀kvs:List (κ × V),gS (kvs.map fun kv=>if kv.1=k then (kv.1,y) else kv) j=(gS kvs j).map fun x=>if j=k then y else x
  | []=>rfl
  | p::r=>by
    have ih:=y9 k j y r
    rw[List.map_cons]
    by_cases h:p.1=k
    · rw[if_pos h]
      by_cases e:p.1=j
      · rw[gf (p:=(p.1,y)) e,gf e,Option.map_some,if_pos (e.symm.trans h)]
      · rw[gi (p:=(p.1,y)) e,gi e,ih]
    · rw[if_neg h]
      by_cases e:p.1=j
      · rw[gf (p:=p) e,gf e,Option.map_some,if_neg (fun z=>h (e.trans z))]
      · rw[gi (p:=p) e,gi e,ih]
theorem vc (k j:κ) (y:V):∀kvs:List (κ × V),gS kvs k=none→gS (kvs++[(k,y)]) j=if j=k then some y else gS kvs j
  | [],_=>by
    by_cases e:k=j
    · rw[if_pos e.symm];exact gf (p:=(k,y)) e
    · rw[if_neg (fun z=>e z.symm)];exact gi (p:=(k,y)) e
  | p::r,hn=>by
    rw[List.cons_append]
    have hk:¬ p.1=k:=fun z=>by rw[gf z] at hn;cases hn
    rw[gi hk] at hn
    have ih:=vc k j y r hn
    by_cases e:p.1=j
    · rw[gf e,gf e,if_neg (fun z=>hk (e.trans z))]
    · rw[gi e,gi e,ih]
theorem yP (kvs:List (κ × V)) (k j:κ) (y:V):gS (putK kvs k y) j=if j=k then some y else gS kvs j:=by
  unfold putK
  by_cases a:(kvs.any fun kv=>decide (kv.1=k))=true
  · rw[if_pos a,y9]
    rw[pZ] at a
    by_cases e:j=k
    · obtain ⟨x,hx⟩:=Option.isSome_iff_exists.mp a
      rw[if_pos e,e,hx,Option.map_some,if_pos rfl]
    · rw[if_neg e]
      cases gS kvs j with
      | none=>rfl
      | some x=>rw[Option.map_some,if_neg e]
  · rw[if_neg a]
    refine vc k j y kvs ?_
    rw[pZ] at a
    cases q:gS kvs k with
    | none=>rfl
    | some x=>rw[q] at a;exact (a rfl).elim
theorem kJ (kvs:List (κ × V)) (k:κ) (v:V):(putK kvs k v).length≤kvs.length+1:=by
  unfold putK
  split
  · rw[List.length_map];omega
  · rw[List.length_append,List.length_cons,List.length_nil];omega
theorem sH.lq {o:Option V}{u:Option Value} (r:sH o u):o.isSome=u.isSome:=by
  cases o with
  | none=>cases u with
    | none=>rfl
    | some _=>exact (show False from r).elim
  | some _=>cases u with
    | none=>exact (show False from r).elim
    | some _=>rfl
theorem KV.val {kvs:List (κ × V)}{vs:List (κ × Value)} (r:KV kvs vs) (k:κ):sH (gS kvs k) (valueAt vs k):=by
  unfold KV at r
  induction r with
  | nil=>exact True.intro
  | @cons p q ps qs h t ih =>
    obtain ⟨h1,h2⟩:=h
    by_cases e:p.1=k
    · have e':q.1=k:=h1.symm.trans e
      have b:valueAt (q::qs) k=some q.2:=by simp [valueAt,List.find?_cons,e']
      rw[gf e,b];exact h2
    · have e':¬ q.1=k:=fun z=>e (h1.trans z)
      have b:valueAt (q::qs) k=valueAt qs k:=by simp [valueAt,List.find?_cons,e']
      rw[gi e,b];exact ih
theorem KV.any {kvs:List (κ × V)}{vs:List (κ × Value)} (r:KV kvs vs) (k:κ):(kvs.any fun kv=>decide (kv.1=k))=vs.any fun kv=>decide (kv.1=k):=by
  unfold KV at r
  induction r with
  | nil=>rfl
  | cons h t ih=>rw[List.any_cons,List.any_cons,ih,h.1]
theorem KV.Jl {kvs:List (κ × V)}{vs:List (κ × Value)} (r:KV kvs vs) (k:κ) {y:V}{u:Value} (ry:RelV y u) :
    KV (kvs.map fun kv=>if kv.1=k then (kv.1,y) else kv) (vs.map fun kv=>if kv.1=k then (kv.1,u) else kv):=by
  unfold KV at r ⊢
  induction r with
  | nil=>exact .nil
  | @cons p q ps qs h t ih =>
    rw[List.map_cons,List.map_cons]
    refine .cons ?_ ih
    obtain ⟨h1,h2⟩:=h
    by_cases e:p.1=k
    · rw[if_pos e,if_pos (h1.symm.trans e)];exact⟨h1,ry⟩
    · rw[if_neg e,if_neg (fun z=>e (h1.trans z))];exact⟨h1,h2⟩
theorem KV.put {kvs:List (κ × V)}{vs:List (κ × Value)} (r:KV kvs vs) (k:κ) {y:V}{u:Value} (ry:RelV y u):KV (putK kvs k y) (stored vs k u):=by
  unfold putK stored
  rw[r.any k]
  by_cases e:(vs.any fun kv=>decide (kv.1=k))=true
  · rw[if_pos e,if_pos e];exact r.Jl k ry
  · rw[if_neg e,if_neg e];exact Paired.snoc r ⟨rfl,ry⟩
theorem KV.length {kvs:List (κ × V)}{vs:List (κ × Value)} (r:KV kvs vs):kvs.length=vs.length:=Paired.length r
end
theorem zm {P:Program}{w:World}{k:Key}{u:Value} (r:RelV (kV k) u):(gF P w).is k u=true:=by
  cases k with
  | inl i=>obtain ⟨t,e⟩:=(show ∃t,u=Value.int i t from r);subst e;exact xV P w i t
  | inr x=>obtain ⟨t,e⟩:=(show ∃t,u=Value.str x t from r);subst e;exact y8 P w x t
theorem vG {P:Program}{w:World}:∀{ks:List Key}{us:List Value},Vals (ks.map kV) us→ItemsAre (gF P w) ks us
  | [],_,r=>by rw[List.map_nil] at r;cases r;exact .nil
  | k::ks,_,r=>by
    rw[List.map_cons] at r
    cases r with
    | cons h t=>exact .cons (zm h) (vG t)
abbrev KT (H:Hp):List (List Key × V)→List (List Key × Addr × Value)→Prop:=Paired fun p q=>p.1=q.1∧H q.2.1=some (.tup (p.1.map kV))∧RelV p.2 q.2.2
theorem KT.val {H:Hp}{kvs:List (List Key × V)}{xs:List (List Key × Addr × Value)} (r:KT H kvs xs) (k:List Key):sH (gS kvs k) ((atKey xs k).map (·.2)):=by
  induction r with
  | nil=>exact True.intro
  | @cons p q ps qs h t ih =>
    obtain ⟨h1,_,h2⟩:=h
    by_cases e:p.1=k
    · have e':q.1=k:=h1.symm.trans e
      have b:atKey (q::qs) k=some q.2:=by simp [atKey,List.find?_cons,e']
      rw[gf e,b];exact h2
    · have e':¬ q.1=k:=fun z=>e (h1.trans z)
      have b:atKey (q::qs) k=atKey qs k:=by simp [atKey,List.find?_cons,e']
      rw[gi e,b];exact ih
theorem KT.Jl {H:Hp}{kvs:List (List Key × V)}{xs:List (List Key × Addr × Value)} (r:KT H kvs xs) (k:List Key) {y:V}{u:Value} (ry:RelV y u) :
    KT H (kvs.map fun kv=>if kv.1=k then (kv.1,y) else kv) (xs.map (putAt k u)):=by
  induction r with
  | nil=>exact .nil
  | @cons p q ps qs h t ih =>
    rw[List.map_cons,List.map_cons]
    refine .cons ?_ ih
    obtain ⟨h1,h2,h3⟩:=h
    unfold putAt
    by_cases e:p.1=k
    · rw[if_pos e,if_pos (h1.symm.trans e)];exact⟨h1,h2,ry⟩
    · rw[if_neg e,if_neg (fun z=>e (h1.trans z))];exact⟨h1,h2,h3⟩
theorem KT.put {H:Hp}{kvs:List (List Key × V)}{xs:List (List Key × Addr × Value)} (r:KT H kvs xs) (k:List Key) {b:Addr}{y:V}{u:Value} (hb:H b=some (.tup (k.map kV))) (ry:RelV y u) :
    KT H (putK kvs k y) (storedH xs k b u):=by
  have e:(kvs.any fun kv=>decide (kv.1=k))=(atKey xs k).isSome:=by
    rw[pZ,(r.val k).lq,Option.isSome_map]
  unfold putK storedH
  rw[e]
  by_cases q:(atKey xs k).isSome=true
  · rw[if_pos q,if_pos q];exact r.Jl k ry
  · rw[if_neg q,if_neg q];exact Paired.snoc r ⟨rfl,hb,ry⟩
theorem KT.keeps {H H':Hp}{kvs:List (List Key × V)}{xs:List (List Key × Addr × Value)} (r:KT H kvs xs) (ht:∀b ys,H b=some (.tup ys)→H' b=some (.tup ys)):KT H' kvs xs :=
  Paired.IV r fun _ _ z=>⟨z.1,ht _ _ z.2.1,z.2.2⟩
section
variable {P:Program}{w:World}{H:Hp}{h:Heap}{a:Addr}
theorem HK {u:HO} (ok:HOk P w H h) (e:Rd H a u):cY P w H h a u:=e.ok ok
theorem yD {kvs:List (Key × V)} (ok:HOk P w H h) (e:Rd H a (.dK kvs)):kvs.length≤sizeLine∧(a == sysModules)=false∧∃vs,KV kvs vs∧h.DictOf (gF P w) a vs :=
  show cY P w H h a (.dK kvs) from HK ok e
theorem JX {kvs:List (Key × V)} (ok:HOk P w H h) (e:H a=some (.dK kvs)):kvs.length≤sizeLine∧(a == sysModules)=false∧∃vs,KV kvs vs∧h.DictOf (gF P w) a vs:=yD ok (.inl e)
theorem ub {ks:List Key} (ok:HOk P w H h) (e:H a=some (.tup (ks.map kV))):(tupleKind (gF P w)).is h ks a:=by
  obtain ⟨_,its,r,o,h1,h2,n,h3⟩:=(show cY P w H h a (.tup (ks.map kV)) from ok a _ e)
  exact⟨o,its.toArray,n,h1,h2,h3,by simpa using vG r⟩
theorem xT {kvs:List (List Key × V)} (ok:HOk P w H h) (e:Rd H a (.dT kvs)):kvs.length≤sizeLine∧(a == sysModules)=false ∧
    ∃xs,KT H kvs xs∧h.DictOfH (tupleKind (gF P w)) a xs:=by
  obtain ⟨z,y,xs,r,o,es,ep,h1,h2,h3,h4,h5⟩:=(show cY P w H h a (.dT kvs) from HK ok e)
  refine⟨z,y,xs,r,o,es,ep,h1,h2,h3,h4,fun x hx=>?_,h5⟩
  have all:∀{l:List (List Key × V)}{m:List (List Key × Addr × Value)},KT H l m→∀x∈m,(tupleKind (gF P w)).is h x.1 x.2.1:=by
    intro l m q
    induction q with
    | nil=>intro x hx;exact nomatch hx
    | @cons p q ps qs hq t ih =>
      intro x hx
      rcases List.mem_cons.mp hx with e | hx
      · subst e
        exact ub ok (by rw[← hq.1];exact hq.2.1)
      · exact ih x hx
  exact all r x hx
theorem JG {kvs:List (List Key × V)} (ok:HOk P w H h) (e:H a=some (.dT kvs)):kvs.length≤sizeLine∧(a == sysModules)=false ∧
    ∃xs,KT H kvs xs∧h.DictOfH (tupleKind (gF P w)) a xs:=xT ok (.inl e)
end
def pX (H:Hp) (a:Addr) (y:V) (r:Option V):Prop :=
  (∃kvs k,Rd H a (.dK kvs)∧y=kV k∧r=gS kvs k)∨∃kvs k b,Rd H a (.dT kvs)∧y=.ref b∧H b=some (.tup (k.map kV))∧r=gS kvs k
def yo (H:Hp) (a:Addr) (y v:V) (H':Hp):Prop :=
  (∃kvs k,H a=some (.dK kvs)∧y=kV k∧kvs.length<sizeLine∧H'=upd H a (.dK (putK kvs k v))) ∨
  ∃kvs k b,H a=some (.dT kvs)∧y=.ref b∧H b=some (.tup (k.map kV))∧kvs.length<sizeLine∧H'=upd H a (.dT (putK kvs k v))
theorem pX.k {H:Hp}{a:Addr}{kvs:List (Key × V)}{k:Key} (e:H a=some (.dK kvs)):pX H a (kV k) (gS kvs k):=.inl ⟨kvs,k,.inl e,rfl,rfl⟩
theorem pX.t {H:Hp}{a b:Addr}{kvs:List (List Key × V)}{k:List Key} (e:H a=some (.dT kvs)) (eb:H b=some (.tup (k.map kV))):pX H a (.ref b) (gS kvs k):=.inr ⟨kvs,k,b,.inl e,rfl,eb,rfl⟩
theorem yo.k {H:Hp}{a:Addr}{kvs:List (Key × V)}{k:Key}{v:V} (e:H a=some (.dK kvs)) (hl:kvs.length<sizeLine):yo H a (kV k) v (upd H a (.dK (putK kvs k v))):=.inl ⟨kvs,k,e,rfl,hl,rfl⟩
theorem yo.t {H:Hp}{a b:Addr}{kvs:List (List Key × V)}{k:List Key}{v:V} (e:H a=some (.dT kvs)) (eb:H b=some (.tup (k.map kV))) (hl:kvs.length<sizeLine) :
    yo H a (.ref b) v (upd H a (.dT (putK kvs k v))):=.inr ⟨kvs,k,b,e,rfl,eb,hl,rfl⟩
section
variable {X:Cx}{pins:List (Addr × Obj)}{σ:St}{H:Hp}{s:Shared}{a:Addr}{y v:V}{u r:Value}{o:Option V}{A:Around}{E:Value→Shared→Prop}
theorem Inv.big (I:Inv X pins σ H s):sysModules<s.heap.objs.size:=by
  have h:mainGlobals<s.heap.objs.size:=(I.mod.glob.keeps I.bk).lt
  exact Nat.lt_trans (by decide) h
theorem Cf {Q:Value→Shared→Prop} (hu:A.units+1<cLine) (I:Inv X pins σ H s) (g:pX H a y (some v)) (ry:RelV y u) (h:∀w' s',Inv X pins σ H s'→RelV v w'→Q w' s') :
    wpAny (model X.prog X.w) A (getItem (.ref a) u) Q E s:=by
  rcases g with ⟨kvs,k,e,ey,l⟩ | ⟨kvs,k,b,e,ey,eb,l⟩
  · subst ey
    obtain ⟨z,hd,vs,rel,dd⟩:=yD I.hok e
    obtain ⟨w',hw,rw'⟩:=sH.some_of (v:=v) (o:=valueAt vs k) (by rw[l];exact rel.val k)
    exact wpAny_getItem_of (zm ry) dd.mapOf hw (h w' _ (I.tok _) rw')
  · subst ey
    cases (show u=Value.ref b from ry)
    obtain ⟨z,hd,xs,rel,dd⟩:=xT I.hok e
    obtain ⟨w',hw,rw'⟩:=sH.some_of (v:=v) (o:=(atKey xs k).map (·.2)) (by rw[l];exact rel.val k)
    obtain ⟨p,hp,hp2⟩:=Option.map_eq_some_iff.mp hw
    refine wpAny_getItem_heap (tupleKind_room_in1 hu) (ub I.hok eb) dd hp ?_
    rw[hp2]
    exact h w' _ (I.tok _) rw'
theorem J7 {Q:Value→Shared→Prop} (hu:A.units+1<cLine) (I:Inv X pins σ H s) (g:pX H a y o) (ry:RelV y u) (h:∀s',Inv X pins σ H s'→Q (.bool o.isSome) s') :
    wpAny (model X.prog X.w) A (compareOp .In u (.ref a)) Q E s:=by
  rcases g with ⟨kvs,k,e,ey,l⟩ | ⟨kvs,k,b,e,ey,eb,l⟩
  · subst ey
    obtain ⟨z,hd,vs,rel,dd⟩:=yD I.hok e
    refine wpAny_in_of (zm ry) hd dd.mapOf ?_
    rw[← (rel.val k).lq,← l]
    exact h _ (I.tok _)
  · subst ey
    cases (show u=Value.ref b from ry)
    obtain ⟨z,hd,xs,rel,dd⟩:=xT I.hok e
    refine wpAny_in_heap (tupleKind_room_in1 hu) (ub I.hok eb) hd dd ?_
    have q:=(rel.val k).lq
    rw[Option.isSome_map] at q
    rw[← q,← l]
    exact h _ (I.tok _)
theorem GG {Q:Value→Shared→Prop} (hu:A.units+1<cLine) (I:Inv X pins σ H s) (g:pX H a y o) (ry:RelV y u) (h:∀s',Inv X pins σ H s'→Q (.bool (!o.isSome)) s') :
    wpAny (model X.prog X.w) A (compareOp .NotIn u (.ref a)) Q E s:=by
  rcases g with ⟨kvs,k,e,ey,l⟩ | ⟨kvs,k,b,e,ey,eb,l⟩
  · subst ey
    obtain ⟨z,hd,vs,rel,dd⟩:=yD I.hok e
    refine wpAny_notIn_of (zm ry) hd dd.mapOf ?_
    rw[← (rel.val k).lq,← l]
    exact h _ (I.tok _)
  · subst ey
    cases (show u=Value.ref b from ry)
    obtain ⟨z,hd,xs,rel,dd⟩:=xT I.hok e
    refine wpAny_notIn_heap (tupleKind_room_in1 hu) (ub I.hok eb) hd dd ?_
    have q:=(rel.val k).lq
    rw[Option.isSome_map] at q
    rw[← q,← l]
    exact h _ (I.tok _)
theorem By {h':Heap}{t':Nat}{ob:HO} (I:Inv X pins σ H s) (mu:Mut (H a)) (hs:Heap.SameBut a s.heap h') (he:∃q,h'.get? a=some q) (new:cY X.prog X.w (upd H a ob) h' a ob) :
    Inv X pins σ (upd H a ob) { s with heap:=h',toks:=t' } :=
  I.write (x:=a) (e:=a) mu (.inl rfl) (fun b q hb z=>(hs.2 b hb).trans z) he new
theorem IF {P:Program}{w:World}{H':Hp}{h':Heap}{kvs:List (Key × V)}{vs:List (Key × Value)} (z:kvs.length≤sizeLine) (hd:(a == sysModules)=false) (rel:KV kvs vs) (dd:h'.DictOf (gF P w) a vs) :
    cY P w H' h' a (.dK kvs):=⟨z,hd,vs,rel,dd⟩
theorem Cg {H':Hp}{Q:Unit→Shared→Prop} (hu:A.units+1<cLine) (I:Inv X pins σ H s) (g:yo H a y v H') (ry:RelV y u) (rv:RelV v r) (h:∀s',Inv X pins σ H' s'→Q () s') :
    wpAny (model X.prog X.w) A (setItem (.ref a) u r) Q E s:=by
  rcases g with ⟨kvs,k,e,ey,l,eH⟩ | ⟨kvs,k,b,e,ey,eb,l,eH⟩
  · subst ey eH
    obtain ⟨z,hd,vs,rel,dd⟩:=JX I.hok e
    have hz:vs.length≤sizeLine:=by rw[← rel.length];exact z
    have hl:(putK kvs k v).length≤sizeLine:=by have:=kJ kvs k v;omega
    refine wpAny_setItem_pairs (hsz:=hz) (zm ry) dd fun h' dd' hs=>h _ ?_
    have he:∃q,h'.get? a=some q:=let ⟨q,_,_,hq,_⟩:=dd';⟨q,hq⟩
    exact By I (by rw[e];exact True.intro) hs he (IF hl hd (rel.put k rv) dd')
  · subst ey eH
    cases (show u=Value.ref b from ry)
    obtain ⟨z,hd,xs,rel,dd⟩:=JG I.hok e
    have hz:xs.length≤sizeLine:=by rw[← Paired.length rel];exact z
    have hl:(putK kvs k v).length≤sizeLine:=by have:=kJ kvs k v;omega
    refine wpAny_setItem_heap (hsz:=hz) (tupleKind_room_in1 hu) (ub I.hok eb) dd fun h' dd' hs=>h _ ?_
    obtain ⟨q,es,ep,hq,h2,h3,h4,_,h5⟩:=dd'
    refine By I (by rw[e];exact True.intro) hs ⟨q,hq⟩ ⟨hl,hd,_,(rel.put k eb rv).keeps fun c ys ec=>?_,q,es,ep,hq,h2,h3,h4,h5⟩
    rw[aV (JY ec e (fun z=>nomatch z))]
    exact ec
end
section
variable {X:Cx}{pins:List (Addr × Obj)}{σ:St}{H:Hp}{s:Shared}{a:Addr}{kvs:List (Key × V)}{k:Key}{u:Value}{A:Around}{E:Value→Shared→Prop}
end
def Js (i:Expr):Prop:=∀ov iv,subscripted i false ov iv=operate [ov,iv] (getItem ov iv)
theorem G1 {prog:Program}{w:World}{A:Around}{E:Value→Shared→Prop}{s:Shared}{env:Env}{value slice:Expr}{pos:Pos}{T id:String}{Q:Value→Shared→Prop}
    (hl:typeLookup (.type T) "__getitem__" = pure (some (.builtin id))) (hs:Js slice)
    (h:wpAny (model prog w) A (eval value env) (fun o s₁=>wpAny (model prog w) A (eval slice env) (fun i s₂=>s₂.TypeIs o T∧wpAny (model prog w) A (getItem o i) Q E s₂) E s₁) E s) :
    wpAny (model prog w) A (eval (.Subscript value slice pos) env) Q E s:=by
  refine Subscript_ (wpAny_mono h (fun o s₁ h₁=>wpAny_mono h₁ (fun i s₂ h₂=>?_) fun _ _ x=>x) fun _ _ x=>x)
  obtain ⟨hT,h₂⟩:=h₂
  unfold subscriptTail
  refine wpAny_bind ?_
  rw[getitemInPython_of_ne hT.not_modules]
  refine wpAny_bind (wpAny_specialOf hT hl ?_)
  have fin:wpAny (model prog w) A (subscripted slice false o i) (fun r s₃=>wpAny (model prog w) A (letTemporaryGo value o r >>= fun _=>pure r) Q E s₃) E s₂:=by
    rw[hs o i]
    exact wpAny_operating (wpAny_mono h₂ (fun r s₃ h₃=>wpAny_bind (wpAny_letTemporaryGo (wpAny_pure h₃))) fun _ _ x=>x)
  first
    | exact wpAny_pure (wpAny_bind fin)
    | exact wpAny_bind (wpAny_pure (wpAny_bind fin))
    | exact wpAny_bind fin
theorem xZ {X:Cx}{pins:List (Addr × Obj)}{σ:St}{H:Hp}{s:Shared}{a:Addr}{y:V}{o:Option V} (I:Inv X pins σ H s) (g:pX H a y o):s.TypeIs (.ref a) "dict":=by
  rcases g with ⟨kvs,k,e,_,_⟩ | ⟨kvs,k,b,e,_,_,_⟩
  · obtain ⟨_,_,vs,_,dd⟩:=yD I.hok e
    exact dd.typeIs
  · obtain ⟨_,_,xs,_,dd⟩:=xT I.hok e
    exact dd.typeIs
def HP (td ty:TE):TE:=fun σ H Q=>td σ H fun x H1=>ty σ H1 fun y H2=>∃a v,x=.ref a∧pX H2 a y (some v)∧Q v H2
def JD (ty td:TE):TE:=fun σ H Q=>ty σ H fun y H1=>td σ H1 fun x H2=>∃a o,x=.ref a∧pX H2 a y o∧Q (.bl o.isSome) H2
def Az (ty td:TE):TE:=fun σ H Q=>ty σ H fun y H1=>td σ H1 fun x H2=>∃a o,x=.ref a∧pX H2 a y o∧Q (.bl (!o.isSome)) H2
def DL (td ty tv:TE):TS:=fun D σ H=>tv σ H fun v H1=>td σ H1 fun x H2=>ty σ H2 fun y H3=>∃a H4,x=.ref a∧yo H3 a y v H4∧D.nx σ H4
section
variable {X:Cx}{o i e value:Expr}{pos pos' tpos:Pos}{td ty tv:TE}
theorem Gs (hu:X.A.units+1<cLine) (ho:PE X o td) (hi:PE X i ty) (hs:Js i):PE X (.Subscript o i pos) (HP td ty):=by
  intro pins s σ H Q I h
  refine G1 PySem.F.slot_dict_getitem.lookup hs (thn (ho pins s σ H _ I h) fun u s1 ⟨x,H1,I1,rx,q1⟩=>thn (hi pins s1 σ H1 _ I1 q1) fun iv s2 ⟨y,H2,I2,ry,a,v,ex,g,q2⟩=>?_)
  subst ex
  obtain rfl:u=Value.ref a:=rx
  exact⟨xZ I2 g,Cf hu I2 g ry fun w' s3 I3 rw'=>⟨v,H2,I3,rw',q2⟩⟩
theorem Ii (hu:X.A.units+1<cLine) (hi:PE X i ty) (ho:PE X o td):PC X .In i o (JD ty td):=by
  intro pins s σ H Q I h
  refine thn (hi pins s σ H _ I h) fun iv s1 ⟨y,H1,I1,ry,q1⟩=>thn (ho pins s1 σ H1 _ I1 q1) fun u s2 ⟨x,H2,I2,rx,a,ov,ex,g,q2⟩=>?_
  subst ex
  obtain rfl:u=Value.ref a:=rx
  exact J7 hu I2 g ry fun s3 I3=>⟨.bl ov.isSome,H2,I3,rfl,q2⟩
theorem CA (hu:X.A.units+1<cLine) (hi:PE X i ty) (ho:PE X o td):PC X .NotIn i o (Az ty td):=by
  intro pins s σ H Q I h
  refine thn (hi pins s σ H _ I h) fun iv s1 ⟨y,H1,I1,ry,q1⟩=>thn (ho pins s1 σ H1 _ I1 q1) fun u s2 ⟨x,H2,I2,rx,a,ov,ex,g,q2⟩=>?_
  subst ex
  obtain rfl:u=Value.ref a:=rx
  exact GG hu I2 g ry fun s3 I3=>⟨.bl (!ov.isSome),H2,I3,rfl,q2⟩
theorem Bv (hu:X.A.units+1<cLine) (ho:PE X o td) (hi:PE X i ty) (hv:PE X value tv) (hs:swapsWith value (some (.Subscript o i pos')) pos.line X.env=pure false) :
    PS X (.Assign [.Subscript o i pos'] value pos) (DL td ty tv):=by
  intro pins s σ H D I h
  refine wpAny_Assign_Subscript (thn (hv pins s σ H _ I h) fun r s1 ⟨v,H1,I1,rv,q1⟩=>thn (ho pins s1 σ H1 _ I1 q1) fun u s2 ⟨x,H2,I2,rx,q2⟩=>thn (hi pins s2 σ H2 _ I2 q2) fun iv s3 ⟨y,H3,I3,ry,a,H4,ex,g,q3⟩=>?_) hs
  subst ex
  obtain rfl:u=Value.ref a:=rx
  exact Cg hu I3 g ry rv fun s4 I4=>⟨σ,H4,I4,q3⟩
end
theorem Dg {P:Program}{w:World}{H:Hp} (h:Heap) (hb:sysModules<h.objs.size):cY P w H (h.push { cls:=.type "dict",data:=.dict #[] }) h.objs.size (.dK []) :=
  ⟨Nat.zero_le _,beq_eq_false_iff_ne.mpr (Ne.symm (Nat.ne_of_lt hb)),[],.nil,Heap.DictOf.new h⟩
theorem CQ {P:Program}{w:World}{H:Hp} (h:Heap) (hb:sysModules<h.objs.size):cY P w H (h.push { cls:=.type "dict",data:=.dict #[] }) h.objs.size (.dT []) :=
  ⟨Nat.zero_le _,beq_eq_false_iff_ne.mpr (Ne.symm (Nat.ne_of_lt hb)),[],.nil,_,#[],0,Heap.get?_push_size _ rfl,⟨rfl,rfl,rfl⟩,rfl,rfl,List.nodup_nil⟩
def EZ:TE:=fun _ H Q=>∀p,H p=none→Q (.ref p) (upd H p (.dK []))
def Fc:TE:=fun _ H Q=>∀p,H p=none→Q (.ref p) (upd H p (.dT []))
section
variable {X:Cx}{pos:Pos}
theorem Eg:PE X (.Dict [] [] pos) EZ:=fun pins s σ H Q I h =>
  wpAny_Dict_empty ⟨.ref s.heap.objs.size,_,I.laid (a:=s.heap.objs.size) (o:=.dK []) (t':=s.toks) (fun _ _ q=>Heap.get?_push_of_some _ q) (Nat.le_refl _) (Dg s.heap I.big),rfl,h _ (I.hok.fresh (Nat.le_refl _))⟩
theorem CS:PE X (.Dict [] [] pos) Fc:=fun pins s σ H Q I h =>
  wpAny_Dict_empty ⟨.ref s.heap.objs.size,_,I.laid (a:=s.heap.objs.size) (o:=.dT []) (t':=s.toks) (fun _ _ q=>Heap.get?_push_of_some _ q) (Nat.le_refl _) (CQ s.heap I.big),rfl,h _ (I.hok.fresh (Nat.le_refl _))⟩
end
section
variable {X:Cx}{pins:List (Addr × Obj)}{σ:St}{H:Hp}{s:Shared}{a:Addr}{y d:V}{u r:Value}{o:Option V}{A:Around}{E:Value→Shared→Prop}
end
section
variable {X:Cx}{o e f:Expr}{apos cpos:Pos}{td ty tx:TE}
end
section
variable {X:Cx}{pins:List (Addr × Obj)}{σ:St}{H:Hp}{s:Shared}{a:Addr}{kvs:List (Key × V)}{A:Around}{E:Value→Shared→Prop}
end
section
variable {X:Cx}{pins:List (Addr × Obj)}{σ:St}{H:Hp}{s:Shared}{a:Addr}{y:V}{u:Value}{A:Around}{E:Value→Shared→Prop}
end
end L2
namespace L3
open PySem L2
def ST0 (K:PySem.W.Frag) (t:TS) (Γ Γn:List Nat) (d:DS):Prop :=
  ∀⦃B0:Hp⦄ ⦃Dn:Ends⦄ ⦃E:bC⦄ ⦃fps:Nat→List Addr⦄ ⦃δ:Dl⦄ ⦃σ:St⦄ ⦃H:Hp⦄,(∀{fps δ H},Ok K B0 Γn fps δ σ H→E.nx δ→Dn.nx σ H)→Ok K B0 Γ fps δ σ H→d E δ→t Dn σ H
section
variable {K:PySem.W.Frag}{ρ:Bool}{Γr Γl Γ Γ1 Γ2 Γn M:List Nat}{t u:TS}{te ta tb tx t1 t2:TE}{de da db dx d1 d2:DE}{d e:DS}
variable {B0:Hp}{fps:Nat→List Addr}{δ:Dl}{σ:St}{H H':Hp}
theorem ST0.st (h:ST0 K t Γ Γn d):ST K ρ Γr Γl t Γ Γn d:=fun _ _ _ _ _ _ _ k o q=>h (fun o' z=>k.nx o' z) o q
theorem yp (i:Nat) (he:EM K Γ [] te de) (hx:ER K Γ tx dx) (hi:i∈Γ:=by decide):ST0 K (rj te (GH (pM i) tx AG)) Γ Γ (jj i de dx):=by
  intro B0 Dn E fps δ σ H k o h
  refine he.run o (he.mono _ _ _ (fun x z v H1 fp s r n=>?_) h)
  obtain ⟨ds,e,z⟩:=nP z
  obtain ⟨a0,_,_,h1,_⟩:=(o.same s).BV e
  refine⟨.ref a0,h1,hx.run (o.same s) (hx.mono _ _ _ (fun y z w H2 s2 r2=>?_) z)⟩
  obtain ⟨m,em,z9⟩:=dA z
  subst em
  cases ej:ixN ds.length m with
  | none=>rw[ej] at z9;exact z9.elim
  | some j =>
    rw[ej] at z9
    obtain ⟨a,xs,e1,e2,e3,fps',o'⟩:=ug ((o.same s).same s2) hi e (r.same s2) n.nd (fun a ha=>(n.mu a ha).same s2) (fun a ha=>⟨o.b0.free (n.fresh a ha),fun j z=>o.dom z (n.fresh a ha)⟩) (zC ej)
    rw[h1] at e1;cases e1
    exact⟨a0,xs,m,j,rfl,r2.int,e2,by rw[e3];exact ej,k o' z9⟩
theorem wq (i:Nat) (he:EM K Γ [] te de) (h1:ER K Γ t1 d1) (h2:ER K Γ t2 d2) (hi:i∈Γ:=by decide):ST0 K (rj te (GH (tOp (DR K) (pM i) t1) t2 AG)) Γ Γ (qL i de d1 d2):=by
  intro B0 Dn E fps δ σ H k o h
  refine he.run o (he.mono _ _ _ (fun x z v H1 fp s r n=>?_) h)
  obtain ⟨ds,e,z⟩:=nP z
  obtain ⟨a0,xs0,fq0,g1,_⟩:=(o.same s).BV e
  refine⟨.ref a0,g1,h1.run (o.same s) (h1.mono _ _ _ (fun y z w H2 s2 r2=>?_) z)⟩
  obtain ⟨m,em,z8⟩:=dA z
  subst em
  obtain ⟨es,ej,z8⟩:=lj z8
  cases ejj:ixN ds.length m with
  | none=>unfold atI at ej;rw[ejj] at ej;cases ej
  | some j =>
    have o2:=(o.same s).same s2
    have ej':ds[j]?=some (.lst es):=by unfold atI at ej;rw[ejj] at ej;exact ej
    obtain ⟨a,xs,b,ys,fe,e1,e2,e3,e4,e5,e6,e7,e8,e9,_,KK⟩:=zr (es':=[]) o2 hi e ej'
    rw[g1] at e1;cases e1
    refine⟨a0,xs,m,.ref b,rfl,r2.int,.inl (.inl e2),by unfold atI;rw[e3,ejj];exact e4,h2.run o2 (h2.mono _ _ _ (fun y2 z w2 H3 s3 r3=>?_) z8)⟩
    obtain ⟨m2,em2,z9⟩:=dA z
    subst em2
    rw[ejj] at z9
    cases ej2:ixN es.length m2 with
    | none=>rw[ej2] at z9;exact z9.elim
    | some j2 =>
      rw[ej2] at z9
      have o3:=o2.same s3
      obtain ⟨a',xs',b',ys',fe',f1,f2,f3,f4,f5,f6,f7,f8,f9,f10,KK⟩:=zr (es':=es.set j2 x) o3 hi e ej'
      rw[g1] at f1;cases f1
      rw[s3.st _ _ e2 trivial] at f2;cases f2
      rw[e4] at f4;cases f4
      have r4:=r.same (s2.trans s3)
      have src:∀c∈fp,B0 c=none∧∀j,c∉fps j:=fun a ha=>⟨o.b0.free (n.fresh a ha),fun j z=>o.dom z (n.fresh a ha)⟩
      obtain ⟨fq',r',nd',k'⟩:=Rfs.set r4 n.nd f6 f7 (fun c hc z=>(src c hc).2 i (f9 c z)) (zC ej2)
      have mu':∀c∈fq',Mu H3 c:=fun c hc=>by
        rcases k' c hc with w | w
        · exact ((o3.own i hi).2 c (f9 c w)).2
        · exact (n.mu c w).same (s2.trans s3)
      obtain ⟨fps',o'⟩:=KK r' nd' (fun z=>(k' b z).elim f8 fun w=>(src b w).2 i f10) mu' (fun c hc=>(k' c hc).imp id fun w=>src c w)
      exact⟨b,ys',m2,j2,rfl,r3.int,f5,by rw[f6.length];exact ej2,k o' z9⟩
def nj (δ:Dl) (i:Nat) (P:Addr→D→Prop):Prop:=match δ[i]? with | some (some (.pin a d))=>P a d | _=>False
theorem nJ {i:Nat}{P:Addr→D→Prop} (h:nj δ i P):∃a d,δ[i]?=some (some (.pin a d))∧P a d:=by
  unfold nj at h;split at h
  · exact⟨_,_,by assumption,h⟩
  · exact h.elim
theorem Ea {i:Nat}{P:Addr→D→Prop}{a:Addr}{x:D} (e:δ[i]?=some (some (.pin a x))) (h:P a x):nj δ i P:=by unfold nj;rw[e];exact h
theorem Ok.Aj (o:Ok K B0 Γ fps δ σ H) {i:Nat}{x y:D} (e:δ[i]?=some (some x)) (h:∀v,σ[i]?=some (some v)→Rf K H x v (fps i)→Rf K H y v (fps i)):Ok K B0 Γ fps (δ.set i (some y)) σ H:=by
  have hl:i<δ.length:=(List.getElem?_eq_some_iff.mp e).1
  refine⟨by rw[List.length_set];exact o.len,o.b0,fun j d q=>?_,fun j q=>?_,o.own,o.dj⟩
  · by_cases hj:j=i
    · subst hj
      rw[List.getElem?_set_self hl] at q;cases q
      obtain ⟨v,h1,h2⟩:=o.val j x e
      exact⟨v,h1,h v h1 h2⟩
    · rw[List.getElem?_set_ne (Ne.symm hj)] at q
      exact o.val j d q
  · by_cases hj:j=i
    · subst hj
      exact absurd (List.getElem?_set_self hl) (q y)
    · exact o.non j fun d z=>q d (by rw[List.getElem?_set_ne (Ne.symm hj)];exact z)
def FL (i:Nat) (d:DS) (E:bC) (δ:Dl):Prop:=nj δ i fun a x=>d { E with nx:=fun δ'=>lY i δ' fun x'=>E.nx (δ'.set i (some (.pin a x'))) } (δ.set i (some x))
theorem Gu (i:Nat) (h:ST0 K t Γ Γn d):ST0 K t Γ Γn (FL i d):=by
  intro B0 Dn E fps δ σ H k o q
  obtain ⟨a,x,e,q⟩:=nJ q
  obtain ⟨v,h1,h2⟩:=o.val i _ e
  obtain rfl:v=.ref a:=h2.1
  have o1:Ok K B0 Γ fps (δ.set i (some x)) σ H:=o.Aj e fun _ _ z=>z.2
  refine h (E:={ E with nx:=fun δ'=>lY i δ' fun x'=>E.nx (δ'.set i (some (.pin a x'))) }) (fun {fps2 δ2 H2} o2 z=>?_) o1 q
  obtain ⟨x',e2,z⟩:=gG z
  exact k (o2.Aj (y:=.pin a x') e2 fun v hv r=>⟨by rw[h1] at hv;cases hv;rfl,r⟩) z
theorem zN (i:Nat) (h:ST0 K t Γ Γn d):ST K ρ Γr Γl t Γ Γn (FL i d):=(Gu i h).st
def FA (i:Nat) (δ:Dl) (P:DK):Prop:=nj δ i fun _ x=>P x
theorem wd (i:Nat):ER K Γ (pM i) (FA i):=⟨fun δ P P' k h=>by obtain ⟨a,x,e,z⟩:=nJ h;exact Ea e (k _ z),fun {B0 fps δ σ H Q} o q=>by
  obtain ⟨a,x,e,q⟩:=nJ q
  obtain ⟨v,e1,r⟩:=o.val i _ e
  exact⟨v,e1,q v H (Same.refl H) ⟨_,r.2⟩⟩⟩
def D.isRef:D→Bool | .lst _=>true | .dic _=>true | .pin _ _=>true | .ins _ _ _=>true | _=>false
theorem Rf.isRef {x:D}{v:V}{fp:List Addr} (h:Rf K H x v fp) (e:x.isRef=true):∃a,v=.ref a:=by
  cases x with
  | lst ds=>obtain ⟨a,xs,fq,rfl,_⟩:=h;exact⟨a,rfl⟩
  | dic ds=>obtain ⟨a,rfl,_⟩:=h;exact⟨a,rfl⟩
  | pin a d=>exact⟨a,h.1⟩
  | ins C ns ds=>obtain ⟨a,dx,xs,fq,rfl,_⟩:=h;exact⟨a,rfl⟩
  | _=>cases e
abbrev DSI:=List D→(D→D→Prop)→Prop
def qo (S:DSI):Prop:=∀xs (P P':D→D→Prop),(∀r x,P r x→P' r x)→S xs P→S xs P'
def Dq (K:PySem.W.Frag) (p:Nat) (vs:List V) (B:Hp) (Q:VK) (r x':D):Prop :=
  ∀w H' fp' fpw v,Same B H'→vs[p]?=some v→Rf K H' x' v fp'→fp'.Nodup→(∀b∈fp',B b=none∧Mu H' b)→Rf K H' r w fpw→fpw.Nodup→(∀b∈fpw,B b=none∧Mu H' b∧b∉fp')→Q w H'
def spI (K:PySem.W.Frag) (p:Nat) (S:DSI):Sp:=fun vs H Q _=>∃B fv ds,Ok K B [p] fv (ds.map some) (vs.map some) H∧(∃a,vs[p]?=some (.ref a))∧S ds (Dq K p vs B Q)
theorem xp {p:Nat}{S:DSI}{n:Nat} (hS:∀ds P,S ds P→ds.length=n) {vs:List V}{H:Hp}{Q:VK}{E:XK} (h:spI K p S vs H Q E):vs.length=n:=by
  obtain ⟨B,fv,ds,o,_,h⟩:=h
  have:=o.len
  rw[List.length_map,List.length_map] at this
  rw[this];exact hS _ _ h
abbrev Hm (p:Nat) (a:Addr) (P:D→D→Prop):bC:=⟨fun δ=>nj δ p fun a' x=>a'=a∧P .non x,fun r δ=>nj δ p fun a' x=>a'=a∧P r x,fun _=>False,fun _=>False⟩
theorem BM {p:Nat}{N:List Str}{ds:List D}{vs:List V}{fv:Nat→List Addr}{a:Addr} (o:Ok K B0 [p] fv (ds.map some) (vs.map some) H) (ha:vs[p]?=some (.ref a)) {x:D} (hx:ds[p]?=some x) :
    Ok K B0 [p] fv (aN N (ds.set p (.pin a x))) (L2.start N vs) H:=by
  have hl:vs.length=ds.length:=by have:=o.len;rwa [List.length_map,List.length_map] at this
  have hp:p<ds.length:=(List.getElem?_eq_some_iff.mp hx).1
  have o1:Ok K B0 [p] fv ((ds.map some).set p (some (.pin a x))) (vs.map some) H:=o.Aj (x:=x) (by rw[List.getElem?_map,hx];rfl) fun v hv r=>⟨by rw[List.getElem?_map,ha] at hv;cases hv;rfl,r⟩
  have e:(ds.map some).set p (some (.pin a x))=(ds.set p (.pin a x)).map some:=by rw[List.map_set]
  rw[e] at o1
  have hl1:(ds.set p (.pin a x)).length=ds.length:=List.length_set
  generalize ds.set p (.pin a x)=ds1 at *
  unfold aN L2.start
  refine⟨by rw[List.length_append,List.length_append,List.length_map,List.length_map,List.length_replicate,List.length_replicate];omega,o1.b0,fun i d q=>?_,fun i q=>?_,o1.own,o1.dj⟩
  · by_cases hi:i<ds1.length
    · rw[List.getElem?_append_left (by simpa using hi)] at q
      rw[List.getElem?_append_left (by rw[List.length_map];omega)]
      exact o1.val i d q
    · rw[List.getElem?_append_right (by simpa using hi),List.getElem?_replicate] at q
      split at q<;>cases q
  · refine o1.non i fun d z=>q d ?_
    have:i<ds1.length:=by simpa using (List.getElem?_eq_some_iff.mp z).1
    rw[List.getElem?_append_left (by simpa using this)]
    exact z
theorem w8 {N:List Str}{p:Nat}{S:DSI} (hs:ST K true [p] [] t [p] Γn d) (hd:∀ds P a x,S ds P→ds[p]?=some x→d (Hm p a P) (aN N (ds.set p (.pin a x)))) (hΓ:p∈Γn:=by decide) (hS:∀ds P,S ds P→p<ds.length) :
    ∀{vs H Q E},spI K p S vs H Q E→t { nx:=fun _ H'=>Q .non H',rt:=Q } (L2.start N vs) H:=by
  rintro vs H Q E ⟨B,fv,ds,o,⟨a,ha⟩,h⟩
  have hlt:=hS _ _ h
  obtain ⟨x,hx⟩:∃x,ds[p]?=some x:=⟨_,List.getElem?_eq_getElem hlt⟩
  have fin:∀{Γ' fps δ σ H' r w fpw},p∈Γ'→Ok K B Γ' fps δ σ H'→Rf K H' r w fpw→fpw.Nodup→(∀b∈fpw,B b=none∧Mu H' b∧b∉fps p)→(nj δ p fun a' x=>a'=a∧Dq K p vs B Q r x)→Q w H':=by
    intro Γ' fps δ σ H' r w fpw hp o' rr nd fr z
    obtain ⟨a',x',e,ea,z2⟩:=nJ z
    subst ea
    obtain ⟨v,h1,h2⟩:=o'.val p _ e
    obtain rfl:v=.ref a':=h2.1
    exact z2 w H' (fps p) fpw (.ref a') o'.b0 ha h2.2 (o'.own p hp).1 (fun b hb=>(o'.own p hp).2 b hb) rr nd fr
  refine hs (E:=Hm p a (Dq K p vs B Q)) ⟨fun o' z=>?_,fun _ (z:False)=>z.elim,fun _ (z:False)=>z.elim,fun o' r i z=>?_⟩ (BM o ha hx) (hd ds _ a x h hx)
  · exact fin (r:=.non) (w:=.non) (fpw:=[]) hΓ o' ⟨rfl,rfl⟩ List.nodup_nil (fun b hb=>(nomatch hb)) z
  · exact fin (List.mem_singleton.mpr rfl) o' r (i rfl).nd (fun b hb=>⟨(i rfl).nw b hb,(i rfl).mu b hb,(i rfl).dj p (List.mem_singleton.mpr rfl) b hb⟩) z
theorem Rfs.Es {H:Hp}:∀{ds:List D}{vs:List V}{fp:List Addr},Rfs K H ds vs fp→∃fps:Nat→List Addr,(∀i d,ds[i]?=some d→∃v,vs[i]?=some v∧Rf K H d v (fps i))∧(∀i,ds.length≤i→fps i=[])∧∀i a,a∈fps i→a∈fp
  | [],vs,fp,h=>⟨fun _=>[],fun i d e=>by simp at e,fun _ _=>rfl,fun _ _ h=>(nomatch h)⟩
  | d::ds,vs,fp,h=>by
    obtain ⟨x,r,f1,f2,rfl,rfl,h1,h2⟩:=h
    obtain ⟨fps,k1,k2,k3⟩:=Rfs.Es h2
    refine⟨fun i=>match i with | 0=>f1 | j+1=>fps j,fun i d' e=>?_,fun i hi=>?_,fun i a hm=>?_⟩
    · cases i with
      | zero=>simp at e;subst e;exact⟨x,rfl,h1⟩
      | succ j=>simpa using k1 j d' (by simpa using e)
    · cases i with
      | zero=>simp at hi
      | succ j=>exact k2 j (by simpa using hi)
    · cases i with
      | zero=>exact List.mem_append_left _ hm
      | succ j=>exact List.mem_append_right _ (k3 j a hm)
structure AI (K:PySem.W.Frag) (Γ:List Nat) (i p:Nat) (t:TA) (d:DA):Prop where
  mono:∀δ (P P':List D→Prop),(∀x,P x→P' x)→d δ P→d δ P'
  run:∀{B0 fps δ σ H Q},Ok K B0 Γ fps δ σ H→d δ (fun xs=>∀vs H' (fv:Nat→List Addr),Same H H'→vs.length=xs.length→(∀l x,xs[l]?=some x→∃v,vs[l]?=some v∧Rf K H' x v (fv l))→(∀l,xs.length≤l→fv l=[])→fv p=fps i→p<xs.length→(∃v,vs[p]?=some v∧σ[i]?=some (some v)) →
    (∀l,l≠p→∀a∈fv l,a∉fps i)→Q vs H')→t σ H Q
structure EX (K:PySem.W.Frag) (Γ:List Nat) (i:Nat) (t:TE) (d:DE):Prop where
  mono:∀δ (P P':DK),(∀x,P x→P' x)→d δ P→d δ P'
  run:∀{B0 fps δ σ H Q},Ok K B0 Γ fps δ σ H→d δ (fun x=>∀v H' fp,Same H H'→Rf K H' x v fp→(∀a∈fp,a∉fps i)→Q v H')→t σ H Q
theorem vB {i:Nat} (h:ES K Γ te de) (hi:i∈Γ:=by decide):EX K Γ i te de:=⟨h.mono,fun o q=>h.run o (h.mono _ _ _ (fun x z v H' fp s r n=>z v H' fp s r fun a ha=>n i hi a ha) q)⟩
theorem D4 {i:Nat} (j:Nat) (hi:i∈Γ:=by decide) (hj:j≠i:=by decide):EX K Γ i (pM j) (lY j):=⟨lh,fun {B0 fps δ σ H Q} o q=>by
  obtain ⟨d,e,q⟩:=gG q
  obtain ⟨v,e1,r⟩:=o.val j d e
  exact⟨v,e1,q v H _ (Same.refl H) r fun a ha z=>o.dj i hi j hj a z ha⟩⟩
structure AX (K:PySem.W.Frag) (Γ:List Nat) (i:Nat) (t:TA) (d:DA):Prop where
  mono:∀δ (P P':List D→Prop),(∀x,P x→P' x)→d δ P→d δ P'
  run:∀{B0 fps δ σ H Q},Ok K B0 Γ fps δ σ H→d δ (fun xs=>∀vs H' fp,Same H H'→Rfs K H' xs vs fp→(∀a∈fp,a∉fps i)→Q vs H')→t σ H Q
theorem wt {i:Nat}:AX K Γ i rm FC:=⟨fun _ _ _ k h=>k _ h,fun {_ _ _ _ H _} o q=>q [] H [] (Same.refl H) ⟨rfl,rfl⟩ fun _ h=>(nomatch h)⟩
theorem lN {i:Nat}{ta:TA}{da:DA} (he:EX K Γ i te de) (ha:AX K Γ i ta da):AX K Γ i (jr te ta) (rb de da) :=
  ⟨fun δ P P' k h=>he.mono _ _ _ (fun x z=>ha.mono _ _ _ (fun xs z=>k _ z) z) h,fun {B0 fps δ σ H Q} o q =>
    he.run o (he.mono _ _ _ (fun x z v H1 fp s1 r n=>ha.run (o.same s1) (ha.mono _ _ _ (fun xs z vs H' fq s2 rs ns=>z (v::vs) H' (fp++fq) (s1.trans s2) ⟨v,vs,fp,fq,rfl,rfl,r.same s2,rs⟩ fun a ha=>(List.mem_append.mp ha).elim (n a) (ns a)) z)) q)⟩
theorem sh (i:Nat) {ta:TA}{da:DA} (ha:AX K Γ i ta da):AI K Γ i 0 (jr (pM i) ta) (rb (lY i) da) :=
  ⟨fun δ P P' k h=>lh _ _ _ (fun x z=>ha.mono _ _ _ (fun xs z=>k _ z) z) h,fun {B0 fps δ σ H Q} o q=>by
    obtain ⟨x,e,q⟩:=gG q
    obtain ⟨v,h1,h2⟩:=o.val i x e
    refine⟨v,h1,ha.run o (ha.mono _ _ _ (fun xs z vs H' fp s r n=>?_) q)⟩
    obtain ⟨fv,k1,k2,k3⟩:=r.Es
    refine z (v::vs) H' (fun l=>match l with | 0=>fps i | l+1=>fv l) s (by rw[List.length_cons,List.length_cons,r.length]) (fun l y ey=>?_) (fun l hl=>?_) rfl (by rw[List.length_cons];omega) ⟨v,rfl,h1⟩ (fun l hl a hm=>?_)
    · cases l with
      | zero=>simp at ey;subst ey;exact⟨v,rfl,h2.same s⟩
      | succ l=>simpa using k1 l y (by simpa using ey)
    · cases l with
      | zero=>simp at hl
      | succ l=>exact k2 l (by simpa using hl)
    · cases l with
      | zero=>exact absurd rfl hl
      | succ l =>
        exact n a (k3 l a hm)⟩
theorem GV {i p:Nat}{te:TE}{de:DE}{ta:TA}{da:DA} (he:EX K Γ i te de) (ha:AI K Γ i p ta da):AI K Γ i (p+1) (jr te ta) (rb de da) :=
  ⟨fun δ P P' k h=>he.mono _ _ _ (fun x z=>ha.mono _ _ _ (fun xs z=>k _ z) z) h,fun {B0 fps δ σ H Q} o q=>by
    refine he.run o (he.mono _ _ _ (fun x z v H1 fp s1 r n=>?_) q)
    refine ha.run (o.same s1) (ha.mono _ _ _ (fun xs z vs H' fv s hl k1 k2 k3 hp hv k4=>?_) z)
    obtain ⟨v0,hv1,hv2⟩:=hv
    refine z (v::vs) H' (fun l=>match l with | 0=>fp | l+1=>fv l) (s1.trans s) (by rw[List.length_cons,List.length_cons,hl]) (fun l y ey=>?_) (fun l hl=>?_) k3 (by rw[List.length_cons];omega) ⟨v0,by simpa using hv1,hv2⟩ (fun l hl a hm=>?_)
    · cases l with
      | zero=>simp at ey;subst ey;exact⟨v,rfl,r.same s⟩
      | succ l=>simpa using k1 l y (by simpa using ey)
    · cases l with
      | zero=>simp at hl
      | succ l=>exact k2 l (by simpa using hl)
    · cases l with
      | zero=>exact n a hm
      | succ l=>exact k4 l (fun z=>hl (by rw[z])) a hm⟩
theorem Ok.less (o:Ok K B0 Γ fps δ σ H) {i:Nat} (hi:i∈Γ):Same B0 (fun b=>if b∈fps i then none else H b)∧Same (fun b=>if b∈fps i then none else H b) H:=by
  have key:∀b u,B0 b=some u→b∉fps i:=fun b u e hb=>by
    have:=((o.own i hi).2 b hb).1
    rw[e] at this;cases this
  refine⟨⟨fun b u e n=>?_,fun b ps e=>?_,fun P t=>?_⟩,Same.all fun b u e=>?_⟩
  · show (if _ then _ else _)=_
    rw[if_neg (key b u e)]
    exact o.b0.st b u e n
  · obtain ⟨ps',z⟩:=o.b0.tb b ps e
    refine⟨ps',?_⟩
    show (if _ then _ else _)=_
    rw[if_neg (key b _ e)];exact z
  · obtain ⟨ps0,e0,_⟩:=id t
    obtain ⟨ps,e,g1,g2⟩:=o.b0.ti P t
    refine⟨ps,?_,g1,fun pos cv z=>?_⟩
    · show (if _ then _ else _)=_
      rw[if_neg (key P _ e0)];exact e
    · obtain ⟨c,z1,z2⟩:=g2 pos cv z
      refine⟨c,z1,?_⟩
      show (if _ then _ else _)=_
      rw[if_neg (fun hc=>Ak z2 ((o.own i hi).2 c hc).2)];exact z2
  · by_cases z:b∈fps i
    · simp only[if_pos z] at e;cases e
    · simp only[if_neg z] at e;exact e
theorem vy {Ex:XK}{i p:Nat}{S:DSI}{ta:TA}{da:DA} (hS:qo S) (ha:AI K Γ i p ta da) (hi:i∈Γ) (o:Ok K B0 Γ fps δ σ H) {Q:VK}
    (h:da δ fun xs=>(∀x,xs[p]?=some x→x.isRef=true)∧S xs fun r x'=>∀w H' fps' fpw,Ok K B0 Γ fps' (δ.set i (some x')) σ H'→Rf K H' r w fpw→fpw.Nodup→(∀b∈fpw,B0 b=none∧Mu H' b∧∀j,b∉fps' j)→Q w H') :
    nZ (spI K p S) [] Ex ta σ H Q:=by
  refine ha.run o (ha.mono _ _ _ (fun xs z vs H1 fv s hl k1 k2 k3 hp hv k4=>?_) h)
  rw[List.append_nil]
  obtain ⟨z1,z2⟩:=z
  obtain ⟨v0,hv1,hv2⟩:=hv
  have o1:=o.same s
  obtain ⟨x,hx⟩:∃x,xs[p]?=some x:=⟨_,List.getElem?_eq_getElem hp⟩
  obtain ⟨v,e1,e2⟩:=k1 p x hx
  rw[hv1] at e1;cases e1
  obtain ⟨a,rfl⟩:=e2.isRef (z1 x hx)
  have hown:=o1.own i hi
  refine⟨fun b=>if b∈fps i then none else H1 b,fv,xs,⟨by rw[List.length_map,List.length_map,hl],⟨(o1.less hi).2,o1.b0.tv.same (o1.less hi).1⟩,fun l d e=>?_,fun l e=>?_,fun l hl'=>?_,fun l hl' j hj b hb=>?_⟩,⟨a,hv1⟩,hS _ _ _ (fun r x' z=>?_) z2⟩
  · rw[List.getElem?_map] at e
    cases q:xs[l]? with
    | none=>rw[q] at e;cases e
    | some y =>
      rw[q] at e;cases e
      obtain ⟨v,e3,e4⟩:=k1 l d q
      exact⟨v,by rw[List.getElem?_map,e3];rfl,e4⟩
  · by_cases hlt:l<xs.length
    · exact absurd (by rw[List.getElem?_map,List.getElem?_eq_getElem hlt];rfl) (e (xs[l]))
    · exact k2 l (by omega)
  · cases List.mem_singleton.mp hl'
    rw[k3]
    exact⟨hown.1,fun b hb=>⟨if_pos hb,(hown.2 b hb).2⟩⟩
  · cases List.mem_singleton.mp hl'
    rw[k3] at hb
    exact fun w=>k4 j hj b w hb
  · intro w H' fp' fpw v sB hv r' nd mu rr ndw frw
    rw[hv1] at hv;cases hv
    have fresh:∀b,(if b∈fps i then none else H1 b)=none→b∈fps i∨(B0 b=none∧∀j,b∉fps j):=fun b hb=>by
      by_cases q:b∈fps i
      · exact .inl q
      · rw[if_neg q] at hb
        exact .inr ⟨o1.b0.free hb,fun j z=>o1.dom z hb⟩
    have o2:=o1.Eu hi (fp':=fp') (d':=x') hv2 r' nd (fun b hb=>(mu b hb).2) (fun b hb=>fresh b (mu b hb).1) ⟨(o1.less hi).1.trans sB,o1.b0.tv⟩ (fun b u hb e n=>sB.st b u (by show (if b∈fps i then none else H1 b)=some u;rw[if_neg hb];exact e) n)
    refine z w H' _ fpw o2 rr ndw fun b hb=>⟨?_,(frw b hb).2.1,fun j=>?_⟩
    · rcases fresh b (frw b hb).1 with q | q
      · exact (hown.2 b q).1
      · exact q.1
    · by_cases hj:j=i
      · rw[if_pos hj];exact (frw b hb).2.2
      · rw[if_neg hj]
        rcases fresh b (frw b hb).1 with q | q
        · exact o1.dj i hi j hj b q
        · exact q.2 j
theorem Ok.Jp (o:Ok K B0 Γ fps δ σ H) (j:Nat) {x:D}{v:V}{fp:List Addr} (r:Rf K H x v fp) (nd:fp.Nodup) (fr:∀b∈fp,B0 b=none∧Mu H b∧∀l,b∉fps l) :
    Ok K B0 (j::minus (minus Γ []) [j]) (fun l=>if l=j then (if j<δ.length then fp else []) else fps l) (δ.set j (some x)) (σ.set j (some v)) H:=by
  have mem:∀l,l∈j::minus (minus Γ []) [j]→l≠j→l∈Γ:=fun l hl hn=>by
    rcases List.mem_cons.mp hl with z | z
    · exact absurd z hn
    · exact (dO.mp (dO.mp z).1).1
  refine⟨by simp [o.len],o.b0,fun l d e=>?_,fun l h=>?_,fun l hl=>?_,fun l hl k hk a ha=>?_⟩
  · by_cases h:l=j
    · subst h
      rw[List.getElem?_set] at e
      by_cases hlt:l<δ.length
      · simp [hlt] at e
        subst e
        exact⟨v,by rw[List.getElem?_set_self (by rw[o.len];exact hlt)],by rw[if_pos rfl,if_pos hlt];exact r⟩
      · simp [hlt] at e
    · rw[List.getElem?_set_ne (Ne.symm h)] at e
      rw[List.getElem?_set_ne (Ne.symm h),if_neg h]
      exact o.val l d e
  · by_cases h':l=j
    · subst h'
      rw[if_pos rfl]
      by_cases hlt:l<δ.length
      · exact absurd (List.getElem?_set_self hlt) (h x)
      · rw[if_neg hlt]
    · rw[if_neg h']
      exact o.non l fun d z=>h d (by rw[List.getElem?_set_ne (Ne.symm h')];exact z)
  · by_cases h:l=j
    · subst h
      rw[if_pos rfl]
      split
      · exact⟨nd,fun a ha=>⟨(fr a ha).1,(fr a ha).2.1⟩⟩
      · exact⟨List.nodup_nil,fun a ha=>(nomatch ha)⟩
    · rw[if_neg h]
      exact o.own l (mem l hl h)
  · by_cases h:l=j
    · subst h
      rw[if_pos rfl] at ha
      rw[if_neg hk]
      split at ha
      · exact (fr a ha).2.2 k
      · exact (nomatch ha)
    · rw[if_neg h] at ha
      by_cases h2:k=j
      · rw[if_pos h2]
        split
        · exact fun z=>(fr a z).2.2 l ha
        · exact List.not_mem_nil
      · rw[if_neg h2]
        exact o.dj l (mem l hl h) k hk a ha
def Ac (i p:Nat) (S:DSI) (da:DA) (E:bC) (δ:Dl):Prop:=da δ fun xs=>(∀x,xs[p]?=some x→x.isRef=true)∧S xs fun _ x'=>E.nx (δ.set i (some x'))
theorem qg {Ex:XK}{S:DSI}{ta:TA}{da:DA} (i p:Nat) (hS:qo S) (ha:AI K Γ i p ta da) (hi:i∈Γ:=by decide):ST0 K (An (nZ (spI K p S) [] Ex ta)) Γ Γ (Ac i p S da) :=
  fun {B0 Dn E fps δ σ H} k o h=>vy hS ha hi o (ha.mono _ _ _ (fun xs z=>⟨z.1,hS _ _ _ (fun r x' z w H' fps' fpw o' _ _ _=>k o' z) z.2⟩) h)
def DG (i p j:Nat) (S:DSI) (da:DA) (E:bC) (δ:Dl):Prop:=da δ fun xs=>(∀x,xs[p]?=some x→x.isRef=true)∧S xs fun r x'=>E.nx ((δ.set i (some x')).set j (some r))
theorem GL {Ex:XK}{S:DSI}{ta:TA}{da:DA} (i p j:Nat) (hS:qo S) (ha:AI K Γ i p ta da) (hi:i∈Γ:=by decide):ST K ρ Γr Γl (rj (nZ (spI K p S) [] Ex ta) (mw j)) Γ (j::minus (minus Γ []) [j]) (DG i p j S da) :=
  fun {B0 Dn E fps δ σ H} k o h=>vy hS ha hi o (ha.mono _ _ _ (fun xs z=>⟨z.1,hS _ _ _ (fun r x' z w H' fps' fpw o' rr nd fr=>k.nx (o'.Jp j rr nd fr) z) z.2⟩) h)
end
end L3
namespace L2
open PySem PySem.Spec PyProof.Rows
section
variable {X:Cx}
def Eo (K:PySem.W.Frag):V→List V→Hp→VK→Prop:=fun x vs H Q=>∃(l:Addr) (xs:List V) (y:V) (j:Nat),x=.ref l∧vs=[y]∧H l=some (.lst xs)∧fG y=true∧xs.all fG=true∧(∃z,xs[j]?=some z∧eqV z y=true)∧(∀m z,m<j→xs[m]?=some z→eqV z y=false)∧Q (.int j) H
theorem EK:MtM X "list.index" (Eo X.K):=by
  intro pins s σ H x vs v us Q I rx rv h
  obtain ⟨l,xs,y,j,rfl,rfl,hH,fy,fs,⟨z,hz,ez⟩,hb,q⟩:=h
  cases rx
  obtain ⟨u,rfl,ru⟩:=vals1 rv
  obtain ⟨hs,its,n,r,hl,e⟩:=I.xP hH
  have hj:j<xs.length:=(List.getElem?_eq_some_iff.mp hz).1
  have key:∀m (hm:m<its.toArray.size) w,xs[m]?=some w→eqU y its.toArray[m]=eqV w y:=fun m hm w hw=>by
    obtain ⟨u',hu',rw'⟩:=r.get hw
    have fw:fG w=true:=List.all_eq_true.mp fs w (List.mem_of_getElem? hw)
    have:its.toArray[m]=u':=by
      have:=(List.getElem?_eq_some_iff.mp hu').2
      simpa using this
    rw[this]
    exact xw rw' fw
  have hsz:its.toArray.size=xs.length:=by simp [hl]
  refine call_meets F.slot_list_index ⟨_,e,rfl⟩ F.entry_list_index (F.args_list_index_2 _ _) (SeqAt.list_indexAt l its.toArray n none #[] u (eqU y) j (by omega) ?_ ?_ (fun m hm hmj=>?_)) ⟨e,fun w hw=>nE ru fy r fs w (by simpa using hw),?_⟩
  · have:sizeLine<2 ^ 63 - 1:=by decide
    omega
  · rw[key j (by omega) z hz];exact ez
  · have hm':m<xs.length:=by omega
    rw[key m hm _ (List.getElem?_eq_getElem hm')]
    exact hb m _ hmj (List.getElem?_eq_getElem hm')
  · exact⟨.int j,H,I.tok _,⟨_,rfl⟩,q⟩
end
end L2
namespace L2
open PySem PySem.Spec PyProof.Rows
section
variable {X:Cx}{K:PySem.W.Frag}
theorem mf (hK:X.K=K):iQ X (.builtin "sorted") (fun xs H Q=>∃(a:Addr) (ns:List Int),xs=[.ref a]∧SqL K H a (ns.map V.int)∧ns.length<64 ∧
    ∀(l:Addr) (ms:List Int),H l=none→ms.Perm ns→ms.Pairwise (·≤·)→Q (.ref l) (upd H l (.lst (ms.map V.int)))):=by
  subst hK
  intro pins s σ H xs us Q I r h
  obtain ⟨a,ns,rfl,hS,hz,q⟩:=h
  obtain ⟨u,rfl,ru⟩:=vals1 r
  obtain rfl:u=Value.ref a:=ru
  obtain ⟨its,rv,pl,_⟩:=I.list hS
  have hl:=rv.length
  rw[List.length_map] at hl
  refine sorted_ints pl.isList (mS rv) (by omega) fun out ms a1 a2 a3=>?_
  obtain ⟨n,he⟩:=sortedAll_at s.heap its out
  have hn:H (s.heap.objs.size+1)=none:=I.hok.fresh (Nat.le_succ _)
  have hlm:=a2.length_eq
  refine⟨.ref (s.heap.objs.size+1),_,I.laid (t':=s.toks) (o:=.lst (ms.map V.int)) (fun b o e=>sortedAll_old e) (Nat.le_succ _) ⟨?_,out.toList,n,jI a1,?_⟩,rfl,q _ ms hn a2 a3⟩
  · rw[List.length_map];exact small (by omega)
  · exact he
end
end L2
namespace L2
open PySem PySem.Spec PyProof.Rows
end L2
namespace L3
open PySem L2
section
variable {K:PySem.W.Frag}{ρ:Bool}{Γr Γl Γ Γ1 Γ2 Γn M:List Nat}{t u:TS}{te ta tb td ty tv:TE}{de da db dd dk dv:DE}{d e:DS}
def ofV:V→D | .non=>.non | .bl b=>.bl b | .int i=>.int i | .str x=>.str x | _=>.non
theorem Rf.ofV {H:Hp}{v:V} (h:fG v=true):Rf K H (ofV v) v []:=by
  cases v<;>first | exact⟨rfl,rfl⟩ | cases h
theorem Gr:EM K Γ [] EZ (vC (.dic [])):=⟨fun _ _ _ k h=>k _ h,fun {B0 fps δ σ H Q} o q p hp=>q (.ref p) _ [p] (Same.mC hp) ⟨p,rfl,aG,fun _ h=>(nomatch h),rfl⟩
  ⟨by simp,fun a ha=>by cases List.mem_singleton.mp ha;exact .inr (.inl ⟨_,aG⟩),fun a ha=>by cases List.mem_singleton.mp ha;exact .inl hp⟩⟩
def vf (x:D) (P:List (Key × V)→Prop):Prop:=match x with | .dic kvs=>P kvs | _=>False
theorem lp {x:D}{P:List (Key × V)→Prop} (h:vf x P):∃kvs,x=.dic kvs∧P kvs:=by
  unfold vf at h;split at h
  · exact⟨_,rfl,h⟩
  · exact h.elim
theorem u7 {kvs:List (Key × V)}{P:List (Key × V)→Prop}:vf (.dic kvs) P↔P kvs:=Iff.rfl
def asV (o:Option V) (P:V→Prop):Prop:=match o with | some v=>P v | none=>False
theorem Bl {o:Option V}{P:V→Prop} (h:asV o P):∃v,o=some v∧P v:=by
  unfold asV at h;split at h
  · exact⟨_,rfl,h⟩
  · exact h.elim
theorem DP {o:Option V}{v:V}{P:V→Prop} (e:o=some v) (h:P v):asV o P:=by rw[e];exact h
def DB (dd dk:DE) (δ:Dl) (P:DK):Prop:=dd δ fun x=>dk δ fun y=>asI [y] fun n=>vf x fun kvs=>asV (gS kvs (.inl n)) fun v=>P (ofV v)
theorem Ds {kvs:List (Key × V)}{k:Key}{v:V} (h:gS kvs k=some v):∃p∈kvs,p.2=v:=by
  unfold gS at h
  cases q:kvs.find? fun kv=>decide (kv.1=k) with
  | none=>rw[q] at h;cases h
  | some p=>rw[q] at h;cases h;exact⟨p,List.mem_of_find?_eq_some q,rfl⟩
theorem GU (hd:ER K Γ td dd) (hk:ER K Γ ty dk):ER K Γ (HP td ty) (DB dd dk) :=
  ⟨fun δ P P' k h=>hd.mono _ _ _ (fun x z=>hk.mono _ _ _ (fun y z=>by
      obtain ⟨n,rfl,z⟩:=dA z
      obtain ⟨kvs,rfl,z⟩:=lp z
      obtain ⟨v,e,z⟩:=Bl z
      exact DP e (k _ z)) z) h,
   fun {B0 fps δ σ H Q} o h=>hd.run o (hd.mono _ _ _ (fun x z v H1 s1 r1=>hk.run (o.same s1) (hk.mono _ _ _ (fun y z w H2 s2 r2=>by
      obtain ⟨n,rfl,z⟩:=dA z
      obtain ⟨kvs,rfl,z⟩:=lp z
      obtain ⟨u,e,z⟩:=Bl z
      obtain ⟨fp,a,rfl,ha,hf,_⟩:=r1
      obtain ⟨p,hp,rfl⟩:=Ds e
      refine⟨a,p.2,rfl,?_,z _ H2 (s1.trans s2) ⟨[],Rf.ofV (hf p hp)⟩⟩
      rw[r2.int]
      have:=pX.k (k:=Sum.inl n) (s2.st _ _ ha trivial)
      rw[e] at this
      exact this) z)) h)⟩
def IU (neg:Bool) (dk dd:DE) (δ:Dl) (P:DK):Prop:=dk δ fun y=>dd δ fun x=>asI [y] fun n=>vf x fun kvs=>P (.bl (if neg then !(gS kvs (.inl n)).isSome else (gS kvs (.inl n)).isSome))
theorem BW (hk:ER K Γ ty dk) (hd:ER K Γ td dd):EM K Γ [] (Az ty td) (IU true dk dd) :=
  ⟨fun δ P P' k h=>hk.mono _ _ _ (fun x z=>hd.mono _ _ _ (fun y z=>by
      obtain ⟨n,rfl,z⟩:=dA z
      obtain ⟨kvs,rfl,z⟩:=lp z
      exact k _ z) z) h,
   fun {B0 fps δ σ H Q} o h=>hk.run o (hk.mono _ _ _ (fun x z v H1 s1 r1=>hd.run (o.same s1) (hd.mono _ _ _ (fun y z w H2 s2 r2=>by
      obtain ⟨n,rfl,z⟩:=dA z
      obtain ⟨kvs,rfl,z⟩:=lp z
      obtain ⟨fp,a,rfl,ha,hf,_⟩:=r2
      rw[r1.int]
      exact⟨a,_,rfl,pX.k (k:=Sum.inl n) ha,z _ H2 [] (s1.trans s2) ⟨rfl,rfl⟩ Nw.nil⟩) z)) h)⟩
theorem Cm {kvs:List (Key × V)}{k:Key}{v:V} (h:∀p∈kvs,fG p.2=true) (hv:fG v=true):∀p∈putK kvs k v,fG p.2=true:=by
  intro p hp
  unfold putK at hp
  split at hp
  · obtain ⟨q,hq,rfl⟩:=List.mem_map.mp hp
    split
    · exact hv
    · exact h q hq
  · rcases List.mem_append.mp hp with z | z
    · exact h p z
    · cases List.mem_singleton.mp z;exact hv
def C1 (δ:Dl) (i:Nat) (P:List (Key × V)→Prop):Prop:=lY i δ fun x=>vf x P
def Dx (i:Nat) (dk dv:DE) (E:bC) (δ:Dl):Prop:=dv δ fun x=>x.aW=true∧C1 δ i fun kvs=>dk δ fun y=>asI [y] fun n=>kvs.length<1000∧E.nx (δ.set i (some (.dic (putK kvs (.inl n) x.toV))))
theorem DN (i:Nat) (hk:ER K Γ ty dk) (hv:ER K Γ tv dv) (hi:i∈Γ:=by decide):ST0 K (DL (pM i) ty tv) Γ Γ (Dx i dk dv):=by
  intro B0 Dn E fps δ σ H k o h
  refine hv.run o (hv.mono _ _ _ (fun x z v H1 s1 r=>?_) h)
  obtain ⟨zs,z⟩:=z
  obtain ⟨fp,r⟩:=r
  obtain ⟨rfl,rfl⟩:=r.aW zs
  obtain ⟨d,e,z⟩:=gG z
  obtain ⟨kvs,rfl,z⟩:=lp z
  have o1:=o.same s1
  obtain ⟨v,h1,h2⟩:=o1.val i _ e
  obtain ⟨a,rfl,ha,hf,hfp⟩:=id h2
  refine⟨.ref a,h1,hk.run o1 (hk.mono _ _ _ (fun y z w H2 s2 r2=>?_) z)⟩
  obtain ⟨n,rfl,z⟩:=dA z
  have o2:=o1.same s2
  refine⟨a,upd H2 a (.dK (putK kvs (.inl n) x.toV)),rfl,?_,k (o2.write hi (d':=.dic (putK kvs (.inl n) x.toV)) (fp':=[a]) h1 ⟨a,rfl,aG,Cm hf (ir zs),rfl⟩ (by simp) (fun b hb=>?_) (fun b hb=>?_) ?_) z.2⟩
  · rw[r2.int]
    exact yo.k (k:=Sum.inl n) (s2.st _ _ ha trivial) (qq (Nat.le_of_lt z.1))
  · cases List.mem_singleton.mp hb;exact .inr (.inl ⟨_,aG⟩)
  · cases List.mem_singleton.mp hb;rw[hfp];exact .inl (List.mem_singleton.mpr rfl)
  · rw[hfp];exact pN (List.mem_singleton.mpr rfl)
def Ad (da dk:DE) (δ:Dl) (P:DK):Prop:=da δ fun x=>pB (some x) fun ds=>ds.all D.aW=true∧dk δ fun y=>y.aW=true∧∃j:Nat,(∃z,ds[j]?=some z∧eqV z.toV y.toV=true)∧(∀m z,m<j→ds[m]?=some z→eqV z.toV y.toV=false)∧P (.int j)
theorem DY (ha:ER K Γ ta da) (hk:ER K Γ ty dk):EM K Γ [] (tBM K "list" (Eo K) ta (jr ty rm)) (Ad da dk) :=
  ⟨fun δ P P' k h=>ha.mono _ _ _ (fun x z=>by
      obtain ⟨ds,e,z1,z⟩:=lj z
      refine pS e ⟨z1,hk.mono _ _ _ (fun y z=>?_) z⟩
      obtain ⟨z0,j,z2,z3,z4⟩:=z
      exact⟨z0,j,z2,z3,k _ z4⟩) h,
   fun {B0 fps δ σ H Q} o h=>by
    refine ha.run o (ha.mono _ _ _ (fun x z v H1 s1 r1=>?_) h)
    obtain ⟨ds,e,z1,z'⟩:=lj z
    clear z
    cases e
    obtain ⟨fp,a,xs,fq,rfl,hl,_,rs⟩:=r1
    obtain ⟨rfl,_⟩:=rs.j8 z1
    refine⟨.inl ⟨rfl,_,.inl (.inl hl)⟩,hk.run (o.same s1) (hk.mono _ _ _ (fun y z w H2 s2 r2=>?_) z')⟩
    obtain ⟨z0,j,⟨u,hu,eu⟩,z3,z4⟩:=z
    obtain ⟨fp2,r2⟩:=r2
    obtain ⟨rfl,_⟩:=r2.aW z0
    refine⟨a,_,_,j,rfl,rfl,s2.st _ _ hl trivial,ir z0,?_,⟨u.toV,by rw[List.getElem?_map,hu];rfl,eu⟩,fun m w hm hw=>?_,z4 _ H2 [] (s1.trans s2) ⟨rfl,rfl⟩ Nw.nil⟩
    · rw[List.all_map,List.all_eq_true]
      rw[List.all_eq_true] at z1
      exact fun y hy=>ir (z1 y hy)
    · rw[List.getElem?_map] at hw
      cases q:ds[m]? with
      | none=>rw[q] at hw;cases hw
      | some d=>rw[q] at hw;cases hw;exact z3 m d hm q⟩
def Bu (xs:List D) (P:DK):Prop:=match xs with | [x]=>yr x fun ns=>ns.length<64∧∀ms:List Int,ms.Perm ns→ms.Pairwise (·≤·)→P (dI ms) | _=>False
theorem sU {ns:List Int}{P:DK}:Bu [dI ns] P↔ns.length<64∧∀ms:List Int,ms.Perm ns→ms.Pairwise (·≤·)→P (dI ms):=jT
theorem zS:nD K (fun xs H Q=>∃(a:Addr) (ns:List Int),xs=[.ref a]∧SqL K H a (ns.map V.int)∧ns.length<64∧∀(l:Addr) (ms:List Int),H l=none→ms.Perm ns→ms.Pairwise (·≤·)→Q (.ref l) (upd H l (.lst (ms.map V.int)))) Bu :=
  ⟨fun xs P P' k h=>by
    unfold Bu at h ⊢
    revert h
    split
    · exact fun h=>by obtain ⟨ns,e,z⟩:=jn h;exact sk e ⟨z.1,fun ms a b=>k _ (z.2 ms a b)⟩
    · exact id,
   fun {H xs vs Q} r h=>by
    unfold Bu at h
    split at h
    · obtain ⟨v,rfl,r0⟩:=r.one
      obtain ⟨ns,e,z⟩:=jn h
      obtain ⟨a,ys,fq,rfl,hs,hr⟩:=r0.seq e
      rw[hr.yW] at hs
      exact⟨a,ns,rfl,hs,z.1,fun l ms hl hp ho=>z.2 ms hp ho _ _ [l] (Same.mC hl) (Rf.ofInts aG) (Nw.one hl aG).any⟩
    · exact h.elim⟩
def A4 (δ:Dl) (i:Nat) (P:List D→Prop):Prop:=match δ[i]? with | some (some (.tup ds))=>P ds | _=>False
def AS (i:Nat) (dk:DE) (E:bC) (δ:Dl):Prop:=A4 δ i fun ds=>dk δ fun y=>asI [y] fun m=>0≤m∧pB (ds[m.toNat]?) fun _=>E.nx (δ.set i none)
theorem u6 {ds:List D}:(D.lst ds).isRef=true:=rfl
theorem vm {ds:List (Key × V)}:(D.dic ds).isRef=true:=rfl
theorem BB {i:Int}:ofV (.int i)=.int i:=rfl
theorem EL {b:Bool}:ofV (.bl b)=.bl b:=rfl
theorem AW:ofV .non=.non:=rfl
def J0 (xs:List D) (P:DK):Prop:=match xs with | [.dic kvs]=>P (.int kvs.length) | _=>False
theorem vN {kvs:List (Key × V)}{P:DK}:J0 [.dic kvs] P↔P (.int kvs.length):=Iff.rfl
end
end L3
namespace Mat
theorem vk:∀{l l':List Nat},l.Nodup→(∀x∈l,x∈l')→l.length≤l'.length
  | [],_,_,_=>Nat.zero_le _
  | x::l,l',h,s=>by
    obtain ⟨h1,h2⟩:=List.nodup_cons.mp h
    have hx:=s x List.mem_cons_self
    have:=vk (l':=l'.erase x) h2 fun y hy=>(List.mem_erase_of_ne (fun z=>h1 (by rw[← z];exact hy))).mpr (s y (List.mem_cons_of_mem _ hy))
    rw[List.length_erase_of_mem hx] at this
    have:0<l'.length:=List.length_pos_of_mem hx
    rw[List.length_cons];omega
theorem yL {l:List Nat}{n:Nat} (h:l.Nodup) (hl:∀x∈l,x<n):l.length≤n:=by
  have:=vk h (l':=List.range n) fun x hx=>List.mem_range.mpr (hl x hx)
  rwa [List.length_range] at this
abbrev Mk:=Nat→Nat→Prop
structure Mt (n:Nat) (M:Mk) (ms:List (Option Nat)):Prop where
  len:ms.length=n
  ok:∀(i c:Nat),ms[i]?=some (some c)→c<n∧M i c
  inj:∀(i j c:Nat),ms[i]?=some (some c)→ms[j]?=some (some c)→i=j
structure Fo (n:Nat) (M:Mk) (ms:List (Option Nat)) (src:Nat→Option Nat) (rs:List Nat) (row:Nat):Prop where
  nd:rs.Nodup
  lt:∀r∈rs,r<n
  hd:rs[0]?=some row
  root:ms[row]?=some none
  up:∀(k r:Nat),0<k→rs[k]?=some r→∃c,ms[r]?=some (some c)∧∃k' r',k' < k∧rs[k']?=some r'∧src c=some r'
  col:∀c s,src c=some s→c<n∧M s c
def Dom (ms:List (Option Nat)) (i:Nat):Prop:=∃c,ms[i]?=some (some c)
theorem D8 {ms:List (Option Nat)}{i:Nat} (h:i<ms.length):∃o,ms[i]?=some o:=⟨_,List.getElem?_eq_getElem h⟩
structure Sh (n:Nat) (M:Mk) (ms ms':List (Option Nat)) (src:Nat→Option Nat) (rs:List Nat) (c k:Nat):Prop where
  mt:Mt n M ms'
  fr:∀(i:Nat),ms'[i]?≠some (some c)
  at_:∃r,rs[k]?=some r∧src c=some r
  ag:∀(k' r:Nat),k'≤k→rs[k']?=some r→ms'[r]?=ms[r]?
  dom:∀i,Dom ms' i↔Dom ms i
theorem Ie {n:Nat}{M:Mk}{ms:List (Option Nat)}{r c:Nat} (h:Mt n M ms) (hr:r<n) (hc:c<n) (hm:M r c) (fr:∀(i:Nat),ms[i]?≠some (some c)):Mt n M (ms.set r (some c)):=by
  have hl:=h.len
  refine⟨by rw[List.length_set];exact hl,fun i d e=>?_,fun i j d e1 e2=>?_⟩
  · by_cases hi:r=i
    · subst hi
      rw[List.getElem?_set_self (by omega)] at e;cases e
      exact⟨hc,hm⟩
    · rw[List.getElem?_set_ne hi] at e
      exact h.ok i d e
  · by_cases hi:r=i
    · by_cases hj:r=j
      · omega
      · subst hi
        rw[List.getElem?_set_self (by omega)] at e1;cases e1
        rw[List.getElem?_set_ne hj] at e2
        exact absurd e2 (fr j)
    · rw[List.getElem?_set_ne hi] at e1
      by_cases hj:r=j
      · subst hj
        rw[List.getElem?_set_self (by omega)] at e2;cases e2
        exact absurd e1 (fr i)
      · rw[List.getElem?_set_ne hj] at e2
        exact h.inj i j d e1 e2
theorem Gv {n:Nat}{M:Mk}{ms ms':List (Option Nat)}{src:Nat→Option Nat}{rs:List Nat}{row c k r:Nat} (F:Fo n M ms src rs row) (h:Sh n M ms ms' src rs c k) (hr:src c=some r) (hlm:ms.length=n) :
    r<n∧((ms'[r]?=some none∧Mt n M (ms'.set r (some c))∧∀i,Dom (ms'.set r (some c)) i↔Dom ms i∨i=row)∨(∃c1 k1,ms'[r]?=some (some c1)∧k1<k∧Sh n M ms (ms'.set r (some c)) src rs c1 k1)):=by
  obtain ⟨r',e1,e2⟩:=h.at_
  rw[hr] at e2;cases e2
  have hrn:r<n:=F.lt r (List.mem_of_getElem? e1)
  obtain ⟨hc,hM⟩:=F.col c r hr
  have hl:=h.mt.len
  have hmt:=Ie h.mt hrn hc hM h.fr
  have hag:=h.ag k r (Nat.le_refl _) e1
  refine⟨hrn,?_⟩
  by_cases hk:k=0
  · subst hk
    rw[F.hd] at e1;cases e1
    refine .inl ⟨by rw[hag];exact F.root,hmt,fun i=>?_⟩
    constructor
    · rintro ⟨d,e⟩
      by_cases hi:row=i
      · exact .inr hi.symm
      · rw[List.getElem?_set_ne hi] at e
        exact .inl ((h.dom i).mp ⟨d,e⟩)
    · rintro (z | z)
      · by_cases hi:row=i
        · subst hi;exact⟨c,List.getElem?_set_self (by omega)⟩
        · obtain ⟨d,e⟩:=(h.dom i).mpr z
          exact⟨d,by rw[List.getElem?_set_ne hi];exact e⟩
      · subst z;exact⟨c,List.getElem?_set_self (by omega)⟩
  · obtain ⟨c1,e3,k1,r1,hk1,e4,e5⟩:=F.up k r (by omega) e1
    have e3':ms'[r]?=some (some c1):=by rw[hag];exact e3
    refine .inr ⟨c1,k1,e3',hk1,hmt,fun i e=>?_,⟨r1,e4,e5⟩,fun k' r2 hk' e=>?_,fun i=>?_⟩
    · by_cases hi:r=i
      · subst hi
        rw[List.getElem?_set_self (by omega)] at e
        cases e
        exact h.fr r e3'
      · rw[List.getElem?_set_ne hi] at e
        exact hi (h.mt.inj r i c1 e3' e)
    · have hne:r≠r2:=fun z=>by
        subst z
        have h1:=(List.getElem?_eq_some_iff.mp e1)
        have h2:=(List.getElem?_eq_some_iff.mp e)
        have:=(List.getElem_inj F.nd).mp (h1.2.trans h2.2.symm)
        omega
      rw[List.getElem?_set_ne hne]
      exact h.ag k' r2 (by omega) e
    · rw[← h.dom i]
      constructor
      · rintro ⟨d,e⟩
        by_cases hi:r=i
        · subst hi;exact⟨c1,e3'⟩
        · rw[List.getElem?_set_ne hi] at e;exact⟨d,e⟩
      · rintro ⟨d,e⟩
        by_cases hi:r=i
        · subst hi;exact⟨c,List.getElem?_set_self (by omega)⟩
        · exact⟨d,by rw[List.getElem?_set_ne hi];exact e⟩
structure Se (n:Nat) (M:Mk) (ms:List (Option Nat)) (src:Nat→Option Nat) (rs:List Nat) (row q:Nat) (ks:List Nat):Prop where
  fo:Fo n M ms src rs row
  ma:∀(c:Nat),src c≠none→∃i,ms[i]?=some (some c)∧i∈rs
  kn:ks.Nodup
  ki:∀c,c∈ks↔src c≠none
  kl:ks.length+1=rs.length
  cl:∀(k r:Nat),k<q→rs[k]?=some r→∀c,c<n→M r c→src c≠none
def put (src:Nat→Option Nat) (c s:Nat):Nat→Option Nat:=fun d=>if d=c then some s else src d
theorem FJ {n:Nat}{M:Mk}{ms:List (Option Nat)}{row:Nat} (hr:row<n) (h:ms[row]?=some none):Se n M ms (fun _=>none) [row] row 0 [] :=
  ⟨⟨by simp,by simpa using hr,rfl,h,fun k r hk e=>by
    cases k with
    | zero=>omega
    | succ k=>simp at e,fun c s e=>by cases e⟩,fun c h=>absurd rfl h,by simp,fun c=>by simp,rfl,fun k r hk=>by omega⟩
theorem GA {n:Nat}{M:Mk}{ms:List (Option Nat)}{src:Nat→Option Nat}{rs ks:List Nat}{row q c s i:Nat} (S:Se n M ms src rs row q ks) (hl:ms.length=n) (hs:rs[q]?=some s) (hc:c<n) (hM:M s c) (hn:src c=none) (hi:ms[i]?=some (some c)) :
    Se n M ms (put src c s) (rs++[i]) row q (ks++[c]):=by
  have hin:i<n:=by rw[← hl];exact (List.getElem?_eq_some_iff.mp hi).1
  have hq:q<rs.length:=(List.getElem?_eq_some_iff.mp hs).1
  have nin:i∉rs:=fun z=>by
    obtain ⟨k,hk⟩:=List.getElem?_of_mem z
    by_cases h0:k=0
    · subst h0
      rw[S.fo.hd] at hk;cases hk
      rw[S.fo.root] at hi;cases hi
    · obtain ⟨c1,e1,k1,r1,_,_,e3⟩:=S.fo.up k i (by omega) hk
      rw[hi] at e1;cases e1
      rw[hn] at e3;cases e3
  have keep:∀d r,src d=some r→put src c s d=some r:=fun d r e=>by
    unfold put
    rw[if_neg (fun z=>by rw[z,hn] at e;cases e)];exact e
  refine⟨⟨?_,?_,?_,S.fo.root,fun k r hk e=>?_,fun d r e=>?_⟩,fun d hd=>?_,?_,fun d=>?_,?_,fun k r hk e d hd hm=>?_⟩
  · rw[List.nodup_append]
    exact⟨S.fo.nd,by simp,fun a ha b hb=>by rw[List.mem_singleton.mp hb];exact fun z=>nin (z▸ha)⟩
  · intro r hr
    rcases List.mem_append.mp hr with z | z
    · exact S.fo.lt r z
    · rw[List.mem_singleton.mp z];exact hin
  · rw[List.getElem?_append_left (by omega)];exact S.fo.hd
  · by_cases hlt:k<rs.length
    · rw[List.getElem?_append_left hlt] at e
      obtain ⟨c1,e1,k1,r1,h1,h2,h3⟩:=S.fo.up k r hk e
      exact⟨c1,e1,k1,r1,h1,by rw[List.getElem?_append_left (by omega)];exact h2,keep _ _ h3⟩
    · have hk2:k=rs.length:=by
        have:=(List.getElem?_eq_some_iff.mp e).1
        rw[List.length_append] at this
        simp at this;omega
      subst hk2
      rw[List.getElem?_append_right (Nat.le_refl _)] at e
      simp at e
      subst e
      exact⟨c,hi,q,s,hq,by rw[List.getElem?_append_left hq];exact hs,by unfold put;rw[if_pos rfl]⟩
  · unfold put at e
    split at e
    · rename_i z;cases e;subst z;exact⟨hc,hM⟩
    · exact S.fo.col d r e
  · unfold put at hd
    split at hd
    · rename_i z;subst z;exact⟨i,hi,by simp⟩
    · obtain ⟨j,h1,h2⟩:=S.ma d hd
      exact⟨j,h1,List.mem_append_left _ h2⟩
  · rw[List.nodup_append]
    exact⟨S.kn,by simp,fun a ha b hb=>by rw[List.mem_singleton.mp hb];exact fun z=>(S.ki a).mp ha (by rw[z];exact hn)⟩
  · rw[List.mem_append,S.ki,List.mem_singleton]
    unfold put
    by_cases z:d=c
    · rw[if_pos z];simp [z]
    · rw[if_neg z];simp [z]
  · rw[List.length_append,List.length_append,← S.kl];simp
  · have hlt:k<rs.length:=by omega
    rw[List.getElem?_append_left hlt] at e
    have:=S.cl k r hk e d hd hm
    unfold put
    split
    · simp
    · exact this
structure Lies (n:Nat) (M:Mk) (p:List Nat):Prop where
  len:p.length=n
  ok:∀(i c:Nat),p[i]?=some c→c<n∧M i c
  nd:p.Nodup
structure Short (n:Nat) (M:Mk) (s:List Nat):Prop where
  ne:s≠[]
  up:s.Pairwise (· < ·)
  lt:∀r∈s,r<n
  few:∃ks:List Nat,ks.Nodup∧ks.length<s.length∧∀r∈s,∀c,c<n→M r c→c∈ks
theorem Dw {n:Nat}{M:Mk}{ms:List (Option Nat)}{src:Nat→Option Nat}{rs ks s:List Nat}{row:Nat} (S:Se n M ms src rs row rs.length ks) (hp:s.Perm rs) (ho:s.Pairwise (·≤·)):Short n M s:=by
  have hl:=hp.length_eq
  have kl:=S.kl
  refine⟨fun z=>by rw[z] at hl;simp at hl;omega,?_,fun r hr=>S.fo.lt r (hp.mem_iff.mp hr),ks,S.kn,by omega,fun r hr c hc hm=>?_⟩
  · have nd:s.Nodup:=hp.nodup_iff.mpr S.fo.nd
    exact (ho.and nd).imp fun h=>by omega
  · obtain ⟨k,hk⟩:=List.getElem?_of_mem (hp.mem_iff.mp hr)
    exact (S.ki c).mpr (S.cl k r (List.getElem?_eq_some_iff.mp hk).1 hk c hc hm)
theorem G7 {n:Nat}{M:Mk}{ms:List (Option Nat)} (h:Mt n M ms) (hd:∀i,i<n→Dom ms i):∃p,ms=p.map some∧Lies n M p:=by
  have hl:=h.len
  refine⟨ms.map fun o=>o.getD 0,?_,?_⟩
  · rw[List.map_map]
    refine (List.map_id ms).symm.trans (List.map_congr_left fun o ho=>?_)
    obtain ⟨i,hi⟩:=List.getElem?_of_mem ho
    obtain ⟨c,e⟩:=hd i (by rw[← hl];exact (List.getElem?_eq_some_iff.mp hi).1)
    rw[hi] at e;cases e;rfl
  · have at_:∀i c,(ms.map fun o=>o.getD 0)[i]?=some c→ms[i]?=some (some c):=fun i c e=>by
      rw[List.getElem?_map] at e
      cases q:ms[i]? with
      | none=>rw[q] at e;cases e
      | some o =>
        obtain ⟨c',e'⟩:=hd i (by rw[← hl];exact (List.getElem?_eq_some_iff.mp q).1)
        rw[q] at e';cases e'
        rw[q] at e;cases e;rfl
    refine⟨by rw[List.length_map];exact hl,fun i c e=>h.ok i c (at_ i c e),?_⟩
    rw[List.Nodup,List.pairwise_iff_getElem]
    intro i j hi' hj hij e
    have e1:=at_ i _ (List.getElem?_eq_getElem hi')
    have e2:=at_ j _ (List.getElem?_eq_getElem hj)
    rw[← e] at e2
    have:=h.inj i j _ e1 e2
    omega
end Mat
namespace Mat
theorem Jq {n:Nat}{M:Mk}{ms:List (Option Nat)}{src:Nat→Option Nat}{rs:List Nat}{row c s:Nat} (F:Fo n M ms src rs row) (hn:src c=none) (hc:c<n) (hM:M s c):Fo n M ms (put src c s) rs row:=by
  refine⟨F.nd,F.lt,F.hd,F.root,fun k r hk e=>?_,fun d r e=>?_⟩
  · obtain ⟨c1,e1,k1,r1,h1,h2,h3⟩:=F.up k r hk e
    refine⟨c1,e1,k1,r1,h1,h2,?_⟩
    unfold put
    rw[if_neg (fun z=>by rw[z,hn] at h3;cases h3)];exact h3
  · unfold put at e
    split at e
    · rename_i z;cases e;subst z;exact⟨hc,hM⟩
    · exact F.col d r e
theorem Gb {n:Nat}{M:Mk}{ms:List (Option Nat)}{src:Nat→Option Nat}{rs ks:List Nat}{row q s:Nat} (S:Se n M ms src rs row q ks) (hs:rs[q]?=some s) (h:∀c,c<n→M s c→src c≠none):Se n M ms src rs row (q+1) ks :=
  ⟨S.fo,S.ma,S.kn,S.ki,S.kl,fun k r hk e c hc hm=>by
    by_cases z:k=q
    · subst z;rw[hs] at e;cases e;exact h c hc hm
    · exact S.cl k r (by omega) e c hc hm⟩
theorem Dv {ns:List Int}{rs:List Nat} (h:ns.Perm (rs.map fun (r:Nat)=>(r:Int))):∃s:List Nat,ns=s.map (fun (r:Nat)=>(r:Int))∧s.Perm rs:=by
  have nn:∀x∈ns,0≤x:=fun x hx=>by
    obtain ⟨r,_,rfl⟩:=List.mem_map.mp (h.mem_iff.mp hx)
    omega
  refine⟨ns.map Int.toNat,?_,?_⟩
  · rw[List.map_map]
    refine (List.map_id ns).symm.trans (List.map_congr_left fun x hx=>?_)
    have:=nn x hx
    show x=((x.toNat:Nat):Int)
    omega
  · have:=h.map Int.toNat
    rw[List.map_map] at this
    have e:rs.map (Int.toNat ∘ fun (r:Nat)=>(r:Int))=rs:=by
      refine (List.map_congr_left fun r _=>?_).trans (List.map_id rs)
      show ((r:Int)).toNat=r
      omega
    rw[e] at this
    exact this
end Mat
namespace Mat
end Mat
namespace L2
open PySem PySem.Spec PyProof.Rows
theorem pT.cons {i k:Nat}{u:TGs} (h:i<k) (hu:pT k u):pT k (C7 (mw i) u):=fun x σ H Q ⟨v,r,e,q⟩=>⟨v,r,e,by
  have q2:=hu r (σ.set i (some v)) H Q q
  have e1:(fun (σ2:St) (H2:Hp)=>Q σ2 H2∧σ2.length=(σ.set i (some v)).length∧∀j,k≤j→σ2[j]?=(σ.set i (some v))[j]?)=fun σ2 H2=>Q σ2 H2∧σ2.length=σ.length∧∀j,k≤j→σ2[j]?=σ[j]?:=by
    funext σ2 H2
    refine propext ⟨fun z=>⟨z.1,by rw[z.2.1,List.length_set],fun j hj=>by rw[z.2.2 j hj,List.getElem?_set_ne (by omega)]⟩,fun z=>⟨z.1,by rw[z.2.1,List.length_set],fun j hj=>by rw[z.2.2 j hj,List.getElem?_set_ne (by omega)]⟩⟩
  rw[e1] at q2
  exact q2⟩
theorem fI.tup {K:PySem.W.Frag}{k n:Nat}{u:TGs} (hu:pT k u):fI k (GR K n u):=fun x σ H Q ⟨a,xs,e,hs,hl,q⟩=>⟨a,xs,e,hs,hl,hu xs σ H Q q⟩
end L2
namespace L3
open PySem L2
section
variable {K:PySem.W.Frag}{ρ:Bool}{Γr Γl Γ Γ1 Γ2 Γn M:List Nat}{t u:TS}{te ta tb:TE}{de da db:DE}{d e:DS}
def y7 (i j:Nat) (k:Nat) (E:bC) (δ:Dl):Prop:=lF δ i fun ds=>j<δ.length∧(∀(m:Nat) (d:D),ds[m]?=some d→∃(es e:List D),d=D.tup es∧es[k]?=some (D.lst e))∧E.nx ((δ.set j none).set i (some (.lst [])))
end
end L3
namespace L3
open PySem L2
abbrev dPr (q:Int × List Int):D:=.tup [.int q.1,dI q.2]
abbrev oPr (q:Int × List Int):L2.D:=.tup [.int q.1,L2.dI q.2]
theorem IE {q:Int × List Int}:(dPr q).old=some (oPr q):=by
  rw[D.old,D.olds,D.olds,D.olds,D.old,xl];rfl
theorem uh:∀{ps:List (Int × List Int)},D.olds (ps.map dPr)=some (ps.map oPr)
  | []=>by rw[List.map_nil,D.olds];rfl
  | p::ps=>by rw[List.map_cons,D.olds,uh,IE];rfl
theorem oz:∀(ps:List (Int × List Int)),L2.D.dG (ps.map oPr)=true
  | []=>rfl
  | p::ps=>by
    rw[List.map_cons,L2.D.dG,oz ps,L2.D.plain,L2.D.dG,L2.D.dG,L2.D.dG,L2.D.plain,L2.D.plain,L2.D.jl];rfl
theorem tR:∀(ps:List (Int × List Int)),L2.D.eA (ps.map oPr)≤5
  | []=>by rw[List.map_nil,L2.D.eA];omega
  | p::ps=>by
    have:=tR ps
    rw[List.map_cons,L2.D.eA,L2.D.depth,L2.D.eA,L2.D.eA,L2.D.eA,L2.D.depth,L2.D.depth,L2.D.kK]
    · refine Nat.max_le.mpr ⟨?_,this⟩
      decide
    all_goals (intro ds h;cases h)
theorem zi:∀(ps qs:List (Int × List Int)),L2.D.jL (ps.map oPr) (qs.map oPr)=decide (ps=qs)
  | [],[]=>rfl
  | [],y::ys=>rfl
  | x::xs,[]=>rfl
  | (a,x)::xs,(b,y)::ys=>by
    rw[List.map_cons,List.map_cons,L2.D.jL,zi xs ys,L2.D.eqb,L2.D.jL,L2.D.jL,L2.D.jL,L2.D.eqb,L2.D.eqb,L2.D.nG]
    by_cases h1:a=b
    · subst h1
      by_cases h2:x=y
      · subst h2;simp
      · simp [h2]
    · have:(a == b)=false:=beq_eq_false_iff_ne.mpr h1
      simp [this,h1]
theorem zZ {neg:Bool}{ps qs:List (Int × List Int)}{P:DK} (h:P (.bl (if neg then !decide (ps=qs) else decide (ps=qs)))):Cr neg (.lst (ps.map dPr)) (.lst (qs.map dPr)) P :=
  ⟨_,_,by rw[D.old,uh];rfl,by rw[D.old,uh];rfl,oz _,oz _,Nat.le_trans (tR _) (by omega),by rw[zi];exact h⟩
theorem tw {ms:List Int}{n:Nat} (h:ms.Perm (iA n)) (ho:ms.Pairwise (·≤·)):ms=iA n:=by
  refine List.Perm.eq_of_pairwise (fun a b _ _ h1 h2=>by omega) ho ?_ h
  unfold iA
  rw[List.pairwise_map]
  exact (List.pairwise_lt_range (n:=n)).imp fun h=>by omega
def Tab (n:Nat) (ps:List (Int × List Int)) (t:List (List Int)):Prop:=dH n n t∧∀k j:Nat,k<n→j<n→cellAt t k j=(ps.map fun q=>if q.2.getD k 0=(j:Int) then q.1 else 0).sum
theorem Tab.uniq {n:Nat}{ps:List (Int × List Int)}{t u:List (List Int)} (h1:Tab n ps t) (h2:Tab n ps u):t=u:=h1.1.ext h2.1 fun a b ha hb=>by rw[h1.2 a b ha hb,h2.2 a b ha hb]
theorem Tab.snoc {n:Nat}{ps:List (Int × List Int)}{t u:List (List Int)}{q:Int × List Int} (h:Tab n ps t) (hu:dH n n u) (hc:∀k j:Nat,k<n→j<n→cellAt u k j=cellAt t k j+if q.2.getD k 0=(j:Int) then q.1 else 0):Tab n (ps++[q]) u :=
  ⟨hu,fun k j hk hj=>by rw[hc k j hk hj,h.2 k j hk hj,List.map_append,List.sum_append];simp⟩
theorem EC {n:Nat}{t:List (List Int)}{f:Int→Int} (h:dH n n t) {k j:Nat} (hk:k<n) (hj:j<n):cellAt (t.map fun r=>r.map f) k j=f (cellAt t k j):=by
  have hl:=h.1
  have hr:=h.row hk
  unfold cellAt
  rw[List.getD_eq_getElem?_getD (l:=t.map _),List.getElem?_map,List.getElem?_eq_getElem (by omega),Option.map_some,Option.getD_some]
  have e:t.getD k []=t[k]'(by omega):=by rw[List.getD_eq_getElem?_getD,List.getElem?_eq_getElem (by omega)];rfl
  rw[e]
  rw[show rowAt t k=t[k]'(by omega) from e] at hr
  rw[List.getD_eq_getElem?_getD,List.getElem?_map,List.getElem?_eq_getElem (by omega),List.getD_eq_getElem?_getD,List.getElem?_eq_getElem (by omega)];rfl
end L3
namespace Bir
section
variable {κ:Type} [DecidableEq κ]
def dot (ks:List κ) (f v:κ→Int):Int:=(ks.map fun k=>f k*v k).sum
theorem x6 {f v:κ→Int}:∀{ks:List κ},(∀k∈ks,f k=0)→dot ks f v=0
  | [],_=>rfl
  | k::ks,h=>by
    unfold dot
    rw[List.map_cons,List.sum_cons,h k List.mem_cons_self]
    have:=x6 (v:=v) (ks:=ks) fun x hx=>h x (List.mem_cons_of_mem _ hx)
    unfold dot at this
    rw[this];omega
theorem Bt {f g v:κ→Int}{a b:Int}:∀{ks:List κ},dot ks (fun x=>a*g x - b*f x) v=a*dot ks g v - b*dot ks f v
  | []=>by simp [dot]
  | k::ks=>by
    have:=Bt (f:=f) (g:=g) (v:=v) (a:=a) (b:=b) (ks:=ks)
    unfold dot at this ⊢
    rw[List.map_cons,List.map_cons,List.map_cons,List.sum_cons,List.sum_cons,List.sum_cons,this,Int.mul_add,Int.mul_add,Int.sub_mul,Int.mul_assoc,Int.mul_assoc]
    omega
theorem va {f v:κ→Int}{k:κ}:∀{ks:List κ},f k=0→dot (ks.erase k) f v=dot ks f v
  | [],_=>rfl
  | x::ks,h=>by
    by_cases e:x=k
    · subst e
      rw[List.erase_cons_head]
      unfold dot
      rw[List.map_cons,List.sum_cons,h];omega
    · rw[List.erase_cons_tail (by simpa using e)]
      have:=va (f:=f) (v:=v) (ks:=ks) h
      unfold dot at this ⊢
      rw[List.map_cons,List.map_cons,List.sum_cons,List.sum_cons,this]
theorem EE:∀(m:Nat) (l:List ((κ→Int) × (κ→Int))) (ks:List κ),l.length=m→(∀p∈l,dot ks p.1 p.2≠0)→l.Pairwise (fun p q=>dot ks p.1 q.2=0)→l.length≤ks.length
  | 0,l,ks,hm,_,_=>by omega
  | m+1,[],ks,hm,_,_=>by simp
  | m+1,(f,v)::l,ks,hm,h1,h2=>by
    obtain ⟨h3,h4⟩:=List.pairwise_cons.mp h2
    have hne:=h1 (f,v) List.mem_cons_self
    obtain ⟨k,hk,hf⟩:∃k∈ks,f k≠0:=by
      by_cases z:∃k∈ks,f k≠0
      · exact z
      · refine absurd (x6 fun k hk=>?_) hne
        by_cases y:f k=0
        · exact y
        · exact absurd ⟨k,hk,y⟩ z
    have key:∀(g w:κ→Int),dot ks f w=0→dot (ks.erase k) (fun x=>f k*g x - g k*f x) w=f k*dot ks g w:=fun g w hw=>by
      rw[va (by rw[Int.mul_comm];omega),Bt,hw];omega
    have ih:=EE m (l.map fun p=>(fun x=>f k*p.1 x - p.1 k*f x,p.2)) (ks.erase k) (by rw[List.length_map];simpa using hm) (fun p hp=>?_) ?_
    · rw[List.length_map,List.length_erase_of_mem hk] at ih
      have:0<ks.length:=List.length_pos_of_mem hk
      rw[List.length_cons];omega
    · obtain ⟨q,hq,rfl⟩:=List.mem_map.mp hp
      show dot (ks.erase k) (fun x=>f k*q.1 x - q.1 k*f x) q.2≠0
      rw[key q.1 q.2 (h3 q hq)]
      exact Int.mul_ne_zero hf (h1 q (List.mem_cons_of_mem _ hq))
    · rw[List.pairwise_map]
      refine List.Pairwise.imp_of_mem (fun {p q} hp hq h=>?_) h4
      show dot (ks.erase k) (fun x=>f k*p.1 x - p.1 k*f x) q.2=0
      rw[key p.1 q.2 (h3 q hq),h];omega
end
def S (m:Nat) (f:Nat→Int):Int:=((List.range m).map f).sum
theorem cQ {m:Nat}{f:Nat→Int}:S (m+1) f=S m f+f m:=by
  unfold S;rw[List.range_succ,List.map_append,List.sum_append];simp
theorem mO {f:Nat→Int}:S 0 f=0:=rfl
theorem cy {f g:Nat→Int}:∀{m:Nat},(∀i,i<m→f i=g i)→S m f=S m g
  | 0,_=>rfl
  | m+1,h=>by rw[cQ,cQ,cy fun i hi=>h i (by omega),h m (by omega)]
theorem jd {a:Int}:∀{m:Nat},S m (fun _=>a)=(m:Int)*a
  | 0=>by rw[mO];simp
  | m+1=>by rw[cQ,jd,show ((m+1:Nat):Int)=(m:Int)+1 by omega,Int.add_mul];omega
theorem Bc {f g:Nat→Int}:∀{m:Nat},S m (fun i=>f i - g i)=S m f - S m g
  | 0=>by simp [mO]
  | m+1=>by rw[cQ,cQ,cQ,Bc];omega
theorem Aq {f g:Nat→Int}:∀{m:Nat},S m (fun i=>f i+g i)=S m f+S m g
  | 0=>by simp [mO]
  | m+1=>by rw[cQ,cQ,cQ,Aq];omega
theorem El {f:Nat→Int}:∀{m:Nat},S m (fun i=>- f i)=- S m f
  | 0=>by simp [mO]
  | m+1=>by rw[cQ,cQ,El];omega
theorem pR {f:Nat→Int}{c:Nat}:∀{m:Nat},(∀i,i<m→i≠c→f i=0)→S m f=if c<m then f c else 0
  | 0,_=>by simp [mO]
  | m+1,h=>by
    rw[cQ,pR (m:=m) fun i hi hn=>h i (by omega) hn]
    by_cases h1:c<m
    · rw[if_pos h1,if_pos (by omega),h m (by omega) (by omega)];omega
    · rw[if_neg h1]
      by_cases h2:c=m
      · subst h2;rw[if_pos (by omega)];omega
      · rw[if_neg (by omega),h m (by omega) (Ne.symm h2)];omega
theorem CT {f g:Nat→Int}:∀{m:Nat},(∀i,i<m→f i≤g i)→S m f≤S m g
  | 0,_=>Int.le_refl _
  | m+1,h=>by
    rw[cQ,cQ]
    have:=CT (m:=m) fun i hi=>h i (by omega)
    have:=h m (by omega)
    omega
theorem Fs {f:Nat→Nat→Int}{n:Nat}:∀{m:Nat},S m (fun i=>S n (f i))=S n fun j=>S m fun i=>f i j
  | 0=>by rw[mO,cy (g:=fun _=>0) (fun j _=>mO),jd,Int.mul_zero]
  | m+1=>by
    rw[cQ,Fs,← Aq]
    exact cy fun j _=>cQ.symm
abbrev Cd:=Option (Nat × Nat)
def cds (m:Nat):List Cd:=none::(List.range m).flatMap fun i=>(List.range m).map fun j=>some (i,j)
theorem G2 {m:Nat}:(cds m).length=m*m+1:=by
  unfold cds
  rw[List.length_cons,List.length_flatMap]
  congr 1
  have:∀k,((List.range k).map fun i=>((List.range m).map fun j=>(some (i,j):Cd)).length).sum=k*m:=by
    intro k
    induction k with
    | zero=>simp
    | succ k ih=>rw[List.range_succ,List.map_append,List.sum_append_nat,ih];simp;rw[Nat.add_mul];omega
  exact this m
theorem Gw {m:Nat}{f v:Cd→Int}:dot (cds m) f v=f none*v none+S m fun i=>S m fun j=>f (some (i,j))*v (some (i,j)):=by
  unfold dot cds
  rw[List.map_cons,List.sum_cons]
  congr 1
  have:∀k,(((List.range k).flatMap fun i=>(List.range m).map fun j=>(some (i,j):Cd)).map fun x=>f x*v x).sum=S k fun i=>S m fun j=>f (some (i,j))*v (some (i,j)):=by
    intro k
    induction k with
    | zero=>rfl
    | succ k ih =>
      rw[List.range_succ,List.flatMap_append,List.map_append,List.sum_append,ih,cQ]
      congr 1
      rw[List.flatMap_cons,List.flatMap_nil,List.append_nil,List.map_map]
      rfl
  exact this m
def e (p:List Nat) (i j:Nat):Int:=if p[i]?=some j then 1 else 0
def vec (p:List Nat):Cd→Int | none=>1 | some (i,j)=>e p i j
def fn (m r c:Nat):Cd→Int
  | none=>if r=m then (if c=m then 1 - (m:Int) else 1) else (if c=m then 1 else 0)
  | some (i,j)=>if r=m then (if c=m then 1 else if j=c then -1 else 0) else (if c=m then (if i=r then -1 else 0) else if i=r∧j=c then 1 else 0)
structure Pm (n:Nat) (p:List Nat):Prop where
  len:p.length=n
  lt:∀(i c:Nat),p[i]?=some c→c<n
  nd:p.Nodup
theorem Pm.row {n:Nat}{p:List Nat} (h:Pm n p) {i:Nat} (hi:i<n):S n (e p i)=1:=by
  obtain ⟨c,hc⟩:∃c,p[i]?=some c:=⟨_,List.getElem?_eq_getElem (by rw[h.len];exact hi)⟩
  rw[pR (c:=c) fun j hj hn=>by unfold e;rw[if_neg (fun z=>hn (by rw[hc] at z;exact (Option.some.inj z).symm))],if_pos (h.lt i c hc)]
  unfold e;rw[if_pos hc]
theorem Pm.sur {n:Nat}{p:List Nat} (h:Pm n p) {c:Nat} (hc:c<n):∃i,i<n∧p[i]?=some c:=by
  have hpl:=h.len
  by_cases z:c∈p
  · obtain ⟨i,hi⟩:=List.getElem?_of_mem z
    exact⟨i,by have:=(List.getElem?_eq_some_iff.mp hi).1;omega,hi⟩
  · exfalso
    have hlt:∀x∈p,x<n:=fun x hx=>by
      obtain ⟨i,hi⟩:=List.getElem?_of_mem hx
      exact h.lt i x hi
    have:=Mat.yL (l:=c::p) (n:=n) (List.nodup_cons.mpr ⟨z,h.nd⟩) fun x hx=>by
      rcases List.mem_cons.mp hx with rfl | hx
      · exact hc
      · exact hlt x hx
    rw[List.length_cons] at this
    omega
theorem Pm.col {n:Nat}{p:List Nat} (h:Pm n p) {c:Nat} (hc:c<n):S n (fun i=>e p i c)=1:=by
  obtain ⟨i,hi,hp⟩:=h.sur hc
  rw[pR (c:=i) fun k hk hn=>?_,if_pos hi]
  · unfold e;rw[if_pos hp]
  · unfold e
    rw[if_neg fun z=>hn ?_]
    have h1:=List.getElem?_eq_some_iff.mp z
    have h2:=List.getElem?_eq_some_iff.mp hp
    exact (List.getElem_inj h.nd).mp (h1.2.trans h2.2.symm)
theorem yF {m r c:Nat}{p:List Nat} (h:Pm (m+1) p) (hr:r≤m) (hc:c≤m):dot (cds m) (fn m r c) (vec p)=e p r c:=by
  rw[Gw]
  by_cases h1:r=m
  · subst h1
    by_cases h2:c=r
    · subst h2
      have:∀i,i<c→S c (fun j=>fn c c c (some (i,j))*vec p (some (i,j)))=1 - e p i c:=fun i hi=>by
        have h3:=h.row (i:=i) (by omega)
        rw[cQ] at h3
        rw[cy (g:=e p i) fun j _=>by simp [fn,vec]]
        omega
      rw[cy this,Bc,jd]
      have h4:=h.col (c:=c) (by omega)
      rw[cQ] at h4
      simp only[fn,vec,if_true]
      omega
    · have:∀i,i<r→S r (fun j=>fn r r c (some (i,j))*vec p (some (i,j)))=- e p i c:=fun i hi=>by
        rw[pR (c:=c) fun j _ hn=>by simp [fn,h2,hn],if_pos (by omega)]
        simp [fn,h2,vec]
      rw[cy this,El]
      have h4:=h.col (c:=c) (by omega)
      rw[cQ] at h4
      simp only[fn,vec,if_true,if_neg h2]
      omega
  · by_cases h2:c=m
    · subst h2
      rw[pR (c:=r) (fun i _ hn=>by
        rw[cy (g:=fun _=>0) fun j _=>by simp [fn,h1,hn],jd];omega),if_pos (by omega)]
      have h3:=h.row (i:=r) (by omega)
      rw[cQ] at h3
      rw[cy (g:=fun j=>- e p r j) fun j _=>by simp [fn,h1,vec],El]
      simp only[fn,vec,if_true,if_neg h1]
      omega
    · rw[pR (c:=r) (fun i _ hn=>by
        rw[cy (g:=fun _=>0) fun j _=>by simp [fn,h1,h2,hn],jd];omega),if_pos (by omega)]
      rw[pR (c:=c) (fun j _ hn=>by simp [fn,h1,h2,hn]),if_pos (by omega)]
      simp [fn,h1,h2,vec]
theorem few {n:Nat} (hn:1≤n) (l:List (List Nat × Nat × Nat)) (hp:∀q∈l,Pm n q.1∧q.2.1<n∧q.1[q.2.1]?=some q.2.2) (ht:l.Pairwise fun q q'=>q'.1[q.2.1]?≠some q.2.2):l.length≤(n - 1)*(n - 1)+1:=by
  obtain ⟨m,rfl⟩:∃m,n=m+1:=⟨n - 1,by omega⟩
  have:=EE l.length (l.map fun q=>(fn m q.2.1 q.2.2,vec q.1)) (cds m) (by rw[List.length_map]) (fun p hm=>?_) ?_
  · rw[List.length_map,G2] at this
    simpa using this
  · obtain ⟨q,hq,rfl⟩:=List.mem_map.mp hm
    obtain ⟨h1,h2,h3⟩:=hp q hq
    have h4:=h1.lt _ _ h3
    show dot (cds m) (fn m q.2.1 q.2.2) (vec q.1)≠0
    rw[yF h1 (by omega) (by omega)]
    unfold e
    rw[if_pos h3];decide
  · rw[List.pairwise_map]
    refine List.Pairwise.imp_of_mem (fun {p q} hp' hq' h=>?_) ht
    obtain ⟨h1,h2,h3⟩:=hp p hp'
    have h4:=h1.lt _ _ h3
    show dot (cds m) (fn m p.2.1 p.2.2) (vec q.1)=0
    rw[yF (hp q hq').1 (by omega) (by omega)]
    unfold e
    rw[if_neg h]
end Bir
namespace Bir
open L3
structure Ev (n:Nat) (t:List (List Int)) (b:Int):Prop where
  rect:dH n n t
  nn:∀i j:Nat,i<n→j<n→0≤cellAt t i j
  row:∀i:Nat,i<n→S n (cellAt t i)=b
  col:∀j:Nat,j<n→S n (fun i=>cellAt t i j)=b
theorem xR {f:Nat→Int}{m:Nat} (h:∀i,i<m→0≤f i):0≤S m f:=by
  have:=CT (f:=fun _=>0) (g:=f) (m:=m) h
  rw[jd] at this
  omega
theorem Fi {f:Nat→Int}:∀{m:Nat},(∀i,i<m→0≤f i)→∀i,i<m→f i≤S m f
  | 0,_,i,hi=>by omega
  | m+1,h,i,hi=>by
    rw[cQ]
    have h1:=xR (m:=m) fun i hi=>h i (by omega)
    have h2:=h m (by omega)
    by_cases z:i=m
    · subst z;omega
    · have:=Fi (m:=m) (fun i hi=>h i (by omega)) i (by omega)
      omega
theorem DX:∀{r:List Int}{n:Nat},r.length=n→r.sum=S n fun j=>r.getD j 0:=by
  intro r n h
  subst h
  unfold S
  congr 1
  refine List.ext_getElem (by simp) fun i h1 h2=>?_
  simp [List.getD_eq_getElem?_getD,h1]
theorem BE:∀{s:List Nat}{n:Nat},s.Nodup→(∀x∈s,x<n)→S n (fun i=>if i∈s then 1 else 0)=s.length
  | [],n,_,_=>by rw[cy (g:=fun _=>0) fun i _=>by simp,jd];simp
  | a::s,n,h,hl=>by
    obtain ⟨h1,h2⟩:=List.nodup_cons.mp h
    have ih:=BE (n:=n) h2 fun x hx=>hl x (List.mem_cons_of_mem _ hx)
    have e:S n (fun i=>if i∈a::s then (1:Int) else 0)=S n (fun i=>(if i=a then 1 else 0)+if i∈s then 1 else 0):=cy fun i _=>by
      by_cases z:i=a
      · subst z;simp [h1]
      · simp [z]
    rw[e,Aq,ih,pR (c:=a) (fun i _ hn=>if_neg hn),if_pos (hl a List.mem_cons_self),if_pos rfl,List.length_cons]
    omega
theorem Fq:∀{s:List Nat}{n:Nat},S n (fun i=>if i∈s then 1 else 0)≤s.length
  | [],n=>by rw[cy (g:=fun _=>0) fun i _=>by simp,jd];simp
  | a::s,n=>by
    have ih:=Fq (s:=s) (n:=n)
    have e:S n (fun i=>if i∈a::s then (1:Int) else 0)≤S n (fun i=>(if i=a then 1 else 0)+if i∈s then 1 else 0):=CT fun i _=>by
      by_cases z:i=a
      · subst z;simp;split<;>omega
      · simp [z]
    rw[Aq,pR (c:=a) (fun i _ hn=>if_neg hn),if_pos (rfl:a=a)] at e
    rw[List.length_cons]
    split at e<;>omega
theorem ye {f:Nat→Int}{a:Int}:∀{m:Nat},S m (fun i=>f i*a)=S m f*a
  | 0=>by simp [mO]
  | m+1=>by rw[cQ,cQ,ye,Int.add_mul]
theorem yg {n:Nat}{t:List (List Int)}{b:Int}{s:List Nat} (h:Ev n t b) (hb:0<b) (hs:Mat.Short n (fun i c=>0<cellAt t i c) s):False:=by
  obtain ⟨ks,nk,hl,hk⟩:=hs.few
  have nd:s.Nodup:=hs.up.imp fun h=>by omega
  have e1:S n (fun i=>(if i∈s then 1 else 0)*b)=s.length*b:=by rw[ye,BE nd hs.lt]
  have e2:S n (fun j=>(if j∈ks then 1 else 0)*b)≤ks.length*b:=by
    rw[ye];exact Int.mul_le_mul_of_nonneg_right Fq (by omega)
  have e3:S n (fun i=>(if i∈s then 1 else 0)*b)=S n fun i=>S n fun j=>(if i∈s then 1 else 0)*cellAt t i j:=cy fun i hi=>by
    by_cases z:i∈s
    · rw[cy (g:=cellAt t i) (fun j _=>by simp [z]),h.row i hi];simp [z]
    · rw[cy (g:=fun _=>0) (fun j _=>by simp [z]),jd];simp [z]
  have e4:S n (fun j=>(if j∈ks then 1 else 0)*b)=S n fun j=>S n fun i=>(if j∈ks then 1 else 0)*cellAt t i j:=cy fun j hj=>by
    by_cases z:j∈ks
    · rw[cy (g:=fun i=>cellAt t i j) (fun i _=>by simp [z]),h.col j hj];simp [z]
    · rw[cy (g:=fun _=>0) (fun i _=>by simp [z]),jd];simp [z]
  have e5:(S n fun i=>S n fun j=>(if i∈s then 1 else 0)*cellAt t i j)≤S n fun i=>S n fun j=>(if j∈ks then 1 else 0)*cellAt t i j:=CT fun i hi=>CT fun j hj=>by
    have hnn:=h.nn i j hi hj
    by_cases z:i∈s
    · by_cases y:0<cellAt t i j
      · have:=hk i z j hj y
        simp [z,this]
      · have:cellAt t i j=0:=by omega
        rw[this];simp
    · simp only[z,if_false]
      split<;>omega
  rw[Fs (f:=fun i j=>(if j∈ks then 1 else 0)*cellAt t i j)] at e5
  have:(s.length:Int)*b≤ks.length*b:=by omega
  have:=Int.le_of_mul_le_mul_right this hb
  omega
theorem Pm.AE {n:Nat}{M:Mat.Mk}{p:List Nat} (h:Mat.Lies n M p):Pm n p:=⟨h.len,fun i c e=>(h.ok i c e).1,h.nd⟩
theorem Pm.perm {n:Nat}{p:List Nat} (h:Pm n p):(p.map fun (r:Nat)=>(r:Int)).Perm (iA n):=by
  unfold iA
  refine List.Perm.map _ ((List.perm_ext_iff_of_nodup h.nd List.nodup_range).mpr fun a=>?_)
  rw[List.mem_range]
  constructor
  · intro z
    obtain ⟨i,hi⟩:=List.getElem?_of_mem z
    exact h.lt i a hi
  · intro z
    obtain ⟨i,_,hi⟩:=h.sur z
    exact List.mem_of_getElem? hi
theorem FY {n:Nat}{t u:List (List Int)}{b w:Int}{p:List Nat} (h:Ev n t b) (hp:Pm n p) (hw:∀i c:Nat,p[i]?=some c→w≤cellAt t i c) (hu:dH n n u) (hc:∀k j:Nat,k<n→j<n→cellAt u k j=cellAt t k j - if p[k]?=some j then w else 0):Ev n u (b - w):=by
  refine⟨hu,fun i j hi hj=>?_,fun i hi=>?_,fun j hj=>?_⟩
  · rw[hc i j hi hj]
    have:=h.nn i j hi hj
    split
    · rename_i z;have:=hw i j z;omega
    · omega
  · rw[cy (g:=fun j=>cellAt t i j - e p i j*w) fun j hj=>by rw[hc i j hi hj];unfold e;split<;>omega,Bc,ye,hp.row hi,h.row i hi]
    omega
  · rw[cy (g:=fun i=>cellAt t i j - e p i j*w) fun i hi=>by rw[hc i j hi hj];unfold e;split<;>omega,Bc,ye,hp.col hj,h.col j hj]
    omega
theorem G9 {n:Nat}{t:List (List Int)} (h:Ev n t 0):∀i j:Nat,i<n→j<n→cellAt t i j=0:=fun i j hi hj=>by
  have h1:=Fi (m:=n) (f:=cellAt t i) (fun j hj=>h.nn i j hi hj) j hj
  rw[h.row i hi] at h1
  have:=h.nn i j hi hj
  omega
abbrev Qd:=Int × List Nat × Nat × Nat
structure Mo (n:Nat) (t L:List (List Int)) (b:Int) (qs:List Qd):Prop where
  ev:Ev n L b
  ok:∀q∈qs,1≤q.1∧Pm n q.2.1∧q.2.2.1<n∧q.2.1[q.2.2.1]?=some q.2.2.2∧cellAt L q.2.2.1 q.2.2.2=0
  tri:qs.Pairwise fun q q'=>q'.2.1[q.2.2.1]?≠some q.2.2.2
  sum:∀k j:Nat,k<n→j<n→cellAt t k j=cellAt L k j+(qs.map fun q=>if q.2.1[k]?=some j then q.1 else 0).sum
def mD (q:Qd):Int × List Int:=(q.1,q.2.1.map fun (r:Nat)=>(r:Int))
theorem Mo.few {n:Nat}{t L:List (List Int)}{b:Int}{qs:List Qd} (h:Mo n t L b qs) (hn:1≤n):qs.length≤(n - 1)*(n - 1)+1:=by
  have:=Bir.few hn (qs.map fun q=>q.2) (fun q hq=>by obtain ⟨q',h',rfl⟩:=List.mem_map.mp hq;exact⟨(h.ok q' h').2.1,(h.ok q' h').2.2.1,(h.ok q' h').2.2.2.1⟩) (by rw[List.pairwise_map];exact h.tri)
  rwa [List.length_map] at this
theorem nI {p:List Nat}{k j:Nat} (hk:k<p.length):(p.map fun (r:Nat)=>(r:Int)).getD k 0=(j:Int)↔p[k]?=some j:=by
  rw[List.getD_eq_getElem?_getD,List.getElem?_map,List.getElem?_eq_getElem hk,Option.map_some,Option.getD_some]
  constructor
  · intro z;exact congrArg some (by omega)
  · intro z;have:=Option.some.inj z;omega
theorem Mo.tab {n:Nat}{t L:List (List Int)}{qs:List Qd} (h:Mo n t L 0 qs) (ht:dH n n t):Tab n (qs.map mD) t:=⟨ht,fun k j hk hj=>by
  rw[h.sum k j hk hj,G9 h.ev k j hk hj,List.map_map,Int.zero_add]
  congr 1
  refine List.map_congr_left fun q hq=>?_
  have hl:=(h.ok q hq).2.1.len
  show (if q.2.1[k]?=some j then q.1 else 0)=if (q.2.1.map fun (r:Nat)=>(r:Int)).getD k 0=(j:Int) then q.1 else 0
  by_cases z:q.2.1[k]?=some j
  · rw[if_pos z,if_pos ((nI (by omega)).mpr z)]
  · rw[if_neg z,if_neg fun y=>z ((nI (by omega)).mp y)]⟩
theorem Mo.apart {n:Nat}{t L:List (List Int)}{b:Int}{qs:List Qd} (h:Mo n t L b qs):(qs.map fun q=>q.2.1).Nodup:=by
  rw[List.Nodup,List.pairwise_map]
  refine List.Pairwise.imp_of_mem (fun {p q} hp hq hne z=>hne ?_) h.tri
  rw[← z];exact (h.ok p hp).2.2.2.1
theorem Mo.step {n:Nat}{t L u:List (List Int)}{b w:Int}{qs:List Qd}{p:List Nat} (h:Mo n t L b qs) (hL:Mat.Lies n (fun i c=>0<cellAt L i c) p) (hw1:∃i c:Nat,p[i]?=some c∧cellAt L i c=w) (hw:∀i c:Nat,p[i]?=some c→w≤cellAt L i c) (hu:dH n n u)
    (hc:∀k j:Nat,k<n→j<n→cellAt u k j=cellAt L k j - if p[k]?=some j then w else 0):∃r c,Mo n t u (b - w) (qs++[(w,p,r,c)]):=by
  have hp:=Pm.AE hL
  obtain ⟨r,c,e1,e2⟩:=hw1
  have hr:r<n:=by rw[← hp.len];exact (List.getElem?_eq_some_iff.mp e1).1
  obtain ⟨hcn,hpos⟩:=hL.ok r c e1
  refine⟨r,c,FY h.ev hp hw hu hc,fun q hq=>?_,?_,fun k j hk hj=>?_⟩
  · rcases List.mem_append.mp hq with z | z
    · obtain ⟨a1,a2,a3,a4,a5⟩:=h.ok q z
      refine⟨a1,a2,a3,a4,?_⟩
      have h4:=a2.lt _ _ a4
      rw[hc _ _ a3 h4,a5]
      split
      · rename_i y
        have:=(hL.ok _ _ y).2
        omega
      · rfl
    · cases List.mem_singleton.mp z
      refine⟨by show 1≤w;omega,hp,hr,e1,?_⟩
      show cellAt u r c=0
      rw[hc r c hr hcn,if_pos e1];omega
  · rw[List.pairwise_append]
    refine⟨h.tri,by simp,fun q hq q' hq'=>?_⟩
    cases List.mem_singleton.mp hq'
    obtain ⟨a1,a2,a3,a4,a5⟩:=h.ok q hq
    intro y
    have:=(hL.ok _ _ y).2
    omega
  · rw[h.sum k j hk hj,hc k j hk hj,List.map_append,List.sum_append]
    simp only[List.map_cons,List.map_nil,List.sum_cons,List.sum_nil]
    split<;>omega
end Bir
namespace L2
open PySem
theorem ra {X:Cx}{K:PySem.W.Frag} (hK:X.K=K):iQ X (.type "tuple") (fun xs H Q=>∃p ys,xs=[.ref p]∧((SqL K H p ys∧∀l,H l=none→Q (.ref l) (upd H l (.tup ys)))∨(SqT K H p ys∧Q (.ref p) H))):=by subst hK;exact uJ
end L2
namespace L3
open PySem L2
section
variable {K:PySem.W.Frag}{ρ:Bool}{Γr Γl Γ Γ1 Γ2 Γn M:List Nat}{t u:TS}{te ta tb td ty tv ti:TE}{de da db dd dk dv di:DE}{d e:DS}
theorem Rfs.JM {H:Hp}:∀{ds:List D}{vs:List V}{fp:List Addr}{i:Nat}{d:D},Rfs K H ds vs fp→fp.Nodup→ds[i]?=some d→∃v f,vs[i]?=some v∧Rf K H d v f∧(∀a∈f,a∈fp)∧f.Nodup
  | [],_,_,_,_,_,_,e=>by simp at e
  | d::ds,vs,fp,0,d',h,n,e=>by
    obtain ⟨x,r,f1,f2,rfl,rfl,h1,h2⟩:=h
    simp at e;subst e
    exact⟨x,f1,rfl,h1,fun a ha=>List.mem_append_left _ ha,(List.nodup_append.mp n).1⟩
  | d::ds,vs,fp,i+1,d',h,n,e=>by
    obtain ⟨x,r,f1,f2,rfl,rfl,h1,h2⟩:=h
    obtain ⟨v,f,e1,h3,k,n'⟩:=Rfs.JM (i:=i) h2 (List.nodup_append.mp n).2.1 (by simpa using e)
    exact⟨v,f,by simpa using e1,h3,fun a ha=>List.mem_append_right _ (k a ha),n'⟩
theorem DM {x y:D}{P:DK} (h:qm x y P):∃ds i d,x=.tup ds∧y=.int i∧atI ds i=some d∧P d:=by
  unfold qm at h
  split at h
  · split at h
    · exact⟨_,_,_,rfl,rfl,by assumption,h⟩
    · exact h.elim
  · exact h.elim
theorem HS {ds:List D}{i:Int}{d:D}{P:DK} (e:atI ds i=some d) (h:P d):qm (.tup ds) (.int i) P:=by
  show (match atI ds i with | some d=>P d | none=>False)
  rw[e];exact h
theorem Ew (ha:EM K Γ [] ta da) (hi:ER K Γ ti di):EM K Γ [] (tOp (C8 K) ta ti) (vOp qm da di) :=
  ⟨fun δ P P' k h=>ha.mono _ _ _ (fun x z=>hi.mono _ _ _ (fun y z=>by
      obtain ⟨ds,i,d,rfl,rfl,e,z1⟩:=DM z
      exact HS e (k _ z1)) z) h,
   fun {B0 fps δ σ H Q} o h=>ha.run o (ha.mono _ _ _ (fun x z v H1 fp s1 r1 n1=>hi.run (o.same s1) (hi.mono _ _ _ (fun y z w H2 s2 r2=>by
      obtain ⟨ds,i,d,rfl,rfl,ed,z1⟩:=DM z
      obtain ⟨a,xs,rfl,ha,hr⟩:=r1
      have ei:∃j,ixN ds.length i=some j∧ds[j]?=some d:=by
        unfold atI at ed
        cases q:ixN ds.length i with
        | none=>rw[q] at ed;cases ed
        | some j=>rw[q] at ed;exact⟨j,rfl,ed⟩
      obtain ⟨j,ej,edj⟩:=ei
      obtain ⟨u,f,hu,ru,hf,hn⟩:=hr.JM n1.nd edj
      exact⟨a,xs,i,u,rfl,r2.int,.inl (.inl (s2.st _ _ ha trivial)),by unfold atI;rw[hr.length,ej];exact hu,z1 u H2 f (s1.trans s2) (ru.same s2) ⟨hn,fun b hb=>(n1.mu b (hf b hb)).same s2,fun b hb=>n1.src b (hf b hb)⟩⟩) z)) h)⟩
def wm (xs:List D) (P:DK):Prop:=match xs with | [x]=>asL x fun ds=>ds.all D.aW=true∧P (.tup ds) | _=>False
theorem tK {ds:List D}{P:DK}:wm [.lst ds] P↔ds.all D.aW=true∧P (.tup ds):=Iff.rfl
theorem Ap:nD K (fun xs H Q=>∃p ys,xs=[.ref p]∧((SqL K H p ys∧∀l,H l=none→Q (.ref l) (upd H l (.tup ys)))∨(SqT K H p ys∧Q (.ref p) H))) wm :=
  ⟨fun xs P P' k h=>by
    unfold wm at h ⊢
    revert h
    split
    · exact fun h=>by obtain ⟨ds,e,z⟩:=dF h;exact kM e ⟨z.1,k _ z.2⟩
    · exact id,
   fun {H xs vs Q} r h=>by
    unfold wm at h
    split at h
    · obtain ⟨v,rfl,r0⟩:=r.one
      obtain ⟨ds,e,z1,z⟩:=dF h
      obtain ⟨a,ys,fq,rfl,hs,hr⟩:=r0.seq e
      obtain ⟨rfl,rfl⟩:=hr.j8 z1
      exact⟨a,_,rfl,.inl ⟨hs,fun l hl=>z _ _ [] (Same.mC hl) ⟨l,_,rfl,aG,hr.same (Same.mC hl)⟩ Nw.nil⟩⟩
    · exact h.elim⟩
def nA (ns:List Int):List Key:=ns.map fun n=>.inl n
theorem Ax:∀{ns:List Int},(nA ns).map kV=ns.map V.int
  | []=>rfl
  | n::ns=>by
    unfold nA
    rw[List.map_cons,List.map_cons,List.map_cons]
    exact congrArg _ Ax
def BJ (x:D) (P:List Int→Prop):Prop:=match x with | .tup ds=>(match jv ds with | some ns=>P ns | none=>False) | _=>False
theorem uc {x:D}{P:List Int→Prop} (h:BJ x P):∃ns,x=.tup (ns.map D.int)∧P ns:=by
  unfold BJ at h
  split at h
  · split at h
    · rename_i e;exact⟨_,by rw[qI e],h⟩
    · exact h.elim
  · exact h.elim
theorem wj {ns:List Int}{P:List Int→Prop}:BJ (.tup (ns.map D.int)) P↔P ns:=by
  unfold BJ
  show (match jv (ns.map D.int) with | some ns=>P ns | none=>False)↔P ns
  rw[ko]
def yE (x:D) (P:List (List Key × V)→Prop):Prop:=match x with | .dit kvs=>P kvs | _=>False
theorem qu {x:D}{P:List (List Key × V)→Prop} (h:yE x P):∃kvs,x=.dit kvs∧P kvs:=by
  unfold yE at h;split at h
  · exact⟨_,rfl,h⟩
  · exact h.elim
theorem u5 {kvs:List (List Key × V)}{P:List (List Key × V)→Prop}:yE (.dit kvs) P↔P kvs:=Iff.rfl
theorem C5:EM K Γ [] Fc (vC (.dit [])):=⟨fun _ _ _ k h=>k _ h,fun {B0 fps δ σ H Q} o q p hp=>q (.ref p) _ [p] (Same.mC hp) ⟨p,rfl,aG,fun _ h=>(nomatch h),rfl⟩
  ⟨by simp,fun a ha=>by cases List.mem_singleton.mp ha;exact .inr (.inr (.inl ⟨_,aG⟩)),fun a ha=>by cases List.mem_singleton.mp ha;exact .inl hp⟩⟩
theorem Rp.tupI {H:Hp}{ns:List Int}{v:V} (h:Rp K H (.tup (ns.map D.int)) v):∃b,v=.ref b∧H b=some (.tup ((nA ns).map kV)):=by
  obtain ⟨fp,a,xs,rfl,ha,hr⟩:=h
  rw[hr.yW] at ha
  exact⟨a,rfl,by rw[Ax];exact ha⟩
def C0 (dk dd:DE) (δ:Dl) (P:DK):Prop:=dk δ fun y=>dd δ fun x=>BJ y fun ns=>yE x fun kvs=>P (.bl (gS kvs (nA ns)).isSome)
theorem G6 (hk:ER K Γ ty dk) (hd:ER K Γ td dd):EM K Γ [] (JD ty td) (C0 dk dd) :=
  ⟨fun δ P P' k h=>hk.mono _ _ _ (fun x z=>hd.mono _ _ _ (fun y z=>by
      obtain ⟨ns,rfl,z1⟩:=uc z
      obtain ⟨kvs,rfl,z2⟩:=qu z1
      exact wj.mpr (k _ z2)) z) h,
   fun {B0 fps δ σ H Q} o h=>hk.run o (hk.mono _ _ _ (fun x z v H1 s1 r1=>hd.run (o.same s1) (hd.mono _ _ _ (fun y z w H2 s2 r2=>by
      obtain ⟨ns,rfl,z1⟩:=uc z
      obtain ⟨kvs,rfl,z2⟩:=qu z1
      obtain ⟨fp,a,rfl,ha,hf,_⟩:=r2
      obtain ⟨b,rfl,hb⟩:=r1.tupI
      exact⟨a,_,rfl,pX.t (k:=nA ns) ha (s2.st _ _ hb trivial),z2 _ H2 [] (s1.trans s2) ⟨rfl,rfl⟩ Nw.nil⟩) z)) h)⟩
theorem zu {kvs:List (List Key × V)}{k:List Key}{v:V} (h:∀p∈kvs,fG p.2=true) (hv:fG v=true):∀p∈putK kvs k v,fG p.2=true:=by
  intro p hp
  unfold putK at hp
  split at hp
  · obtain ⟨q,hq,rfl⟩:=List.mem_map.mp hp
    split
    · exact hv
    · exact h q hq
  · rcases List.mem_append.mp hp with z | z
    · exact h p z
    · cases List.mem_singleton.mp z;exact hv
def z5 (i:Nat) (dk dv:DE) (E:bC) (δ:Dl):Prop:=dv δ fun x=>x.aW=true∧lY i δ fun d=>yE d fun kvs=>dk δ fun y=>BJ y fun ns=>kvs.length<1000∧E.nx (δ.set i (some (.dit (putK kvs (nA ns) x.toV))))
theorem Cv (i:Nat) (hk:ER K Γ ty dk) (hv:ER K Γ tv dv) (hi:i∈Γ:=by decide):ST0 K (DL (pM i) ty tv) Γ Γ (z5 i dk dv):=by
  intro B0 Dn E fps δ σ H k o h
  refine hv.run o (hv.mono _ _ _ (fun x z v H1 s1 r=>?_) h)
  obtain ⟨zs,z⟩:=z
  obtain ⟨fp,r⟩:=r
  obtain ⟨rfl,rfl⟩:=r.aW zs
  obtain ⟨d,e,z⟩:=gG z
  obtain ⟨kvs,rfl,z⟩:=qu z
  have o1:=o.same s1
  obtain ⟨v,h1,h2⟩:=o1.val i _ e
  obtain ⟨a,rfl,ha,hf,hfp⟩:=id h2
  refine⟨.ref a,h1,hk.run o1 (hk.mono _ _ _ (fun y z w H2 s2 r2=>?_) z)⟩
  obtain ⟨ns,rfl,z9⟩:=uc z
  have o2:=o1.same s2
  obtain ⟨b,rfl,hb⟩:=r2.tupI
  refine⟨a,upd H2 a (.dT (putK kvs (nA ns) x.toV)),rfl,yo.t (k:=nA ns) (s2.st _ _ ha trivial) hb (qq (Nat.le_of_lt z9.1)),k (o2.write hi (d':=.dit (putK kvs (nA ns) x.toV)) (fp':=[a]) h1 ⟨a,rfl,aG,zu hf (ir zs),rfl⟩ (by simp) (fun b hb=>?_) (fun b hb=>?_) ?_) z9.2⟩
  · cases List.mem_singleton.mp hb;exact .inr (.inr (.inl ⟨_,aG⟩))
  · cases List.mem_singleton.mp hb;rw[hfp];exact .inl (List.mem_singleton.mpr rfl)
  · rw[hfp];exact pN (List.mem_singleton.mpr rfl)
end
end L3
namespace L3
open PySem L2
section
variable {K:PySem.W.Frag}{Γ:List Nat}
def Jw (xs:List D) (P:DK):Prop:=match xs with | [x]=>asL x fun ds=>P (.tup ds) | _=>False
theorem vX {ds:List D}{P:DK}:Jw [.lst ds] P↔P (.tup ds):=Iff.rfl
end
def isNum:D→Bool | .int _=>true | _=>false
def kn (d:D):Bool:=d.tyn.isSome
end L3
namespace L3
open PySem L2
section
variable {K:PySem.W.Frag}{ρ:Bool}{Γr Γl Γ:List Nat}
def zb (i j k:Nat) (E:bC) (δ:Dl):Prop:=A4 δ i fun es=>j<δ.length∧pB (es[k]?) fun ds=>(∀d∈ds,∃e,d=D.lst e)∧E.nx ((δ.set j none).set i none)
end
end L3
namespace L2
open PySem PySem.Spec PySem.Calls PyProof.Rows
abbrev lU (n:Nat):List Int:=(List.range n).map fun (k:Nat)=>(k:Int)
theorem A1:∀{vs:List Value}{ns:List Int},vs.length=ns.length→(∀(j:Nat) v,vs[j]?=some v→∃z t,ns[j]?=some z∧v=.int z t)→IntsAre vs ns
  | [],[],_,_=>.nil
  | v::vs,n::ns,hl,h=>by
    obtain ⟨z,t,e1,rfl⟩:=h 0 v rfl
    cases e1
    exact .cons _ _ (A1 (by simpa using hl) fun j v hv=>h (j+1) v (by rw[List.getElem?_cons_succ];exact hv))
  | [],_::_,hl,_=>by simp at hl
  | _::_,[],hl,_=>by simp at hl
section
variable {prog:Program}{w:World}{A:Around}{E:Value→Shared→Prop}{s:Shared}
theorem yd {R:List Value→Shared→Prop}{r:Addr}{n:Nat}{t u v:Tok} (hh:A.handled=none) (hr:IsRange s.heap r 0 (n:Int) 1 t u v) (hlen:n≤2 ^ 24)
    (h:∀(h':Heap) (tk:Nat) (vs:List Value),(∀b o,s.heap.get? b=some o→h'.get? b=some o)→s.heap.objs.size<h'.objs.size→IntsAre vs (lU n)→R vs { s with heap:=h',toks:=tk }) :
    wpAny (model prog w) A (collect (.ref r)) R E s:=by
  have hsz:Builtin.Range.rangeSize 0 (n:Int) 1=n:=by unfold Builtin.Range.rangeSize;rw[if_pos (by decide)];split<;>omega
  have hsm:Builtin.Range.small 0 (n:Int) 1=true:=small_one (by decide) (by decide) (by omega) (by omega)
  have items:∀{acc:Array Value},ItemsOf (fun i v=>∃t,v=.int (0+i*1) t) acc n→IntsAre acc.toList (lU n):=fun {acc} hI=>by
    refine A1 (by rw[Array.length_toList,hI.1,List.length_map,List.length_range]) fun j v hv=>?_
    have hj:j<n:=by rw[← hI.1,← Array.length_toList];exact (List.getElem?_eq_some_iff.mp hv).1
    obtain ⟨t,rfl⟩:=hI.2 j v (by simpa using hv)
    exact⟨j,t,by rw[List.getElem?_map,List.getElem?_range hj];rfl,by simp⟩
  unfold collect
  refine wpAny_bind (wpAny_runValue (codeAny_builtin entry_proto_collect' ?_))
  rw[Around.under_plainId PySem.F.plain_proto_collect _]
  show wpAny _ A.in1 (newList [] >>= fun l=>again (.builtin "list.__iadd__" ⟨[l,.ref r],[]⟩)) _ _ s
  refine wpAny_bind (wpAny_newObj_type ?_)
  refine wpAny_pure ⟨plainId_quiet PySem.F.plain_list_iadd _,codeAny_builtin entry_list_iadd' ?_⟩
  rw[Around.under_plainId PySem.F.plain_list_iadd _]
  have hS₁:(s.heap.push { cls:=.type "list",data:=.seq ([]:List Value).toArray }).get? s.heap.objs.size=some { cls:=.type "list",data:=.seq #[] }:=Heap.get?_push_size _ rfl
  show wpAny _ A.in1 (Builtin.List.listExtendWith (.ref s.heap.objs.size) (.ref r) (.ref s.heap.objs.size)) _ _ _
  have key:=wpAny_extend_range (A:=A) (prog:=prog) (w:=w) (s:={ s with heap:=s.heap.push { cls:=.type "list",data:=.seq ([]:List Value).toArray } })
    (R:=fun (q:Result) (s':Shared)=>∃(h':Heap) (tk:Nat) (acc':Array Value) (c':Nat),q=.ok (.ret (.ref s.heap.objs.size))∧s'={ s with heap:=h',toks:=tk } ∧
      (∀b o,s.heap.get? b=some o→h'.get? b=some o)∧h'.get? s.heap.objs.size=some { cls:=.type "list",dict:=none,data:=.seq acc' c',slots:=#[] }∧IntsAre acc'.toList (lU n))
    hh (Heap.get?_push_of_some _ hr) hsm hsz hlen s.heap.objs.size (.ref s.heap.objs.size) 0 hS₁
    (fun h' tk acc' c' hk hS' hI=>⟨h',tk,acc',c',rfl,rfl,fun b o e=>hk b o (Nat.ne_of_lt (Heap.lt_size e)) (Heap.get?_push_of_some _ e),hS',items hI⟩)
  refine wpAny_mono key (fun fin s' x=>?_) fun e s' x=>?_
  · cases fin with
    | done f =>
      obtain ⟨h',tk,acc',c',e,rfl,hk,hS',hI⟩:=x
      cases e
      show wpAny _ A (load s.heap.objs.size >>= _) _ _ _
      refine wpAny_bind (wpAny_load hS' ?_)
      exact wpAny_pure (h h' tk acc'.toList hk (Heap.lt_size hS') hI)
    | again c₁ =>
      refine⟨x.1,codeAny_mono x.2 fun q s₂ y=>?_⟩
      obtain ⟨h',tk,acc',c',rfl,rfl,hk,hS',hI⟩:=y
      show wpAny _ A (load s.heap.objs.size >>= _) _ _ _
      refine wpAny_bind (wpAny_load hS' ?_)
      exact wpAny_pure (h h' tk acc'.toList hk (Heap.lt_size hS') hI)
  · obtain ⟨_,_,_,_,e',_⟩:=x
    cases e'
def zv (h:Heap) (L:Addr):List (Addr × Obj):=(List.range h.objs.size).filterMap fun a=>if a=L then none else (h.get? a).map fun o=>(a,o)
theorem ow {h:Heap}{L a:Addr}{o:Obj}:(a,o)∈zv h L↔a≠L∧h.get? a=some o:=by
  unfold zv
  rw[List.mem_filterMap]
  constructor
  · rintro ⟨b,_,e⟩
    by_cases hb:b=L
    · rw[if_pos hb] at e;cases e
    · rw[if_neg hb] at e
      cases q:h.get? b with
      | none=>rw[q] at e;cases e
      | some o'=>rw[q] at e;cases e;exact⟨hb,q⟩
  · rintro ⟨h1,h2⟩
    exact⟨a,List.mem_range.mpr (Heap.lt_size h2),by rw[if_neg h1,h2];rfl⟩
def intOf:Value→Int
  | .int z _=>z
  | _=>0
theorem wu:∀{vs:List Value}{ns:List Int},IntsAre vs ns→∀(j:Nat) v,vs[j]?=some v→∃z t,ns[j]?=some z∧v=.int z t
  | _,_,.nil,j,v,h=>by simp at h
  | _,_,.cons n t hr,0,v,h=>by cases h;exact⟨n,t,rfl,rfl⟩
  | _,_,.cons n t hr,j+1,v,h=>by
    rw[List.getElem?_cons_succ] at h ⊢
    exact wu hr j v h
theorem intsAre_map:∀{vs:List Value},(∀v∈vs,∃t,v=.int (intOf v) t)→IntsAre vs (vs.map intOf)
  | [],_=>.nil
  | v::vs,h=>by
    obtain ⟨t,e⟩:=h v List.mem_cons_self
    rw[List.map_cons,e]
    exact .cons _ _ (intsAre_map fun x hx=>h x (List.mem_cons_of_mem _ hx))
theorem xQ:∀{vs:List Value}{ns:List Int},IntsAre vs ns→vs.map intOf=ns
  | _,_,.nil=>rfl
  | _,_,.cons n t hr=>by rw[List.map_cons,xQ hr];rfl
theorem z6 {Q:Value→Shared→Prop}{r f L:Addr}{n:Nat}{t u v:Tok}{m:Str→Option Value}{key:Nat→Int} (hh:A.handled=none) (hr:IsRange s.heap r 0 (n:Int) 1 t u v) (h64:n<64) (hL:s.heap.Ns L m)
    (turn:∀(j:Nat) (t0:Tok) (h:Heap) (tk:Nat),j<n→(∀b o,b≠L→s.heap.get? b=some o→h.get? b=some o)→h.Ns L m →
      wpAny (model prog w) A.in1.in1 (call (.ref f) [.int (j:Int) t0]) (fun v s2=>∃h' tk' t',s2={ s with heap:=h',toks:=tk' }∧v=.int (key j) t'∧(∀b o,b≠L→h.get? b=some o→h'.get? b=some o)∧h'.Ns L m) (fun _ _=>False) { s with heap:=h,toks:=tk })
    (hQ:∀(h':Heap) (tk:Nat) (D:Addr) (out:Array Value) (c:Nat) (ms:List Int),(∀b o,b≠L→s.heap.get? b=some o→h'.get? b=some o)→h'.Ns L m→h'.get? D=some (seqObj "list" out c)→s.heap.objs.size≤D →
      IntsAre out.toList ms→ms.Perm (lU n)→ms.Pairwise (fun a b=>key a.toNat≤key b.toNat)→Q (.ref D) { s with heap:=h',toks:=tk }) :
    wpAny (model prog w) A (call (.builtin "sorted") [.ref r] [(Str.ofString "key",.ref f)]) Q E s:=by
  refine call_function_entry_kw kind_sorted plain_sorted entry_sorted (ksk_s1 _ _) ?_
  unfold Builtin.«sorted»
  refine wpAny_bind (m:=checkCount "sorted" 1 1 _) (wpAny_pure ?_)
  refine wpAny_bind (yd (A:=A.in1) hh hr (by omega) fun h1 tk1 vs k1 hgr hvs=>?_)
  have hvl:vs.length=n:=by rw[hvs.length,List.length_map,List.length_range]
  refine wpAny_bind (wpAny_newList ?_ (by rw[sizeLine_eq];omega))
  have hoL:(h1.push (seqObj "list" vs.toArray 0)).get? h1.objs.size=some (seqObj "list" vs.toArray 0):=Heap.get?_push_size _ rfl
  have k2:∀b o,s.heap.get? b=some o→(h1.push (seqObj "list" vs.toArray 0)).get? b=some o:=fun b o e=>Heap.get?_push_of_some _ (k1 b o e)
  have hle:s.heap.objs.size≤h1.objs.size:=Nat.le_of_lt hgr
  show wpAny _ _ _ _ _ { s with heap:=h1.push (seqObj "list" vs.toArray 0),toks:=tk1 }
  refine wpAny_bind (wpAny_holding (wpAny_call_entry_kw slot_list_sort ⟨_,hoL,rfl⟩ entry_list_sort ?body (ksk_l1 _ _)))
  show wpAny (model prog w) A.in1.in1 (Builtin.«list.sort» ⟨[.ref h1.objs.size],[(Str.ofString "key",.ref f)]⟩) _ _ _
  rw[ksk_t1]
  have hLn:(h1.push (seqObj "list" vs.toArray 0)).Ns L m:=by
    obtain ⟨o,es,ep,e1,e2⟩:=hL
    exact⟨o,es,ep,k2 L o e1,e2⟩
  have hLlt:L<s.heap.objs.size:=hL.lt
  have hLne:h1.objs.size≠L:=Nat.ne_of_gt (Nat.lt_of_lt_of_le hLlt hle)
  refine ksk_sort (kz:=(List.range n).map key) (h₀:=⟨#[],{}⟩) (L:=L) (m:=m) (news:=(zv (h1.push (seqObj "list" vs.toArray 0)) L).filter fun p=>decide (p.1≠h1.objs.size)) (s:={ s with heap:=h1.push (seqObj "list" vs.toArray 0),toks:=tk1 })
    ⟨hLn,fun b o e=>by simp [Heap.get?] at e,Nat.zero_le _⟩ (fun p hp=>?_) hoL hLne (by simp [Heap.get?]) (fun p hp=>of_decide_eq_true (List.mem_filter.mp hp).2) (by rw[List.length_map,List.length_range,hvl]) (by omega) ?_ ?_
  · obtain ⟨q1,q2⟩:=ow.mp (List.mem_filter.mp hp).1
    exact⟨q2,q1,by simp [Heap.get?]⟩
  · intro i v k hv hk h tk own F N
    obtain ⟨z,t0,e1,rfl⟩:=wu hvs i v hv
    have hi:i<n:=by rw[← hvl];exact (List.getElem?_eq_some_iff.mp hv).1
    rw[List.getElem?_map,List.getElem?_range hi] at e1 hk
    cases e1
    cases hk
    have kh:∀b o,b≠L→s.heap.get? b=some o→h.get? b=some o:=fun b o hb e =>
      (N (b,o) (List.mem_append_left _ (List.mem_filter.mpr ⟨ow.mpr ⟨hb,k2 b o e⟩,decide_eq_true (Nat.ne_of_lt (Nat.lt_of_lt_of_le (Heap.lt_size e) hle))⟩))).1
    refine wpAny_mono (turn i t0 h tk hi kh F.ns) (fun v s2 ⟨h',tk',t',e1,e2,kk,nn⟩=>?_) fun _ _ z=>z
    exact⟨h',tk',t',e1,e2,⟨nn,fun b o e=>by simp [Heap.get?] at e,Nat.zero_le _⟩,fun p hp=>⟨kk _ _ (N p hp).2.1 (N p hp).1,(N p hp).2⟩⟩
  · intro h' tk out c F N ⟨ps,hp,ho,hs⟩
    refine⟨_,rfl,wpAny_pure ⟨_,rfl,?_⟩⟩
    have hz:∀p∈ps,(∃t,p.2=.int (intOf p.2) t)∧p.1=key (intOf p.2).toNat:=fun p hpm=>by
      obtain ⟨j,hj⟩:=List.mem_iff_getElem?.mp (hp.mem_iff.mp hpm)
      obtain ⟨g1,g2⟩:=List.getElem?_zip_eq_some.mp hj
      obtain ⟨z,t0,e1,e2⟩:=wu hvs j _ g2
      have hjn:j<n:=by rw[← hvl];exact (List.getElem?_eq_some_iff.mp g2).1
      rw[List.getElem?_map,List.getElem?_range hjn] at e1 g1
      cases e1
      refine⟨⟨t0,by rw[e2];rfl⟩,?_⟩
      rw[e2]
      show p.1=key (j:Int).toNat
      rw[Int.toNat_natCast]
      exact (Option.some.inj g1).symm
    refine hQ h' tk h1.objs.size out c (ps.map fun p=>intOf p.2) (fun b o hb e=>?_) F.ns (N _ List.mem_cons_self).1 hle ?_ ?_ ?_
    · exact (N (b,o) (List.mem_cons_of_mem _ (List.mem_filter.mpr ⟨ow.mpr ⟨hb,k2 b o e⟩,decide_eq_true (Nat.ne_of_lt (Nat.lt_of_lt_of_le (Heap.lt_size e) hle))⟩))).1
    · rw[ho,show (ps.map fun p=>intOf p.2)=(ps.map Prod.snd).map intOf by rw[List.map_map];rfl]
      refine intsAre_map fun v hv=>?_
      obtain ⟨p,hpm,rfl⟩:=List.mem_map.mp hv
      exact (hz p hpm).1
    · refine (hp.map fun p=>intOf p.2).trans ?_
      rw[show (((List.range n).map key).zip vs).map (fun p=>intOf p.2)=(((List.range n).map key).zip vs |>.map Prod.snd).map intOf by rw[List.map_map];rfl,List.map_snd_zip (by rw[List.length_map,List.length_range,hvl];exact Nat.le_refl _),xQ hvs]
    · rw[List.pairwise_map]
      refine hs.imp_of_mem fun {a b} ha hb h=>?_
      rw[← (hz a ha).2,← (hz b hb).2]
      exact h
end
end L2
namespace L2
open PySem PySem.Spec PySem.Calls PyProof.Rows
abbrev rA (x y:Str) (p1 p2 p3 p4:Pos):Expr:=.UnaryOp .USub (.Subscript (.Name x p1) (.Name y p2) p3) p4
section
variable {prog:Program}{w:World}{A:Around}{E:Value→Shared→Prop}{s:Shared}
theorem CU {Q:Value→Shared→Prop}{f c' cr a:Addr}{q x y:Str}{params:Arguments}{scope:Scope}{p1 p2 p3 p4:Pos}{pm ctv:Value}{t0 tz:Tok}{j:Nat}{z:Int}{items:Array Value}
    (ho:s.heap.get? f=some (PySem.W.kla_obj "<lambda>" q params (rA x y p1 p2 p3 p4) scope [(x,cr)] pm c' ctv)) (hcd:s.heap.CodeRec (.ref c') q) (hroom:A.depth<recursionLimit) (hnl:s.heap.NoLimit)
    (hcell:s.heap.IsCell cr (some (.ref a))) (hl:s.heap.IsList a items) (hx:items[j]?=some (.int z tz)) (hj:j<2 ^ 62)
    (hb:∀v:Value,bindArgs (PySem.W.kla_fn "<lambda>" q params (rA x y p1 p2 p3 p4) scope [(x,cr)] pm (.ref c') ctv) ⟨[v],[]⟩=pure [(y,v)])
    (hy:scope.names.lookup y=some .local) (hxf:scope.names.lookup x=some .free) (hnc:∀n∈scope.names,n.2≠.cell) (hk:scope.kind=.function) (hco:scope.isCoroutine=false) (hgen:scope.isGenerator=false)
    (hdx:(x == ("__debug__" : Str))=false) (hdy:(y == ("__debug__" : Str))=false) (hcx:(x == ("__classdict__" : Str))=false)
    (hQ:∀(h':Heap) (tk:Nat) (t':Tok),(∀b o,s.heap.get? b=some o→h'.get? b=some o)→Q (.int (-z) t') { s with heap:=h',toks:=tk }) :
    wpAny (model prog w) A (call (.ref f) [.int (j:Int) t0]) Q E s:=by
  refine wpAny_call (PySem.W.kla_callFunE hroom ho rfl hco hgen rfl hcd ?_)
  rw[hb]
  refine wpAny_pure (wpAny_newFunctionEnv hnc (fun p hp=>?_) (fun h₁ hns hsb=>⟨hnl.fresh _ hsb,?_⟩) hk)
  · rw[List.mem_singleton.mp hp];exact hy
  have hk₁:∀b o,s.heap.get? b=some o→h₁.get? b=some o:=fun b o e=>hsb.extBut b o (Nat.ne_of_lt (Heap.lt_size e)) (Heap.get?_push_of_some _ e)
  refine PySem.W.kla_codeExpr ?_
  refine UnaryOp_ (Subscript_ ?_)
  refine wpAny_Name (wpAny_loadName_free (c:=cr) (v:=.ref a) hk hxf ?_ (let ⟨o,e,d⟩:=hcell;⟨o,hk₁ _ o e,d⟩) ?_ hcx) hdx
  · show List.lookup x [(x,cr)]=some cr
    rw[List.lookup_cons_self]
  refine wpAny_Name (wpAny_loadName_local (v:=.int (j:Int) t0) hk hy hns ?_ ?_) hdy
  · show List.lookup y [(y,Value.int (j:Int) t0)]=_
    rw[List.lookup_cons_self]
  refine item_listR (hl.at fun o e=>hk₁ _ o e) (by omega) (by omega) (by rw[Int.toNat_natCast];exact hx) ?_
  exact neg_int (hQ _ _ _ hk₁)
end
end L2
namespace L3
open PySem L2 PySem.Calls PyProof.Rows
def JA (te:TE):TE:=fun σ H Q=>te σ H fun x H1=>∃n:Nat,x=.int (n:Int)∧∀r,H1 r=none→Q (.ref r) (upd H1 r (.rng 0 n))
section
variable {X:Cx}
theorem Ia {e:Expr}{te:TE}{p pos:Pos} (hg:Gl X "range") (hm:X.mg "range" = none) (he:PE X e te) (hs:starEach [e] X.env=[(false,eval e X.env)]:=by rfl) :
    PE X (.Call (.Name "range" p) [e] [] pos) (JA te):=by
  intro pins s σ H Q I h
  refine wpAny_Call_Name_kw (lR I hg hm boot_range ?_)
  refine PyProof.Rows.callWith_type1 ?_ hs rfl
  rw[hs]
  refine Calls.spliced_cons (thn (he pins s σ H _ I h) fun v s1 ⟨x,H1,I1,r1,n,ex,q⟩=>?_)
  subst ex
  obtain ⟨t,rfl⟩:=r1
  refine Calls.spliced_nil (call_range_1 ?_)
  have hn:H1 s1.heap.objs.size=none:=I1.hok.fresh (Nat.le_refl _)
  exact⟨.ref s1.heap.objs.size,_,I1.laid (o:=.rng 0 (n:Int)) (fun b o e=>Heap.get?_push_of_some _ e) (Nat.le_refl _) ⟨_,_,_,Heap.get?_push_size _ rfl⟩,rfl,q _ hn⟩
end
theorem o9 {a b:Int}{t u:Tok}{c:Value}:∀{l:List Value},TriplesOk l→TriplesOk (l++[.int a t,.int b u,c])
  | [],_=>trivial
  | .int _ _::.int _ _::_::rest,h=>o9 (l:=rest) h
theorem uj {pos:Pos}{a b:Int}{t u:Tok}{c cv:Value}:∀{l:List Value},TriplesOk l→codeAmong pos (l++[.int a t,.int b u,c])=some cv→codeAmong pos l=some cv∨cv=c
  | [],_,h=>by
    simp only[List.nil_append,codeAmong] at h
    split at h
    · exact .inr (Option.some.inj h).symm
    · cases h
  | .int l1 t1::.int c1 u1::x::rest,ht,h=>by
    simp only[List.cons_append,codeAmong] at h ⊢
    split at h
    · rename_i e
      rw[if_pos e];exact .inl h
    · rename_i e
      rw[if_neg e]
      exact uj (l:=rest) ht h
section
variable {X:Cx}{x y:Str}{params:Arguments}{scope:Scope}{pos p1 p2 p3 p4:Pos}{cr c P:Addr}
def wV (x y:Str) (params:Arguments) (scope:Scope) (p1 p2 p3 p4:Pos) (cr:Addr) (pm:Value) (f c':Addr):HO :=
  .ext fun h=>∃ctv,h.get? f=some (PySem.W.kla_obj "<lambda>" yU params (rA x y p1 p2 p3 p4) scope [(x,cr)] pm c' ctv)
def BMd (base:Heap) (mg:Str→Option Value):Prop:=∃bm ob,mg "__builtins__" = some (.ref bm)∧bm≠builtinsNs∧base.get? bm=some ob∧ob.cls=.type "module"∧ob.dict=some builtinsNs∧ob.data=.plain
theorem GN {h:Heap}{c':Addr}{P:Program}{w:World}{H:Hp} (hr:h.CodeRec (.ref c') yU):cY P w H h c' (uT c'):=by
  refine⟨hr,?_,fun h1 h2 ⟨c,o,vs,t,e1,e2,e3⟩ k=>?_⟩
  · obtain ⟨c,o,vs,t,e1,e2,e3⟩:=hr
    cases e1
    exact⟨o,e2⟩
  · cases e1
    exact⟨_,o,vs,t,rfl,k o e2,e3⟩
theorem AA {h:Heap}{f c':Addr}{P:Program}{w:World}{H:Hp}{pm ctv:Value} (hf:h.get? f=some (PySem.W.kla_obj "<lambda>" yU params (rA x y p1 p2 p3 p4) scope [(x,cr)] pm c' ctv)) :
    cY P w H h f (wV x y params scope p1 p2 p3 p4 cr pm f c'):=⟨⟨ctv,hf⟩,⟨_,hf⟩,fun h1 h2 ⟨ctv,e⟩ k=>⟨ctv,k _ e⟩⟩
def JF (P:Addr) (F:Addr→Addr→HO):TE:=fun σ H Q=>TabAt P H∧∀f c' H',Same H H'→H f=none→H' f=some (F f c')→H' c'=some (uT c')→Q (.ref f) H'
theorem Iq (hcl:closureFor scope X.env=pure [(x,cr)]) (hcode:X.env.code=.ref c) (hcd:PySem.W.codeHdIn X.K c P=true) (hq:X.env.qual++"<lambda>" = yU) (hdef:defaultsOf params X.env=([],[])) (hbm:BMd X.base X.mg) :
    PE X (.Lambda params (rA x y p1 p2 p3 p4) scope pos) (JF P (wV x y params scope p1 p2 p3 p4 cr ((X.mg "__name__").getD .none))):=by
  intro pins s σ H Q I h
  obtain ⟨⟨ps,hP,ht,hci⟩,q⟩:=h
  have hPo:s.heap.get? P=some (PySem.W.tabObj ps):=I.hok P _ hP
  have KX:X.K.In s.heap:=I.mod.kin.keeps I.bk
  have C:=PySem.W.codeHd_of_K KX hcd
  have hgs:s.heap.Ns mainGlobals X.mg:=I.mod.glob.keeps I.bk
  have hgP:mainGlobals≠P:=fun e=>by
    obtain ⟨o,es,ep,e1,e2,_⟩:=hgs
    rw[e,hPo] at e1;cases e1;cases e2
  obtain ⟨bm,ob,b1,b2,b3,b4,b5,b6⟩:=hbm
  have b3':=I.bk _ _ b3
  have hbG:bm≠mainGlobals:=fun e=>by
    obtain ⟨o,es,ep,e1,e2,_⟩:=hgs
    rw[← e,b3'] at e1;cases e1;rw[b6] at e2;cases e2
  have hbP:bm≠P:=fun e=>by rw[e,hPo] at b3';cases b3';cases b4
  refine PySem.W.kla_eval hdef ?_
  rw[hq]
  cases hf:codeAmong pos ps.toList with
  | none =>
    refine PySem.W.kla_makeFunction (mg:=X.mg) hcl I.ok.glob hgs hcode C hPo ht hf hgP ⟨bm,ob,b1,b2,hbG,hbP,b3',b4,b5,b6⟩ fun c' ctv h' tk hx hge hlt hrec htb=>?_
    have hfs:s.heap.objs.size≤h'.objs.size:=Nat.le_trans hge (Nat.le_of_lt hlt)
    have hnf:H h'.objs.size=none:=I.hok.fresh hfs
    have hnc:H c'=none:=I.hok.fresh hge
    have nPc:P≠c':=bG hP hnc
    have nPf:P≠h'.objs.size:=bG hP hnf
    have ncf:c'≠h'.objs.size:=Nat.ne_of_lt hlt
    generalize hps:ps++#[rawInt pos.line,rawInt pos.col,.ref c']=ps' at htb
    have hpl:ps'.toList=ps.toList++[rawInt pos.line,rawInt pos.col,.ref c']:=by rw[← hps,Array.toList_append]
    have keepH:∀b u,b≠P→H b=some u→upd (upd (upd H P (.tbl ps')) c' (uT c')) h'.objs.size (wV x y params scope p1 p2 p3 p4 cr ((X.mg "__name__").getD .none) h'.objs.size c') b=some u:=fun b u hb e=>by
      rw[aV (bG e hnf),aV (bG e hnc),aV hb];exact e
    have atP:upd (upd (upd H P (.tbl ps')) c' (uT c')) h'.objs.size (wV x y params scope p1 p2 p3 p4 cr ((X.mg "__name__").getD .none) h'.objs.size c') P=some (.tbl ps'):=by
      rw[aV nPf,aV nPc,aG]
    have atC:upd (upd (upd H P (.tbl ps')) c' (uT c')) h'.objs.size (wV x y params scope p1 p2 p3 p4 cr ((X.mg "__name__").getD .none) h'.objs.size c') c'=some (uT c'):=by
      rw[aV ncf,aG]
    have np:∀{b u},H b=some u→NT u→b≠P:=fun {b u} e n z=>by
      subst z;rw[hP] at e;cases e;exact n
    have sm:Same H (upd (upd (upd H P (.tbl ps')) c' (uT c')) h'.objs.size (wV x y params scope p1 p2 p3 p4 cr ((X.mg "__name__").getD .none) h'.objs.size c')):=by
      refine⟨fun b u e n=>keepH b u (np e n) e,fun b qs e=>?_,fun P' ⟨qs,e,g1,g2⟩=>?_⟩
      · by_cases z:b=P
        · subst z;exact⟨_,atP⟩
        · exact⟨qs,keepH b _ z e⟩
      · by_cases z:P'=P
        · subst z
          rw[hP] at e;cases e
          refine⟨ps',atP,by rw[hpl];exact o9 g1,fun pos' cv z=>?_⟩
          rw[hpl] at z
          rcases uj g1 z with z | z
          · obtain ⟨c2,z1,z2⟩:=g2 pos' cv z
            exact⟨c2,z1,keepH c2 _ (np z2 trivial) z2⟩
          · exact⟨c',z,atC⟩
        · exact⟨qs,keepH P' _ z e,g1,fun pos' cv z=>let ⟨c2,z1,z2⟩:=g2 pos' cv z;⟨c2,z1,keepH c2 _ (np z2 trivial) z2⟩⟩
    have up:∀b o,b≠P→s.heap.get? b=some o→(h'.push (PySem.W.kla_obj "<lambda>" yU params (rA x y p1 p2 p3 p4) scope [(x,cr)] ((X.mg "__name__").getD .none) c' ctv)).get? b=some o:=fun b o hb e=>Heap.get?_push_of_some _ (hx b o hb e)
    have nL:X.env.locals≠P:=fun e=>by
      have:=I.free
      rw[e,hP] at this;cases this
    have nn:∀{b:Addr},H b=none→b≠P:=fun {b} e z=>by subst z;rw[hP] at e;cases e
    refine⟨.ref h'.objs.size,_,?_,rfl,q h'.objs.size c' _ sm hnf aG atC⟩
    refine I.step (g':=s.gens) (d':=s.drawn) (t':=tk) (ch:=[]) (fun _ z=>nomatch z) (fun b o _ _ _ e n=>up b o (nn n) e) (fun b o _ _ _ e n=>⟨o.slots,up b o (nn n) e⟩) (fun b o _ e n=>?_) (fun b o _ e=>?_)
      (fun b xs e=>sm.st b _ e trivial) (fun b o u e=>sm.st b _ e trivial) (fun b qs e=>?_) (fun m hm=>?_) (fun b o e=>?_) I.bare
    · have hb:=Heap.lt_size e
      rw[aV (Nat.ne_of_lt (Nat.lt_of_lt_of_le hb hfs)),aV (Nat.ne_of_lt (Nat.lt_of_lt_of_le hb hge)),aV (nn n)];exact n
    · by_cases z:b=P
      · subst z;exact⟨_,Heap.get?_push_of_some _ htb⟩
      · exact⟨o,up b o z e⟩
    · by_cases z:b=P
      · subst z
        rw[hP] at e;cases e
        exact⟨#[rawInt pos.line,rawInt pos.col,.ref c'],by rw[hps];exact atP⟩
      · exact⟨#[],by rw[keepH b _ z e];simp⟩
    · obtain ⟨o,es,ep,ho,r⟩:=hm
      exact⟨o,es,ep,up _ o nL ho,r⟩
    · by_cases zf:b=h'.objs.size
      · subst zf
        rw[aG] at e;cases e
        exact AA (Heap.get?_push_size _ rfl)
      rw[aV zf] at e
      by_cases zc:b=c'
      · subst zc
        rw[aG] at e;cases e
        exact GN (let ⟨cc,o,vs,t,e1,e2,e3⟩:=hrec;⟨cc,o,vs,t,e1,Heap.get?_push_of_some _ e2,e3⟩)
      rw[aV zc] at e
      by_cases zP:b=P
      · subst zP
        rw[aG] at e;cases e
        exact Heap.get?_push_of_some _ htb
      rw[aV zP] at e
      refine (I.hok b o e).wH (fun d w' hd z=>up d w' (fun y=>?_) z) (fun d z=>sm.st d _ z trivial) fun d xs z=>sm.st d _ z trivial
      subst y
      rcases hd with hd | hd
      · exact zP hd.symm
      · rw[hP] at hd;cases hd
  | some cv =>
    obtain ⟨c',rfl,hc'⟩:=hci pos cv hf
    refine PySem.W.kla_makeFunctionHit (mg:=X.mg) hcl I.ok.glob hgs hcode C hPo ht hf ⟨bm,ob,b1,b2,hbG,hbP,b3',b4,b5,b6⟩ fun ctv h' tk hk hsz=>?_
    have hn:H h'.objs.size=none:=I.hok.fresh hsz
    have hcf:c'≠h'.objs.size:=bG hc' hn
    exact⟨.ref h'.objs.size,_,I.laid (a:=h'.objs.size) (t':=tk) (o:=wV x y params scope p1 p2 p3 p4 cr ((X.mg "__name__").getD .none) h'.objs.size c') (fun b o e=>Heap.get?_push_of_some _ (hk b o e)) hsz (AA (Heap.get?_push_size _ rfl)),rfl,
      q _ c' _ (Same.mC hn) hn aG (by rw[aV hcf];exact hc')⟩
end
end L3
namespace L3
open PySem L2 PySem.Calls PyProof.Rows
theorem IB {h:Heap}{L:Addr}{m m':Str→Option Value} (a:h.Ns L m) (b:h.Ns L m'):m=m':=by
  obtain ⟨o,es,ep,e1,e2,_,e3⟩:=a
  obtain ⟨o',es',ep',f1,f2,_,f3⟩:=b
  rw[e1] at f1;cases f1
  rw[e2] at f2;cases f2
  funext x
  rw[← e3 x,← f3 x]
def xU (K:PySem.W.Frag) (P:Addr) (i:Nat):TE:=fun σ H Q=>∃(a:Addr) (ns:List Int),σ[i]?=some (some (.ref a))∧SqL K H a (ns.map V.int)∧ns.length<64∧TabAt P H ∧
  ∀(l:Addr) (H':Hp) (ms:List Int),Same H H'→H l=none→H' l=some (.lst (ms.map V.int))→ms.Perm (lU ns.length)→ms.Pairwise (fun a b=>-(ns.getD a.toNat 0)≤-(ns.getD b.toNat 0))→Q (.ref l) H'
section
variable {X:Cx}{K:PySem.W.Frag}{x y:Str}{params:Arguments}{scope:Scope}{pos p1 p2 p3 p4:Pos}{cr c P:Addr}{i:Nat}{el:Expr}{tl:TE}{ps pr q2 q3 kpos:Pos}
theorem Aa (hK:X.K=K) (hc:X.calm=true) (hg:Gl X "sorted") (hm:X.mg "sorted" = none) (hg2:Gl X "range") (hm2:X.mg "range" = none) (hl:PE X el tl)
    (htl:∀σ H Q a xs,σ[i]?=some (some (.ref a))→SqL X.K H a xs→Q (.int (xs.length:Int)) H→tl σ H Q)
    (hN:X.N[i]?=some x) (hv:Vis X.env.scope x) (hkx:X.env.kindOf x=some .cell) (hcr:X.env.cells.lookup x=some cr) (hroom:X.A.in1.in1.depth<recursionLimit)
    (hcl:closureFor scope X.env=pure [(x,cr)]) (hcode:X.env.code=.ref c) (hcd:PySem.W.codeHdIn X.K c P=true) (hq:X.env.qual++"<lambda>" = yU) (hdef:defaultsOf params X.env=([],[])) (hbm:BMd X.base X.mg)
    (hb:∀(v pm ctv:Value) (c':Addr),bindArgs (PySem.W.kla_fn "<lambda>" yU params (rA x y p1 p2 p3 p4) scope [(x,cr)] pm (.ref c') ctv) ⟨[v],[]⟩=pure [(y,v)])
    (hy:scope.names.lookup y=some .local) (hxf:scope.names.lookup x=some .free) (hnc:∀n∈scope.names,n.2≠.cell) (hk:scope.kind=.function) (hco:scope.isCoroutine=false) (hgen:scope.isGenerator=false)
    (hdx:(x == ("__debug__" : Str))=false) (hdy:(y == ("__debug__" : Str))=false) (hcx:(x == ("__classdict__" : Str))=false)
    (he:backTo q3 (starEach [Expr.Call (.Name "range" pr) [el] [] q2] X.env)=(false,eval (.Call (.Name "range" pr) [el] [] q2) X.env)::backTo q3 (starEach [] X.env):=by rfl)
    (hs:starEach [el] X.env=[(false,eval el X.env)]:=by rfl)
    (hplain:(backTo q3 (starEach [Expr.Call (.Name "range" pr) [el] [] q2] X.env)).any (·.1)=false:=by rfl)
    (hall:(backToKw q3 (keywordEach [⟨some "key",.Lambda params (rA x y p1 p2 p3 p4) scope pos,kpos⟩] X.env)).all (·.1.isSome)=true:=by rfl)
    (hkn:(backToKw q3 (keywordEach [⟨some "key",.Lambda params (rA x y p1 p2 p3 p4) scope pos,kpos⟩] X.env)).any (·.1.isNone)=false:=by rfl)
    (hks:(backToKw q3 (keywordEach [⟨some "key",.Lambda params (rA x y p1 p2 p3 p4) scope pos,kpos⟩] X.env)).filterMap (·.1)=[("key" : Str)]:=by rfl) :
    PE X (.Call (.Name "sorted" ps) [.Call (.Name "range" pr) [el] [] q2] [⟨some "key",.Lambda params (rA x y p1 p2 p3 p4) scope pos,kpos⟩] q3) (xU K P i):=by
  subst hK
  intro pins s σ H Q I h
  obtain ⟨a,ns,hσ,hS,h64,hT,q⟩:=h
  have hpa:PA X [Expr.Call (.Name "range" pr) [el] [] q2] (jr (JA tl) rm):=af (Ia hg2 hm2 hl hs) aj
  have hpk:PK X [⟨some "key",.Lambda params (rA x y p1 p2 p3 p4) scope pos,kpos⟩] (jr (JF P (wV x y params scope p1 p2 p3 p4 cr ((X.mg "__name__").getD .none))) rm):=A2 (Iq hcl hcode hcd hq hdef hbm) Fj
  refine wpAny_Call_Name_kw (lR I hg hm boot_sorted ?_)
  refine callWith_kw (thn (hpa q3 pins s σ H (fun vs H1=>∃r:Addr,vs=[V.ref r]∧H r=none∧H1=upd H r (.rng 0 (ns.length:Int))) I (htl σ H _ a _ hσ hS ⟨ns.length,by rw[List.length_map],fun r hr=>⟨r,rfl,hr,rfl⟩⟩)) fun us s1 ⟨vs,H1,I1,r1,r,e1,hr,e2⟩=>?_) he hplain hall hkn
  subst e1 e2
  obtain ⟨u1,rfl,ru⟩:=vals1 r1
  obtain rfl:u1=Value.ref r:=ru
  have s01:Same H (upd H r (.rng 0 (ns.length:Int))):=Same.mC hr
  refine thn (hpk q3 pins s1 σ _ (fun zs H2=>∃f c':Addr,zs=[V.ref f]∧Same (upd H r (.rng 0 (ns.length:Int))) H2∧H2 f=some (wV x y params scope p1 p2 p3 p4 cr ((X.mg "__name__").getD .none) f c')∧H2 c'=some (uT c')) I1 ⟨s01.ti _ hT,fun f c' H2 sm _ hf hc'=>⟨f,c',rfl,sm,hf,hc'⟩⟩) fun ws s2 ⟨zs,H2,I2,rz,f,c',e1,s12,hf,hc'⟩=>?_
  subst e1
  obtain ⟨u2,rfl,ru2⟩:=vals1 rz
  obtain rfl:u2=Value.ref f:=ru2
  rw[hks]
  have s02:=s01.trans s12
  have hS2:=s02.seq hS
  obtain ⟨m,hn,hloc⟩:=I2.loc
  obtain ⟨u,rr,look⟩:=hloc i x (.ref a) hN hσ hv
  obtain rfl:u=Value.ref a:=rr
  have hcell:s2.heap.IsCell cr (some (.ref a)):=by
    rcases look with ⟨z,_⟩ | ⟨_,c2,z1,z2⟩
    · rw[hkx] at z;cases z
    · rw[hcr] at z1;cases z1;exact z2
  have hrg:=I2.hok r _ (s12.st r _ aG trivial)
  obtain ⟨t1,t2,t3,hrg⟩:=hrg
  obtain ⟨⟨ctv,hfo⟩,_⟩:=I2.hok f _ hf
  obtain ⟨hco',_⟩:=I2.hok c' _ hc'
  obtain ⟨its,rv,pl,hz⟩:=I2.list hS2
  obtain ⟨oL,esL,epL,eL1,eL2,eL3⟩:=id hn
  have nl:∀{b:Addr}{o:Obj},s2.heap.get? b=some o→(∀es ep,o.data≠.dict es ep)→b≠X.env.locals:=fun {b o} e d z=>by
    subst z;rw[e] at eL1;cases eL1;exact d _ _ eL2
  have nH:∀{b:Addr}{o:HO},H2 b=some o→b≠X.env.locals:=fun {b o} e z=>by
    subst z;have:=I2.free;rw[e] at this;cases this
  refine z6 (n:=ns.length) (L:=X.env.locals) (m:=m) (key:=fun j=>-(ns.getD j 0)) (I.ok.hd hc) hrg h64 hn (fun j t0 hh tk hj kh nn=>?_) fun h' tk D out cp ms kh nn hD hge hi hp hw=>?_
  · obtain ⟨oc,ec,dc⟩:=id hcell
    obtain ⟨w1,hw1,rw1⟩:=rv.get (show (ns.map V.int)[j]?=some (.int (ns.getD j 0)) by rw[List.getElem?_map,List.getD_eq_getElem?_getD,List.getElem?_eq_getElem hj];rfl)
    obtain ⟨tz,rfl⟩:=rw1
    obtain ⟨oa,ea,ca,na,da⟩:=id pl.isList
    refine CU (s:={ s2 with heap:=hh,toks:=tk }) (cr:=cr) (a:=a) (items:=its.toArray) (z:=ns.getD j 0) (tz:=tz) (kh _ _ (nH hf) hfo) ?_ hroom ?_ ⟨oc,kh _ _ (nl ec (fun es ep z=>by rw[dc] at z;cases z)) ec,dc⟩ (pl.isList.at fun o e=>kh _ o (nl ea (fun es ep z=>by rw[da] at z;cases z)) e) (by simpa using hw1) (by omega) (fun v=>hb v _ _ _) hy hxf hnc hk hco hgen hdx hdy hcx fun h' tk' t' kk=>⟨h',tk',t',rfl,rfl,fun b o _ e=>kk b o e,?_⟩
    · obtain ⟨cc,o,vs,t,e1,e2,e3⟩:=hco'
      cases e1
      exact⟨_,o,vs,t,rfl,kh _ _ (nH hc') e2,e3⟩
    · exact I2.mod.nolimit.keeps fun b o e=>kh b o (fun z=>Nat.lt_irrefl b (by
        have h1:=Heap.lt_size e
        have h2:=I2.ok.bsz
        have h3:=I2.ok.above
        rw[← z] at h3
        exact Nat.lt_of_lt_of_le h1 (Nat.le_trans h2 h3))) (I2.bk b o e)
    · obtain ⟨o,es,ep,e1,e2⟩:=nn
      exact⟨o,es,ep,kk _ _ e1,e2⟩
  · have hnD:H2 D=none:=I2.hok.fresh hge
    have sD:Same H2 (upd H2 D (.lst (ms.map V.int))):=Same.mC hnD
    refine⟨.ref D,upd H2 D (.lst (ms.map V.int)),?_,rfl,q D _ ms (s02.trans sD) (s02.free hnD) aG hp hw⟩
    have keepH:∀b u,H2 b=some u→upd H2 D (.lst (ms.map V.int)) b=some u:=fun b u e=>by rw[aV (bG e hnD)];exact e
    refine I2.step (g':=s2.gens) (d':=s2.drawn) (t':=tk) (ch:=[]) (fun _ z=>nomatch z) (fun b o hb _ _ e n=>kh b o hb e) (fun b o hb _ _ e n=>⟨o.slots,kh b o hb e⟩) (fun b o _ e n=>?_) (fun b o _ e=>?_)
      (fun b xs e=>keepH b _ e) (fun b o u e=>keepH b _ e) (fun b qs e=>⟨#[],by rw[keepH b _ e];simp⟩) (fun m' hm'=>?_) (fun b o e=>?_) I2.bare
    · rw[aV (Nat.ne_of_lt (Nat.lt_of_lt_of_le (Heap.lt_size e) hge))];exact n
    · by_cases z:b=X.env.locals
      · subst z
        obtain ⟨o',es,ep,e1,_⟩:=nn
        exact⟨o',e1⟩
      · exact⟨o,kh b o z e⟩
    · rw[IB hm' hn];exact nn
    · by_cases zD:b=D
      · subst zD
        rw[aG] at e;cases e
        have hml:=hp.length_eq
        rw[List.length_map,List.length_range] at hml
        refine⟨by rw[List.length_map,sizeLine_eq];omega,out.toList,cp,jI hi,?_⟩
        rw[hD]
      · rw[aV zD] at e
        refine (I2.hok b o e).wH (fun d w' hd z=>kh d w' ?_ z) (fun d z=>keepH d _ z) fun d xs z=>keepH d _ z
        rcases hd with rfl | hd
        · exact nH e
        · exact nH hd
end
end L3
namespace L3
open PySem L2 PySem.Spec PyProof.Rows
def vv (P:Addr) (H:Hp):Prop:=(∀b,H b=none∨b=P∨∃o xs,H b=some (.frz o (.lst xs)))∧H P=some (.tbl #[])
theorem vv.tab {P:Addr}{H:Hp} (h:vv P H):TabAt P H:=⟨#[],h.2,trivial,fun pos cv e=>by simp [codeAmong] at e⟩
theorem BF {P0:Program}{w:World}{K:PySem.W.Frag}{mg mb:Str→Option Value}{CX:CXT}{k:Nat}{fa a c P:Addr}{fd:FuncData}{x:Str}{sp:Sp}{s₁:Shared}{vs:List Value}{ns:List Int}
    (KX:K.In s₁.heap) (hns:s₁.heap.Ns mainGlobals mg) (hb:s₁.heap.Ns builtinsNs mb) (hbb:∀x:Str,x≠"__name__"→mb x=bootBuiltins x) (hlim:s₁.heap.NoLimit) (hg:s₁.gens=#[])
    (ha:s₁.heap.get? a=some { cls:=.type "list",data:=.seq vs.toArray }) (hi:IntsAre vs ns) (hl:ns.length≤sizeLine) (hr:kO k callerA) (hP:s₁.heap.get? P=some (PySem.W.tabObj #[])) (hKP:K.lookup P=none) (hcd:PySem.W.codeHdIn K c P=true)
    (hbm:BMd s₁.heap mg) (F:∀base:Heap,K.In base→base.Ns mainGlobals mg→BMd base mg→aM P0 w K mg base CX k fa fd [x] sp) (hbind:∀(s:Shared) (u:Value),BindsTo s fd ⟨[u],[]⟩ [(x,u)])
    (hsp:∀H:Hp,vv P H→SqL K H a (ns.map V.int)→sp [.ref a] H (fun v _=>v=.bl true) fun _ _ _=>False)
    (hCX:∀H e s',CX [] H s₁ (fun _ _ _=>False) e s'→False) :
    codeAny (model P0 w) callerA (.call (.ref fa) ⟨[.ref a],[]⟩) (fun r s'=>r=.ok (.ret (.bool true))∧OldK s₁.heap s'.heap∧s'.os=s₁.os∧AllBare s'.gens) s₁:=by
  have rv:=vw hi
  have lenV:=hi.length
  have C:=PySem.W.codeHd_of_K KX hcd
  have haP:a≠P:=fun z=>by rw[z,hP] at ha;cases ha
  have core:∀H:Hp,vv P H→SqL K H a (ns.map V.int)→HOk P0 w H s₁.heap→(∀b,H b≠none→b=a∨b=P)→(H a≠none→K.lookup a=none) →
      codeAny (model P0 w) callerA (.call (.ref fa) ⟨[.ref a],[]⟩) (fun r s'=>r=.ok (.ret (.bool true))∧OldK s₁.heap s'.heap∧s'.os=s₁.os∧AllBare s'.gens) s₁:=by
    intro H hO hS hok hA hK
    have noA:∀{b:Addr}{o:Obj}{es:Array DictEntry}{ep:Nat},s₁.heap.get? b=some o→o.data=.dict es ep→H b=none:=fun {b o es ep} e d=>by
      cases q:H b with
      | none=>rfl
      | some u =>
        rcases hA b (by rw[q];simp) with z | z
        · subst z
          rw[ha] at e;cases e
          have d':Data.seq vs.toArray _=Data.dict es ep:=d
          cases d'
        · subst z
          rw[hP] at e;cases e
          have d':Data.fields #[]=Data.dict es ep:=d
          cases d'
    have nsK:∀{b:Addr}{m:Str→Option Value},s₁.heap.Ns b m→(xA s₁.heap H).Ns b m:=fun {b m} ⟨o,es,ep,e,d,r⟩=>⟨o,es,ep,tN e (noA e d),d,r⟩
    have hKb:K.In (xA s₁.heap H):=fun b o e=>tN (KX b o e) (by
      cases q:H b with
      | none=>rfl
      | some u =>
        rcases hA b (by rw[q];simp) with z | z
        · subst z
          rw[hK (by rw[q];simp)] at e;cases e
        · subst z
          rw[hKP] at e;cases e)
    have hM:Mod K mg (xA s₁.heap H):=⟨hKb,nsK hns,⟨mb,nsK hb,hbb⟩,let ⟨mc,h1,h2⟩:=hlim;⟨mc,nsK h1,h2⟩⟩
    have e0:Gx P0 w K mg (xA s₁.heap H) callerA [] s₁ H:=⟨rfl,hM,fun b o e=>GD e,Nat.le_of_eq (Cc _ _),trivial,fun b hb=>absurd (show b∈([]:List Addr) from hb) (by simp),hok,.of_eq hg⟩
    have hbm':BMd (xA s₁.heap H) mg:=by
      obtain ⟨bm,ob,b1,b2,b3,b4,b5,b6⟩:=hbm
      refine⟨bm,ob,b1,b2,tN b3 ?_,b4,b5,b6⟩
      cases q:H bm with
      | none=>rfl
      | some u =>
        rcases hA bm (by rw[q];simp) with z | z
        · subst z;rw[ha] at b3;cases b3
          exact absurd (show Value.type "list" = Value.type "module" from b4) (by decide)
        · subst z;rw[hP] at b3;cases b3;cases b4
    refine codeAny_mono ((F _ hKb (nsK hns) hbm').run callerA [] s₁ H ⟨[.ref a],[]⟩ [.ref a] [.ref a] _ _ hr e0 (hbind s₁ (.ref a)) (.cons rfl .nil) (hsp H hO hS)) fun r s' h=>?_
    cases r with
    | error e=>exact (hCX H e s' h).elim
    | ok fl =>
      cases fl with
      | next=>exact False.elim h
      | brk=>exact False.elim h
      | cont=>exact False.elim h
      | ret u =>
        obtain ⟨v,H',os,bare,un,hok',r',q⟩:=h
        have q':v=.bl true:=q
        subst q'
        obtain rfl:u=Value.bool true:=r'
        have keep:∀b o,b≠P→s₁.heap.get? b=some o→s'.heap.get? b=some o:=fun b o hbP e=>by
          cases q:H b with
          | none=>exact un.keep b o e q (by intro z;exact absurd (show b∈([]:List Addr) from z) (by simp)) (by simp)
          | some u =>
            rcases hO.1 b with z | z | ⟨ob,xs,z⟩
            · rw[q] at z;cases z
            · exact absurd z hbP
            · have z2:=un.frzs b ob _ z
              obtain ⟨e1,_⟩:=hok b _ z
              obtain ⟨e2,_⟩:=hok' b _ z2
              rw[e] at e1;cases e1
              exact e2
        obtain ⟨more,hm⟩:=un.tbls P #[] hO.2
        have hP':s'.heap.get? P=some { cls:=.none,data:=.fields (#[]++more) }:=hok' P _ hm
        refine⟨rfl,⟨fun b o e=>?_,fun b o e=>?_⟩,os,bare⟩
        · by_cases z:b=P
          · subst z
            rw[hP] at e;cases e
            exact .inr (.inl ⟨(C.tab hP).isCodeTable,rfl,#[],more,rfl,hP'⟩)
          · exact .inl (keep b o z e)
        · by_cases z:b=P
          · subst z;exact⟨_,hP'⟩
          · exact⟨o,keep b o z e⟩
  cases hk:K.lookup a with
  | some o =>
    have e:=KX a o hk
    rw[ha] at e
    cases e
    refine core (fun b=>if b=P then some (.tbl #[]) else none) ⟨fun b=>?_,if_pos rfl⟩ (.inr ⟨_,vs.toArray,_,hk,rfl,rfl,rfl,by rw[List.size_toArray,lenV];exact hl,by simpa using rv⟩) (fun b u z=>?_) (fun b z=>?_) fun z=>absurd (if_neg haP) z
    · by_cases z:b=P
      · exact .inr (.inl z)
      · exact .inl (if_neg z)
    · by_cases y:b=P
      · have z':=(if_pos y).symm.trans z
        cases z'
        subst y
        exact hP
      · have z':=(if_neg y).symm.trans z
        cases z'
    · by_cases y:b=P
      · exact .inr y
      · exact absurd (if_neg y) z
  | none =>
    refine core (fun b=>if b=a then some (.frz { cls:=.type "list",data:=.seq vs.toArray } (.lst (ns.map V.int))) else if b=P then some (.tbl #[]) else none) ⟨fun b=>?_,by show (if _ then _ else _)=_;rw[if_neg (Ne.symm haP),if_pos rfl]⟩ (.inl (.inr ⟨{ cls:=.type "list",data:=.seq vs.toArray },if_pos rfl⟩)) (fun b u z=>?_) (fun b z=>?_) fun _=>hk
    · by_cases y:b=a
      · exact .inr (.inr ⟨_,_,if_pos y⟩)
      · by_cases y2:b=P
        · exact .inr (.inl y2)
        · exact .inl (by show (if _ then _ else _)=_;rw[if_neg y,if_neg y2])
    · by_cases y:b=a
      · have z':=(if_pos y).symm.trans z
        cases z'
        subst y
        exact⟨ha,by rw[List.length_map];exact hl,vs,_,rv,ha⟩
      · have z':=(if_neg y).symm.trans z
        by_cases y2:b=P
        · have z2:=(if_pos y2).symm.trans z'
          cases z2
          subst y2
          exact hP
        · have z2:=(if_neg y2).symm.trans z'
          cases z2
    · by_cases y:b=a
      · exact .inl y
      · by_cases y2:b=P
        · exact .inr y2
        · exact absurd (by show (if _ then _ else _)=_;rw[if_neg y,if_neg y2]) z
theorem Ez {l:PySem.W.OpenLaw}{n k:Nat}{q:Program}{loose:List Str}{XP:(Str→Option Value)→Heap→Prop}{YP:World→Heap→Prop}{d:DefRec}{K:Params→PySem.W.Frag}{CX:World→CXT}{sp:World→Sp}{x:Str}{c P:Addr}
    (hn:l.most=some n) (hn2:n≤sizeLine) (hdf:d.params.defaults=[]) (hr:kO k callerA)
    (hY:∀(w:World) (h:Heap),YP w h→(K w.params).In h) (hT:∀(w:World) (h:Heap),YP w h→h.get? P=some (PySem.W.tabObj #[])) (hKP:∀w:World,(K w.params).lookup P=none) (hcd:∀w:World,PySem.W.codeHdIn (K w.params) c P=true)
    (F:∀(w:World) (mg:Str→Option Value) (fa:Addr) (h:Heap),(K w.params).In h→h.Ns mainGlobals mg→mg d.name=some (.ref fa) →
      ∃fd:FuncData,(∀(s:Shared) (u:Value),BindsTo s fd ⟨[u],[]⟩ [(x,u)]) ∧
        ∀base:Heap,(K w.params).In base→base.Ns mainGlobals mg→BMd base mg→aM l.prog w (K w.params) mg base (CX w) k fa fd [x] (sp w))
    (hsp:∀(w:World) (H:Hp) (a:Addr) (ns:List Int),ns.length≤n→vv P H→SqL (K w.params) H a (ns.map V.int)→sp w [.ref a] H (fun v _=>v=.bl true) fun _ _ _=>False)
    (hCX:∀(w:World) (H:Hp) (s:Shared) (e:Value) (s':Shared),CX w [] H s (fun _ _ _=>False) e s'→False) :
    PySem.W.WalkO q loose XP YP l.row.toRowW d [] (fun f vs=>PySem.call f vs):=by
  refine Att.y3 hn hdf fun w s₀ s₁ mg mb fa o pm cd doc a vs ns G Y ho hd hcd' hmg hobj hints hlen hg=>?_
  have KX:=hY w _ Y
  obtain ⟨fd,hb,hF⟩:=F w mg fa _ KX G.T.g hmg
  exact BF KX G.T.g G.T.b G.T.builtins G.T.nolimit hg hobj hints (Nat.le_trans hlen hn2) hr (hT w _ Y) (hKP w) (hcd w) (let ⟨bm,ob,b1,b2,b3,b4,b5,b6⟩:=G.T.bmain;⟨bm,ob,b1,b2,b3,b4,b5,b6⟩) hF hb (fun H hO hS=>hsp w H a ns hlen hO hS) fun H e s'=>hCX w H s₁ e s'
end L3
namespace L3
open PySem L2 PyProof.Rows
section
variable {P:Program}{w:World}{K:PySem.W.Frag}{mg:Str→Option Value}{base:Heap}
theorem Ja {H:Hp}{a:Addr}{xs:List V} (hO:vv uW H) (h:SqL K H a xs):Sc K H a xs:=by
  rcases h with (h | ⟨o,h⟩) | h
  · rcases hO.1 a with z | z | ⟨o,ys,z⟩
    · rw[h] at z;cases z
    · subst z
      have:=hO.2
      rw[h] at this;cases this
    · rw[h] at z;cases z
  · exact .inl ⟨o,h⟩
  · exact .inr h
def Fg (K:PySem.W.Frag) (mg:Str→Option Value) (base:Heap):Prop:=∃f fd c,mg "falling_places" = some (.ref f)∧(∃oc od sl,K.lookup f=some ⟨oc,od,.func fd,sl⟩)∧fd.code=.ref c∧PySem.W.codeHdIn K c uW=true∧BMd base mg
theorem Fun.okL {x qual:Str}{st:Stmt}{f c:Addr}{fd:FuncData}{N ps:List Str}{k:Nat}{sp:Sp} (F:Fun K x qual st f fd) (hfc:fd.code=.ref c) (S:aE N ps (ai st)) (len:∀vs H Q E,sp vs H Q E→vs.length=ps.length)
    (hbody:∀(A:Around) (outer:List Env) (s:Shared) (H:Hp) (vs:List V) (Q:VK) (E:XK),kO k (A.deeper (envOfC qual (ai st) s.heap.objs.size f (.ref c)))→sp vs H Q E →
      ∃t,PSs (oS CX0 P w K mg base N qual (ai st) f (.ref c) A outer s H E).nox (az st) t∧t { nx:=fun _ H'=>Q .non H',rt:=Q } (L2.start N vs) H):aM P w K mg base CX0 (k+1) f fd ps sp:=by
  obtain ⟨oc,od,kV,doc,pm,an,cdv,ct,osl,rfl,lk,hcd⟩:=F.ex
  obtain rfl:cdv=.ref c:=hfc
  refine AY lk hcd S len fun A outer s H vs Q E hr hsp=>?_
  obtain ⟨t,h,q⟩:=hbody A outer s H vs Q E hr hsp
  exact⟨t,h.nox,q⟩
theorem Fg.of {f:Addr}{fd:FuncData}{st:Stmt}{ps:List Str} (T:Fg K mg base) (F:FnAt K mg "falling_places" st ps f fd):∃c,fd.code=.ref c∧PySem.W.codeHdIn K c uW=true∧BMd base mg:=by
  obtain ⟨f',fd',c,hmg,⟨oc,od,sl,lk⟩,hfc,hcd,hbm⟩:=T
  have e1:=hmg.symm.trans F.mg
  cases e1
  obtain ⟨_,_,_,_,_,_,_,_,_,rfl,lk',_⟩:=F.fn.ex
  rw[lk] at lk'
  cases lk'
  exact⟨c,hfc,hcd,hbm⟩
end
section
variable {K:PySem.W.Frag}{Γ:List Nat}{i:Nat}
theorem IL {δ:Dl}{i:Nat}{x:D}{P:DK} (e:δ[i]?=some (some x)) (h:P x):lY i δ P:=by
  unfold lY
  rw[e]
  exact h
def CN (i:Nat):DE:=fun δ P=>lY i δ fun x=>asL x fun ds=>∃ns:List Int,ds=ns.map D.int∧ns.length<64∧∀ms:List Int,ms.Perm (lU ns.length)→ms.Pairwise (fun a b=>ns.getD b.toNat 0≤ns.getD a.toNat 0)→P (dI ms)
theorem zE (i:Nat):EM K Γ [] (xU K uW i) (CN i) :=
  ⟨fun δ P P' k h=>by
    obtain ⟨x,e,z⟩:=gG h
    obtain ⟨ds,e2,ns,e3,h64,z⟩:=dF z
    exact IL e (kM e2 ⟨ns,e3,h64,fun ms h1 h2=>k _ (z ms h1 h2)⟩),
   fun {B0 fps δ σ H Q} o h=>by
    obtain ⟨x,e,z⟩:=gG h
    obtain ⟨ds,e2,ns,rfl,h64,z⟩:=dF z
    obtain ⟨v,hv,r⟩:=o.val i _ e
    obtain ⟨a,xs,fq,rfl,hs,hr,_⟩:=r.seq e2
    obtain ⟨rfl,_⟩:=hr.j8 dJ
    refine⟨a,ns,hv,by rw[List.map_map] at hs;exact hs,h64,o.b0.now,fun l H' ms sm hl hl' hp hw=>?_⟩
    exact z ms hp (hw.imp fun h=>by omega) _ _ [l] sm (Rf.ofInts hl') ⟨by simp,fun b hb=>by cases List.mem_singleton.mp hb;exact .inl ⟨_,hl'⟩,fun b hb=>by cases List.mem_singleton.mp hb;exact .inl hl⟩⟩
end
end L3
namespace L3
open PySem L2
section
variable {K:PySem.W.Frag}{ρ:Bool}{Γr Γl Γ:List Nat}{H:Hp}
end
end L3
namespace L2
open PySem PySem.Spec PyProof.Rows
theorem cY.there {P:Program}{w:World}{H:Hp}{h:Heap}{a:Addr}{o:HO} (x:cY P w H h a o):∃ob,h.get? a=some ob:=by
  cases o with
  | lst xs=>obtain ⟨_,_,_,_,e⟩:=x;exact⟨_,e⟩
  | tup xs=>obtain ⟨_,_,_,ob,e,_⟩:=x;exact⟨_,e⟩
  | dK kvs=>obtain ⟨_,_,_,_,o,_,_,e,_⟩:=x;exact⟨_,e⟩
  | dT kvs=>obtain ⟨_,_,_,_,o,_,_,e,_⟩:=x;exact⟨_,e⟩
  | set S n=>obtain ⟨o,_,_,_,e,_⟩:=x;exact⟨_,e⟩
  | ins C dx fs=>obtain ⟨_,_,_,e,_⟩:=x;exact⟨_,e⟩
  | own y=>exact x
  | xd fs=>obtain ⟨_,⟨_,_,_,e,_⟩,_⟩:=x;exact⟨_,e⟩
  | rng lo hi=>obtain ⟨_,_,_,e⟩:=x;exact⟨_,e⟩
  | frz ob u=>obtain ⟨e,_⟩:=x;exact⟨_,e⟩
  | tbl ps=>exact⟨_,(show h.get? a=some _ from x)⟩
  | met f y=>exact⟨_,(show h.get? a=some _ from x)⟩
  | ext φ=>obtain ⟨_,e,_⟩:=x;exact e
  | memo φ ks=>obtain ⟨_,_,_,_,_,_,_,e,_⟩:=x;exact⟨_,e⟩
def Fly (h:Heap) (H:Hp) (lo:Heap) (a:Addr) (C:Value):Prop :=
  (H a=none∧lo.get? a=none)∧∃oe vs a0 T oT ts,h.get? a=some oe∧(oe.cls=C∧vs[0]?=some a0)∧oe.data=.fields vs∧vs[1]?=some (.ref T)∧T≠a∧h.get? T=some oT∧oT.data=.fields ts∧ts[3]?=some .none∧H T=none∧lo.get? T=none
def Ka (h:Heap) (H:Hp) (lo:Heap) (a:Addr) (C:Value):Prop :=
  (H a=none∧lo.get? a=none)∧∃oe vs a0,h.get? a=some oe∧(oe.cls=C∧vs[0]?=some a0)∧oe.data=.fields vs∧vs[1]?=some .none
def CXR (P:Program) (w:World):CXT:=fun outer H s E e s'=>∃(a C:Addr) (H':Hp),e=.ref a∧s'.os=s.os∧AllBare s'.gens∧Un (frs outer) [] H H' s.heap s'.heap∧HOk P w H' s'.heap ∧
  Fly s'.heap H' s.heap a (.ref C)∧E (.ref C) none H'
section
variable {P:Program}{w:World}{K:PySem.W.Frag}{mg:Str→Option Value}{base:Heap}{N:List Str}{qual:Str}{scope:Scope}{f:Addr}{cd:Value}{A:Around}{outer:List Env}{s0:Shared}{H0:Hp}{E:XK}
variable {pins:List (Addr × Obj)}{σ:St}{H':Hp}{s':Shared}{a C:Addr}{h2:Heap}
theorem vj {as:List Addr}{a0:Value} (J:Inv (oS (CXR P w) P w K mg base N qual scope f cd A outer s0 H0 E) pins σ H' s')
    (has:∀b∈as,b∈frs (envOfC qual scope s0.heap.objs.size f cd::outer)∨(H' b=none∧s0.heap.get? b=none))
    (L:Heap.LeftW (PySem.W.hideAll s'.heap as) (envOfC qual scope s0.heap.objs.size f cd::outer) a (.ref C) a0 s'.heap h2) (ha:H' a=none∧s0.heap.get? a=none) (q:E (.ref C) none H') :
    CXR P w outer H0 s0 E (.ref a) { s' with heap:=h2 }:=by
  obtain ⟨k1,k2,k3,k4⟩:=L
  have bs:Un (frs outer) [] H0 H' s0.heap s'.heap:=J.base
  have keepB:∀b o,s'.heap.get? b=some o→b∉as→h2.get? b=some o:=fun b o e n=>k1 b o (PySem.W.hideAll_get _ e n)
  have stf:∀b∈frs (envOfC qual scope s0.heap.objs.size f cd::outer),H' b=none:=J.wo
  have sts:∀b∈frs (envOfC qual scope s0.heap.objs.size f cd::outer),b∈s0.heap.objs.size::frs outer:=J.tq
  have trk:∀b u,H' b=some u→b∉as:=fun b u e z=>by
    rcases has b z with z | ⟨z,_⟩
    · rw[stf b z] at e;cases e
    · rw[z] at e;cases e
  have nofld:∀b∈frs (envOfC qual scope s0.heap.objs.size f cd::outer),∃o,s'.heap.get? b=some o∧∀vs,o.data≠.fields vs:=fun b hb=>(J.stack.mem hb).2
  refine⟨a,C,H',rfl,J.os,J.bare,⟨fun b o e n hb hx=>?_,fun b o e n hb hx=>?_,bs.free,fun b o e hx=>?_,bs.tups,bs.frzs,bs.tbls⟩,fun c o e=>?_,⟨ha,?_⟩,q⟩
  · refine keepB b o (bs.keep b o e n hb hx) fun z=>?_
    rcases has b z with z | ⟨_,z⟩
    · rcases List.mem_cons.mp (sts b z) with z | z
      · rw[z] at e;exact absurd (Heap.lt_size e) (Nat.lt_irrefl _)
      · exact hb z
    · rw[z] at e;cases e
  · obtain ⟨sl,e1⟩:=bs.slot b o e n hb hx
    obtain ⟨_,o',e',nf⟩:=J.ok.rJ.mem hb
    have e':s0.heap.get? b=some o':=e'
    rw[e] at e';cases e'
    obtain ⟨sl2,e2⟩:=k4 b { o with slots:=sl } e1 nf
    exact⟨sl2,e2⟩
  · obtain ⟨o',e1⟩:=bs.there b o e hx
    by_cases z:b∈as
    · rcases has b z with z | ⟨_,z⟩
      · obtain ⟨o2,e2,nf⟩:=nofld b z
        obtain ⟨sl,e3⟩:=k4 b o2 e2 nf
        exact⟨_,e3⟩
      · rw[z] at e;cases e
    · exact⟨o',keepB b o' e1 z⟩
  · refine (J.hok c o e).wH (fun b u hb q=>keepB b u q ?_) (fun _ q=>q) fun _ _ q=>q
    rcases hb with rfl | hb
    · exact trk _ _ e
    · exact trk _ _ hb
  · obtain ⟨oe,vs,T,oT,ts,g1,g2,g3,g4,g5,g6,g7,g8,g9⟩:=k3
    refine⟨oe,vs,a0,T,oT,ts,g1,g2,g3,g4,g6,g7,g8,g9,?_,?_⟩
    · cases r:H' T with
      | none=>rfl
      | some u =>
        obtain ⟨ob,e⟩:=(J.hok T u r).there
        rw[PySem.W.hideAll_get as e (trk T u r)] at g5
        cases g5
    · cases r:s0.heap.get? T with
      | none=>rfl
      | some u =>
        obtain ⟨o',e1⟩:=bs.there T u r (fun z=>(nomatch z))
        by_cases z:T∈as
        · rcases has T z with z | ⟨_,z⟩
          · obtain ⟨_,o2,e2,nf⟩:=k2.mem z
            rw[g7] at e2;cases e2
            exact absurd g8 (nf ts)
          · rw[z] at r;cases r
        · rw[PySem.W.hideAll_get as e1 z] at g5;cases g5
theorem A7 {H:Hp}{s:Shared} (I:Inv (oS (CXR P w) P w K mg base N qual scope f cd A outer s0 H0 E) pins σ H s) (os:s'.os=s.os) (bare:AllBare s'.gens)
    (U:Un (frs (envOfC qual scope s0.heap.objs.size f cd::outer)) [] H H' s.heap s'.heap) (ok:HOk P w H' s'.heap) (fl:Ka s'.heap H' s.heap a (.ref C)∨Fly s'.heap H' s.heap a (.ref C)) (q:E (.ref C) none H') :
    (oS (CXR P w) P w K mg base N qual scope f cd A outer s0 H0 E).xe (.ref a) s':=by
  have J:Inv (oS (CXR P w) P w K mg base N qual scope f cd A outer s0 H0 E) pins σ H' s':=I.HJ os U ok bare fun b hb=>(nomatch hb)
  have up:∀b,s.heap.get? b=none→s0.heap.get? b=none:=fun b n=>by
    cases r:s0.heap.get? b with
    | none=>rfl
    | some u =>
      obtain ⟨o',e1⟩:=I.base.there b u r (fun z=>(nomatch z))
      rw[n] at e1;cases e1
  have hfr:(A.deeper (envOfC qual scope s0.heap.objs.size f cd)).frames=some (envOfC qual scope s0.heap.objs.size f cd::outer):=J.ok.frames
  have hst:s'.heap.FunFrames base (envOfC qual scope s0.heap.objs.size f cd::outer):=J.stack
  have hin:∀env∈(envOfC qual scope s0.heap.objs.size f cd::outer),∀b,env.frame=some b→b∈frs (envOfC qual scope s0.heap.objs.size f cd::outer):=fun env he b hb=>List.mem_filterMap.mpr ⟨env,he,hb⟩
  show wpAny _ _ _ _ _ _
  rcases fl with ⟨⟨na,fa⟩,oe,vs,a0,ge,⟨gc,g0⟩,gd,g1⟩ | ⟨⟨na,fa⟩,oe,vs,a0,T,oT,ts,ge,gc,gd,g1,g2,g3,g4,g5,nT,fT⟩
  · refine wpAny_leaving_firstW (base:=PySem.W.hideAll s'.heap (a::frs (envOfC qual scope s0.heap.objs.size f cd::outer))) hfr
      (PySem.W.funFrames_hide hst fun env he b hb=>List.mem_cons_of_mem _ (hin env he b hb)) rfl ge (fun b o e=>PySem.W.of_hideAll _ e) (PySem.W.hideAll_none _ (List.mem_cons_self ..)) gd g1 g0 fun h2 L=>?_
    rw[gc] at L
    refine vj J (fun b hb=>?_) L ⟨na,up a fa⟩ q
    rcases List.mem_cons.mp hb with rfl | hb
    · exact .inr ⟨na,up _ fa⟩
    · exact .inl hb
  · refine wpAny_leaving_nextW (a0:=a0) (base:=PySem.W.hideAll s'.heap (a::T::frs (envOfC qual scope s0.heap.objs.size f cd::outer))) (cls:=.ref C) hfr
      (PySem.W.funFrames_hide hst fun env he b hb=>List.mem_cons_of_mem _ (List.mem_cons_of_mem _ (hin env he b hb))) rfl
      ⟨oe,vs,T,oT,ts,ge,gc,gd,g1,PySem.W.hideAll_none _ (List.mem_cons_of_mem _ (List.mem_cons_self ..)),g2,g3,g4,g5⟩ (fun b o e=>PySem.W.of_hideAll _ e) (PySem.W.hideAll_none _ (List.mem_cons_self ..)) fun h2 L=>?_
    refine vj J (fun b hb=>?_) L ⟨na,up a fa⟩ q
    rcases List.mem_cons.mp hb with rfl | hb
    · exact .inr ⟨na,up _ fa⟩
    · rcases List.mem_cons.mp hb with rfl | hb
      · exact .inr ⟨nT,up _ fT⟩
      · exact .inl hb
theorem xj:Passes (CXR P w) (oS (CXR P w) P w K mg base N qual scope f cd A outer s0 H0 E) E:=fun pins σ H s e s' I h=>by
  obtain ⟨a,C,H',rfl,os,bare,U,ok,fl,q⟩:=h
  exact A7 I os bare U ok (.inr fl) q
end
def C9 (C:Addr) (E:XK) (ta:TA):TS:=fun _ σ H=>ta σ H fun vs H1=>vs.length≤1000∧E (.ref C) none H1
def Raises (X:Cx) (C:Addr) (E:XK):Prop:=∀(pins:List (Addr × Obj)) (σ:St) (H:Hp) (s:Shared) (h':Heap) (a:Addr) (us:List Value),Inv X pins σ H s→Heap.MadeExcOf s.heap h' a (.ref C) us→E (.ref C) none H→X.xe (.ref a) { s with heap:=h' }
theorem sj {P:Program}{w:World}{K:PySem.W.Frag}{mg:Str→Option Value}{base:Heap}{N:List Str}{qual:Str}{scope:Scope}{f:Addr}{cd:Value}{A:Around}{outer:List Env}{s0:Shared}{H0:Hp}{E:XK}{C:Addr} :
    Raises (oS (CXR P w) P w K mg base N qual scope f cd A outer s0 H0 E) C E:=fun pins σ H s h' a us I hx q=>by
  obtain ⟨t,ht,_,_⟩:=hx.there
  refine A7 (s':={ s with heap:=h' }) I rfl I.bare (Un.kept hx.keeps) (I.hok.kept hx.keeps) (.inl ⟨⟨?_,hx.new⟩,_,_,_,ht,⟨rfl,rfl⟩,rfl,rfl⟩) q
  cases r:H a with
  | none=>rfl
  | some u =>
    obtain ⟨ob,e⟩:=(I.hok a u r).there
    rw[hx.new] at e;cases e
section
variable {X:Cx}{x:Str}{C:Addr}{bmB:List Value}{B newId initId:String}{E:XK}{e:Expr}{es:List Expr}{ta:TA}{np cpos pos:Pos}
theorem pO (O:OwnCls x C bmB newId X.mg X.base) (FB:ExcBaseFacts B newId initId bmB) (hc:X.calm=true) (hg:Gl X x) (hxe:Raises X C E) (ha:PA X (e::es) ta) (hdb:(x == ("__debug__" : Str))=false:=by decide)
    (he:starEach (e::es) X.env=(false,eval e X.env)::starEach es X.env:=by rfl) (hpl:(backTo cpos (starEach es X.env)).any (·.1)=false:=by rfl) :
    PS X (.Raise (some (.Call (.Name x np) (e::es) [] cpos)) none pos) (C9 C E ta):=by
  intro pins s σ H D I h
  obtain ⟨tl,N,nm,q,bs,hdct,sn,sub,ab,col,dd,k0,k1,k2,k3,k5,mN,hC,hN,hni,T⟩:=O.obj
  refine wpAny_Raise_call_subT (C:=C) (nm:=nm) (q:=q) (N:=N) (bs:=bs) (bm:=tl) (hdct:=hdct) (sn:=sn) (sub:=sub) (ab:=ab) (col:=col) (dd:=dd) (k0:=k0) (k1:=k1) (k2:=k2) (k3:=k3) (k5:=k5)
    FB (mN:=mN) (T.hasType FB.hasBase) (I.ok.hd hc) (by rw[he];show (false || (backTo cpos (starEach es X.env)).any (·.1))=false;rw[hpl];rfl) hni (xh I hg O.bound ⟨rfl,?_⟩ hdb)
  have h1:=ha cpos pins s σ H _ I h
  rw[he] at h1 ⊢
  refine Calls.evalArgs_plain (thn h1 fun us s1 ⟨vs,H1,I1,r,q1,q2⟩=>?_)
  exact⟨rfl,by show us.length≤_;rw[← r.length];exact Nat.le_of_lt (qq q1),I1.bk _ _ hC,hN.keeps I1.bk,T.keeps I1.bk,fun h' a hx=>hxe pins σ H1 s1 h' a us I1 hx q2⟩
end
end L2
namespace L2
open PySem PySem.Spec PyProof.Rows
abbrev VB:List Value:=[.type "ValueError",.type "Exception",.type "BaseException",.type "object"]
def jw (h:Heap) (C:Addr) (ups:List Addr):Prop:=∃N nm q bs hdct sn sub ab col dd k0 k1 k2 k3 k5 mN,
  h.get? C=some (excClassObj nm q C N bs (ups.map Value.ref++VB) hdct sn sub ab col dd k0 k1 k2 k3 k5 "ValueError.__new__")∧h.Ns N mN∧mN "__init__" = none∧OwnTail h VB (ups.map Value.ref++VB)
theorem jw.own {h:Heap}{C:Addr}{ups:List Addr}{mg:Str→Option Value}{x:Str} (O:jw h C ups) (hm:mg x=some (.ref C)):OwnCls x C VB "ValueError.__new__" mg h :=
  let ⟨N,nm,q,bs,hdct,sn,sub,ab,col,dd,k0,k1,k2,k3,k5,mN,hC,hN,hni,T⟩:=O
  ⟨hm,_,N,nm,q,bs,hdct,sn,sub,ab,col,dd,k0,k1,k2,k3,k5,mN,hC,hN,hni,T⟩
section
variable {X:Cx}{pins:List (Addr × Obj)}{σ:St}{H H':Hp}{s s':Shared}{a C:Addr}{a0:Value}{h:Heap}
end
end L2
namespace L2
open PySem PySem.Spec PyProof.Rows
section
variable {X:Cx}{pins:List (Addr × Obj)}{σ:St}{H:Hp}{s:Shared}{a:Addr}{oe:Obj}
end
section
variable {X:Cx}{CX:CXT}{k:Nat}{f C D:Addr}{fd:FuncData}{ps:List Str}{sp:Sp}{E:XK}{x y n:Str}{p np cp ep hp pos:Pos}{e:Expr}{es:List Expr}{ta:TA}{b₀:Stmt}{suite:List Stmt}{i:Nat}{ups upD:List Addr}
end
end L2
namespace L3
open PySem L2
abbrev DSX:=List D→DK→(Addr→Prop)→Prop
def jC (S:DSX):Prop:=∀xs (P P':DK) (R R':Addr→Prop),(∀z,P z→P' z)→(∀C,R C→R' C)→S xs P R→S xs P' R'
def spX (K:PySem.W.Frag) (S:DSX):Sp:=fun vs H Q E=>∃ds,Rps K H ds vs∧js K H∧S ds (fun x=>∀v H' fp,Same H H'→Rf K H' x v fp→Nw H H' nf [] fp→Q v H') (fun C=>∀H',Same H H'→E (.ref C) none H')
def SX (K:PySem.W.Frag) (ρ:Bool) (Γr Γl:List Nat) (R:Addr→Prop) (t:XK→TS) (Γ Γn:List Nat) (d:DS):Prop :=
  ∀⦃B0:Hp⦄ ⦃Dn:Ends⦄ ⦃E:bC⦄ ⦃Ex:XK⦄ ⦃fps:Nat→List Addr⦄ ⦃δ:Dl⦄ ⦃σ:St⦄ ⦃H:Hp⦄,(∀C H',Same B0 H'→R C→Ex (.ref C) none H')→EOk K ρ Γr Γl Γn B0 Dn E→Ok K B0 Γ fps δ σ H→d E δ→t Ex Dn σ H
section
variable {K:PySem.W.Frag}{ρ:Bool}{Γr Γl Γ Γ1 Γ2 Γn M:List Nat}{R:Addr→Prop}{t u:XK→TS}{t0:TS}{d e:DS}{C:Addr}{S:DSX}{ta:TA}{da:DA}
theorem ST.sx (h:ST K ρ Γr Γl t0 Γ Γn d):SX K ρ Γr Γl R (fun _=>t0) Γ Γn d:=fun _ _ _ _ _ _ _ _ _ k o q=>h k o q
theorem mT (h1:SX K ρ Γr Γl R t Γ Γ1 d) (h2:SX K ρ Γr Γl R u Γ1 Γ2 e):SX K ρ Γr Γl R (fun Ex=>Iy (t Ex) (u Ex)) Γ Γ2 (zM d e) :=
  fun {B0 Dn E Ex fps δ σ H} x k o h=>h1 (Dn:={ Dn with nx:=u Ex Dn }) (E:={ E with nx:=e E }) x ⟨fun o h=>h2 x k o h,k.bk,k.ct,k.rt⟩ o h
theorem Bd {c:TT}{dc:DT} (hc:TR K Γ c dc) (h1:SX K ρ Γr Γl R t Γ Γn d) (h2:SX K ρ Γr Γl R u Γ Γn e):SX K ρ Γr Γl R (fun Ex=>Jj c (t Ex) (u Ex)) Γ Γn (G0 dc d e) :=
  fun _ _ _ _ _ _ _ _ x k o h=>hc.run o (hc.mono _ _ _ (fun b z H' s=>eW (fun z=>h1 x k (o.same s) z) (fun z=>h2 x k (o.same s) z) z) h)
def zz (C:Addr) (R:Addr→Prop) (da:DA) (_:bC) (δ:Dl):Prop:=da δ fun xs=>xs.length≤1000∧R C
theorem pL (ha:AR K Γ ta da):SX K ρ Γr Γl R (fun Ex=>C9 C Ex ta) Γ Γn (zz C R da) :=
  fun {B0 Dn E Ex fps δ σ H} x k o h=>ha.run o (ha.mono _ _ _ (fun xs z vs H' s r=>by
    obtain ⟨fp,r⟩:=r
    exact⟨by rw[r.length];exact z.1,x C H' (o.b0.trans s) z.2⟩) h)
def zy (S:DSX) (R:Addr→Prop) (da:DA) (E:bC) (δ:Dl):Prop:=da δ fun xs=>S xs (fun _=>E.nx δ) R
theorem AN (hS:jC S) (ha:AR K Γ ta da):SX K ρ Γr Γl R (fun Ex=>An (nZ (spX K S) [] Ex ta)) Γ Γ (zy S R da) :=
  fun {B0 Dn E Ex fps δ σ H} x k o h=>ha.run o (ha.mono _ _ _ (fun xs z vs H' s r=>⟨xs,by rw[List.append_nil];exact r,(o.b0.trans s).now,
    hS _ _ _ _ _ (fun _ z v H2 fp s2 _ _=>k.nx (o.same (s.trans s2)) z) (fun C z H2 s2=>x C H2 (o.b0.trans (s.trans s2)) z) z⟩) h)
def CV (S:DSX) (R:Addr→Prop) (i:Nat) (da:DA) (E:bC) (δ:Dl):Prop:=da δ fun xs=>S xs (fun x=>E.nx (δ.set i (some x))) R
theorem xY {Ex:XK}{B0:Hp}{fps:Nat→List Addr}{δ:Dl}{σ:St}{H:Hp}{Q:VK} (hS:jC S) (ha:AR K Γ ta da) (x:∀C H',Same B0 H'→R C→Ex (.ref C) none H') (o:Ok K B0 Γ fps δ σ H)
    (h:da δ fun xs=>S xs (fun z=>∀v H' fp,Same H H'→Rf K H' z v fp→Nw H H' fps [] fp→Q v H') R):nZ (spX K S) [] Ex ta σ H Q :=
  ha.run o (ha.mono _ _ _ (fun xs z vs H1 s1 r1=>⟨xs,by rw[List.append_nil];exact r1,(o.b0.trans s1).now,hS _ _ _ _ _ (fun u z u' H' fp s r n=>z u' H' fp (s1.trans s) r (n.any.later s1)) (fun C z H2 s2=>x C H2 (o.b0.trans (s1.trans s2)) z) z⟩) h)
theorem Dj (i:Nat) (hS:jC S) (ha:AR K Γ ta da):SX K ρ Γr Γl R (fun Ex=>rj (nZ (spX K S) [] Ex ta) (mw i)) Γ (i::minus (minus Γ []) [i]) (CV S R i da) :=
  fun {B0 Dn E Ex fps δ σ H} x k o h=>xY hS ha x o (ha.mono _ _ _ (fun xs z=>hS _ _ _ _ _ (fun y z v H' fp s r n=>k.nx (o.He (M:=[]) i (fun _ h=>(nomatch h)) s r n) z) (fun _ z=>z) z) h)
def HF (S:DSX) (R:Addr→Prop) (da:DA) (E:bC) (δ:Dl):Prop:=da δ fun xs=>S xs (fun x=>E.rt x δ) R
theorem lZ {N:List Str}{dR:(Addr→Prop)→DS} (hs:∀R,SX K true [] [] R t [] Γn (dR R)) (hd:∀ds P R,S ds P R→dR R (qV P) (aN N ds)) :
    ∀{vs H Q E},spX K S vs H Q E→t E { nx:=fun _ H'=>Q .non H',rt:=Q } (L2.start N vs) H:=by
  rintro vs H Q E ⟨ds,r,tv,h⟩
  obtain ⟨fps,o⟩:=tJ (N:=N) r tv
  refine hs _ (E:=qV _) (Ex:=E) (fun C H' s z=>z H' s) ⟨fun {fps δ σ H'} o z=>?_,fun o (z:False)=>z.elim,fun o (z:False)=>z.elim,fun o r i z=>?_⟩ o (hd ds _ _ h)
  · exact z _ H' [] o.b0 ⟨rfl,rfl⟩ Nw.nil
  · exact z _ _ _ o.b0 r ⟨(i rfl).nd,(i rfl).mu,fun a ha=>.inl ((i rfl).nw a ha)⟩
def noX (S:DSX):DSp:=fun ds P=>S ds P fun _=>False
theorem CW (hS:jC S):bE (noX S):=fun xs P P' k h=>hS _ _ _ _ _ k (fun _ z=>z) h
theorem qa {Ex:XK} (hS:jC S) (ha:AR K Γ ta da):EM K Γ [] (nZ (spX K S) [] Ex ta) (tU (noX S) da) :=
  ⟨fun δ P P' k h=>ha.mono _ _ _ (fun y z=>CW hS _ _ _ k z) h,fun {B0 fps δ σ H Q} o q=>xY (R:=fun _=>False) hS ha (fun _ _ _ z=>z.elim) o q⟩
def HV (i:Nat) (C:Addr) (S:DSX) (da:DA) (dh:DS) (E:bC) (δ:Dl):Prop :=
  da δ fun xs=>S xs (fun _=>E.nx δ) fun C'=>C'=C∧dh { nx:=fun δ'=>E.nx (δ'.set i none),rt:=fun _ _=>False,bk:=fun _=>False,ct:=fun _=>False } (δ.set i none)
end
end L3
namespace PySem.W
open PySem PySem.Spec PySem.Calls PyProof.Rows
section
variable {prog:Program}{w:World}{A:Around}{E:Value→Shared→Prop}{s:Shared}{K:Frag}{x C:Addr}{ox:Obj}
structure Jf (K:Frag) (C:Addr):Prop where
  ga:findIn K (.ref C) "__getattribute__" = some (some (.builtin "BaseException.__getattribute__"))
  ge:findIn K (.ref C) "__getattr__" = some none
  cl:findIn K (.ref C) "__class__" = some (some (.builtin "object.__class__"))
  ob:mroIn K C (.type "object")=some true
  be:mroIn K C (.type "BaseException")=some true
  is:(clsIn K C).isSome=true
end
end PySem.W
namespace L2
open PySem PySem.Spec PyProof.Rows
section
variable {X:Cx}{pins:List (Addr × Obj)}{σ:St}{H:Hp}{s:Shared}{a C:Addr}{oe:Obj}{i:Nat}{n x:Str}{np p cp:Pos}{b:Bool}
end
end L2
namespace L2
open PySem PySem.Spec PyProof.Rows
section
variable {X:Cx}{a C:Addr}{oe:Obj}
end
section
variable {P:Program}{w:World}{K:PySem.W.Frag}{mg:Str→Option Value}{base:Heap}{CX:CXT}
theorem Fun.okX {x qual:Str}{st:Stmt}{f:Addr}{fd:FuncData}{N ps:List Str}{k:Nat}{sp:Sp} (F:Fun K x qual st f fd) (S:aE N ps (ai st)) (len:∀vs H Q E,sp vs H Q E→vs.length=ps.length)
    (hbody:∀(cdv:Value) (A:Around) (outer:List Env) (s:Shared) (H:Hp) (vs:List V) (Q:VK) (E:XK),kO k (A.deeper (envOfC qual (ai st) s.heap.objs.size f cdv))→sp vs H Q E →
      ∃t,PSs (oS (CXR P w) P w K mg base N qual (ai st) f cdv A outer s H E) (az st) t∧t { nx:=fun _ H'=>Q .non H',rt:=Q } (start N vs) H):aM P w K mg base (CXR P w) (k+1) f fd ps sp:=by
  obtain ⟨oc,od,kV,doc,pm,an,cdv,ct,osl,rfl,lk,hcd⟩:=F.ex
  exact AY lk hcd S len fun A outer s H vs Q E hr hsp=>hbody cdv A outer s H vs Q E hr hsp
end
theorem jw.of_lookup {K:PySem.W.Frag}{h:Heap}{C:Addr}{ups:List Addr}{mro:List Value}{dd:Option Addr}{nm qn:Str}{bs:List Value}{ns:Addr}{hd:Bool}{sn:List Str}{sub:List Value}{ab:Bool}{col:Option Bool}{k0 k1 k2 k3 k5:Option Value} (X:K.In h)
    (u:K.lookup C=some ⟨.type "type",dd,.cls ⟨nm,bs,mro,ns,qn,hd,sn,sub,ab,col,false⟩,#[k0,k1,k2,k3,some (.builtin "ValueError.__new__"),k5]⟩) (hm:mro=.ref C::(ups.map Value.ref++VB)) (v:PySem.W.excIn K C VB "ValueError.__new__" = true):jw h C ups:=by
  subst hm
  unfold PySem.W.excIn at v
  rw[u] at v
  simp only[Bool.and_eq_true,beq_iff_eq,Bool.not_eq_true'] at v
  obtain ⟨⟨⟨_,ht⟩,hok⟩,hni⟩:=v
  exact⟨ns,nm,qn,bs,hd,sn,sub,ab,col,dd,k0,k1,k2,k3,k5,_,X _ _ u,.of_isNs (PySem.W.isNs_of_in X hok),PySem.W.nsMap_none_of_in X hok hni,PySem.W.tail_of_in X ht⟩
theorem vY {X:Cx}{P:Program}{w:World}:Passes (CXR P w) X E0:=fun _ _ _ _ _ _ _ h=>by
  obtain ⟨_,_,_,_,_,_,_,_,_,q⟩:=h
  exact q.elim
end L2
namespace L3
open PySem L2
section
variable {K:PySem.W.Frag}{ρ:Bool}{Γr Γl Γ:List Nat}{i:Nat}{t u:Addr→TS}{d e:DS}{C:Addr}{S:DSX}{ta:TA}{da:DA}
def Hy (j:Nat) (n:Int) (E:bC) (δ:Dl):Prop:=E.nx (δ.set j (some (.int n)))
def Hj (b:Bool) (d e:DS) (E:bC) (δ:Dl):Prop:=if b=true then d E δ else e E δ
def HL (i:Nat) (C:Addr) (S:DSX) (da:DA) (dh:DS) (E:bC) (δ:Dl):Prop:=i<δ.length∧HV i C S da dh E δ
end
theorem lV {K:PySem.W.Frag}{S:DSX}{n:Nat} (hS:∀ds P R,S ds P R→ds.length=n) {vs:List V}{H:Hp}{Q:VK}{E:XK} (h:spX K S vs H Q E):vs.length=n:=by
  obtain ⟨ds,⟨fp,r⟩,_,h⟩:=h
  rw[r.length];exact hS _ _ _ h
end L3
namespace L2
open PySem
theorem PA.nox {X:Cx}{es:List Expr}{t:TA} (h:PA X.nox es t):PA X es t:=fun pos pins s σ H Q I hw =>
  wpAny_mono (h pos pins s σ H Q (I.rh _) hw) (fun _ _ ⟨v,H',I',r,q⟩=>⟨v,H',I'.kN,r,q⟩) fun _ _ z=>False.elim z
end L2
namespace L2
open PySem PySem.Spec PyProof.Rows
structure Cu (K:PySem.W.Frag) (x qual:Str) (st:Stmt) (dv:List Value) (f:Addr) (fd:FuncData):Prop where
  ex:∃(da:Addr) (oc:Value) (od:Option Addr) (kV doc pm:Value) (an:Option Addr) (cdv ct:Value) (osl:Array (Option Value)) (o:Obj) (n:Nat),
    fd=PySem.W.fnOf x qual (aD st) (az st) (ai st) (.ref da) kV doc pm an cdv ct∧K.lookup f=some ⟨oc,od,.func fd,osl⟩∧PySem.W.codeIn K cdv qual=true∧K.lookup da=some o∧o.data=.seq dv.toArray n
  kp:PySem.W.keepIn K (.ref f)=true
section
variable {P:Program}{w:World}{K:PySem.W.Frag}{mg:Str→Option Value}{base:Heap}{x qual:Str}{st:Stmt}{dv:List Value}{f:Addr}{fd:FuncData}{N ps:List Str}{k:Nat}{sp:Sp}
theorem Cu.okX (F:Cu K x qual st dv f fd) (S:aE N ps (ai st)) (len:∀vs H Q E,sp vs H Q E→vs.length=ps.length)
    (hbody:∀(cdv:Value) (A:Around) (outer:List Env) (s:Shared) (H:Hp) (vs:List V) (Q:VK) (E:XK),kO k (A.deeper (envOfC qual (ai st) s.heap.objs.size f cdv))→sp vs H Q E →
      ∃t,PSs (oS (CXR P w) P w K mg base N qual (ai st) f cdv A outer s H E) (az st) t∧t { nx:=fun _ H'=>Q .non H',rt:=Q } (start N vs) H):aM P w K mg base (CXR P w) (k+1) f fd ps sp:=by
  obtain ⟨da,oc,od,kV,doc,pm,an,cdv,ct,osl,o,n,rfl,lk,hcd,_⟩:=F.ex
  exact AY lk hcd S len fun A outer s H vs Q E hr hsp=>hbody cdv A outer s H vs Q E hr hsp
theorem Cu.binds {ds:List Value} (F:Cu K x qual st dv f fd)
    (h:∀(da:Addr) (kV doc pm:Value) (an:Option Addr) (cdv ct:Value) (us:List Value),(us++ds).length=ps.length →
      ∃g,bindArgs (PySem.W.fnOf x qual (aD st) (az st) (ai st) (.ref da) kV doc pm an cdv ct) ⟨us,[]⟩=seqItems? (.ref da) >>= g∧g (some dv.toArray)=pure (ps.zip (us++ds))):Binds K fd ps ds:=by
  obtain ⟨da,oc,od,kV,doc,pm,an,cdv,ct,osl,o,n,rfl,lk,hcd,lo,ho⟩:=F.ex
  intro s us X hl
  obtain ⟨g,h1,h2⟩:=h da kV doc pm an cdv ct us hl
  exact .of_defaults rfl (X _ _ lo) ho h1 h2
end
structure zh (K:PySem.W.Frag) (mg:Str→Option Value) (x:Str) (st:Stmt) (ps:List Str) (dvs:List V) (f:Addr) (fd:FuncData):Prop where
  ex:∃dv,Vals dvs dv∧Cu K x x st dv f fd∧Binds K fd ps dv
  mg:mg x=some (.ref f)
  bd:Binds K fd ps []
theorem zh.kp {K:PySem.W.Frag}{mg:Str→Option Value}{x:Str}{st:Stmt}{ps:List Str}{dvs:List V}{f:Addr}{fd:FuncData} (F:zh K mg x st ps dvs f fd):PySem.W.keepIn K (.ref f)=true:=by
  obtain ⟨dv,_,F,_⟩:=F.ex
  exact F.kp
end L2
namespace L3
open PySem L2
section
variable {K:PySem.W.Frag}{Γ:List Nat}{t:TA}{d:DA}
def J5 (d:DA) (z:Int):DA:=fun δ P=>d δ fun xs=>P (xs++[.int z])
end
end L3
namespace L2
open PySem PySem.Spec PyProof.Rows SeqAt MeetsSeq
theorem sJ (l:Addr) (items:Array Value) (n:Nat) (dd:Option Addr) (sl:Array (Option Value)) (x:Value) (e:Value→Bool) (st:Nat) (t:Tok) (j:Nat) (hj:j<items.size) (hst:st≤j) (hsmall:(j:Int)<2 ^ 63 - 1)
    (hit:e items[j]=true) (hno:∀m (hm:m<items.size),st≤m→m<j→e items[m]=false) :
    Meets (Builtin.«list.index» ⟨[.ref l,x,.int st t],[]⟩)
      (fun A R s=>s.heap.get? l=some { cls:=.type "list",dict:=dd,data:=.seq items n,slots:=sl }∧(∀y,y∈items→EqAt A.in1 s y x (e y))∧R (.ok (.ret (.int j s.toks))) { s with toks:=s.toks+1 }):=by
  intro prog w A R s h
  obtain ⟨hp,g,d,tk,os⟩:=s;obtain ⟨hl,he,h⟩:=h
  wp_walk using wpAny_loadPart' hl
  have a1:((fun i:Int=>if i<0 then max 0 (i+(items.size:Int)) else i) ((some (st:Int)).getD 0))=((st:Nat):Int):=by
    show (if (st:Int)<0 then _ else (st:Int))=_
    rw[if_neg (by omega)]
  have a2:((fun i:Int=>if i<0 then max 0 (i+(items.size:Int)) else i) ((none:Option Int).getD (2 ^ 63 - 1)))=2 ^ 63 - 1:=by simp
  rw[a1,a2]
  exact⟨plainId_quiet plain_index_loop _,codeAny_builtin entry_index_loop (by
    rw[Around.under_plainId plain_index_loop _]
    exact index_loopAt l items n dd sl x e (2 ^ 63 - 1) j hj hsmall hit _ st rfl hst hno prog w A R _ ⟨hl,he,h⟩)⟩
section
variable {X:Cx}
def AB (K:PySem.W.Frag):V→List V→Hp→VK→Prop:=fun x vs H Q=>∃(l:Addr) (xs:List V) (y:V) (k j:Nat),x=.ref l∧vs=[y,.int k]∧H l=some (.lst xs)∧fG y=true∧xs.all fG=true∧k≤j∧(∃z,xs[j]?=some z∧eqV z y=true)∧(∀m z,k≤m→m<j→xs[m]?=some z→eqV z y=false)∧Q (.int j) H
theorem Cq:MtM X "list.index" (AB X.K):=by
  intro pins s σ H x vs v us Q I rx rv h
  obtain ⟨l,xs,y,k0,j,rfl,rfl,hH,fy,fs,hkj,⟨z,hz,ez⟩,hb,q⟩:=h
  cases rx
  obtain ⟨u,u2,rfl,ru,ru2⟩:=vals2 rv
  obtain ⟨t,rfl⟩:=ru2
  obtain ⟨hs,its,n,r,hl,e⟩:=I.xP hH
  have hj:j<xs.length:=(List.getElem?_eq_some_iff.mp hz).1
  have key:∀m (hm:m<its.toArray.size) w,xs[m]?=some w→eqU y its.toArray[m]=eqV w y:=fun m hm w hw=>by
    obtain ⟨u',hu',rw'⟩:=r.get hw
    have fw:fG w=true:=List.all_eq_true.mp fs w (List.mem_of_getElem? hw)
    have:its.toArray[m]=u':=by
      have:=(List.getElem?_eq_some_iff.mp hu').2
      simpa using this
    rw[this]
    exact xw rw' fw
  have hsz:its.toArray.size=xs.length:=by simp [hl]
  refine call_meets F.slot_list_index ⟨_,e,rfl⟩ F.entry_list_index (F.args_list_index_3 _ _ _) (sJ l its.toArray n none #[] u (eqU y) k0 t j (by omega) hkj ?_ ?_ (fun m hm hk hmj=>?_)) ⟨e,fun w hw=>nE ru fy r fs w (by simpa using hw),?_⟩
  · have:sizeLine<2 ^ 63 - 1:=by decide
    omega
  · rw[key j (by omega) z hz];exact ez
  · have hm':m<xs.length:=by omega
    rw[key m hm _ (List.getElem?_eq_getElem hm')]
    exact hb m _ hk hmj (List.getElem?_eq_getElem hm')
  · exact⟨.int j,H,I.tok _,⟨_,rfl⟩,q⟩
end
end L2
namespace L3
open PySem
open L2 hiding D Rf Rfs Rp dI dT
section
variable {K:PySem.W.Frag}{Γ:List Nat}
def og:D→Bool
  | .tup ds=>ds.all D.aW
  | d=>D.aW d
theorem Rf.ze {H:Hp}:∀{d:D}{v:V}{fp:List Addr},Rf K H d v fp→og d=true→fp=[]
  | .tup ds,v,fp,h,f=>by
    obtain ⟨a,xs,e1,e2,h⟩:=h
    exact (h.j8 f).2
  | .non,_,_,h,_=>h.2
  | .bl _,_,_,h,_=>h.2
  | .int _,_,_,h,_=>h.2
  | .str _,_,_,h,_=>h.2
  | .lst _,_,_,_,f=>by simp [og,D.aW] at f
  | .dic _,_,_,_,f=>by simp [og,D.aW] at f
  | .dit _,_,_,_,f=>by simp [og,D.aW] at f
  | .scr _,_,_,h,_=>by obtain ⟨a,e1,e2,e3⟩:=h;exact e3
  | .pin _ _,_,_,_,f=>by simp [og,D.aW] at f
  | .ins _ _ _,_,_,_,f=>by simp [og,D.aW] at f
theorem Rfs.ze {H:Hp}:∀{ds:List D}{vs:List V}{fp:List Addr},Rfs K H ds vs fp→ds.all og=true→fp=[]
  | [],_,_,h,_=>h.2
  | d::ds,vs,fp,h,f=>by
    obtain ⟨x,r,f1,f2,e1,e2,h1,h2⟩:=h
    rw[List.all_cons,Bool.and_eq_true] at f
    rw[e2,h1.ze f.1,h2.ze f.2];rfl
def zd (x:D) (y:D) (P:DK):Prop:=match x,y with | .lst a,.lst b=>(a.all og=true∧b.all og=true∧a.length+b.length≤1000)∧P (.lst (a++b)) | _,_=>False
theorem Jb:OpV K Ip zd:=⟨fun x y P P' k h=>by unfold zd at h ⊢;revert h;split<;>first | exact fun h=>⟨h.1,k _ h.2⟩ | exact id,fun {H x y v w Q} r1 r2 h=>by
  unfold zd at h
  split at h
  · rename_i a b
    obtain ⟨⟨s1,s2,hl⟩,h⟩:=h
    obtain ⟨f1,l1,xs,q1,rfl,e1,_,hr1⟩:=r1
    obtain ⟨f2,l2,ys,q2,rfl,e2,_,hr2⟩:=r2
    obtain rfl:=hr1.ze s1
    obtain rfl:=hr2.ze s2
    refine⟨l1,l2,_,_,rfl,rfl,e1,e2,by rw[hr1.length,hr2.length];exact ml hl,fun p hp=>?_⟩
    exact h _ _ [p] (Same.mC hp) ⟨p,_,[],rfl,aG,rfl,(hr1.append hr2).same (Same.mC hp)⟩ ⟨by simp,fun b hb=>by cases List.mem_singleton.mp hb;exact .inl ⟨_,aG⟩,fun b hb=>by cases List.mem_singleton.mp hb;exact .inl hp⟩
  · exact h.elim⟩
def wX (da dk dn:DE) (δ:Dl) (P:DK):Prop:=da δ fun x=>pB (some x) fun ds=>ds.all D.aW=true∧dk δ fun y=>y.aW=true∧dn δ fun z=>asI [z] fun n=>∃k j:Nat,n=(k:Int)∧k≤j∧(∃z,ds[j]?=some z∧eqV z.toV y.toV=true)∧(∀m z,k≤m→m<j→ds[m]?=some z→eqV z.toV y.toV=false)∧P (.int j)
theorem Ca {ta ty tn:TE}{da dk dn:DE} (ha:ER K Γ ta da) (hk:ER K Γ ty dk) (hn:ER K Γ tn dn):EM K Γ [] (tBM K "list" (AB K) ta (jr ty (jr tn rm))) (wX da dk dn) :=
  ⟨fun δ P P' k h=>ha.mono _ _ _ (fun x z=>by
      obtain ⟨ds,e,z1,z⟩:=lj z
      refine pS e ⟨z1,hk.mono _ _ _ (fun y z=>?_) z⟩
      refine⟨z.1,hn.mono _ _ _ (fun u z=>?_) z.2⟩
      obtain ⟨n,rfl,k0,j,z0,z1,z2,z3,z4⟩:=dA z
      exact xu.mpr ⟨k0,j,z0,z1,z2,z3,k _ z4⟩) h,
   fun {B0 fps δ σ H Q} o h=>by
    refine ha.run o (ha.mono _ _ _ (fun x z v H1 s1 r1=>?_) h)
    obtain ⟨ds,e,z1,z'⟩:=lj z
    clear z
    cases e
    obtain ⟨fp,a,xs,fq,rfl,hl,_,rs⟩:=r1
    obtain ⟨rfl,_⟩:=rs.j8 z1
    refine⟨.inl ⟨rfl,_,.inl (.inl hl)⟩,hk.run (o.same s1) (hk.mono _ _ _ (fun y z w H2 s2 r2=>?_) z')⟩
    obtain ⟨z0,z⟩:=z
    obtain ⟨fp2,r2⟩:=r2
    obtain ⟨rfl,_⟩:=r2.aW z0
    refine hn.run ((o.same s1).same s2) (hn.mono _ _ _ (fun q z w3 H3 s3 r3=>?_) z)
    obtain ⟨n,rfl,k0,j,rfl,kj,⟨u,hu,eu⟩,z3,z4⟩:=dA z
    rw[r3.int]
    refine⟨a,_,_,k0,j,rfl,rfl,s3.st _ _ (s2.st _ _ hl trivial) trivial,ir z0,?_,kj,⟨u.toV,by rw[List.getElem?_map,hu];rfl,eu⟩,fun m w hk hm hw=>?_,z4 _ H3 [] ((s1.trans s2).trans s3) ⟨rfl,rfl⟩ Nw.nil⟩
    · rw[List.all_map,List.all_eq_true]
      rw[List.all_eq_true] at z1
      exact fun y hy=>ir (z1 y hy)
    · rw[List.getElem?_map] at hw
      cases q:ds[m]? with
      | none=>rw[q] at hw;cases hw
      | some d=>rw[q] at hw;cases hw;exact z3 m d hk hm q⟩
def Peel (R R':DS):Prop:=R=R'
theorem uY {A R:DS}{E:bC}{δ:Dl} (h:∀R',Peel R' R→A { E with nx:=R' E } δ):zM A R E δ:=h R rfl
end
end L3
namespace Mine
open PySem L3
open L2 hiding D Rf Rfs Rp dI dT
open PyProof.Rows hiding St
local macro_rules | `(tactic| walk_at "v1") => `(tactic| simp only [wX,zd,Dk,zM,Dt,I0,HE,G4,DZ,G0,IC,zX,Dz,zk,Au,II,vIf,lY,vC,vOp,vUn,AQ,D6,Dm,tG,Fh,IJ,vOr,Ih,Fe,JU,Eh,Ag,FC,rb,Hr,Gd,IK,tU,Jg,EG,Hc,xu,za,A8,AF,zl,yT,yQ,xm,Fl,yO,yc,yZ,lF,wG,Dr,vIs,AK,Ec,Bq,Bg,Bp,AV,Du,CJ,Ee,Em,EJ,Ek,C6,EV,EO,yk,D.sO,Di,D.aW,FI,ya,AD,v5,u9,vJ,Io,HM,yM,BD,HQ,Eb,GW,yy,yV,vQ,vx,wa,jT,nM,J2,vSl,JK,vt,ve,sI,Hv,t5,uu,tu,sS,uv,Bo,FL,nj,FA,Ac,DG,DB,IU,Dx,C1,u7,Ad,sU,vN,y7,zb,tK,vX,wj,u5,C0,z5,AS,A4,u6,vm,BB,EL,AW,D.toV,Option.some.injEq,forall_eq',BA,yA,JO,Ey,HL,HV,Hy,Hj,zz,zy,CV,HF,noX,J5,EA,EN,EY,CI,tQ,kill,List.foldl_nil,List.foldl_cons,List.set_cons_zero,List.set_cons_succ,List.getElem?_cons_zero,List.getElem?_cons_succ,List.getElem?_nil,qV,yq,Bool.false_eq_true,Bool.not_false,Bool.not_true,if_true,if_false,ite_true,ite_false,true_and,and_true,List.length_cons,List.length_nil,decide_eq_true_eq,Bool.not_eq_true',decide_eq_false_iff_not,List.length_map,Bool.true_eq_false,eq_self,not_true_eq_false,not_false_eq_true,Int.reduceToNat,Int.reduceEq,Int.reduceLT,Int.reduceLE,Int.reducePow,Int.reduceAdd,Int.reduceMul,Int.reduceSub,Int.reduceNeg,Int.toNat_natCast])
local macro_rules | `(tactic| walk_at "vb1") => `(tactic| simp only [wX,zd,Dk,zM,Dt,I0,HE,G4,DZ,G0,IC,zX,Dz,zk,Au,II,vIf,lY,vC,vOp,vUn,AQ,D6,Dm,tG,Fh,IJ,vOr,Ih,Fe,JU,Eh,Ag,FC,rb,Hr,Gd,IK,tU,Jg,EG,Hc,xu,za,A8,AF,zl,yT,yQ,xm,Fl,yO,yc,yZ,lF,wG,Dr,vIs,AK,Ec,Bq,Bg,Bp,AV,Du,CJ,Ee,Em,EJ,Ek,C6,EV,EO,yk,D.sO,Di,D.aW,FI,ya,AD,v5,u9,vJ,Io,HM,yM,BD,HQ,Eb,GW,yy,yV,vQ,vx,wa,jT,nM,J2,vSl,JK,vt,ve,sI,Hv,t5,uu,tu,sS,uv,Bo,FL,nj,FA,Ac,DG,DB,IU,Dx,C1,u7,Ad,sU,vN,y7,zb,tK,vX,wj,u5,C0,z5,AS,A4,u6,vm,BB,EL,AW,D.toV,Option.some.injEq,forall_eq',BA,yA,JO,Ey,HL,HV,Hy,Hj,zz,zy,CV,HF,noX,J5,EA,EN,EY,CI,tQ,kill,List.foldl_nil,List.foldl_cons,List.set_cons_zero,List.set_cons_succ,List.getElem?_cons_zero,List.getElem?_cons_succ,List.getElem?_nil,qV,yq,Bool.false_eq_true,Bool.not_false,Bool.not_true,if_true,if_false,ite_true,ite_false,true_and,and_true,List.length_cons,List.length_nil,decide_eq_true_eq,Bool.not_eq_true',decide_eq_false_iff_not,List.length_map,Bool.true_eq_false,eq_self,not_true_eq_false,not_false_eq_true,Int.reduceToNat,Int.reduceEq,Int.reduceLT,Int.reduceLE,Int.reducePow,Int.reduceAdd,Int.reduceMul,Int.reduceSub,Int.reduceNeg,Int.toNat_natCast,kC,fE,List.reduceReplicate,List.replicate_succ,List.replicate_zero,List.map_cons,List.map_nil,Option.getD_some,List.cons_append,List.nil_append,Nat.reduceAdd])
local macro_rules | `(tactic| walk_at "v") => `(tactic| try (walk_at "v1"))
local macro_rules | `(tactic| walk_at "vb") => `(tactic| try (walk_at "vb1"))
local macro_rules | `(tactic| walk_at "cd") => `(tactic| first | exact ⟨by decide,100,by decide,by decide⟩ | exact ⟨by omega,100,by omega,by decide⟩ | omega | decide | rfl | exact ⟨by decide,by decide,by decide⟩ | exact ⟨64,64,by omega,by omega,by decide⟩ | exact ⟨200,200,by omega,by omega,by decide⟩ | exact dJ)
local macro_rules | `(tactic| walk_at "go") => `(tactic| repeat (first | (walk_at "v1") | ((with_reducible refine And.intro ?k1 ?_); (case k1 => walk_at "cd"))))
local macro_rules | `(tactic| walk_at "gb") => `(tactic| repeat (first | (walk_at "vb1") | ((with_reducible refine And.intro ?k1 ?_); (case k1 => walk_at "cd"))))
def top (i:Nat):Stmt:=PySem.Challenge.pw_evenmix_k71_whole_dealt_rows_mixed.main.body.getD i (.Pass ⟨0,0,0,0⟩)
abbrev dW:Stmt:=top 1
abbrev me:List Str:=["marks","dealing","row","short"]
abbrev fh:List Str:=["marks"]
theorem jh:aE me fh (ai dW):=⟨rfl,rfl,rfl,by decide +kernel,rfl,by decide +kernel,by decide +kernel⟩
abbrev fK:Stmt:=top 2
abbrev oG:List Str:=["marks","dealing","row","rows","sources","reached","source","columns","column"]
abbrev hX:List Str:=["marks","dealing","row"]
theorem eQ:aE oG hX (ai fK):=⟨rfl,rfl,rfl,by decide +kernel,rfl,by decide +kernel,by decide +kernel⟩
abbrev bY:Stmt:=top 3
abbrev ku:List Str:=["line","sources"]
abbrev dy:List Str:=["line","sources"]
theorem r8:aE ku dy (ai bY):=⟨rfl,rfl,rfl,by decide +kernel,rfl,by decide +kernel,by decide +kernel⟩
abbrev cj:Stmt:=top 4
abbrev jD:List Str:=["dealing","sources","column","row","freed"]
abbrev cK:List Str:=["dealing","sources","column"]
theorem gm:aE jD cK (ai cj):=⟨rfl,rfl,rfl,by decide +kernel,rfl,by decide +kernel,by decide +kernel⟩
abbrev eP:Stmt:=top 14
abbrev ng:List Str:=["thing"]
abbrev fN:List Str:=["thing"]
theorem xx:aE ng fN (ai eP):=⟨rfl,rfl,rfl,by decide +kernel,rfl,by decide +kernel,by decide +kernel⟩
abbrev gk:Stmt:=top 15
abbrev oH:List Str:=["number","many"]
abbrev gN:List Str:=["number","many"]
theorem xJ:aE oH gN (ai gk):=⟨rfl,rfl,rfl,by decide +kernel,rfl,by decide +kernel,by decide +kernel⟩
abbrev bV:Stmt:=top 16
abbrev kf:List Str:=["table"]
abbrev dz:List Str:=["table"]
theorem rH:aE kf dz (ai bV):=⟨rfl,rfl,rfl,by decide +kernel,rfl,by decide +kernel,by decide +kernel⟩
abbrev bX:Stmt:=top 17
abbrev kc:List Str:=["table"]
abbrev cF:List Str:=["table"]
theorem rY:aE kc cF (ai bX):=⟨rfl,rfl,rfl,by decide +kernel,rfl,by decide +kernel,by decide +kernel⟩
abbrev bM:Stmt:=top 18
abbrev iF:List Str:=["table"]
abbrev bZ:List Str:=["table"]
theorem oA:aE iF bZ (ai bM):=⟨rfl,rfl,rfl,by decide +kernel,rfl,by decide +kernel,by decide +kernel⟩
abbrev b7:Stmt:=top 19
abbrev jU:List Str:=["table"]
abbrev dC:List Str:=["table"]
theorem rO:aE jU dC (ai b7):=⟨rfl,rfl,rfl,by decide +kernel,rfl,by decide +kernel,by decide +kernel⟩
abbrev dZ:Stmt:=top 20
abbrev mZ:List Str:=["table","place"]
abbrev gg:List Str:=["table","place"]
theorem wk:aE mZ gg (ai dZ):=⟨rfl,rfl,rfl,by decide +kernel,rfl,by decide +kernel,by decide +kernel⟩
abbrev fB:Stmt:=top 22
abbrev qk:List Str:=["table","sums"]
abbrev i7:List Str:=["table"]
theorem tE:aE qk i7 (ai fB):=⟨rfl,rfl,rfl,by decide +kernel,rfl,by decide +kernel,by decide +kernel⟩
abbrev cR:Stmt:=top 23
abbrev mi:List Str:=["pairs","many"]
abbrev fj:List Str:=["pairs"]
theorem n0:aE mi fj (ai cR):=⟨rfl,rfl,rfl,by decide +kernel,rfl,by decide +kernel,by decide +kernel⟩
abbrev iu:Stmt:=top 24
abbrev qT:List Str:=["pair","many"]
abbrev i9:List Str:=["pair","many"]
theorem zR:aE qT i9 (ai iu):=⟨rfl,rfl,rfl,by decide +kernel,rfl,by decide +kernel,by decide +kernel⟩
abbrev gr:Stmt:=top 25
abbrev qH:List Str:=["pairs","many","table","pair"]
abbrev jc:List Str:=["pairs"]
theorem lT:aE qH jc (ai gr):=⟨rfl,rfl,rfl,by decide +kernel,rfl,by decide +kernel,by decide +kernel⟩
abbrev cU:Stmt:=top 26
abbrev kP:List Str:=["table","parts","dealing","row"]
abbrev dq:List Str:=["table","parts","dealing"]
theorem mI:aE kP dq (ai cU):=⟨rfl,rfl,rfl,by decide +kernel,rfl,by decide +kernel,by decide +kernel⟩
abbrev cS:Stmt:=top 27
abbrev lX:List Str:=["table","left","pairs","dealing","parts"]
abbrev eV:List Str:=["table"]
theorem gH:aE lX eV (ai cS):=⟨rfl,rfl,rfl,by decide +kernel,rfl,by decide +kernel,by decide +kernel⟩
abbrev eY:Stmt:=top 28
abbrev oy:List Str:=["table"]
abbrev gQ:List Str:=["table"]
theorem yw:aE oy gQ (ai eY):=⟨rfl,rfl,rfl,by decide +kernel,rfl,by decide +kernel,by decide +kernel⟩
abbrev cT:Stmt:=top 29
abbrev mh:List Str:=["row"]
abbrev eX:List Str:=["row"]
theorem uz:aE mh eX (ai cT):=⟨rfl,rfl,rfl,by decide +kernel,rfl,by decide +kernel,by decide +kernel⟩
abbrev ix:Stmt:=top 31
abbrev qj:List Str:=["row"]
abbrev il:List Str:=["row"]
theorem zI:aE qj il (ai ix):=⟨rfl,rfl,rfl,by decide +kernel,rfl,by decide +kernel,by decide +kernel⟩
abbrev bP:Stmt:=top 32
abbrev i3:List Str:=["row"]
abbrev cn:List Str:=["row"]
theorem pC:aE i3 cn (ai bP):=⟨rfl,rfl,rfl,by decide +kernel,rfl,by decide +kernel,by decide +kernel⟩
abbrev bS:Stmt:=top 33
abbrev kD:List Str:=["one","other"]
abbrev cE:List Str:=["one","other"]
theorem rC:aE kD cE (ai bS):=⟨rfl,rfl,rfl,by decide +kernel,rfl,by decide +kernel,by decide +kernel⟩
abbrev fP:Stmt:=top 34
abbrev oO:List Str:=["row","heads","head","number"]
abbrev ic:List Str:=["row"]
theorem jo:aE oO ic (ai fP):=⟨rfl,rfl,rfl,by decide +kernel,rfl,by decide +kernel,by decide +kernel⟩
abbrev cW:Stmt:=top 35
abbrev kL:List Str:=["one","other"]
abbrev eB:List Str:=["one","other"]
theorem sP:aE kL eB (ai cW):=⟨rfl,rfl,rfl,by decide +kernel,rfl,by decide +kernel,by decide +kernel⟩
abbrev bH:Stmt:=top 36
abbrev ia:List Str:=["one","other","above"]
abbrev bN:List Str:=["one","other"]
theorem jE:aE ia bN (ai bH):=⟨rfl,rfl,rfl,by decide +kernel,rfl,by decide +kernel,by decide +kernel⟩
abbrev jk:Stmt:=top 37
abbrev sQ:List Str:=["one","other"]
abbrev kx:List Str:=["one","other"]
theorem B4:aE sQ kx (ai jk):=⟨rfl,rfl,rfl,by decide +kernel,rfl,by decide +kernel,by decide +kernel⟩
abbrev fM:Stmt:=top 39
abbrev oR:List Str:=["row","step","giver","taker"]
abbrev hV:List Str:=["row","step"]
theorem mL:aE oR hV (ai fM):=⟨rfl,rfl,rfl,by decide +kernel,rfl,by decide +kernel,by decide +kernel⟩
abbrev eR:Stmt:=top 40
abbrev ny:List Str:=["row","step","made"]
abbrev cZ:List Str:=["row","step"]
theorem p8:aE ny cZ (ai eR):=⟨rfl,rfl,rfl,by decide +kernel,rfl,by decide +kernel,by decide +kernel⟩
abbrev fX:Stmt:=top 41
abbrev oJ:List Str:=["one","other","bar","steps"]
abbrev gZ:List Str:=["one","other"]
theorem m9:aE oJ gZ (ai fX):=⟨rfl,rfl,rfl,by decide +kernel,rfl,by decide +kernel,by decide +kernel⟩
abbrev dX:Stmt:=top 42
abbrev lO:List Str:=["row","steps","step"]
abbrev eZ:List Str:=["row","steps"]
theorem kZ:aE lO eZ (ai dX):=⟨rfl,rfl,rfl,by decide +kernel,rfl,by decide +kernel,by decide +kernel⟩
abbrev b8:Stmt:=top 43
abbrev jA:List Str:=["one","other","places","goals","numbers","steps","step"]
abbrev cL:List Str:=["one","other"]
theorem cm:aE jA cL (ai b8):=⟨rfl,rfl,rfl,by decide +kernel,rfl,by decide +kernel,by decide +kernel⟩
abbrev bU:Stmt:=top 44
abbrev j7:List Str:=["goals","numbers","giver","taker"]
abbrev dB:List Str:=["goals","numbers"]
theorem jt:aE j7 dB (ai bU):=⟨rfl,rfl,rfl,by decide +kernel,rfl,by decide +kernel,by decide +kernel⟩
abbrev cC:Stmt:=top 45
abbrev jZ:List Str:=["one","row","steps","place","step"]
abbrev dE:List Str:=["one","row"]
theorem fk:aE jZ dE (ai cC):=⟨rfl,rfl,rfl,by decide +kernel,rfl,by decide +kernel,by decide +kernel⟩
abbrev cb:Stmt:=top 46
abbrev ju:List Str:=["row","place","second"]
abbrev cM:List Str:=["row","place","second"]
theorem qx:aE ju cM (ai cb):=⟨rfl,rfl,rfl,by decide +kernel,rfl,by decide +kernel,by decide +kernel⟩
abbrev cB:Stmt:=top 48
abbrev jW:List Str:=["bottom"]
abbrev dD:List Str:=["bottom"]
theorem rQ:aE jW dD (ai cB):=⟨rfl,rfl,rfl,by decide +kernel,rfl,by decide +kernel,by decide +kernel⟩
abbrev bI:Stmt:=top 49
abbrev gW:List Str:=["one","other","rest"]
abbrev bO:List Str:=["one","other"]
theorem eF:aE gW bO (ai bI):=⟨rfl,rfl,rfl,by decide +kernel,rfl,by decide +kernel,by decide +kernel⟩
abbrev d8:Stmt:=top 50
abbrev lS:List Str:=["table","bottom","divisor","row","cell"]
abbrev fc:List Str:=["table","bottom"]
theorem gK:aE lS fc (ai d8):=⟨rfl,rfl,rfl,by decide +kernel,rfl,by decide +kernel,by decide +kernel⟩
abbrev cx:Stmt:=top 51
abbrev kX:List Str:=["row","divisor"]
abbrev en:List Str:=["row","divisor"]
theorem uo:aE kX en (ai cx):=⟨rfl,rfl,rfl,by decide +kernel,rfl,by decide +kernel,by decide +kernel⟩
abbrev cz:Stmt:=top 52
abbrev kQ:List Str:=["table","bottom","divisor"]
abbrev cV:List Str:=["table","bottom"]
theorem nr:aE kQ cV (ai cz):=⟨rfl,rfl,rfl,by decide +kernel,rfl,by decide +kernel,by decide +kernel⟩
abbrev ip:Stmt:=top 54
abbrev qO:List Str:=["one","other","told","table","row","step"]
abbrev iU:List Str:=["one","other"]
theorem gY:aE qO iU (ai ip):=⟨rfl,rfl,rfl,by decide +kernel,rfl,by decide +kernel,by decide +kernel⟩
abbrev cA:Stmt:=top 55
abbrev kT:List Str:=["many"]
abbrev eD:List Str:=["many"]
theorem ui:aE kT eD (ai cA):=⟨rfl,rfl,rfl,by decide +kernel,rfl,by decide +kernel,by decide +kernel⟩
abbrev eh:Stmt:=top 56
abbrev m5:List Str:=["many","one"]
abbrev fJ:List Str:=["many","one"]
theorem xt:aE m5 fJ (ai eh):=⟨rfl,rfl,rfl,by decide +kernel,rfl,by decide +kernel,by decide +kernel⟩
abbrev d7:Stmt:=top 57
abbrev nu:List Str:=["table","row","step","giver","taker","whole","kept","led"]
abbrev fZ:List Str:=["table","row","step"]
theorem gx:aE nu fZ (ai d7):=⟨rfl,rfl,rfl,by decide +kernel,rfl,by decide +kernel,by decide +kernel⟩
abbrev d6:Stmt:=top 58
abbrev mF:List Str:=["one","parts","other","others"]
abbrev fW:List Str:=["one","parts","other","others"]
theorem wz:aE mF fW (ai d6):=⟨rfl,rfl,rfl,by decide +kernel,rfl,by decide +kernel,by decide +kernel⟩
abbrev df:Stmt:=top 60
abbrev kY:List Str:=["_law_script","_law_k"]
abbrev du:List Str:=["_law_script","_law_k"]
theorem tP:aE kY du (ai df):=⟨rfl,rfl,rfl,by decide +kernel,rfl,by decide +kernel,by decide +kernel⟩
abbrev eN:Stmt:=top 61
abbrev nq:List Str:=["_law_found"]
abbrev eS:List Str:=["_law_found"]
theorem xB:aE nq eS (ai eN):=⟨rfl,rfl,rfl,by decide +kernel,rfl,by decide +kernel,by decide +kernel⟩
abbrev fb:Stmt:=top 62
abbrev oK:List Str:=["_law_script","_law_shape","_law_many","_law_one","_law_cell","_law_place"]
abbrev gX:List Str:=["_law_script"]
theorem ik:aE oK gX (ai fb):=⟨rfl,rfl,rfl,by decide +kernel,rfl,by decide +kernel,by decide +kernel⟩
abbrev b9:Stmt:=top 63
abbrev jy:List Str:=["_law_row","_law_cells","_law_turn","_law_found","_law_cell","_law_giver","_law_taker","_law_amount"]
abbrev cN:List Str:=["_law_row","_law_cells","_law_turn"]
theorem cu:aE jy cN (ai b9):=⟨rfl,rfl,rfl,by decide +kernel,rfl,by decide +kernel,by decide +kernel⟩
abbrev dU:Stmt:=top 64
abbrev md:List Str:=["_law_cells","_law_many","_law_base","_law_left","_law_found","_law_k","_law_at"]
abbrev eU:List Str:=["_law_cells","_law_many","_law_base"]
theorem gL:aE md eU (ai dU):=⟨rfl,rfl,rfl,by decide +kernel,rfl,by decide +kernel,by decide +kernel⟩
abbrev gy:Stmt:=top 65
abbrev qJ:List Str:=["_law_script","_law_row"]
abbrev iX:List Str:=["_law_script"]
theorem oF:aE qJ iX (ai gy):=⟨rfl,rfl,rfl,by decide +kernel,rfl,by decide +kernel,by decide +kernel⟩
abbrev cX:Stmt:=top 66
abbrev kS:List Str:=["_law_found","_law_many","_law_number"]
abbrev ek:List Str:=["_law_found","_law_many"]
theorem nc:aE kS ek (ai cX):=⟨rfl,rfl,rfl,by decide +kernel,rfl,by decide +kernel,by decide +kernel⟩
abbrev eO:Stmt:=top 67
abbrev nB:List Str:=["_law_pairs_here","_law_many","_law_seen","_law_pair"]
abbrev fV:List Str:=["_law_pairs_here","_law_many"]
theorem lQ:aE nB fV (ai eO):=⟨rfl,rfl,rfl,by decide +kernel,rfl,by decide +kernel,by decide +kernel⟩
abbrev d9:Stmt:=top 68
abbrev mW:List Str:=["_law_pairs_here","_law_row","_law_found","_law_parts","_law_dealing_here","_law_k"]
abbrev fS:List Str:=["_law_pairs_here","_law_row"]
theorem iL:aE mW fS (ai d9):=⟨rfl,rfl,rfl,by decide +kernel,rfl,by decide +kernel,by decide +kernel⟩
abbrev kA:Stmt:=top 69
abbrev EB:List Str:=["_law_script","_law_row","_law_goal","_law_lead","_law_table","_law_pairs_here","_law_bottom"]
abbrev sv:List Str:=["_law_script"]
theorem oC:aE EB sv (ai kA):=⟨rfl,rfl,rfl,by decide +kernel,rfl,by decide +kernel,by decide +kernel⟩
structure Txt (K:PySem.W.Frag) (mg:Str→Option Value) (base:Heap):Prop where
  len_:mg "len" = none
  isinstance_:mg "isinstance" = none
  int_:mg "int" = none
  bool_:mg "bool" = none
  list_:mg "list" = none
  range_:mg "range" = none
  sum_:mg "sum" = none
  sorted_:mg "sorted" = none
  tuple_:mg "tuple" = none
  str_:mg "str" = none
  min_:mg "min" = none
  any_:mg "any" = none
  all_:mg "all" = none
  reversed_:mg "reversed" = none
  abs_:mg "abs" = none
  zip_:mg "zip" = none
  ValueError_:mg "ValueError" = none
  MOST_:∃t,mg "MOST" = some (Value.int 8 t)
  lam_:L3.Fg K mg base
structure Fns (K:PySem.W.Frag) (mg:Str→Option Value):Prop where
  h_dealing_in:∃f fd,FnAt K mg "dealing_in" dW fh f fd
  h_deal_row:∃f fd,FnAt K mg "deal_row" fK hX f fd
  h_columns_from:∃f fd,FnAt K mg "columns_from" bY dy f fd
  h_shift_dealing:∃f fd,FnAt K mg "shift_dealing" cj cK f fd
  h_is_number:∃f fd,FnAt K mg "is_number" eP fN f fd
  h_is_place:∃f fd,FnAt K mg "is_place" gk gN f fd
  h_copied_table:∃f fd,FnAt K mg "copied_table" bV dz f fd
  h_sums_of_rows:∃f fd,FnAt K mg "sums_of_rows" bX cF f fd
  h_sums_of_columns:∃f fd,FnAt K mg "sums_of_columns" bM bZ f fd
  h_turned_table:∃f fd,FnAt K mg "turned_table" b7 dC f fd
  h_column_of:∃f fd,FnAt K mg "column_of" dZ gg f fd
  h_is_even:∃f fd,FnAt K mg "is_even" fB i7 f fd
  h_is_mixture:∃f fd,FnAt K mg "is_mixture" cR fj f fd
  h_is_pair:∃f fd,FnAt K mg "is_pair" iu i9 f fd
  h_told_by:∃f fd,FnAt K mg "told_by" gr jc f fd
  h_add_dealing:∃f fd,FnAt K mg "add_dealing" cU dq f fd
  h_mixture_of:∃f fd,FnAt K mg "mixture_of" cS eV f fd
  h_marks_of:∃f fd,FnAt K mg "marks_of" eY gQ f fd
  h_marked_row:∃f fd,FnAt K mg "marked_row" cT eX f fd
  h_falling:∃f fd,FnAt K mg "falling" ix il f fd
  h_falling_places:∃f fd,FnAt K mg "falling_places" bP cn f fd
  h_places_below:∃f fd,FnAt K mg "places_below" bS cE f fd
  h_heads_of:∃f fd,FnAt K mg "heads_of" fP ic f fd
  h_check_alike:∃f fd,FnAt K mg "check_alike" cW eB f fd
  h_first_head_above:∃f fd,FnAt K mg "first_head_above" bH bN f fd
  h_bar_of:∃f fd,FnAt K mg "bar_of" jk kx f fd
  h_can_step:∃f fd,FnAt K mg "can_step" fM hV f fd
  h_step_made:∃f fd,FnAt K mg "step_made" eR cZ f fd
  h_steps_to:∃f fd,FnAt K mg "steps_to" fX gZ f fd
  h_row_behind:∃f fd,FnAt K mg "row_behind" dX eZ f fd
  h_evening_steps:∃f fd,FnAt K mg "evening_steps" b8 cL f fd
  h_evening_step:∃f fd,FnAt K mg "evening_step" bU dB f fd
  h_exchanges_to:∃f fd,FnAt K mg "exchanges_to" cC dE f fd
  h_exchange_step:∃f fd,FnAt K mg "exchange_step" cb cM f fd
  h_check_bottom:∃f fd,FnAt K mg "check_bottom" cB dD f fd
  h_greatest_divisor:∃f fd,FnAt K mg "greatest_divisor" bI bO f fd
  h_divisor_of:∃f fd,FnAt K mg "divisor_of" d8 fc f fd
  h_divided_row:∃f fd,FnAt K mg "divided_row" cx en f fd
  h_least_terms:∃f fd,zh K mg "least_terms" cz cV [.int 1] f fd
  h_lead_to:∃f fd,FnAt K mg "lead_to" ip iU f fd
  h_plain_table:∃f fd,FnAt K mg "plain_table" cA eD f fd
  h_plain_row:∃f fd,FnAt K mg "plain_row" eh fJ f fd
  h_led_table:∃f fd,FnAt K mg "led_table" d7 fZ f fd
  h_mixed_row:∃f fd,FnAt K mg "mixed_row" d6 fW f fd
  h_law_cell_at:∃f fd,FnAt K mg "_law_cell_at" df du f fd
  h_law_whole:∃f fd,FnAt K mg "_law_whole" eN eS f fd
  h_law_tops:∃f fd,FnAt K mg "_law_tops" fb gX f fd
  h_law_more_even:∃f fd,FnAt K mg "_law_more_even" b9 cN f fd
  h_law_digits:∃f fd,FnAt K mg "_law_digits" dU eU f fd
  h_law_two:∃f fd,FnAt K mg "_law_two" gy iX f fd
  h_law_dealing:∃f fd,FnAt K mg "_law_dealing" cX ek f fd
  h_law_pairs:∃f fd,FnAt K mg "_law_pairs" eO fV f fd
  h_law_mixed:∃f fd,FnAt K mg "_law_mixed" d9 fS f fd
  h_law:∃f fd,FnAt K mg "law" kA sv f fd
structure Cs where
  (MixError NoBottom NotAlike NoStep NoMix NotEven:Addr)
structure Exs (K:PySem.W.Frag) (mg:Str→Option Value) (base:Heap) (c:Cs):Prop where
  m_MixError:mg "MixError" = some (.ref c.MixError)
  m_NoBottom:mg "NoBottom" = some (.ref c.NoBottom)
  m_NotAlike:mg "NotAlike" = some (.ref c.NotAlike)
  m_NoStep:mg "NoStep" = some (.ref c.NoStep)
  m_NoMix:mg "NoMix" = some (.ref c.NoMix)
  m_NotEven:mg "NotEven" = some (.ref c.NotEven)
  o_MixError:jw base c.MixError []
  o_NoBottom:jw base c.NoBottom [c.MixError]
  k_NoBottom:PySem.W.Jf K c.NoBottom
  o_NoStep:jw base c.NoStep [c.MixError]
  k_NoStep:PySem.W.Jf K c.NoStep
  o_NotAlike:jw base c.NotAlike [c.MixError]
  k_NotAlike:PySem.W.Jf K c.NotAlike
section
variable {P:Program}{w:World}{K:PySem.W.Frag}{mg:Str→Option Value}{base:Heap}
def gE:DSp:=fun ds P=>∃ns,ds=[dI ns]∧ns.length<64∧P (dI (ja ns))
theorem mj:bE gE:=by
  intro xs P P' k h
  unfold gE at h ⊢
  grind
theorem xH:∀ds P,gE ds P→ds.length=1:=by
  intro ds P h
  obtain ⟨_,e,_⟩:=h
  rw[e];rfl
theorem t6 {f:Addr}{fd:FuncData} (F:FnAt K mg "falling" ix il f fd) (A_:Fns K mg) (T:Txt K mg base) {c:Cs} (xs:Exs K mg base c):aM P w K mg base CX0 1 f fd il (spP K gE):=by
  refine F.fn.ok zI (fun vs H Q E h=>aU xH h) (fun cdv A outer s H vs Q E hr h=>?_)
  refine⟨_,(aq (aH (CF (rE (K:=K) rfl) (by rfl) T.sorted_ boot_sorted (af (pv 0) aj) (A2 jF Fj)))),bq (Γn:=[]) (N:=qj) (aJ (M:=[]) (wY (ah (ES.er (aa 0)) ao))) (fun ds P hS=>?_) h⟩
  obtain ⟨ns,rfl,hl,hP⟩:=hS
  rw[show aN qj [dI ns]=[some (dI ns)] from rfl]
  walk_at "v"
  refine⟨hl,fun ms hp ho=>?_⟩
  rw[AO hp ho]
  exact hP
def eL:DSp:=fun ds P=>∃ns:List Int,ds=[dI ns]∧ns.length<64∧∀ms:List Int,ms.Perm (lU ns.length)→ms.Pairwise (fun a b=>ns.getD b.toNat 0≤ns.getD a.toNat 0)→P (dI ms)
theorem nU:bE eL:=by
  intro xs P P' k h
  obtain ⟨ns,e,h64,h⟩:=h
  exact⟨ns,e,h64,fun ms h1 h2=>k _ (h ms h1 h2)⟩
theorem oQ:∀ds P,eL ds P→ds.length=1:=by
  intro ds P h
  obtain ⟨_,e,_⟩:=h
  rw[e];rfl
theorem pY {f:Addr}{fd:FuncData} (F:FnAt K mg "falling_places" bP cn f fd) (A_:Fns K mg) (T:Txt K mg base) {c:Cs} (xs:Exs K mg base c):aM P w K mg base CX0 1 f fd cn (spP K eL):=by
  obtain ⟨c_,hfc_,hcd_,hbm_⟩:=T.lam_.of F
  refine L3.Fun.okL F.fn hfc_ pC (fun vs H Q E h=>aU oQ h) (fun A outer s H vs Q E hr h=>?_)
  refine⟨_,(aq (aH (Aa (K:=K) (i:=0) (cr:=s.heap.objs.size+1) rfl rfl rfl T.sorted_ rfl T.range_ (ax (aR (K:=K) rfl) (by rfl) T.len_ PySem.boot_len (af (pv 0) aj)) (fun σ H Q a xs e hS q=>⟨_,e,_,_,rfl,.inl hS,q⟩) rfl (Or.inr (Or.inl rfl)) rfl rfl (by have:=hr.dp;show _<_;exact Nat.lt_of_le_of_lt (Nat.le_trans (Nat.le_add_right _ _) (Nat.le_add_right _ _)) this) rfl rfl hcd_ rfl rfl hbm_ (fun _ _ _ _=>rfl) rfl rfl (by decide +kernel) rfl rfl rfl (by decide) (by decide) (by decide)))),bq (Γn:=[]) (N:=i3) (aJ (M:=[]) (zE 0)) (fun ds P hS=>?_) h⟩
  obtain ⟨ns,rfl,hl,hP⟩:=hS
  rw[show aN i3 [dI ns]=[some (dI ns)] from rfl]
  walk_at "v"
  exact⟨ns,rfl,hl,hP⟩
def jx (one other:List Int):List Nat:=(List.range one.length).filter fun p=>decide (one.getD p 0<other.getD p 0)
def bT:DSp:=fun ds P=>∃one other,ds=[dI one,dI other]∧one.length≤1000∧one.length=other.length∧P (dI ((jx one other).map fun (p:Nat)=>(p:Int)))
theorem iP:bE bT:=by
  intro xs P P' k h
  unfold bT at h ⊢
  grind
theorem qG:∀ds P,bT ds P→ds.length=2:=by
  intro ds P h
  obtain ⟨_,_,e,_⟩:=h
  rw[e];rfl
theorem my {f:Addr}{fd:FuncData} (F:FnAt K mg "places_below" bS cE f fd) (A_:Fns K mg) (T:Txt K mg base) {c:Cs} (xs:Exs K mg base c):aM P w K mg base CX0 1 f fd cE (spP K bT):=by
  refine F.fn.ok rC (fun vs H Q E h=>aU qG h) (fun cdv A outer s H vs Q E hr h=>?_)
  refine⟨_,(aq (aH (ph rfl (aL.of (sc0:=(ai bS)) (tn:=["place"]) (cap:=["one","other"]) (idx:=[0,1]) (by decide +kernel) rfl rfl) (cI rfl T.range_ (af (ax (aR (K:=K) rfl) (by rfl) T.len_ PySem.boot_len (af (pv 0) aj)) aj)) (fI.name (by decide)) (fun _ _ _ _ _=>aQ (i:=0) (aO (l:=["place","one","other"]) (by decide +kernel)) rfl (by first | exact Or.inl rfl | exact Or.inr rfl) (by first | exact .inl rfl | exact .inr rfl)) (fun _ _ _ _ _=>so (bh sF (aB (aw (K:=K) rfl) (pv 1) (pv 0) (fun _ _=>rfl)) (aB (aw (K:=K) rfl) (pv 2) (pv 0) (fun _ _=>rfl)) (bo _))) (fun _ _ _ _ _=>(pv 0)) (by intro _;rfl)))),bq (Γn:=[]) (N:=kD) (aJ (M:=[]) (pI (fH (ah (EM.er (bf cP (ah (ES.er (aa 0)) ao))) ao)) (aS 0) (aY (EM.er (aA kE (ES.er (aX (aa 1) (ES.er (aa 0)))) (ES.er (aX (aa 2) (ES.er (aa 0))))))) (ER.aW (ES.er (aa 0))))) (fun ds P hS=>?_) h⟩
  obtain ⟨one,other,rfl,hl,he,hP⟩:=hS
  rw[show aN kD [dI one,dI other]=[some (dI one),some (dI other)] from rfl]
  walk_at "v"
  refine vd (lo:=0) (n:=one.length) (p:=fun p=>decide (one.getD p 0<other.getD p 0)) (g:=fun (p:Nat)=>.int (p:Int)) (fun R h=>?_) hl (fun i hi R h=>?_) ?_
  · walk_at "go";exact h
  · walk_at "gb"
    rw[Int.zero_add]
    refine aF (by omega) (aF (by omega) ?_)
    walk_at "gb"
    split
    · rename_i c
      rw[decide_eq_true c] at h
      exact h
    · rename_i c
      rw[decide_eq_false c] at h
      exact h
  · rw[iM];exact hP
def lW (ns:List Int):List Int:=(List.range ns.length).map fun (i:Nat)=>Maj.nW ns (i+1)
theorem lP {ns:List Int}:(lW ns).length=ns.length:=by unfold lW;rw[List.length_map,List.length_range]
theorem v8 {ns:List Int}{i:Nat} (h:i<ns.length):(lW ns).getD i 0=Maj.nW ns (i+1):=by
  unfold lW
  rw[List.getD_eq_getElem?_getD,List.getElem?_map,List.getElem?_range h];rfl
def gU:DSp:=fun ds P=>∃ns,ds=[dI ns]∧ns.length<64∧P (dI (lW ns))
theorem nY:bE gU:=by
  intro xs P P' k h
  unfold gU at h ⊢
  grind
theorem xf:∀ds P,gU ds P→ds.length=1:=by
  intro ds P h
  obtain ⟨_,e,_⟩:=h
  rw[e];rfl
theorem yG {f:Addr}{fd:FuncData} (F:FnAt K mg "heads_of" fP ic f fd) (A_:Fns K mg) (T:Txt K mg base) {c:Cs} (xs:Exs K mg base c):aM P w K mg base CX0 2 f fd ic (spP K gU):=by
  obtain ⟨f0,d0,E_falling⟩:=A_.h_falling
  have G_falling:aM P w K mg base CX0 1 f0 d0 il (spP K gE):=t6 E_falling A_ T xs
  refine F.fn.ok jo (fun vs H Q E h=>aU xf h) (fun cdv A outer s H vs Q E hr h=>?_)
  refine⟨_,(ak (aI (i:=1) jo.nd rfl (by first | exact Or.inl rfl | exact Or.inr rfl) (iG aj))
      (ak (aI (i:=2) jo.nd rfl (by first | exact Or.inl rfl | exact Or.inr rfl) av)
      (ak (gj PassesOwn.never rfl (bc (K:=K) rfl (ay G_falling (hr.mono (by decide)) rfl E_falling.mg E_falling.fn.kp E_falling.bd .nil bj (af (pv 0) aj))) (aQ (i:=3) jo.nd rfl (by first | exact Or.inl rfl | exact Or.inr rfl)) (ak (aI (i:=2) jo.nd rfl (by first | exact Or.inl rfl | exact Or.inr rfl) (ba iB (pv 2) (pv 3)))
      (aq (iC (rf PySem.F.plainAttrs_list PySem.F.slot_list_append PySem.F.type_list_append jS (pv 1) (af (pv 2) aj))))))
      (aq (aH (pv 1)))))),bq (Γn:=[1]) (N:=oO) (ar (ST.post (Γn:=[1]) (bQ (M:=[]) 1 (jB dw)))
      (ar (ST.post (Γn:=[1]) (aP 2 (EM.es au)))
      (ar (fQ (bB (EM.es (aK (S:=gE) mj (ah (ES.er (aa 0)) ao)))) (aS 3) (ar (ST.post (Γn:=[1]) (aP 2 (EM.es (aA eE (ES.er (aa 2)) (ES.er (aa 3))))))
      (ST.post (Γn:=[1]) (jO (M:=[]) 1 (ER.aW (ES.er (aa 2)))))))
      (aJ (M:=[1]) (fC 1))))) (fun ds P hS=>?_) h⟩
  obtain ⟨ns,rfl,hl,hP⟩:=hS
  rw[show aN oO [dI ns]=[some (dI ns),none,none,none] from rfl]
  walk_at "go"
  refine⟨ns,rfl,hl,?_⟩
  walk_at "v"
  have hfl:=cf ns
  refine eG (as:=ja ns) (f:=L3.D.int) (fun i δ=>∃o3:Option D,δ=[some (dI ns),some (dI ((List.range i).map fun (j:Nat)=>Maj.nW ns (j+1))),some (.int (Maj.nW ns i)),o3]) ⟨none,rfl⟩ ?_ ?_
  · rintro i a δ N e ⟨o3,rfl⟩ hN
    obtain ⟨h1,h2⟩:=List.getElem?_eq_some_iff.mp e
    have et:Maj.nW ns i+a=Maj.nW ns (i+1):=by
      unfold Maj.nW
      rw[List.take_add_one,e,List.sum_append];simp
    walk_at "go"
    rw[et,AH]
    have er:(List.range (i+1)).map (fun (j:Nat)=>Maj.nW ns (j+1))=(List.range i).map (fun (j:Nat)=>Maj.nW ns (j+1))++[Maj.nW ns (i+1)]:=by rw[List.range_succ,List.map_append];rfl
    exact⟨by rw[List.length_range];omega,hN _ ⟨some (.int a),by rw[er]⟩⟩
  · rintro δ ⟨o3,rfl⟩
    walk_at "v"
    rw[hfl]
    exact hP
def Alike (one other:List Int):Prop:=one.length=other.length∧one.sum=other.sum
def gI (c:Cs):DSX:=fun ds P R=>∃one other,ds=[dI one,dI other]∧(Alike one other→P .non)∧(¬ Alike one other→R c.NotAlike)
theorem qK {c:Cs}:jC (gI c):=by
  intro xs P P' R R' k kr h
  obtain ⟨one,other,e,h1,h2⟩:=h
  exact⟨one,other,e,fun z=>k _ (h1 z),fun z=>kr _ (h2 z)⟩
theorem rk {c:Cs}:∀ds P R,gI c ds P R→ds.length=2:=by
  intro ds P R h
  unfold gI at h
  grind
theorem ua {f:Addr}{fd:FuncData} (F:FnAt K mg "check_alike" cW eB f fd) (A_:Fns K mg) (T:Txt K mg base) {c:Cs} (xs:Exs K mg base c):aM P w K mg base (CXR P w) 1 f fd eB (spX K (gI c)):=by
  refine F.fn.okX sP (fun vs H Q E h=>lV rk h) (fun cdv A outer s H vs Q E hr h=>?_)
  refine⟨_,(ak (dY (PT.nox (bh oj (ax (aR (K:=K) rfl) (by rfl) T.len_ PySem.boot_len (af (pv 0) aj)) (ax (aR (K:=K) rfl) (by rfl) T.len_ PySem.boot_len (af (pv 1) aj)) (bo _))) (aq (pO (xs.o_NotAlike.own xs.m_NotAlike) PySem.F.excBase_ValueError rfl rfl sj (af kq aj))) bA)
      (ak (dY (PT.nox (bh oj (ax (iZ (K:=K) rfl rfl) (by rfl) T.sum_ boot_sum (af (pv 0) aj)) (ax (iZ (K:=K) rfl rfl) (by rfl) T.sum_ boot_sum (af (pv 1) aj)) (bo _))) (aq (pO (xs.o_NotAlike.own xs.m_NotAlike) PySem.F.excBase_ValueError rfl rfl sj (af kq aj))) bA)
      bA)),lZ (Γn:=[]) (N:=kL) (fun R=>(mT (Bd (aY (EM.er (aA uy (EM.er (bf cP (ah (ES.er (aa 0)) ao))) (EM.er (bf cP (ah (ES.er (aa 1)) ao)))))) (pL (ah (EM.er kd) ao)) (ST.sx br))
      (mT (Bd (aY (EM.er (aA uy (EM.er (bf tW (ah (ES.er (aa 0)) ao))) (EM.er (bf tW (ah (ES.er (aa 1)) ao)))))) (pL (ah (EM.er kd) ao)) (ST.sx br))
      (ST.sx br)))) (fun ds P R hS=>?_) h⟩
  obtain ⟨one,other,rfl,hP,hR⟩:=hS
  rw[show aN kL [dI one,dI other]=[some (dI one),some (dI other)] from rfl]
  walk_at "v"
  by_cases h1:one.length=other.length
  · rw[if_neg (fun z=>z (by rw[h1]))]
    walk_at "v"
    by_cases h2:one.sum=other.sum
    · rw[if_neg (fun z=>z h2)]
      exact hP ⟨h1,h2⟩
    · rw[if_pos h2]
      walk_at "go"
      exact hR fun z=>h2 z.2
  · rw[if_pos (fun z=>h1 (by omega))]
    walk_at "go"
    exact hR fun z=>h1 z.1
def pW (one other:List Int):D:=match Maj.above one other with | []=>.non | p::_=>.int ((p:Int)+1)
theorem yn {one other:List Int} (h:one.length=other.length):jx (lW other) (lW one)=Maj.above one other:=by
  unfold jx Maj.above
  rw[lP,h]
  refine List.filter_congr fun p hp=>?_
  have:=List.mem_range.mp hp
  rw[v8 (by omega),v8 (by omega)]
def ck:DSp:=fun ds P=>∃one other,ds=[dI one,dI other]∧one.length<64∧one.length=other.length∧P (pW one other)
theorem mB:bE ck:=by
  intro xs P P' k h
  unfold ck at h ⊢
  grind
theorem mM:∀ds P,ck ds P→ds.length=2:=by
  intro ds P h
  obtain ⟨_,_,e,_⟩:=h
  rw[e];rfl
theorem nQ {f:Addr}{fd:FuncData} (F:FnAt K mg "first_head_above" bH bN f fd) (A_:Fns K mg) (T:Txt K mg base) {c:Cs} (xs:Exs K mg base c):aM P w K mg base CX0 3 f fd bN (spP K ck):=by
  obtain ⟨f0,d0,E_places_below⟩:=A_.h_places_below
  have G_places_below:aM P w K mg base CX0 1 f0 d0 cE (spP K bT):=my E_places_below A_ T xs
  obtain ⟨f1,d1,E_heads_of⟩:=A_.h_heads_of
  have G_heads_of:aM P w K mg base CX0 2 f1 d1 ic (spP K gU):=yG E_heads_of A_ T xs
  refine F.fn.ok jE (fun vs H Q E h=>aU mM h) (fun cdv A outer s H vs Q E hr h=>?_)
  refine⟨_,(ak (aI (i:=2) jE.nd rfl (by first | exact Or.inl rfl | exact Or.inr rfl) (ay G_places_below (hr.mono (by decide)) rfl E_places_below.mg E_places_below.fn.kp E_places_below.bd .nil bj (af (ay G_heads_of (hr.mono (by decide)) rfl E_heads_of.mg E_heads_of.fn.kp E_heads_of.bd .nil bj (af (pv 1) aj)) (af (ay G_heads_of (hr.mono (by decide)) rfl E_heads_of.mg E_heads_of.fn.kp E_heads_of.bd .nil bj (af (pv 0) aj)) aj))))
      (ak (dY (bh (qA hr.units) (pv 2) (iG aj) (bo _)) (aq (aH wU)) bA)
      (aq (aH (ba iB (aB (aw (K:=K) rfl) (pv 2) av (fun _ _=>rfl)) av))))),bq (Γn:=[]) (N:=ia) (ar (ST.post (Γn:=[]) (aP 2 (EM.es (aK (S:=bT) iP (ah (EM.er (aK (S:=gU) nY (ah (ES.er (aa 1)) ao))) (ah (EM.er (aK (S:=gU) nY (ah (ES.er (aa 0)) ao))) ao))))))
      (ar (ft (aY (EM.er (aA v7 (ES.er (aa 2)) (EM.er (jB dw))))) (aJ (M:=[]) wI) br)
      (aJ (M:=[]) (aA eE (ES.er (aX (aa 2) (EM.er au))) (EM.er au))))) (fun ds P hS=>?_) h⟩
  obtain ⟨one,other,rfl,hl,he,hP⟩:=hS
  rw[show aN ia [dI one,dI other]=[some (dI one),some (dI other),none] from rfl]
  walk_at "v"
  refine⟨other,rfl,by omega,⟨one,rfl,hl,?_⟩⟩
  refine⟨lW other,lW one,rfl,by rw[lP];omega,by rw[lP,lP,he],?_⟩
  rw[yn he]
  unfold pW at hP
  walk_at "go"
  refine jb (ys:=[]) ?_
  walk_at "v"
  cases e:Maj.above one other with
  | nil =>
    rw[e] at hP
    rw[if_pos (by rfl)]
    exact hP
  | cons p ps =>
    rw[e] at hP
    rw[if_neg (by simp)]
    walk_at "v"
    rw[List.map_cons,List.map_cons]
    walk_at "v"
    exact hP
def mQ (c:Cs):DSX:=fun ds P R=>∃one other,ds=[dI one,dI other]∧one.length<64∧(Alike one other→P (pW one other))∧(¬ Alike one other→R c.NotAlike)
theorem yH {c:Cs}:jC (mQ c):=by
  intro xs P P' R R' k kr h
  obtain ⟨one,other,e,hl,h1,h2⟩:=h
  exact⟨one,other,e,hl,fun z=>k _ (h1 z),fun z=>kr _ (h2 z)⟩
theorem zK {c:Cs}:∀ds P R,mQ c ds P R→ds.length=2:=by
  intro ds P R h
  unfold mQ at h
  grind
theorem BU {f:Addr}{fd:FuncData} (F:FnAt K mg "bar_of" jk kx f fd) (A_:Fns K mg) (T:Txt K mg base) {c:Cs} (xs:Exs K mg base c):aM P w K mg base (CXR P w) 4 f fd kx (spX K (mQ c)):=by
  obtain ⟨f0,d0,E_check_alike⟩:=A_.h_check_alike
  have G_check_alike:aM P w K mg base (CXR P w) 1 f0 d0 eB (spX K (gI c)):=ua E_check_alike A_ T xs
  obtain ⟨f1,d1,E_first_head_above⟩:=A_.h_first_head_above
  have G_first_head_above:aM P w K mg base CX0 3 f1 d1 bN (spP K ck):=nQ E_first_head_above A_ T xs
  refine F.fn.okX B4 (fun vs H Q E h=>lV zK h) (fun cdv A outer s H vs Q E hr h=>?_)
  refine⟨_,(ak (iC (ay G_check_alike (hr.mono (by decide)) rfl E_check_alike.mg E_check_alike.fn.kp E_check_alike.bd .nil xj (PA.nox (af (pv 0) (af (pv 1) aj)))))
      (PSs.nox (aq (aH (ay G_first_head_above (hr.mono (by decide)) rfl E_first_head_above.mg E_first_head_above.fn.kp E_first_head_above.bd .nil bj (af (pv 0) (af (pv 1) aj))))))),lZ (Γn:=[]) (N:=sQ) (fun R=>(mT (AN qK (ah (ES.er (aa 0)) (ah (ES.er (aa 1)) ao)))
      (ST.sx (aJ (M:=[]) (aK (S:=ck) mB (ah (ES.er (aa 0)) (ah (ES.er (aa 1)) ao))))))) (fun ds P R hS=>?_) h⟩
  obtain ⟨one,other,rfl,hl,hP,hR⟩:=hS
  rw[show aN sQ [dI one,dI other]=[some (dI one),some (dI other)] from rfl]
  walk_at "v"
  refine⟨one,other,rfl,fun h=>?_,hR⟩
  walk_at "v"
  exact⟨one,other,rfl,hl,h.1,hP h⟩
def iy:DSp:=fun ds P=>∃d,ds=[d]∧kn d=true∧P (.bl (isNum d))
theorem tp:bE iy:=by
  intro xs P P' k h
  unfold iy at h ⊢
  grind
theorem uM:∀ds P,iy ds P→ds.length=1:=by
  intro ds P h
  obtain ⟨_,e,_⟩:=h
  rw[e];rfl
theorem xD {f:Addr}{fd:FuncData} (F:FnAt K mg "is_number" eP fN f fd) (A_:Fns K mg) (T:Txt K mg base) {c:Cs} (xs:Exs K mg base c):aM P w K mg base CX0 1 f fd fN (spP K iy):=by
  refine F.fn.ok xx (fun vs H Q E h=>aU uM h) (fun cdv A outer s H vs Q E hr h=>?_)
  refine⟨_,(aq (aH (oB (ax (eg (K:=K) rfl) (by rfl) T.isinstance_ boot_isinstance (af (pv 0) (af (kI (v:=.ty "int") rfl T.int_ boot_int rfl) aj))) (qP (DW (ax (eg (K:=K) rfl) (by rfl) T.isinstance_ boot_isinstance (af (pv 0) (af (kI (v:=.ty "bool") rfl T.bool_ boot_bool rfl) aj)))))))),bq (Γn:=[]) (N:=ng) (aJ (M:=[]) (mn (EM.er (iz Aw (ES.er (aa 0)))) (BC (EM.er (iz yK (ES.er (aa 0))))))) (fun ds P hS=>?_) h⟩
  obtain ⟨d,rfl,hk,hP⟩:=hS
  rw[show aN ng [d]=[some (d)] from rfl]
  cases d with
  | scr ns=>cases hk
  | pin a d=>cases hk
  | ins a b c=>cases hk
  | _=>walk_at "v";exact hP
def ib:DSp:=fun ds P=>∃x m,ds=[.int x,.int m]∧P (.bl (decide (0≤x∧x<m)))
theorem oo:bE ib:=by
  intro xs P P' k h
  unfold ib at h ⊢
  grind
theorem we:∀ds P,ib ds P→ds.length=2:=by
  intro ds P h
  obtain ⟨_,_,e,_⟩:=h
  rw[e];rfl
theorem yS {f:Addr}{fd:FuncData} (F:FnAt K mg "is_place" gk gN f fd) (A_:Fns K mg) (T:Txt K mg base) {c:Cs} (xs:Exs K mg base c):aM P w K mg base CX0 1 f fd gN (spP K ib):=by
  refine F.fn.ok xJ (fun vs H Q E h=>aU we h) (fun cdv A outer s H vs Q E hr h=>?_)
  refine⟨_,(aq (aH (sT zt sF av (pv 0) (pv 1)))),bq (Γn:=[]) (N:=oH) (aJ (M:=[]) (sN kE kE (EM.er au) (ES.er (aa 0)) (ES.er (aa 1)))) (fun ds P hS=>?_) h⟩
  obtain ⟨x,m,rfl,hP⟩:=hS
  rw[show aN oH [.int x,.int m]=[some (.int x),some (.int m)] from rfl]
  walk_at "v"
  split
  · rename_i c
    have e:decide (0≤x∧x<m)=decide (x<m):=by rw[Bool.eq_iff_iff,decide_eq_true_eq,decide_eq_true_eq];exact⟨fun z=>z.2,fun z=>⟨c,z⟩⟩
    rw[e] at hP
    exact hP
  · rename_i c
    rw[decide_eq_false (fun z=>c z.1)] at hP
    exact hP
def iW (xs:List Int) (g t a:Int):Prop:=0≤g∧g<xs.length∧0≤t∧t<xs.length∧1≤a∧a≤xs.getD g.toNat 0 - xs.getD t.toNat 0
instance {xs:List Int}{g t a:Int}:Decidable (iW xs g t a):=by unfold iW;infer_instance
def dS (g t a:Int):D:=.tup [.int g,.int t,.int a]
def i5:DSp:=fun ds P=>∃xs g t a,ds=[dI xs,dS g t a]∧P (.bl (decide (iW xs g t a)))
theorem uF:bE i5:=by
  intro xs P P' k h
  unfold i5 at h ⊢
  grind
theorem wx:∀ds P,i5 ds P→ds.length=2:=by
  intro ds P h
  obtain ⟨_,_,_,_,e,_⟩:=h
  rw[e];rfl
theorem xM {f:Addr}{fd:FuncData} (F:FnAt K mg "can_step" fM hV f fd) (A_:Fns K mg) (T:Txt K mg base) {c:Cs} (xs:Exs K mg base c):aM P w K mg base CX0 2 f fd hV (spP K i5):=by
  obtain ⟨f0,d0,E_is_place⟩:=A_.h_is_place
  have G_is_place:aM P w K mg base CX0 1 f0 d0 gN (spP K ib):=yS E_is_place A_ T xs
  refine F.fn.ok mL (fun vs H Q E h=>aU wx h) (fun cdv A outer s H vs Q E hr h=>?_)
  refine⟨_,(ak (aI (i:=2) mL.nd rfl (by first | exact Or.inl rfl | exact Or.inr rfl) (aB (aZ (K:=K) rfl) (pv 1) av (fun _ _=>rfl)))
      (ak (aI (i:=3) mL.nd rfl (by first | exact Or.inl rfl | exact Or.inr rfl) (aB (aZ (K:=K) rfl) (pv 1) av (fun _ _=>rfl)))
      (ak (dY (PW.pt (oq (iD (gO (ay G_is_place (hr.mono (by decide)) rfl E_is_place.mg E_is_place.fn.kp E_is_place.bd .nil bj (af (pv 2) (af (ax (aR (K:=K) rfl) (by rfl) T.len_ PySem.boot_len (af (pv 0) aj)) aj))))) (oE (iD (gO (ay G_is_place (hr.mono (by decide)) rfl E_is_place.mg E_is_place.fn.kp E_is_place.bd .nil bj (af (pv 3) (af (ax (aR (K:=K) rfl) (by rfl) T.len_ PySem.boot_len (af (pv 0) aj)) aj)))))))) (aq (aH jF)) bA)
      (aq (aH (sT zt zt av (aB (aZ (K:=K) rfl) (pv 1) av (fun _ _=>rfl)) (ba iE (aB (aw (K:=K) rfl) (pv 0) (pv 2) (fun _ _=>rfl)) (aB (aw (K:=K) rfl) (pv 0) (pv 3) (fun _ _=>rfl))))))))),bq (Γn:=[]) (N:=oR) (ar (ST.post (Γn:=[]) (aP 2 (bK (aa 1) (EM.er au))))
      (ar (ST.post (Γn:=[]) (aP 3 (bK (aa 1) (EM.er au))))
      (ar (ft (nX (iJ (mU (EM.er (aK (S:=ib) oo (ah (ES.er (aa 2)) (ah (EM.er (bf cP (ah (ES.er (aa 0)) ao))) ao)))))) (iJ (mU (EM.er (aK (S:=ib) oo (ah (ES.er (aa 3)) (ah (EM.er (bf cP (ah (ES.er (aa 0)) ao))) ao))))))) (aJ (M:=[]) kB) br)
      (aJ (M:=[]) (sN kE kE (EM.er au) (ES.er (bK (aa 1) (EM.er au))) (EM.er (aA eE (ES.er (aX (aa 0) (ES.er (aa 2)))) (ES.er (aX (aa 0) (ES.er (aa 3))))))))))) (fun ds P hS=>?_) h⟩
  obtain ⟨xs,g,t,a,rfl,hP⟩:=hS
  rw[show aN oR [dI xs,dS g t a]=[some (dI xs),some (dS g t a),none,none] from rfl]
  unfold dS
  walk_at "v"
  refine⟨_,_,rfl,?_⟩
  by_cases hg:0≤g∧g<(xs.length:Int)
  · rw[decide_eq_true hg]
    walk_at "v"
    refine⟨_,_,rfl,?_⟩
    by_cases ht:0≤t∧t<(xs.length:Int)
    · rw[decide_eq_true ht]
      walk_at "v"
      split
      · rename_i ha
        refine aF hg (aF ht ?_)
        walk_at "v"
        have e:decide (iW xs g t a)=decide (a≤xs.getD g.toNat 0 - xs.getD t.toNat 0):=by
          rw[Bool.eq_iff_iff,decide_eq_true_eq,decide_eq_true_eq]
          exact⟨fun z=>z.2.2.2.2.2,fun z=>⟨hg.1,hg.2,ht.1,ht.2,ha,z⟩⟩
        rw[e] at hP;exact hP
      · rename_i ha
        rw[decide_eq_false (fun z=>ha z.2.2.2.2.1)] at hP;exact hP
    · rw[decide_eq_false ht]
      walk_at "v"
      rw[decide_eq_false (fun z=>ht ⟨z.2.2.1,z.2.2.2.1⟩)] at hP;exact hP
  · rw[decide_eq_false hg]
    walk_at "v"
    rw[decide_eq_false (fun z=>hg ⟨z.1,z.2.1⟩)] at hP;exact hP
def eT (c:Cs):DSX:=fun ds P R=>∃xs g t a,ds=[dI xs,dS g t a]∧(iW xs g t a→P (dI (Maj.bw xs g.toNat t.toNat a)))∧(¬ iW xs g t a→R c.NoStep)
theorem iK {c:Cs}:jC (eT c):=by
  intro xs P P' R R' k kr h
  obtain ⟨ys,g,t,a,e,h1,h2⟩:=h
  exact⟨ys,g,t,a,e,fun z=>k _ (h1 z),fun z=>kr _ (h2 z)⟩
theorem ux {c:Cs}:∀ds P R,eT c ds P R→ds.length=2:=by
  intro ds P R h
  unfold eT at h
  grind
theorem jJ {f:Addr}{fd:FuncData} (F:FnAt K mg "step_made" eR cZ f fd) (A_:Fns K mg) (T:Txt K mg base) {c:Cs} (xs:Exs K mg base c):aM P w K mg base (CXR P w) 3 f fd cZ (spX K (eT c)):=by
  obtain ⟨f0,d0,E_can_step⟩:=A_.h_can_step
  have G_can_step:aM P w K mg base CX0 2 f0 d0 hV (spP K i5):=xM E_can_step A_ T xs
  refine F.fn.okX p8 (fun vs H Q E h=>lV ux h) (fun cdv A outer s H vs Q E hr h=>?_)
  refine⟨_,(ak (dY (PT.nox (iD (gO (ay G_can_step (hr.mono (by decide)) rfl E_can_step.mg E_can_step.fn.kp E_can_step.bd .nil bj (af (pv 0) (af (pv 1) aj)))))) (aq (pO (xs.o_NoStep.own xs.m_NoStep) PySem.F.excBase_ValueError rfl rfl sj (af kq aj))) bA)
      (PSs.nox (ak (aI (i:=2) p8.nd rfl (by first | exact Or.inl rfl | exact Or.inr rfl) (gz (gP (K:=K) rfl) (by rfl) T.list_ boot_list (af (pv 0) aj)))
      (ak (jz (ba iE (aB (aw (K:=K) rfl) (pv 2) (aB (aZ (K:=K) rfl) (pv 1) av (fun _ _=>rfl)) (fun _ _=>rfl)) (aB (aZ (K:=K) rfl) (pv 1) av (fun _ _=>rfl))) (ka (pv 2) (aB (aZ (K:=K) rfl) (pv 1) av (fun _ _=>rfl)) set_list))
      (ak (jz (ba iB (aB (aw (K:=K) rfl) (pv 2) (aB (aZ (K:=K) rfl) (pv 1) av (fun _ _=>rfl)) (fun _ _=>rfl)) (aB (aZ (K:=K) rfl) (pv 1) av (fun _ _=>rfl))) (ka (pv 2) (aB (aZ (K:=K) rfl) (pv 1) av (fun _ _=>rfl)) set_list))
      (aq (aH (pv 2)))))))),lZ (Γn:=[2]) (N:=ny) (fun R=>(mT (Bd (iJ (mU (EM.er (aK (S:=i5) uF (ah (ES.er (aa 0)) (ah (ES.er (aa 1)) ao)))))) (pL (ah (EM.er kd) ao)) (ST.sx br))
      (ST.sx (ar (ST.post (Γn:=[2]) (bQ (M:=[]) 2 (bf ou (ah (ES.er (aa 0)) ao))))
      (ar (ff 2 (aA eE (fF (bL 2) (ES.er (bK (aa 1) (EM.er au)))) (ES.er (bK (aa 1) (EM.er au)))) (ES.er (bK (aa 1) (EM.er au))))
      (ar (ff 2 (aA eE (fF (bL 2) (ES.er (bK (aa 1) (EM.er au)))) (ES.er (bK (aa 1) (EM.er au)))) (ES.er (bK (aa 1) (EM.er au))))
      (aJ (M:=[2]) (fC 2)))))))) (fun ds P R hS=>?_) h⟩
  obtain ⟨xs,g,t,a,rfl,hP,hR⟩:=hS
  rw[show aN ny [dI xs,dS g t a]=[some (dI xs),some (dS g t a),none] from rfl]
  walk_at "v"
  refine⟨xs,g,t,a,rfl,?_⟩
  by_cases h:iW xs g t a
  · rw[decide_eq_true h]
    obtain ⟨g1,g2,t1,t2,a1,a2⟩:=id h
    have hP:=hP h
    walk_at "go"
    refine fi (r:=xs) (a:=g) (v:=xs.getD g.toNat 0 - a) rfl (fun R h=>?_) (fun R h=>?_) (by omega) ?_
    · unfold dS
      walk_at "v"
      refine aF (by omega) ?_
      walk_at "v"
      exact h
    · unfold dS
      walk_at "v"
      exact h
    · walk_at "v"
      refine fi (r:=xs.set g.toNat (xs.getD g.toNat 0 - a)) (a:=t) (v:=(xs.set g.toNat (xs.getD g.toNat 0 - a)).getD t.toNat 0+a) rfl (fun R h=>?_) (fun R h=>?_) (by rw[List.length_set];omega) ?_
      · unfold dS
        walk_at "v"
        refine aF (by rw[List.length_set];omega) ?_
        walk_at "v"
        exact h
      · unfold dS
        walk_at "v"
        exact h
      · walk_at "v"
        exact hP
  · rw[decide_eq_false h]
    walk_at "go"
    exact hR h
def exS (xs:List Int) (p q:Nat):D:=if xs.getD q 0<xs.getD p 0 then dS p q (xs.getD p 0 - xs.getD q 0) else dS q p (xs.getD q 0 - xs.getD p 0)
def dP:DSp:=fun ds P=>∃(xs:List Int) (p q:Nat),ds=[dI xs,.int p,.int q]∧p<xs.length∧q<xs.length∧P (exS xs p q)
theorem oP:bE dP:=by
  intro xs P P' k h
  unfold dP at h ⊢
  grind
theorem pD:∀ds P,dP ds P→ds.length=3:=by
  intro ds P h
  obtain ⟨_,_,_,e,_⟩:=h
  rw[e];rfl
theorem qB {f:Addr}{fd:FuncData} (F:FnAt K mg "exchange_step" cb cM f fd) (A_:Fns K mg) (T:Txt K mg base) {c:Cs} (xs:Exs K mg base c):aM P w K mg base CX0 1 f fd cM (spP K dP):=by
  refine F.fn.ok qx (fun vs H Q E h=>aU pD h) (fun cdv A outer s H vs Q E hr h=>?_)
  refine⟨_,(ak (dY (bh qW (aB (aw (K:=K) rfl) (pv 0) (pv 1) (fun _ _=>rfl)) (aB (aw (K:=K) rfl) (pv 0) (pv 2) (fun _ _=>rfl)) (bo _)) (aq (aH (jV (af (pv 1) (af (pv 2) (af (ba iE (aB (aw (K:=K) rfl) (pv 0) (pv 1) (fun _ _=>rfl)) (aB (aw (K:=K) rfl) (pv 0) (pv 2) (fun _ _=>rfl))) aj)))))) bA)
      (aq (aH (jV (af (pv 2) (af (pv 1) (af (ba iE (aB (aw (K:=K) rfl) (pv 0) (pv 2) (fun _ _=>rfl)) (aB (aw (K:=K) rfl) (pv 0) (pv 1) (fun _ _=>rfl))) aj))))))),bq (Γn:=[]) (N:=ju) (ar (ft (aY (EM.er (aA kE (ES.er (aX (aa 0) (ES.er (aa 1)))) (ES.er (aX (aa 0) (ES.er (aa 2))))))) (aJ (M:=[]) (j0 (cD (ER.aW (ES.er (aa 1))) (cD (ER.aW (ES.er (aa 2))) (cD (aA eE (ES.er (aX (aa 0) (ES.er (aa 1)))) (ES.er (aX (aa 0) (ES.er (aa 2))))) dw))))) br)
      (aJ (M:=[]) (j0 (cD (ER.aW (ES.er (aa 2))) (cD (ER.aW (ES.er (aa 1))) (cD (aA eE (ES.er (aX (aa 0) (ES.er (aa 2)))) (ES.er (aX (aa 0) (ES.er (aa 1))))) dw)))))) (fun ds P hS=>?_) h⟩
  obtain ⟨xs,p,q,rfl,hp,hq,hP⟩:=hS
  rw[show aN ju [dI xs,.int p,.int q]=[some (dI xs),some (.int p),some (.int q)] from rfl]
  unfold exS at hP
  walk_at "go"
  refine aF (by omega) ?_
  refine aF (by omega) ?_
  rw[Int.toNat_natCast,Int.toNat_natCast]
  walk_at "go"
  by_cases h:xs.getD q 0<xs.getD p 0
  · rw[if_pos h] at hP ⊢
    refine aF (by omega) ?_
    refine aF (by omega) ?_
    rw[Int.toNat_natCast,Int.toNat_natCast]
    walk_at "go"
    exact hP
  · rw[if_neg h] at hP ⊢
    refine aF (by omega) ?_
    refine aF (by omega) ?_
    rw[Int.toNat_natCast,Int.toNat_natCast]
    walk_at "go"
    exact hP
def Sg (m:Nat) (f:Nat→Int):Int:=((List.range m).map f).sum
theorem nN {f:Nat→Int}:Sg 0 f=0:=rfl
theorem cw {m:Nat}{f:Nat→Int}:Sg (m+1) f=Sg m f+f m:=by
  unfold Sg
  rw[List.range_succ,List.map_append,List.sum_append]
  simp
theorem bD {m:Nat}{f g:Nat→Int} (h:∀j,j<m→f j=g j):Sg m f=Sg m g:=by
  unfold Sg
  exact congrArg List.sum (List.map_congr_left fun j hj=>h j (List.mem_range.mp hj))
theorem zO {f g:Nat→Int}:∀{m:Nat},Sg m (fun j=>f j+g j)=Sg m f+Sg m g
  | 0=>rfl
  | m+1=>by rw[cw,cw,cw,zO];omega
theorem DJ {f g:Nat→Int}:∀{m:Nat},(∀j,j<m→f j≤g j)→Sg m f≤Sg m g
  | 0,_=>Int.le_refl _
  | m+1,h=>by
    rw[cw,cw]
    have:=DJ (m:=m) fun j hj=>h j (by omega)
    have:=h m (by omega)
    omega
theorem qt:∀{m:Nat},Sg m (fun _=>0)=0
  | 0=>rfl
  | m+1=>by rw[cw,qt];rfl
theorem xC {f:Nat→Int}{p:Nat}{v:Int}:∀{m:Nat},p<m→Sg m (fun j=>if j=p then v else f j)=Sg m f+v - f p
  | 0,h=>by omega
  | m+1,h=>by
    rw[cw,cw]
    by_cases e:p=m
    · subst e
      rw[if_pos rfl,bD (g:=f) fun j hj=>if_neg (by omega)]
      omega
    · rw[if_neg (fun z=>e z.symm),xC (by omega)]
      omega
structure Dom (n:Nat) (g x:Nat→Int):Prop where
  le:∀k,k≤n→Sg k g≤Sg k x
  eq:Sg n g=Sg n x
def Fal (n:Nat) (x:Nat→Int):Prop:=∀i,i+1<n→x (i+1)≤x i
theorem Fal.to {n:Nat}{x:Nat→Int} (h:Fal n x) {i:Nat}:∀{j:Nat},i≤j→j<n→x j≤x i
  | 0, h1, h2 => by have : i = 0 := by omega
                    subst this;exact Int.le_refl _
  | j+1,h1,h2=>by
    by_cases e:i=j+1
    · subst e;exact Int.le_refl _
    · exact Int.le_trans (h j h2) (h.to (j:=j) (by omega) (by omega))
theorem q0 {g x:Nat→Int}:∀{n:Nat},(∀j,j<n→x j≤g j)→Sg n g≤Sg n x→∀j,j<n→x j=g j
  | 0,_,_,j,hj=>by omega
  | n+1,h,e,j,hj=>by
    rw[cw,cw] at e
    have h1:=DJ (m:=n) (f:=x) (g:=g) fun j hj=>h j (by omega)
    have h2:=h n (by omega)
    by_cases q:j=n
    · subst q;omega
    · exact q0 (n:=n) (fun j hj=>h j (by omega)) (by omega) j (by omega)
theorem m6 {f:Nat→Int}{a:Nat}:∀{b:Nat},Sg (a+b) f=Sg a f+Sg b fun j=>f (a+j)
  | 0=>by rw[nN];simp
  | b+1=>by rw[← Nat.add_assoc,cw,cw,m6];omega
structure Gives (n:Nat) (g x:Nat→Int) (p t:Nat):Prop where
  pt:p<t
  tn:t<n
  gp:g p<x p
  gt:x t<g t
  mid:∀j,p<j→j<t→x j=g j
theorem GJ {P:Nat→Prop} [DecidablePred P]:∀{n:Nat},(∃j,j<n∧P j)→∃p,p<n∧P p∧∀j,p<j→j<n→¬ P j
  | 0,h=>by obtain ⟨j,hj,_⟩:=h;omega
  | n+1,h=>by
    by_cases q:P n
    · exact⟨n,by omega,q,fun j h1 h2=>by omega⟩
    · obtain ⟨j,hj,pj⟩:=h
      have:j≠n:=fun z=>q (z▸pj)
      obtain ⟨p,h1,h2,h3⟩:=GJ (n:=n) ⟨j,by omega,pj⟩
      refine⟨p,by omega,h2,fun k k1 k2=>?_⟩
      by_cases e:k=n
      · subst e;exact q
      · exact h3 k k1 (by omega)
theorem Dom.giver {n:Nat}{g x:Nat→Int} (h:Dom n g x) (hne:∃j,j<n∧x j≠g j):∃p,p<n∧g p<x p:=by
  apply Classical.byContradiction
  intro z
  obtain ⟨j,hj,e⟩:=hne
  refine e (q0 (fun j hj=>?_) (by rw[h.eq];exact Int.le_refl _) j hj)
  have:¬ g j<x j:=fun q=>z ⟨j,hj,q⟩
  omega
theorem Dom.taker {n p:Nat}{g x:Nat→Int} (h:Dom n g x) (hp:p<n) (gp:g p<x p):∃t,p<t∧t<n∧x t<g t:=by
  apply Classical.byContradiction
  intro z
  have h1:=h.le p (by omega)
  have h2:=h.eq
  obtain ⟨b,rfl⟩:∃b,n=(p+1)+b:=⟨n - (p+1),by omega⟩
  rw[m6 (f:=g) (a:=p+1) (b:=b),m6 (f:=x) (a:=p+1) (b:=b),cw (f:=g) (m:=p),cw (f:=x) (m:=p)] at h2
  have h3:=DJ (m:=b) (f:=fun j=>g (p+1+j)) (g:=fun j=>x (p+1+j)) fun j hj=>by
    have:¬ x (p+1+j)<g (p+1+j):=fun q=>z ⟨p+1+j,by omega,by omega,q⟩
    show g (p+1+j)≤x (p+1+j)
    omega
  omega
theorem Dom.gives {n p t:Nat}{g x:Nat→Int} (hp:p<n) (gp:g p<x p) (last:∀j,p<j→j<n→¬ g j<x j) (pt:p<t) (tn:t<n) (gt:x t<g t) (first:∀j,p<j→j<t→¬ x j<g j):Gives n g x p t :=
  ⟨pt,tn,gp,gt,fun j h1 h2=>by have:=last j h1 (by omega);have:=first j h1 h2;omega⟩
def mr (x:Nat→Int) (p t:Nat) (a:Int):Nat→Int:=fun j=>if j=p then x p - a else if j=t then x t+a else x j
theorem qc {x:Nat→Int}{p t:Nat}{a:Int} (hpt:p<t):∀k,Sg k (mr x p t a)=Sg k x+(if p<k then -a else 0)+(if t<k then a else 0)
  | 0=>by rw[nN,nN];simp
  | k+1=>by
    rw[cw,cw,qc hpt k]
    unfold mr
    by_cases e:k=p
    · subst e
      (repeat' split)<;>omega
    · by_cases e2:k=t
      · subst e2
        (repeat' split)<;>omega
      · (repeat' split)<;>omega
theorem Gives.head {n p t:Nat}{g x:Nat→Int} (h:Gives n g x p t) (d:Dom n g x) {k:Nat} (h1:p<k) (h2:k≤t):Sg k g+(x p - g p)≤Sg k x:=by
  obtain ⟨b,rfl⟩:∃b,k=(p+1)+b:=⟨k - (p+1),by omega⟩
  have:=d.le p (by have:=h.pt;have:=h.tn;omega)
  rw[m6 (f:=g) (a:=p+1) (b:=b),m6 (f:=x) (a:=p+1) (b:=b),cw (f:=g) (m:=p),cw (f:=x) (m:=p),bD (m:=b) (f:=fun j=>x (p+1+j)) (g:=fun j=>g (p+1+j)) fun j hj=>h.mid (p+1+j) (by omega) (by omega)]
  omega
theorem Gives.dom {n p t:Nat}{g x:Nat→Int}{a:Int} (h:Gives n g x p t) (d:Dom n g x) (a1:a≤x p - g p):Dom n g (mr x p t a):=by
  have pt:=h.pt
  have tn:=h.tn
  refine⟨fun k hk=>?_,?_⟩
  · rw[qc pt]
    have:=d.le k hk
    by_cases q1:p<k
    · rw[if_pos q1]
      by_cases q2:t<k
      · rw[if_pos q2];omega
      · rw[if_neg q2]
        have:=h.head d q1 (by omega)
        omega
    · rw[if_neg q1,if_neg (by omega)];omega
  · rw[qc pt,if_pos (by omega),if_pos (by omega)]
    have:=d.eq
    omega
theorem Gives.fal {n p t:Nat}{g x:Nat→Int}{a:Int} (h:Gives n g x p t) (fg:Fal n g) (fx:Fal n x) (a0:0≤a) (a1:a≤x p - g p) (a2:a≤g t - x t):Fal n (mr x p t a):=by
  have pt:=h.pt
  have tn:=h.tn
  intro i hi
  have f1:=fx i hi
  have f2:=fg i hi
  unfold mr
  by_cases e1:i+1=p
  · rw[if_pos e1,if_neg (by omega),if_neg (by omega)]
    subst e1;omega
  · rw[if_neg e1]
    by_cases e2:i=p
    · subst e2
      rw[if_pos rfl]
      by_cases e3:i+1=t
      · subst e3
        rw[if_pos rfl];omega
      · rw[if_neg e3]
        have:=h.mid (i+1) (by omega) (by omega)
        omega
    · rw[if_neg e2]
      by_cases e3:i+1=t
      · subst e3
        rw[if_pos rfl,if_neg (by omega)]
        by_cases e4:p<i
        · have:=h.mid i e4 (by omega)
          omega
        · omega
      · rw[if_neg e3]
        by_cases e4:i=t
        · subst e4
          rw[if_pos rfl];omega
        · rw[if_neg e4];exact f1
theorem Gives.can {n p t:Nat}{g x:Nat→Int}{a:Int} (h:Gives n g x p t) (fg:Fal n g) (a1:a≤x p - g p) (a2:a≤g t - x t):a≤x p - x t:=by
  have:=fg.to (i:=p) (j:=t) (by have:=h.pt;omega) h.tn
  have:=h.gp
  have:=h.gt
  omega
def lD (g x:Nat→Int):Nat→Nat
  | 0=>0
  | n+1=>lD g x n+(if x n=g n then 0 else 1)
theorem xF {g x y:Nat→Int}:∀{n:Nat},(∀j,j<n→x j=g j→y j=g j)→lD g y n≤lD g x n
  | 0,_=>Nat.le_refl _
  | n+1,h=>by
    have h1:=xF (n:=n) fun j hj=>h j (by omega)
    have h2:=h n (by omega)
    show lD g y n+_≤lD g x n+_
    by_cases e:x n=g n
    · rw[if_pos e,if_pos (h2 e)];omega
    · rw[if_neg e];split<;>omega
theorem pJ {g x y:Nat→Int}{p:Nat}:∀{n:Nat},(∀j,j<n→x j=g j→y j=g j)→p<n→x p≠g p→y p=g p→lD g y n<lD g x n
  | 0,_,hp,_,_=>by omega
  | n+1,h,hp,h1,h2=>by
    show lD g y n+_<lD g x n+_
    by_cases e:p=n
    · subst e
      have:=xF (n:=p) fun j hj=>h j (by omega)
      rw[if_pos h2,if_neg h1];omega
    · have:=pJ (n:=n) (fun j hj=>h j (by omega)) (by omega) h1 h2
      have h3:=h n (by omega)
      by_cases q:x n=g n
      · rw[if_pos q,if_pos (h3 q)];omega
      · rw[if_neg q];split<;>omega
theorem zg {g x:Nat→Int}:∀{n:Nat},lD g x n≤n
  | 0=>Nat.le_refl _
  | n+1=>by have:=zg (g:=g) (x:=x) (n:=n);show lD g x n+_≤n+1;split<;>omega
theorem B2 {g x:Nat→Int}:∀{n:Nat},lD g x n=0→∀j,j<n→x j=g j
  | 0,_,j,hj=>by omega
  | n+1,h,j,hj=>by
    have h':lD g x n+(if x n=g n then 0 else 1)=0:=h
    by_cases q:x n=g n
    · by_cases e:j=n
      · subst e;exact q
      · exact B2 (n:=n) (by omega) j (by omega)
    · rw[if_neg q] at h';omega
theorem Fp {g x:Nat→Int}{p t:Nat}{n:Nat} (hp:p<t) (ht:t<n) (h1:x p≠g p) (h2:x t≠g t):2≤lD g x n:=by
  have a:=pJ (g:=g) (x:=x) (y:=fun j=>if j=p then g p else x j) (p:=p) (n:=n) (fun j _ e=>by by_cases q:j=p<;>simp [q,e]) (by omega) h1 (by simp)
  have b:=pJ (g:=g) (x:=fun j=>if j=p then g p else x j) (y:=g) (p:=t) (n:=n) (fun j _ e=>rfl) ht (by rw[if_neg (by omega)];exact h2) rfl
  omega
theorem Gives.Jt {n p t:Nat}{g x:Nat→Int} (h:Gives n g x p t):lD g (mr x p t (min (x p - g p) (g t - x t))) n+1≤lD g x n∧2≤lD g x n:=by
  have pt:=h.pt
  have tn:=h.tn
  have gp:=h.gp
  have gt:=h.gt
  have keep:∀j,j<n→x j=g j→mr x p t (min (x p - g p) (g t - x t)) j=g j:=fun j _ e=>by
    unfold mr
    by_cases q1:j=p
    · subst q1;omega
    · rw[if_neg q1]
      by_cases q2:j=t
      · subst q2;omega
      · rw[if_neg q2];exact e
  refine⟨?_,Fp pt tn (by omega) (by omega)⟩
  by_cases e:x p - g p≤g t - x t
  · exact pJ keep (p:=p) (by omega) (by omega) (by unfold mr;rw[if_pos rfl];omega)
  · exact pJ keep (p:=t) tn (by omega) (by unfold mr;rw[if_neg (by omega),if_pos rfl];omega)
theorem B6 {L:List Nat} (h:L≠[]) (pw:L.Pairwise (· < ·)):∃p:Nat,(L.map fun (p:Nat)=>(p:Int)).getD ((L.map fun (p:Nat)=>(p:Int)).length - 1) 0=(p:Int)∧p∈L∧∀j∈L,j≤p:=by
  have hl:0<L.length:=List.length_pos_iff.mpr h
  refine⟨L[L.length - 1]'(by omega),?_,List.getElem_mem _,fun j hj=>?_⟩
  · rw[List.length_map,List.getD_eq_getElem?_getD,List.getElem?_map,List.getElem?_eq_getElem (by omega)];rfl
  · obtain ⟨i,hi,rfl⟩:=List.mem_iff_getElem.mp hj
    by_cases e:i=L.length - 1
    · subst e;exact Nat.le_refl _
    · exact Nat.le_of_lt (List.pairwise_iff_getElem.mp pw i (L.length - 1) hi (by omega) (by omega))
theorem jP {one other:List Int}{p:Nat}:p∈jx one other↔p<one.length∧one.getD p 0<other.getD p 0:=by
  unfold jx
  rw[List.mem_filter,List.mem_range,decide_eq_true_eq]
theorem EI {one other:List Int}:(jx one other).Pairwise (· < ·):=by
  unfold jx
  exact List.pairwise_lt_range.sublist List.filter_sublist
def atF (xs:List Int):Nat→Int:=fun j=>xs.getD j 0
def fO:DSp:=fun ds P=>∃gs xs:List Int,ds=[dI gs,dI xs]∧gs.length=xs.length∧xs.length<64∧Dom xs.length (atF gs) (atF xs)∧(∃j,j<xs.length∧atF xs j≠atF gs j)∧∀p t:Nat,Gives xs.length (atF gs) (atF xs) p t→P (dS p t (min (atF xs p - atF gs p) (atF gs t - atF xs t)))
theorem oV:bE fO:=by
  intro xs P P' k h
  obtain ⟨gs,ys,e,h1,h2,h3,h4,h⟩:=h
  exact⟨gs,ys,e,h1,h2,h3,h4,fun p t z=>k _ (h p t z)⟩
theorem qv:∀ds P,fO ds P→ds.length=2:=by
  intro ds P h
  obtain ⟨_,_,e,_⟩:=h
  rw[e];rfl
theorem rP {f:Addr}{fd:FuncData} (F:FnAt K mg "evening_step" bU dB f fd) (A_:Fns K mg) (T:Txt K mg base) {c:Cs} (xs:Exs K mg base c):aM P w K mg base CX0 2 f fd dB (spP K fO):=by
  obtain ⟨f0,d0,E_places_below⟩:=A_.h_places_below
  have G_places_below:aM P w K mg base CX0 1 f0 d0 cE (spP K bT):=my E_places_below A_ T xs
  refine F.fn.ok jt (fun vs H Q E h=>aU qv h) (fun cdv A outer s H vs Q E hr h=>?_)
  refine⟨_,(ak (aI (i:=2) jt.nd rfl (by first | exact Or.inl rfl | exact Or.inr rfl) (aB (aw (K:=K) rfl) (ay G_places_below (hr.mono (by decide)) rfl E_places_below.mg E_places_below.fn.kp E_places_below.bd .nil bj (af (pv 0) (af (pv 1) aj))) (HA C3 av) (fun _ _=>rfl)))
      (ak (aI (i:=3) jt.nd rfl (by first | exact Or.inl rfl | exact Or.inr rfl) (ax (qi (K:=K) rfl rfl) (by rfl) T.min_ boot_min (af (ph rfl (aL.of (sc0:=(ai bU)) (tn:=["place"]) (cap:=["giver"]) (idx:=[2]) (by decide +kernel) rfl rfl) (bc (K:=K) rfl (ay G_places_below (hr.mono (by decide)) rfl E_places_below.mg E_places_below.fn.kp E_places_below.bd .nil bj (af (pv 1) (af (pv 0) aj)))) (fI.name (by decide)) (fun _ _ _ _ _=>aQ (i:=0) (aO (l:=["place","giver"]) (by decide +kernel)) rfl (by first | exact Or.inl rfl | exact Or.inr rfl) (by first | exact .inl rfl | exact .inr rfl)) (fun _ _ _ _ _=>so (bh qW (pv 0) (pv 1) (bo _))) (fun _ _ _ _ _=>(pv 0)) (by intro _;rfl)) aj)))
      (aq (aH (jV (af (pv 2) (af (pv 3) (af (ax (Cy rfl) (by rfl) T.min_ boot_min (af (ba iE (aB (aw (K:=K) rfl) (pv 1) (pv 2) (fun _ _=>rfl)) (aB (aw (K:=K) rfl) (pv 0) (pv 2) (fun _ _=>rfl))) (af (ba iE (aB (aw (K:=K) rfl) (pv 0) (pv 3) (fun _ _=>rfl)) (aB (aw (K:=K) rfl) (pv 1) (pv 3) (fun _ _=>rfl))) aj))) aj)))))))),bq (Γn:=[3,2]) (N:=j7) (ar (ST.post (Γn:=[2]) (bQ (M:=[]) 2 (ER.aW (ES.er (aX (EM.es (aK (S:=bT) iP (ah (ES.er (aa 0)) (ah (ES.er (aa 1)) ao)))) (EM.er (Hq Hh (EM.er au))))))))
      (ar (ST.post (Γn:=[3,2]) (bQ (M:=[]) 3 (bf z7 (ah (EM.er (pI (bB (EM.es (aK (S:=bT) iP (ah (ES.er (aa 1)) (ah (ES.er (aa 0)) ao))))) (aS 0) (aY (EM.er (aA kE (ES.er (aa 0)) (ES.er (aa 1))))) (ER.aW (ES.er (aa 0))))) ao))))
      (aJ (M:=[2,3]) (j0 (gu (fC 2) (gu (fC 3) (cD (bf IY (ah (EM.er (aA eE (ES.er (aX (aa 1) (bL 2))) (ES.er (aX (aa 0) (bL 2))))) (ah (EM.er (aA eE (ES.er (aX (aa 0) (bL 3))) (ES.er (aX (aa 1) (bL 3))))) ao))) dw))))))) (fun ds P hS=>?_) h⟩
  obtain ⟨gs,xs,rfl,hl,h64,hD,hne,hP⟩:=hS
  rw[show aN j7 [dI gs,dI xs]=[some (dI gs),some (dI xs),none,none] from rfl]
  obtain ⟨p0,hp0,hgp0⟩:=hD.giver hne
  obtain ⟨p,ep,hpL,hpmax⟩:=B6 (L:=jx gs xs) (List.ne_nil_of_mem (jP.mpr ⟨by omega,hgp0⟩)) EI
  obtain ⟨hpn,hgp⟩:=jP.mp hpL
  have len1:1≤((jx gs xs).map fun (p:Nat)=>(p:Int)).length:=by rw[List.length_map];exact List.length_pos_of_mem hpL
  walk_at "go"
  refine⟨gs,xs,rfl,by omega,hl,?_⟩
  walk_at "go"
  refine Cw len1 ?_
  rw[ep]
  refine⟨rfl,?_⟩
  have len2:((jx xs gs).map fun (p:Nat)=>(p:Int)).length≤1000:=by
    rw[List.length_map]
    unfold jx
    have:=List.length_filter_le (fun p=>decide (xs.getD p 0<gs.getD p 0)) (List.range xs.length)
    rw[List.length_range] at this
    omega
  refine zG (ns:=(jx xs gs).map fun (p:Nat)=>(p:Int)) (p:=fun z=>decide ((p:Int)<z)) (g:=fun z=>.int z) (fun R h=>?_) len2 (fun z hz R h=>?_) ?_
  · exact⟨xs,gs,rfl,by omega,hl.symm,h⟩
  · walk_at "gb"
    split
    · rename_i c
      rw[decide_eq_true c] at h
      exact h
    · rename_i c
      rw[decide_eq_false c] at h
      exact h
  · obtain ⟨t0,t1,t2,t3⟩:=hD.taker (by omega) hgp
    refine jT.mpr ⟨List.length_pos_of_mem (List.mem_filter.mpr ⟨List.mem_map.mpr ⟨t0,jP.mpr ⟨t2,t3⟩,rfl⟩,decide_eq_true (by omega)⟩),fun M hM hmin=>?_⟩
    obtain ⟨hM1,hM2⟩:=List.mem_filter.mp hM
    obtain ⟨t,ht,rfl⟩:=List.mem_map.mp hM1
    obtain ⟨htn,htg⟩:=jP.mp ht
    have hpt:=of_decide_eq_true hM2
    have hG:Gives xs.length (atF gs) (atF xs) p t:=Dom.gives (by omega) hgp (fun j h1 h2 z=>by
      have:=hpmax j (jP.mpr ⟨by omega,z⟩)
      omega) (by omega) htn htg fun j h1 h2 z=>by
      have:=hmin (j:Int) (List.mem_filter.mpr ⟨List.mem_map.mpr ⟨j,jP.mpr ⟨by omega,z⟩,rfl⟩,decide_eq_true (by omega)⟩)
      omega
    have hQ:=hP p t hG
    walk_at "go"
    refine aF (by omega) ?_
    refine aF (by omega) ?_
    rw[Int.toNat_natCast]
    walk_at "go"
    refine aF (by omega) ?_
    refine aF (by omega) ?_
    rw[Int.toNat_natCast]
    walk_at "go"
    have em:∀i j:Int,(if j<i then j else i)=min i j:=fun i j=>by split<;>omega
    try refine⟨by omega,?_⟩
    rw[em]
    exact hQ
def Walk:List Int→List (Int × Int × Int)→List Int→Prop
  | xs,[],ys=>xs=ys
  | xs,(g,t,a)::r,ys=>iW xs g t a∧Walk (Maj.bw xs g.toNat t.toNat a) r ys
theorem Walk.snoc {g t a:Int}:∀{ss:List (Int × Int × Int)}{xs ys:List Int},Walk xs ss ys→iW ys g t a→Walk xs (ss++[(g,t,a)]) (Maj.bw ys g.toNat t.toNat a)
  | [],xs,ys,h,hs=>by
    have h':xs=ys:=h
    subst h'
    exact⟨hs,rfl⟩
  | (g0,t0,a0)::r,xs,ys,h,hs=>⟨h.1,Walk.snoc h.2 hs⟩
theorem gB {xs:List Int}{p t j:Nat}{a:Int} (hp:p<xs.length) (ht:t<xs.length) (hpt:p≠t):(Maj.bw xs p t a).getD j 0=if j=p then xs.getD p 0 - a else if j=t then xs.getD t 0+a else xs.getD j 0:=by
  have self:∀{ys:List Int}{i:Nat}{v:Int},i<ys.length→(ys.set i v).getD i 0=v:=fun {ys i v} h=>by
    rw[List.getD_eq_getElem?_getD,List.getElem?_set_self h];rfl
  unfold Maj.bw
  by_cases e1:j=p
  · subst e1
    rw[if_pos rfl,Maj.fL (Ne.symm hpt),self hp]
  · rw[if_neg e1]
    by_cases e2:j=t
    · subst e2
      rw[if_pos rfl,self (by rw[List.length_set];exact ht),Maj.fL hpt]
    · rw[if_neg e2,Maj.fL (Ne.symm e2),Maj.fL (Ne.symm e1)]
theorem oZ {ys:List Int}{k:Nat} (hk:k≤ys.length):Sg k (atF ys)=(ys.take k).sum:=by
  unfold Sg atF
  congr 1
  refine List.ext_getElem (by simp;omega) fun j h1 h2=>?_
  rw[List.getElem_map,List.getElem_range,List.getElem_take,List.getD_eq_getElem?_getD,List.getElem?_eq_getElem (by rw[List.length_map,List.length_range] at h1;omega)]
  rfl
theorem tX {xs ys:List Int} (hl:xs.length=ys.length) (h:∀j,j<xs.length→atF xs j=atF ys j):xs=ys:=by
  refine List.ext_getElem hl fun j h1 h2=>?_
  have:=h j h1
  unfold atF at this
  rw[List.getD_eq_getElem?_getD,List.getD_eq_getElem?_getD,List.getElem?_eq_getElem h1,List.getElem?_eq_getElem h2] at this
  exact this
theorem vg {ns:List Int}:((lU ns.length).map fun p=>ns.getD p.toNat 0)=ns:=by
  unfold lU
  rw[List.map_map]
  refine List.ext_getElem (by rw[List.length_map,List.length_range]) fun j h1 h2=>?_
  rw[List.getElem_map,List.getElem_range]
  show ns.getD ((j:Int).toNat) 0=_
  rw[Int.toNat_natCast,List.getD_eq_getElem?_getD,List.getElem?_eq_getElem h2];rfl
structure lK (n:Nat) (fp zs xs:List Int):Prop where
  lz:zs.length=n
  lx:xs.length=n
  at_:∀i,i<n→zs.getD (fp.getD i 0).toNat 0=xs.getD i 0
theorem lK.perm {n:Nat}{fp zs xs:List Int} (h:lK n fp zs xs) (hp:fp.Perm (lU n)):zs.Perm xs:=by
  have lf:fp.length=n:=by rw[hp.length_eq];unfold lU;rw[List.length_map,List.length_range]
  have e:(fp.map fun p=>zs.getD p.toNat 0)=xs:=by
    refine List.ext_getElem (by rw[List.length_map,lf,h.lx]) fun j h1 h2=>?_
    have:=h.at_ j (by rw[h.lx] at h2;exact h2)
    rw[List.getElem_map]
    rw[List.getD_eq_getElem?_getD (l:=fp),List.getElem?_eq_getElem (by rw[List.length_map] at h1;exact h1),List.getD_eq_getElem?_getD (l:=xs),List.getElem?_eq_getElem h2] at this
    exact this
  have:=hp.map fun p=>zs.getD p.toNat 0
  rw[e,← h.lz,vg] at this
  exact this.symm
theorem lK.step {n p t:Nat}{fp zs xs:List Int}{a:Int} (h:lK n fp zs xs) (hp:fp.Perm (lU n)) (pn:p<n) (tn:t<n) (hpt:p≠t) (a1:1≤a) (a2:a≤xs.getD p 0 - xs.getD t 0) :
    iW zs (fp.getD p 0) (fp.getD t 0) a∧lK n fp (Maj.bw zs (fp.getD p 0).toNat (fp.getD t 0).toNat a) (Maj.bw xs p t a):=by
  have lf:fp.length=n:=by rw[hp.length_eq];unfold lU;rw[List.length_map,List.length_range]
  have nd:fp.Nodup:=hp.nodup_iff.mpr (by unfold lU;exact List.Pairwise.map _ (fun a b hab=>by show (a:Int)≠b;omega) List.nodup_range)
  have bd:∀i,i<n→0≤fp.getD i 0∧fp.getD i 0<n:=fun i hi=>by
    rw[List.getD_eq_getElem?_getD,List.getElem?_eq_getElem (by omega)]
    have:=hp.mem_iff.mp (List.getElem_mem (l:=fp) (n:=i) (by omega))
    unfold lU at this
    obtain ⟨k,hk,e⟩:=List.mem_map.mp this
    have:=List.mem_range.mp hk
    show 0≤fp[i]∧fp[i]<n
    omega
  have inj:∀i j,i<n→j<n→fp.getD i 0=fp.getD j 0→i=j:=fun i j hi hj e=>by
    rw[List.getD_eq_getElem?_getD,List.getD_eq_getElem?_getD,List.getElem?_eq_getElem (by omega),List.getElem?_eq_getElem (by omega)] at e
    exact (List.getElem_inj nd).mp e
  have bp:=bd p pn
  have bt:=bd t tn
  have hne:(fp.getD p 0).toNat≠(fp.getD t 0).toNat:=fun z=>hpt (inj p t pn tn (by omega))
  refine⟨⟨bp.1,by rw[h.lz];exact bp.2,bt.1,by rw[h.lz];exact bt.2,a1,by rw[h.at_ p pn,h.at_ t tn];exact a2⟩,⟨by rw[Maj.mP,h.lz],by rw[Maj.mP,h.lx],fun i hi=>?_⟩⟩
  have bi:=bd i hi
  rw[gB (by rw[h.lz];omega) (by rw[h.lz];omega) hne,gB (by rw[h.lx];exact pn) (by rw[h.lx];exact tn) hpt,h.at_ p pn,h.at_ t tn,h.at_ i hi]
  by_cases e1:i=p
  · subst e1;rw[if_pos rfl,if_pos rfl]
  · rw[if_neg e1,if_neg (fun z=>e1 (inj i p hi pn (by omega)))]
    by_cases e2:i=t
    · subst e2;rw[if_pos rfl,if_pos rfl]
    · rw[if_neg e2,if_neg (fun z=>e2 (inj i t hi tn (by omega)))]
theorem BS {rows fp:List Int} (hp:fp.Perm (lU rows.length)) (ho:fp.Pairwise fun a b=>rows.getD b.toNat 0≤rows.getD a.toNat 0):ja rows=fp.map fun p=>rows.getD p.toNat 0:=by
  refine (AO ?_ ?_).symm
  · have:=hp.map fun p=>rows.getD p.toNat 0
    rw[vg] at this
    exact this
  · exact List.Pairwise.map _ (fun a b h=>h) ho
theorem tM {a b:List Int} (h:a.Perm b):a.sum=b.sum:=by
  induction h with
  | nil=>rfl
  | cons x _ ih=>rw[List.sum_cons,List.sum_cons,ih]
  | swap x y l=>rw[List.sum_cons,List.sum_cons,List.sum_cons,List.sum_cons];omega
  | trans _ _ h1 h2=>exact h1.trans h2
theorem lK.begin {rows fp:List Int} (hp:fp.Perm (lU rows.length)) (ho:fp.Pairwise fun a b=>rows.getD b.toNat 0≤rows.getD a.toNat 0):lK rows.length fp rows (ja rows):=by
  have lf:fp.length=rows.length:=by rw[hp.length_eq];unfold lU;rw[List.length_map,List.length_range]
  refine⟨rfl,cf rows,fun i hi=>?_⟩
  rw[BS hp ho,List.getD_eq_getElem?_getD (l:=fp),List.getD_eq_getElem?_getD (l:=fp.map _),List.getElem?_map,List.getElem?_eq_getElem (by omega)]
  rfl
theorem DC {xs:List Int}{n:Nat} (hl:xs.length=n) (h:xs.Pairwise (·≥·)):Fal n (atF xs):=fun i hi=>by
  have:=List.pairwise_iff_getElem.mp h i (i+1) (by omega) (by omega) (by omega)
  unfold atF
  rw[List.getD_eq_getElem?_getD,List.getD_eq_getElem?_getD,List.getElem?_eq_getElem (by omega),List.getElem?_eq_getElem (by omega)]
  exact this
theorem HX {one other:List Int} (hl:one.length=other.length) (hs:one.sum=other.sum) (h:Maj.Le one other):Dom other.length (atF (ja one)) (atF (ja other)):=by
  refine⟨fun k hk=>?_,?_⟩
  · rw[oZ (by rw[cf];omega),oZ (by rw[cf];omega)]
    exact h k (by omega)
  · rw[oZ (by rw[cf];omega),oZ (by rw[cf];omega),List.take_of_length_le (by rw[cf];omega),List.take_of_length_le (by rw[cf];omega),tM (iw one),tM (iw other),hs]
theorem Dom.congr {n:Nat}{g x y:Nat→Int} (h:Dom n g x) (e:∀j,j<n→x j=y j):Dom n g y:=by
  refine⟨fun k hk=>?_,?_⟩
  · rw[← bD (m:=k) (f:=x) (g:=y) fun j hj=>e j (by omega)];exact h.le k hk
  · rw[← bD (m:=n) (f:=x) (g:=y) e];exact h.eq
theorem Fal.congr {n:Nat}{x y:Nat→Int} (h:Fal n x) (e:∀j,j<n→x j=y j):Fal n y:=fun i hi=>by
  rw[← e i (by omega),← e (i+1) hi];exact h i hi
theorem zU {g x y:Nat→Int}{n:Nat} (e:∀j,j<n→x j=y j):lD g y n≤lD g x n:=xF fun j hj z=>by rw[← e j hj];exact z
theorem Fx {xs:List Int}{p t j:Nat}{a:Int} (hp:p<xs.length) (ht:t<xs.length) (hpt:p≠t):mr (atF xs) p t a j=atF (Maj.bw xs p t a) j:=(gB hp ht hpt).symm
def dS3 (q:Int × Int × Int):D:=dS q.1 q.2.1 q.2.2
def fm:DSp:=fun ds P=>∃one other:List Int,ds=[dI one,dI other]∧one.length=other.length∧1≤other.length∧other.length<64∧one.sum=other.sum∧Maj.Le one other∧∀(ss:List (Int × Int × Int)) (ys:List Int),ss.length+1≤other.length→Walk other ss ys→ys.Perm one→(one=other→ss=[])→P (.lst (ss.map dS3))
theorem ot:bE fm:=by
  intro xs P P' k h
  obtain ⟨gs,ys,e,h1,h2,h3,h4,h5,h⟩:=h
  exact⟨gs,ys,e,h1,h2,h3,h4,h5,fun p t a b z y=>k _ (h p t a b z y)⟩
theorem oX:∀ds P,fm ds P→ds.length=2:=by
  intro ds P h
  obtain ⟨_,_,e,_⟩:=h
  rw[e];rfl
theorem qS {f:Addr}{fd:FuncData} (F:FnAt K mg "evening_steps" b8 cL f fd) (A_:Fns K mg) (T:Txt K mg base) {c:Cs} (xs:Exs K mg base c):aM P w K mg base CX0 4 f fd cL (spP K fm):=by
  obtain ⟨f0,d0,E_falling_places⟩:=A_.h_falling_places
  have G_falling_places:aM P w K mg base CX0 1 f0 d0 cn (spP K eL):=pY E_falling_places A_ T xs
  obtain ⟨f1,d1,E_falling⟩:=A_.h_falling
  have G_falling:aM P w K mg base CX0 1 f1 d1 il (spP K gE):=t6 E_falling A_ T xs
  obtain ⟨f2,d2,E_evening_step⟩:=A_.h_evening_step
  have G_evening_step:aM P w K mg base CX0 2 f2 d2 dB (spP K fO):=rP E_evening_step A_ T xs
  obtain ⟨f3,d3,E_step_made⟩:=A_.h_step_made
  have G_step_made:aM P w K mg base (CXR P w) 3 f3 d3 cZ (spX K (eT c)):=jJ E_step_made A_ T xs
  refine F.fn.ok cm (fun vs H Q E h=>aU oX h) (fun cdv A outer s H vs Q E hr h=>?_)
  refine⟨_,(ak (aI (i:=2) cm.nd rfl (by first | exact Or.inl rfl | exact Or.inr rfl) (ay G_falling_places (hr.mono (by decide)) rfl E_falling_places.mg E_falling_places.fn.kp E_falling_places.bd .nil bj (af (pv 1) aj)))
      (ak (aI (i:=3) cm.nd rfl (by first | exact Or.inl rfl | exact Or.inr rfl) (ay G_falling (hr.mono (by decide)) rfl E_falling.mg E_falling.fn.kp E_falling.bd .nil bj (af (pv 0) aj)))
      (ak (aI (i:=4) cm.nd rfl (by first | exact Or.inl rfl | exact Or.inr rfl) (ay G_falling (hr.mono (by decide)) rfl E_falling.mg E_falling.fn.kp E_falling.bd .nil bj (af (pv 1) aj)))
      (ak (aI (i:=5) cm.nd rfl (by first | exact Or.inl rfl | exact Or.inr rfl) (iG aj))
      (ak (mH PassesOwn.never (bh (Ab hr.units) (pv 4) (pv 3) (bo _)) (ak (aI (i:=6) cm.nd rfl (by first | exact Or.inl rfl | exact Or.inr rfl) (ay G_evening_step (hr.mono (by decide)) rfl E_evening_step.mg E_evening_step.fn.kp E_evening_step.bd .nil bj (af (pv 3) (af (pv 4) aj))))
      (ak (aI (i:=4) cm.nd rfl (by first | exact Or.inl rfl | exact Or.inr rfl) (ay G_step_made (hr.mono (by decide)) rfl E_step_made.mg E_step_made.fn.kp E_step_made.bd .nil vY (af (pv 4) (af (pv 6) aj))))
      (aq (iC (rf PySem.F.plainAttrs_list PySem.F.slot_list_append PySem.F.type_list_append jS (pv 5) (af (jV (af (aB (aw (K:=K) rfl) (pv 2) (aB (aZ (K:=K) rfl) (pv 6) av (fun _ _=>rfl)) (fun _ _=>rfl)) (af (aB (aw (K:=K) rfl) (pv 2) (aB (aZ (K:=K) rfl) (pv 6) av (fun _ _=>rfl)) (fun _ _=>rfl)) (af (aB (aZ (K:=K) rfl) (pv 6) av (fun _ _=>rfl)) aj)))) aj)))))))
      (aq (aH (pv 5)))))))),bq (Γn:=[5]) (N:=jA) (ar (ST.post (Γn:=[]) (aP 2 (EM.es (aK (S:=eL) nU (ah (ES.er (aa 1)) ao)))))
      (ar (ST.post (Γn:=[]) (aP 3 (EM.es (aK (S:=gE) mj (ah (ES.er (aa 0)) ao)))))
      (ar (ST.post (Γn:=[]) (aP 4 (EM.es (aK (S:=gE) mj (ah (ES.er (aa 1)) ao)))))
      (ar (ST.post (Γn:=[5]) (bQ (M:=[]) 5 (jB dw)))
      (ar (mY (aY (EM.er (aA CH (ES.er (aa 4)) (ES.er (aa 3))))) (ar (ST.post (Γn:=[5]) (aP 6 (EM.es (aK (S:=fO) oV (ah (ES.er (aa 3)) (ah (ES.er (aa 4)) ao))))))
      (ar (ST.post (Γn:=[5]) (aP 4 (EM.es (qa iK (ah (ES.er (aa 4)) (ah (ES.er (aa 6)) ao))))))
      (ST.post (Γn:=[5]) (jO (M:=[]) 5 (j0 (cD (ER.aW (ES.er (aX (aa 2) (ES.er (bK (aa 6) (EM.er au)))))) (cD (ER.aW (ES.er (aX (aa 2) (ES.er (bK (aa 6) (EM.er au)))))) (cD (ER.aW (ES.er (bK (aa 6) (EM.er au)))) dw)))))))))
      (aJ (M:=[5]) (fC 5))))))) (fun ds P hS=>?_) h⟩
  obtain ⟨one,other,rfl,hl,h1,h64,hsum,hle,hP⟩:=hS
  rw[show aN jA [dI one,dI other]=[some (dI one),some (dI other),none,none,none,none,none] from rfl]
  walk_at "go"
  refine⟨other,rfl,h64,fun fp q1 q2=>?_⟩
  refine⟨one,rfl,by omega,?_⟩
  refine⟨other,rfl,h64,?_⟩
  refine⟨by omega,?_⟩
  have lg:=cf one
  have lx:=cf other
  have fg:Fal other.length (atF (ja one)):=DC (by omega) (lB one)
  have om:=zg (g:=atF (ja one)) (x:=atF (ja other)) (n:=other.length)
  refine⟨fun m δ=>∃(ss:List (Int × Int × Int)) (zs xs:List Int) (o6:Option D),δ=[some (dI one),some (dI other),some (dI fp),some (dI (ja one)),some (dI xs),some (.lst (ss.map dS3)),o6]∧m=lD (atF (ja one)) (atF xs) other.length∧Dom other.length (atF (ja one)) (atF xs)∧Fal other.length (atF xs)∧ss.length+(m - 1)+1≤other.length∧Walk other ss zs∧lK other.length fp zs xs∧(one=other→ss=[]∧xs=ja one),
    ⟨_,[],other,ja other,none,rfl,rfl,HX hl hsum hle,DC lx (lB other),by show 0+_+1≤_;omega,rfl,lK.begin q1 q2,fun z=>⟨rfl,by rw[z]⟩⟩,?_⟩
  rintro m δ ⟨ss,zs,xs,o6,rfl,hm,hD,hF,hbd,hW,hL,hZ⟩
  have hxl:=hL.lx
  walk_at "go"
  refine jb ?_
  by_cases e:xs=ja one
  · rw[decide_eq_true e]
    simp only[if_true,Bool.not_true]
    walk_at "go"
    exact hP ss zs (by omega) hW ((hL.perm q1).trans (e▸iw one)) fun z=>(hZ z).1
  · rw[decide_eq_false e]
    simp only[if_true,Bool.not_false]
    walk_at "go"
    have hne:∃j,j<xs.length∧atF xs j≠atF (ja one) j:=Classical.byContradiction fun z=>e (tX (by omega) fun j hj=>Classical.byContradiction fun y=>z ⟨j,hj,y⟩)
    refine⟨ja one,xs,rfl,by omega,by omega,by rw[hxl];exact hD,hne,fun p t hG=>?_⟩
    rw[hxl] at hG
    have pt:=hG.pt
    have tn:=hG.tn
    have gp:=hG.gp
    have gt:=hG.gt
    generalize ha:min (atF xs p - atF (ja one) p) (atF (ja one) t - atF xs t)=a
    have can:=hG.can (a:=a) fg (by omega) (by omega)
    have fw:=hG.Jt
    rw[ha] at fw
    have hs:=hL.step (a:=a) q1 (by omega) tn (by omega) (by omega) can
    have lf:fp.length=other.length:=by rw[q1.length_eq];unfold lU;rw[List.length_map,List.length_range]
    have ef:∀j,j<other.length→mr (atF xs) p t a j=atF (Maj.bw xs p t a) j:=fun j _=>Fx (by omega) (by omega) (by omega)
    have oc:=zU (g:=atF (ja one)) ef
    walk_at "go"
    refine⟨xs,p,t,a,rfl,fun _=>?_,fun z=>absurd ⟨by omega,by omega,by omega,by omega,by omega,by rw[Int.toNat_natCast,Int.toNat_natCast];exact can⟩ z⟩
    rw[Int.toNat_natCast,Int.toNat_natCast]
    unfold dS
    walk_at "go"
    refine aF (by omega) ?_
    refine⟨rfl,?_⟩
    walk_at "go"
    refine aF (by omega) ?_
    refine⟨rfl,?_⟩
    walk_at "go"
    refine⟨_,?_,ss++[(fp.getD p 0,fp.getD t 0,a)],_,Maj.bw xs p t a,some (L3.D.tup [L3.D.int p,L3.D.int t,L3.D.int a]),?_,rfl,(hG.dom hD (a:=a) (by omega)).congr ef,(hG.fal fg hF (by omega) (by omega) (by omega)).congr ef,?_,hW.snoc hs.1,hs.2,fun z=>absurd (hZ z).2 e⟩
    · omega
    · rw[List.map_append];rfl
    · rw[List.length_append,List.length_singleton];omega
def gD:DSp:=fun ds P=>∃(xs ys:List Int) (ss:List (Int × Int × Int)),ds=[dI xs,.lst (ss.map dS3)]∧ss.length≤1000∧Walk xs ss ys∧P (dI ys)
theorem rX:bE gD:=by
  intro xs P P' k h
  unfold gD at h ⊢
  grind
theorem t4:∀ds P,gD ds P→ds.length=2:=by
  intro ds P h
  obtain ⟨_,_,_,e,_⟩:=h
  rw[e];rfl
theorem uC {f:Addr}{fd:FuncData} (F:FnAt K mg "row_behind" dX eZ f fd) (A_:Fns K mg) (T:Txt K mg base) {c:Cs} (xs:Exs K mg base c):aM P w K mg base CX0 4 f fd eZ (spR K gD):=by
  obtain ⟨f0,d0,E_step_made⟩:=A_.h_step_made
  have G_step_made:aM P w K mg base (CXR P w) 3 f0 d0 cZ (spX K (eT c)):=jJ E_step_made A_ T xs
  refine F.fn.ok kZ (fun vs H Q E h=>Ay t4 h) (fun cdv A outer s H vs Q E hr h=>?_)
  refine⟨_,(ak (gj PassesOwn.never rfl (bc (K:=K) rfl (pv 1)) (aQ (i:=2) kZ.nd rfl (by first | exact Or.inl rfl | exact Or.inr rfl)) (aq (aI (i:=0) kZ.nd rfl (by first | exact Or.inl rfl | exact Or.inr rfl) (ay G_step_made (hr.mono (by decide)) rfl E_step_made.mg E_step_made.fn.kp E_step_made.bd .nil vY (af (pv 0) (af (pv 2) aj))))))
      (aq (aH (pv 0)))),Bf (Γn:=[]) (N:=lO) (ar (fQ (bB (aa 1)) (aS 2) (ST.post (Γn:=[]) (aP 0 (EM.es (qa iK (ah (ES.er (aa 0)) (ah (ES.er (aa 2)) ao)))))))
      (w5 (ES.er (aa 0)))) (fun ds P hS=>?_) h⟩
  obtain ⟨xs,ys,ss,rfl,hl,hW,hP⟩:=hS
  rw[show aN lO [dI xs,.lst (ss.map dS3)]=[some (dI xs),some (.lst (ss.map dS3)),none] from rfl]
  walk_at "go"
  refine eG (as:=ss) (f:=dS3) (fun i δ=>∃(zs:List Int) (o2:Option D),δ=[some (dI zs),some (.lst (ss.map dS3)),o2]∧Walk zs (ss.drop i) ys) ⟨xs,none,rfl,hW⟩ ?_ ?_
  · rintro i ⟨g,t,a⟩ δ N e ⟨zs,o2,rfl,hW⟩ hN
    obtain ⟨h1,h2⟩:=List.getElem?_eq_some_iff.mp e
    rw[List.drop_eq_getElem_cons h1,h2] at hW
    walk_at "go"
    refine⟨zs,g,t,a,rfl,fun _=>hN _ ⟨_,_,rfl,hW.2⟩,fun z=>absurd hW.1 z⟩
  · rintro δ ⟨zs,o2,rfl,hW⟩
    rw[List.drop_length] at hW
    have e:zs=ys:=hW
    subst e
    walk_at "go"
    exact hP
theorem tD {p:Nat→Prop} [DecidablePred p]:∀(d k n:Nat),n - k=d→k≤n→p n→∃j,k≤j∧j≤n∧p j∧∀m,k≤m→m<j→¬ p m
  | 0,k,n,e,h,hp=>⟨n,by omega,Nat.le_refl _,hp,fun m h1 h2=>by omega⟩
  | d+1,k,n,e,h,hp=>by
    by_cases c:p k
    · exact⟨k,Nat.le_refl _,h,c,fun m h1 h2=>by omega⟩
    · obtain ⟨j,j1,j2,j3,j4⟩:=tD d (k+1) n (by omega) (by omega) hp
      refine⟨j,by omega,j2,j3,fun m h1 h2=>?_⟩
      by_cases q:m=k
      · rw[q];exact c
      · exact j4 m (by omega) h2
theorem Gj {zs one:List Int}{i:Nat} (hp:zs.Perm one) (hi:i<one.length) (he:∀j,j<i→zs.getD j 0=one.getD j 0) (hne:zs.getD i 0≠one.getD i 0) :
    ∃j,i+1≤j∧j<one.length∧zs.getD j 0=one.getD i 0∧∀m,i+1≤m→m<j→zs.getD m 0≠one.getD i 0:=by
  have hl:=hp.length_eq
  have gd:∀{ys:List Int}{j:Nat} (h:j<ys.length),ys.getD j 0=ys[j]:=fun h=>by
    rw[List.getD_eq_getElem?_getD,List.getElem?_eq_getElem h];rfl
  have et:zs.take i=one.take i:=List.ext_getElem (by rw[List.length_take,List.length_take];omega) fun j h1 h2=>by
    rw[List.length_take] at h1 h2
    rw[List.getElem_take,List.getElem_take]
    have:=he j (by omega)
    rw[gd (by omega),gd (by omega)] at this
    exact this
  have hd:(zs.drop i).Perm (one.drop i):=by
    have h:(zs.take i++zs.drop i).Perm (one.take i++one.drop i):=by rw[List.take_append_drop,List.take_append_drop];exact hp
    rw[et] at h
    exact (List.perm_append_left_iff _).mp h
  have hm:one[i]∈one.drop i:=by rw[List.drop_eq_getElem_cons hi];exact List.mem_cons_self
  obtain ⟨k,hk,e⟩:=List.mem_iff_getElem.mp (hd.mem_iff.mpr hm)
  rw[List.getElem_drop] at e
  rw[List.length_drop] at hk
  have k0:k≠0:=fun z=>by
    subst z
    exact hne (by rw[gd (by omega),gd hi];exact e)
  obtain ⟨j,j1,j2,j3,j4⟩:=tD (p:=fun j=>zs.getD j 0=one.getD i 0) _ (i+1) (i+k) rfl (by omega) (by show zs.getD (i+k) 0=_;rw[gd (by omega),gd hi];exact e)
  exact⟨j,j1,by omega,j3,j4⟩
theorem HZ {zs:List Int}{p q:Nat} (hp:p<zs.length) (hq:q<zs.length) (hpq:p≠q) :
    (Maj.bw zs p q (zs.getD p 0 - zs.getD q 0)).Perm zs∧∀j,(Maj.bw zs p q (zs.getD p 0 - zs.getD q 0)).getD j 0=if j=p then zs.getD q 0 else if j=q then zs.getD p 0 else zs.getD j 0:=by
  have gd:∀{ys:List Int}{j:Nat} (h:j<ys.length),ys.getD j 0=ys[j]:=fun h=>by
    rw[List.getD_eq_getElem?_getD,List.getElem?_eq_getElem h];rfl
  refine⟨?_,fun j=>?_⟩
  · have e:Maj.bw zs p q (zs.getD p 0 - zs.getD q 0)=(zs.set p zs[q]).set q zs[p]:=by
      unfold Maj.bw
      rw[Maj.fL hpq,gd hp,gd hq]
      congr 2<;>omega
    rw[e]
    exact List.set_set_perm hp hq
  · rw[gB hp hq hpq]
    split
    · omega
    · split
      · omega
      · rfl
theorem FV {zs:List Int}{m:Nat}{z:D} (h:(zs.map L3.D.int)[m]?=some z):z=.int (zs.getD m 0)∧m<zs.length:=by
  rw[List.getElem?_map] at h
  cases q:zs[m]? with
  | none=>rw[q] at h;cases h
  | some v =>
    rw[q] at h
    cases h
    exact⟨by rw[List.getD_eq_getElem?_getD,q];rfl,(List.getElem?_eq_some_iff.mp q).1⟩
theorem CY {zs:List Int}{m:Nat} (h:m<zs.length):(zs.map L3.D.int)[m]?=some (.int (zs.getD m 0)):=by
  rw[List.getElem?_map,List.getElem?_eq_getElem h,List.getD_eq_getElem?_getD,List.getElem?_eq_getElem h];rfl
theorem xa {a:Int}:eqV (V.int a) (V.int a)=true:=by simp [eqV]
theorem zB {a b:Int} (h:a≠b):eqV (V.int a) (V.int b)=false:=by simp [eqV,h]
theorem D9 {zs one:List Int}{i j p q:Nat} (hp:zs.Perm one) (he:∀k,k<i→zs.getD k 0=one.getD k 0) (j3:zs.getD j 0=one.getD i 0) (j1:i+1≤j) (j2:j<zs.length) (hpq:p=i∧q=j∨p=j∧q=i) (h:zs.getD q 0<zs.getD p 0) :
    iW zs p q (zs.getD p 0 - zs.getD q 0)∧(Maj.bw zs p q (zs.getD p 0 - zs.getD q 0)).Perm one∧∀k,k<i+1→(Maj.bw zs p q (zs.getD p 0 - zs.getD q 0)).getD k 0=one.getD k 0:=by
  have s:=HZ (zs:=zs) (p:=p) (q:=q) (by omega) (by omega) (by omega)
  refine⟨⟨by omega,by omega,by omega,by omega,by omega,by rw[Int.toNat_natCast,Int.toNat_natCast];exact Int.le_refl _⟩,s.1.trans hp,fun k hk=>?_⟩
  rw[s.2 k]
  rcases hpq with ⟨rfl,rfl⟩ | ⟨rfl,rfl⟩
  · by_cases e:k=p
    · rw[if_pos e,e];exact j3
    · rw[if_neg e,if_neg (by omega)];exact he k (by omega)
  · rw[if_neg (by omega)]
    by_cases e:k=q
    · rw[if_pos e,e];exact j3
    · rw[if_neg e];exact he k (by omega)
def fY:DSp:=fun ds P=>∃one xs:List Int,ds=[dI one,dI xs]∧1≤one.length∧one.length<64∧xs.Perm one∧∀ss:List (Int × Int × Int),ss.length+1≤one.length→Walk xs ss one→(xs=one→ss=[])→P (.lst (ss.map dS3))
theorem pE:bE fY:=by
  intro xs P P' k h
  obtain ⟨gs,ys,e,h1,h2,h3,h⟩:=h
  exact⟨gs,ys,e,h1,h2,h3,fun p t a b=>k _ (h p t a b)⟩
theorem qd:∀ds P,fY ds P→ds.length=2:=by
  intro ds P h
  obtain ⟨_,_,e,_⟩:=h
  rw[e];rfl
theorem sd {f:Addr}{fd:FuncData} (F:FnAt K mg "exchanges_to" cC dE f fd) (A_:Fns K mg) (T:Txt K mg base) {c:Cs} (xs:Exs K mg base c):aM P w K mg base CX0 4 f fd dE (spP K fY):=by
  obtain ⟨f0,d0,E_exchange_step⟩:=A_.h_exchange_step
  have G_exchange_step:aM P w K mg base CX0 1 f0 d0 cM (spP K dP):=qB E_exchange_step A_ T xs
  obtain ⟨f1,d1,E_step_made⟩:=A_.h_step_made
  have G_step_made:aM P w K mg base (CXR P w) 3 f1 d1 cZ (spX K (eT c)):=jJ E_step_made A_ T xs
  refine F.fn.ok fk (fun vs H Q E h=>aU qd h) (fun cdv A outer s H vs Q E hr h=>?_)
  refine⟨_,(ak (aI (i:=2) fk.nd rfl (by first | exact Or.inl rfl | exact Or.inr rfl) (iG aj))
      (ak (gj PassesOwn.never rfl (cI rfl T.range_ (af (ax (aR (K:=K) rfl) (by rfl) T.len_ PySem.boot_len (af (pv 0) aj)) aj)) (aQ (i:=3) fk.nd rfl (by first | exact Or.inl rfl | exact Or.inr rfl)) (aq (dY (bh oj (aB (aw (K:=K) rfl) (pv 1) (pv 3) (fun _ _=>rfl)) (aB (aw (K:=K) rfl) (pv 0) (pv 3) (fun _ _=>rfl)) (bo _)) (ak (aI (i:=4) fk.nd rfl (by first | exact Or.inl rfl | exact Or.inr rfl) (ay G_exchange_step (hr.mono (by decide)) rfl E_exchange_step.mg E_exchange_step.fn.kp E_exchange_step.bd .nil bj (af (pv 1) (af (pv 3) (af (rf PySem.F.plainAttrs_list PySem.F.slot_list_index PySem.F.type_list_index Cq (pv 1) (af (aB (aw (K:=K) rfl) (pv 0) (pv 3) (fun _ _=>rfl)) (af (ba iB (pv 3) av) aj))) aj)))))
      (ak (aI (i:=1) fk.nd rfl (by first | exact Or.inl rfl | exact Or.inr rfl) (ay G_step_made (hr.mono (by decide)) rfl E_step_made.mg E_step_made.fn.kp E_step_made.bd .nil vY (af (pv 1) (af (pv 4) aj))))
      (aq (iC (rf PySem.F.plainAttrs_list PySem.F.slot_list_append PySem.F.type_list_append jS (pv 2) (af (pv 4) aj)))))) bA)))
      (aq (aH (pv 2))))),bq (Γn:=[2]) (N:=jZ) (ar (ST.post (Γn:=[2]) (bQ (M:=[]) 2 (jB dw)))
      (ar (fQ (fH (ah (EM.er (bf cP (ah (ES.er (aa 0)) ao))) ao)) (aS 3) (ft (aY (EM.er (aA uy (ES.er (aX (aa 1) (ES.er (aa 3)))) (ES.er (aX (aa 0) (ES.er (aa 3))))))) (ar (ST.post (Γn:=[2]) (aP 4 (EM.es (aK (S:=dP) oP (ah (ES.er (aa 1)) (ah (ES.er (aa 3)) (ah (EM.er (Ca (ES.er (aa 1)) (ES.er (aX (aa 0) (ES.er (aa 3)))) (EM.er (aA eE (ES.er (aa 3)) (EM.er au))))) ao)))))))
      (ar (ST.post (Γn:=[2]) (aP 1 (EM.es (qa iK (ah (ES.er (aa 1)) (ah (ES.er (aa 4)) ao))))))
      (ST.post (Γn:=[2]) (jO (M:=[]) 2 (ER.flat (ES.er (aa 4))))))) br))
      (aJ (M:=[2]) (fC 2)))) (fun ds P hS=>?_) h⟩
  obtain ⟨one,xs,rfl,h1,h64,hp,hP⟩:=hS
  rw[show aN jZ [dI one,dI xs]=[some (dI one),some (dI xs),none,none,none] from rfl]
  walk_at "go"
  refine m7 (lo:=0) (n:=one.length) (fun i δ=>∃(ss:List (Int × Int × Int)) (zs:List Int) (o3 o4:Option D),δ=[some (dI one),some (dI zs),some (.lst (ss.map dS3)),o3,o4]∧Walk xs ss zs∧zs.Perm one∧(∀j,j<i→zs.getD j 0=one.getD j 0)∧ss.length≤i∧ss.length+1≤one.length∧(xs=one→ss=[]∧zs=one)) ⟨[],xs,none,none,rfl,rfl,hp,fun j hj=>absurd hj (by omega),Nat.le_refl _,h1,fun e=>⟨rfl,e⟩⟩ ?_ ?_
  · rintro i δ N hi ⟨ss,zs,o3,o4,rfl,hW,hp,he,hl1,hl2,hz⟩ hN
    have hl:=hp.length_eq
    walk_at "go"
    refine aF (by omega) ?_
    refine aF (by omega) ?_
    rw[Int.zero_add,Int.toNat_natCast]
    walk_at "go"
    by_cases e:zs.getD i 0=one.getD i 0
    · rw[if_neg (fun z=>z e)]
      refine hN _ ⟨ss,zs,_,_,rfl,hW,hp,fun j hj=>?_,by omega,hl2,hz⟩
      by_cases q:j=i
      · rw[q];exact e
      · exact he j (by omega)
    · obtain ⟨j,j1,j2,j3,j4⟩:=Gj hp hi he e
      rw[if_pos e]
      refine pS (es:=zs.map L3.D.int) rfl ⟨dJ,aF (by omega) ?_⟩
      rw[Int.toNat_natCast]
      refine⟨rfl,i+1,j,by omega,j1,⟨.int (zs.getD j 0),CY (by omega),by rw[j3];exact xa⟩,fun m z hm hm2 q=>?_,?_⟩
      · obtain ⟨rfl,_⟩:=FV q
        exact zB (j4 m hm hm2)
      refine⟨zs,i,j,rfl,by omega,by omega,?_⟩
      have nz:¬ xs=one:=fun z=>e (by rw[(hz z).2])
      unfold exS
      by_cases h:zs.getD j 0<zs.getD i 0
      · rw[if_pos h]
        have q:=D9 (p:=i) (q:=j) hp he j3 j1 (by omega) (.inl ⟨rfl,rfl⟩) h
        refine⟨zs,i,j,_,rfl,fun _=>?_,fun z=>absurd q.1 z⟩
        rw[Int.toNat_natCast,Int.toNat_natCast]
        exact⟨rfl,by omega,hN _ ⟨ss++[((i:Int),(j:Int),zs.getD i 0 - zs.getD j 0)],_,_,_,by rw[List.map_append];rfl,hW.snoc q.1,q.2.1,q.2.2,by rw[List.length_append];exact Nat.succ_le_succ hl1,by rw[List.length_append,List.length_singleton];omega,fun z=>absurd z nz⟩⟩
      · rw[if_neg h]
        have h':zs.getD i 0<zs.getD j 0:=by rw[j3] at h ⊢;omega
        have q:=D9 (p:=j) (q:=i) hp he j3 j1 (by omega) (.inr ⟨rfl,rfl⟩) h'
        refine⟨zs,j,i,_,rfl,fun _=>?_,fun z=>absurd q.1 z⟩
        rw[Int.toNat_natCast,Int.toNat_natCast]
        exact⟨rfl,by omega,hN _ ⟨ss++[((j:Int),(i:Int),zs.getD j 0 - zs.getD i 0)],_,_,_,by rw[List.map_append];rfl,hW.snoc q.1,q.2.1,q.2.2,by rw[List.length_append];exact Nat.succ_le_succ hl1,by rw[List.length_append,List.length_singleton];omega,fun z=>absurd z nz⟩⟩
  · rintro δ ⟨ss,zs,o3,o4,rfl,hW,hp,he,hl1,hl2,hz⟩
    walk_at "go"
    have e:zs=one:=tX hp.length_eq fun j hj=>he j (by rw[hp.length_eq] at hj;exact hj)
    subst e
    exact hP ss hl2 hW fun z=>(hz z).1
theorem Walk.app:∀{ss tt:List (Int × Int × Int)}{xs ys zs:List Int},Walk xs ss ys→Walk ys tt zs→Walk xs (ss++tt) zs
  | [],_,xs,ys,_,h,k=>by
    have h':xs=ys:=h
    subst h'
    exact k
  | (_,_,_)::_,_,_,_,_,h,k=>⟨h.1,Walk.app h.2 k⟩
theorem Cb {one other:List Int} (hl:one.length=other.length) (h:pW one other=.non):Maj.Le one other:=by
  have e:Maj.above one other=[]:=by
    unfold pW at h
    cases q:Maj.above one other with
    | nil=>rfl
    | cons p ps=>rw[q] at h;cases h
  intro k hk
  match k with
  | 0=>exact Int.le_refl _
  | k+1 =>
    unfold Maj.above at e
    have:=List.filter_eq_nil_iff.mp e k (List.mem_range.mpr (by omega))
    rw[decide_eq_true_eq] at this
    omega
theorem Ar {ss:List (Int × Int × Int)}:(ss.map dS3).all L3.og=true:=by
  rw[List.all_map,List.all_eq_true];exact fun _ _=>rfl
theorem BZ (one other:List Int):pW one other=.non∨∃i,pW one other=.int i:=by
  unfold pW
  split
  · exact Or.inl rfl
  · exact Or.inr ⟨_,rfl⟩
def j9 (c:Cs):DSX:=fun ds P R=>∃one other:List Int,ds=[dI one,dI other]∧1≤one.length∧one.length<64∧(Alike one other→(∀i,pW one other=.int i→P (.tup [.str "bar",.int i]))∧(pW one other=.non→∀ss:List (Int × Int × Int),ss.length+2≤2*one.length→Walk other ss one→(one=other→ss=[])→P (.tup [.str "steps",.lst (ss.map dS3)])))∧(¬ Alike one other→R c.NotAlike)
theorem uX {c:Cs}:jC (j9 c):=by
  intro xs P P' R R' k kr h
  obtain ⟨one,other,e,h1,h2,h3,h4⟩:=h
  exact⟨one,other,e,h1,h2,fun z=>⟨fun i y=>k _ ((h3 z).1 i y),fun y ss a b d=>k _ ((h3 z).2 y ss a b d)⟩,fun z=>kr _ (h4 z)⟩
theorem xE {c:Cs}:∀ds P R,j9 c ds P R→ds.length=2:=by
  intro ds P R h
  unfold j9 at h
  grind
theorem y1 {f:Addr}{fd:FuncData} (F:FnAt K mg "steps_to" fX gZ f fd) (A_:Fns K mg) (T:Txt K mg base) {c:Cs} (xs:Exs K mg base c):aM P w K mg base (CXR P w) 5 f fd gZ (spX K (j9 c)):=by
  obtain ⟨f0,d0,E_bar_of⟩:=A_.h_bar_of
  have G_bar_of:aM P w K mg base (CXR P w) 4 f0 d0 kx (spX K (mQ c)):=BU E_bar_of A_ T xs
  obtain ⟨f1,d1,E_evening_steps⟩:=A_.h_evening_steps
  have G_evening_steps:aM P w K mg base CX0 4 f1 d1 cL (spP K fm):=qS E_evening_steps A_ T xs
  obtain ⟨f2,d2,E_exchanges_to⟩:=A_.h_exchanges_to
  have G_exchanges_to:aM P w K mg base CX0 4 f2 d2 dE (spP K fY):=sd E_exchanges_to A_ T xs
  obtain ⟨f3,d3,E_row_behind⟩:=A_.h_row_behind
  have G_row_behind:aM P w K mg base CX0 4 f3 d3 eZ (spR K gD):=uC E_row_behind A_ T xs
  refine F.fn.okX m9 (fun vs H Q E h=>lV xE h) (fun cdv A outer s H vs Q E hr h=>?_)
  refine⟨_,(ak (aI (i:=2) m9.nd rfl (by first | exact Or.inl rfl | exact Or.inr rfl) (ay G_bar_of (hr.mono (by decide)) rfl E_bar_of.mg E_bar_of.fn.kp E_bar_of.bd .nil xj (PA.nox (af (pv 0) (af (pv 1) aj)))))
      (PSs.nox (ak (dY (bh AZ (pv 2) wU (bo _)) (aq (aH (jV (af kq (af (pv 2) aj))))) bA)
      (ak (aI (i:=3) m9.nd rfl (by first | exact Or.inl rfl | exact Or.inr rfl) (ay G_evening_steps (hr.mono (by decide)) rfl E_evening_steps.mg E_evening_steps.fn.kp E_evening_steps.bd .nil bj (af (pv 0) (af (pv 1) aj))))
      (aq (aH (jV (af kq (af (ba zA (pv 3) (ay G_exchanges_to (hr.mono (by decide)) rfl E_exchanges_to.mg E_exchanges_to.fn.kp E_exchanges_to.bd .nil bj (af (pv 0) (af (ay G_row_behind (hr.mono (by decide)) rfl E_row_behind.mg E_row_behind.fn.kp E_row_behind.bd .nil bj (af (pv 1) (af (pv 3) aj))) aj)))) aj))))))))),lZ (Γn:=[2]) (N:=oJ) (fun R=>(mT (Dj 2 yH (ah (ES.er (aa 0)) (ah (ES.er (aa 1)) ao)))
      (ST.sx (ar (ft (aY (EM.er (aA Fm (bL 2) (EM.er wI)))) (aJ (M:=[2]) (j0 (gu kd (gu (fC 2) dw)))) br)
      (ar (ST.post (Γn:=[2]) (aP 3 (EM.es (aK (S:=fm) ot (ah (ES.er (aa 0)) (ah (ES.er (aa 1)) ao))))))
      (aJ (M:=[]) (j0 (cD kd (cD (aA Jb (ES.er (aa 3)) (EM.er (aK (S:=fY) pE (ah (ES.er (aa 0)) (ah (Bw (S:=gD) rX (ah (ES.er (aa 1)) (ah (ES.er (aa 3)) ao))) ao))))) dw))))))))) (fun ds P R hS=>?_) h⟩
  obtain ⟨one,other,rfl,h1,h64,hP,hR⟩:=hS
  rw[show aN oJ [dI one,dI other]=[some (dI one),some (dI other),none,none] from rfl]
  walk_at "v"
  refine⟨one,other,rfl,h64,fun ha=>?_,hR⟩
  obtain ⟨hP1,hP2⟩:=hP ha
  rcases BZ one other with e | ⟨i,e⟩<;>rw[e]
  · have hP:=hP2 e
    walk_at "v"
    refine⟨one,other,rfl,ha.1,by have:=ha.1;omega,by have:=ha.1;omega,ha.2,Cb ha.1 e,fun ss ys l1 w1 p1 z1=>?_⟩
    walk_at "go"
    refine⟨other,ys,ss,rfl,by have:=ha.1;omega,w1,?_⟩
    refine⟨one,ys,rfl,h1,h64,p1,fun tt l2 w2 z2=>?_⟩
    refine⟨⟨Ar,Ar,by have:=ha.1;rw[List.length_map,List.length_map];omega⟩,by decide,?_⟩
    rw[← List.map_append]
    refine hP _ (by have:=ha.1;rw[List.length_append];omega) (w1.app w2) fun z=>?_
    have e1:=z1 z
    subst e1
    have w1':other=ys:=w1
    rw[z2 (w1'.symm.trans z.symm)];rfl
  · have hP:=hP1 i e
    walk_at "go"
    exact hP
def CM:D→Bool | .int b=>decide (1≤b) | _=>false
def iI (c:Cs):DSX:=fun ds P R=>∃d,ds=[d]∧kn d=true∧(CM d=true→P .non)∧(CM d=false→R c.NoBottom)
theorem p9 {c:Cs}:jC (iI c):=by
  intro xs P P' R R' k kr h
  obtain ⟨d,e,h0,h1,h2⟩:=h
  exact⟨d,e,h0,fun a=>k _ (h1 a),fun z=>kr _ (h2 z)⟩
theorem qF {c:Cs}:∀ds P R,iI c ds P R→ds.length=1:=by
  intro ds P R h
  obtain ⟨d,e,_⟩:=h
  rw[e];rfl
theorem rZ {f:Addr}{fd:FuncData} (F:FnAt K mg "check_bottom" cB dD f fd) (A_:Fns K mg) (T:Txt K mg base) {c:Cs} (xs:Exs K mg base c):aM P w K mg base (CXR P w) 2 f fd dD (spX K (iI c)):=by
  obtain ⟨f0,d0,E_is_number⟩:=A_.h_is_number
  have G_is_number:aM P w K mg base CX0 1 f0 d0 fN (spP K iy):=xD E_is_number A_ T xs
  refine F.fn.okX rQ (fun vs H Q E h=>lV qF h) (fun cdv A outer s H vs Q E hr h=>?_)
  refine⟨_,(ak (dY (PT.nox (PW.pt (oq (iD (gO (ay G_is_number (hr.mono (by decide)) rfl E_is_number.mg E_is_number.fn.kp E_is_number.bd .nil bj (af (pv 0) aj)))) (oE (bh sF (pv 0) av (bo _)))))) (aq (pO (xs.o_NoBottom.own xs.m_NoBottom) PySem.F.excBase_ValueError rfl rfl sj (af kq aj))) bA)
      bA),lZ (Γn:=[]) (N:=jW) (fun R=>(mT (Bd (nX (iJ (mU (EM.er (aK (S:=iy) tp (ah (ES.er (aa 0)) ao))))) (aY (EM.er (aA kE (ES.er (aa 0)) (EM.er au))))) (pL (ah (EM.er kd) ao)) (ST.sx br))
      (ST.sx br))) (fun ds P R hS=>?_) h⟩
  obtain ⟨d,rfl,hk,hP,hR⟩:=hS
  rw[show aN jW [d]=[some (d)] from rfl]
  walk_at "v"
  refine⟨d,rfl,hk,?_⟩
  cases d with
  | scr ns=>cases hk
  | pin a d=>cases hk
  | ins a b c=>cases hk
  | int b =>
    walk_at "v"
    rw[show isNum (.int b)=true from rfl]
    walk_at "v"
    by_cases h:b<1
    · rw[if_pos h]
      exact⟨by decide,hR (decide_eq_false (by omega))⟩
    · rw[if_neg h]
      exact hP (decide_eq_true (by omega))
  | _ =>
    walk_at "v"
    rw[if_pos (show isNum _=false from rfl)]
    exact⟨by decide,hR rfl⟩
def cq:DSp:=fun ds P=>∃a b:Nat,ds=[.int a,.int b]∧P (.int (Nat.gcd a b:Nat))
theorem mE:bE cq:=by
  intro xs P P' k h
  unfold cq at h ⊢
  grind
theorem mR:∀ds P,cq ds P→ds.length=2:=by
  intro ds P h
  obtain ⟨_,_,e,_⟩:=h
  rw[e];rfl
theorem nS {f:Addr}{fd:FuncData} (F:FnAt K mg "greatest_divisor" bI bO f fd) (A_:Fns K mg) (T:Txt K mg base) {c:Cs} (xs:Exs K mg base c):aM P w K mg base CX0 1 f fd bO (spP K cq):=by
  refine F.fn.ok eF (fun vs H Q E h=>aU mR h) (fun cdv A outer s H vs Q E hr h=>?_)
  refine⟨_,(ak (mH PassesOwn.never (bh oj (pv 1) av (bo _)) (ak (aI (i:=2) eF.nd rfl (by first | exact Or.inl rfl | exact Or.inr rfl) (ba iN (pv 0) (pv 1)))
      (ak (aI (i:=0) eF.nd rfl (by first | exact Or.inl rfl | exact Or.inr rfl) (pv 1))
      (aq (aI (i:=1) eF.nd rfl (by first | exact Or.inl rfl | exact Or.inr rfl) (pv 2))))))
      (aq (aH (pv 0)))),bq (Γn:=[]) (N:=gW) (ar (mY (aY (EM.er (aA uy (ES.er (aa 1)) (EM.er au)))) (ar (ST.post (Γn:=[]) (aP 2 (EM.es (aA bW (ES.er (aa 0)) (ES.er (aa 1))))))
      (ar (ST.post (Γn:=[]) (aP 0 (aa 1)))
      (ST.post (Γn:=[]) (aP 1 (aa 2))))))
      (aJ (M:=[]) (ER.aW (ES.er (aa 0))))) (fun ds P hS=>?_) h⟩
  obtain ⟨a,b,rfl,hP⟩:=hS
  rw[show aN gW [.int a,.int b]=[some (.int a),some (.int b),none] from rfl]
  walk_at "go"
  refine⟨fun m δ=>∃(x y:Nat) (o:Option D),δ=[some (.int x),some (.int y),o]∧Nat.gcd x y=Nat.gcd a b∧m=y,⟨b,a,b,none,rfl,rfl,rfl⟩,?_⟩
  rintro m δ ⟨x,y,o,rfl,hg,rfl⟩
  walk_at "go"
  by_cases h0:m=0
  · subst h0
    rw[if_neg (by simp)]
    rw[Nat.gcd_zero_right] at hg
    rw[hg]
    exact hP
  · rw[if_pos (by omega)]
    refine⟨by omega,x % m,Nat.mod_lt _ (by omega),m,x % m,_,by rw[Int.natCast_emod],?_,rfl⟩
    rw[← hg,Nat.gcd_comm x m,Nat.gcd_rec m x,Nat.gcd_comm]
def gR (g:Nat) (r:List Int):Nat:=r.foldl (fun g c=>Nat.gcd g c.natAbs) g
def gT (g:Nat) (t:List (List Int)):Nat:=t.foldl gR g
def Small (t:List (List Int)):Prop:=t.length≤8∧∀r∈t,r.length≤8
def gw:DSp:=fun ds P=>∃(t:List (List Int)) (b:Nat),ds=[dT t,.int b]∧Small t∧P (.int (gT b t:Nat))
theorem rV:bE gw:=by
  intro xs P P' k h
  unfold gw at h ⊢
  grind
theorem tO:∀ds P,gw ds P→ds.length=2:=by
  intro ds P h
  obtain ⟨_,_,e,_⟩:=h
  rw[e];rfl
theorem uE {f:Addr}{fd:FuncData} (F:FnAt K mg "divisor_of" d8 fc f fd) (A_:Fns K mg) (T:Txt K mg base) {c:Cs} (xs:Exs K mg base c):aM P w K mg base CX0 2 f fd fc (spP K gw):=by
  obtain ⟨f0,d0,E_greatest_divisor⟩:=A_.h_greatest_divisor
  have G_greatest_divisor:aM P w K mg base CX0 1 f0 d0 bO (spP K cq):=nS E_greatest_divisor A_ T xs
  refine F.fn.ok gK (fun vs H Q E h=>aU tO h) (fun cdv A outer s H vs Q E hr h=>?_)
  refine⟨_,(ak (aI (i:=2) gK.nd rfl (by first | exact Or.inl rfl | exact Or.inr rfl) (pv 1))
      (ak (gj PassesOwn.never rfl (bc (K:=K) rfl (pv 0)) (aQ (i:=3) gK.nd rfl (by first | exact Or.inl rfl | exact Or.inr rfl)) (aq (gj PassesOwn.never rfl (bc (K:=K) rfl (pv 3)) (aQ (i:=4) gK.nd rfl (by first | exact Or.inl rfl | exact Or.inr rfl)) (aq (aI (i:=2) gK.nd rfl (by first | exact Or.inl rfl | exact Or.inr rfl) (ay G_greatest_divisor (hr.mono (by decide)) rfl E_greatest_divisor.mg E_greatest_divisor.fn.kp E_greatest_divisor.bd .nil bj (af (pv 2) (af (ax FH (by rfl) T.abs_ boot_abs (af (pv 4) aj)) aj))))))))
      (aq (aH (pv 2))))),bq (Γn:=[2]) (N:=lS) (ar (ST.post (Γn:=[2]) (bQ (M:=[]) 2 (ER.aW (ES.er (aa 1)))))
      (ar (fQ (bB (aa 0)) (aS 3) (fQ (bB (aa 3)) (aS 4) (ST.post (Γn:=[2]) (bQ (M:=[]) 2 (aK (S:=cq) mE (ah (bL 2) (ah (EM.er (bf JP (ah (ES.er (aa 4)) ao))) ao)))))))
      (aJ (M:=[2]) (fC 2)))) (fun ds P hS=>?_) h⟩
  obtain ⟨t,b,rfl,hs,hP⟩:=hS
  rw[show aN lS [dT t,.int b]=[some (dT t),some (.int b),none,none,none] from rfl]
  walk_at "go"
  refine eG (as:=t) (f:=dI) (fun i δ=>∃(o3 o4:Option D),δ=[some (dT t),some (.int b),some (.int ((t.take i).foldl gR b:Nat)),o3,o4]) ⟨none,none,rfl⟩ ?_ ?_
  · rintro i r δ N e ⟨o3,o4,rfl⟩ hN
    have hr:r∈t:=List.mem_of_getElem? e
    walk_at "go"
    refine eG (as:=r) (f:=L3.D.int) (fun j δ=>∃(o4:Option D),δ=[some (dT t),some (.int b),some (.int ((r.take j).foldl (fun g c=>Nat.gcd g c.natAbs) ((t.take i).foldl gR b):Nat)),some (dI r),o4]) ⟨_,rfl⟩ ?_ ?_
    · rintro j c δ N' e' ⟨o4,rfl⟩ hN'
      have hc:c∈r:=List.mem_of_getElem? e'
      walk_at "go"
      rw[show (if c<0 then -c else c)=(c.natAbs:Int) by split<;>omega]
      refine⟨_,c.natAbs,rfl,?_⟩
      walk_at "go"
      refine hN' _ ⟨some (.int c),?_⟩
      rw[List.take_add_one,e',Option.toList_some,List.foldl_append]
      rfl
    · rintro δ ⟨o4,rfl⟩
      refine hN _ ⟨some (dI r),o4,?_⟩
      rw[List.take_add_one,e,Option.toList_some,List.foldl_append,List.take_length]
      rfl
  · rintro δ ⟨o3,o4,rfl⟩
    rw[List.take_length]
    walk_at "v"
    exact hP
def B17:Nat:=2 ^ 1700
theorem HI {c:Int}{g:Nat} (g1:1≤g) (g2:g<B17):Ei c (g:Int):=⟨by omega,1700,by rw[Int.natAbs_natCast];exact g2,by decide⟩
def fA:DSp:=fun ds P=>∃(r:List Int) (g:Nat),ds=[dI r,.int g]∧r.length≤8∧1≤g∧g<B17∧P (dI (r.map fun c=>c / (g:Int)))
theorem qr:bE fA:=by
  intro xs P P' k h
  unfold fA at h ⊢
  grind
theorem rR:∀ds P,fA ds P→ds.length=2:=by
  intro ds P h
  obtain ⟨_,_,e,_⟩:=h
  rw[e];rfl
theorem sL {f:Addr}{fd:FuncData} (F:FnAt K mg "divided_row" cx en f fd) (A_:Fns K mg) (T:Txt K mg base) {c:Cs} (xs:Exs K mg base c):aM P w K mg base CX0 1 f fd en (spP K fA):=by
  refine F.fn.ok uo (fun vs H Q E h=>aU rR h) (fun cdv A outer s H vs Q E hr h=>?_)
  refine⟨_,(aq (aH (cH (aL.of (sc0:=(ai cx)) (tn:=["cell"]) (cap:=["divisor"]) (idx:=[1]) (by decide +kernel) rfl rfl) (bc (K:=K) rfl (pv 0)) (fI.name (by decide)) (fun _ _ _ _ _=>aQ (i:=0) (aO (l:=["cell","divisor"]) (by decide +kernel)) rfl (by first | exact Or.inl rfl | exact Or.inr rfl) (by first | exact .inl rfl | exact .inr rfl)) (fun _ _ _ _ _=>(ba iO (pv 0) (pv 1)))))),bq (Γn:=[]) (N:=kX) (aJ (M:=[]) (bF (bB (aa 0)) (aS 0) (aA bW (ES.er (aa 0)) (ES.er (aa 1))))) (fun ds P hS=>?_) h⟩
  obtain ⟨r,g,rfl,hl,g1,g2,hP⟩:=hS
  rw[show aN kX [dI r,.int g]=[some (dI r),some (.int g)] from rfl]
  have hc:∀c:Int,Ei c (g:Int):=fun c=>HI g1 g2
  walk_at "v"
  refine jR (ns:=r) (g:=fun x=>.int (x / (g:Int))) (fun R h=>h) (by omega) (fun x hx R h=>?_) ?_
  · walk_at "gb"
    exact⟨hc x,h⟩
  · rw[iM];exact hP
theorem DQ:∀(r:List Int) (g:Nat),gR g r ∣ g∧∀c∈r,gR g r ∣ c.natAbs
  | [],g=>⟨Nat.dvd_refl _,fun _ h=>(nomatch h)⟩
  | c::r,g=>by
    have ih:=DQ r (Nat.gcd g c.natAbs)
    refine⟨Nat.dvd_trans ih.1 (Nat.gcd_dvd_left ..),fun x hx=>?_⟩
    rcases List.mem_cons.mp hx with z | z
    · rw[z];exact Nat.dvd_trans ih.1 (Nat.gcd_dvd_right ..)
    · exact ih.2 x z
theorem uf:∀(t:List (List Int)) (g:Nat),gT g t ∣ g∧∀r∈t,∀c∈r,gT g t ∣ c.natAbs
  | [],g=>⟨Nat.dvd_refl _,fun _ h=>(nomatch h)⟩
  | r::t,g=>by
    have ih:=uf t (gR g r)
    have h0:=DQ r g
    refine⟨Nat.dvd_trans ih.1 h0.1,fun x hx c hc=>?_⟩
    rcases List.mem_cons.mp hx with z | z
    · rw[z] at hc;exact Nat.dvd_trans ih.1 (h0.2 c hc)
    · exact ih.2 x z c hc
theorem Er (k:Nat):∀(r:List Int) (g:Nat),gR (k*g) (r.map fun c=>(k:Int)*c)=k*gR g r
  | [],g=>rfl
  | c::r,g=>by
    show gR (Nat.gcd (k*g) ((k:Int)*c).natAbs) (r.map fun c=>(k:Int)*c)=k*gR (Nat.gcd g c.natAbs) r
    rw[Int.natAbs_mul,Int.natAbs_natCast,Nat.gcd_mul_left,Er k r]
theorem Ep (k:Nat):∀(t:List (List Int)) (g:Nat),gT (k*g) (t.map fun r=>r.map fun c=>(k:Int)*c)=k*gT g t
  | [],g=>rfl
  | r::t,g=>by
    show gT (gR (k*g) (r.map fun c=>(k:Int)*c)) (t.map fun r=>r.map fun c=>(k:Int)*c)=k*gT (gR g r) t
    rw[Er,Ep k t]
abbrev mq (g:Nat) (t:List (List Int)):List (List Int):=t.map fun r=>r.map fun c=>c / (g:Int)
theorem B3 {t:List (List Int)}{g:Nat} (h:∀r∈t,∀c∈r,g ∣ c.natAbs):(mq g t).map (fun r=>r.map fun c=>(g:Int)*c)=t:=by
  unfold mq
  rw[List.map_map]
  conv=>rhs;rw[← List.map_id t]
  refine List.map_congr_left fun r hr=>?_
  show (r.map fun c=>c / (g:Int)).map (fun c=>(g:Int)*c)=r
  rw[List.map_map]
  conv=>rhs;rw[← List.map_id r]
  refine List.map_congr_left fun c hc=>?_
  exact Int.mul_ediv_cancel' (Int.ofNat_dvd_left.mpr (h r hr c hc))
theorem zH {t:List (List Int)}{b:Nat} (h:1≤b):1≤gT b t∧gT b t≤b:=⟨Nat.pos_of_dvd_of_pos (uf t b).1 h,Nat.le_of_dvd h (uf t b).1⟩
theorem Kb {t:List (List Int)}{b:Nat} (h:1≤b):gT (b / gT b t) (mq (gT b t) t)=1:=by
  have d:=uf t b
  have p:=zH (t:=t) h
  have m:=Ep (gT b t) (mq (gT b t) t) (b / gT b t)
  rw[B3 d.2,Nat.mul_div_cancel' d.1] at m
  exact Nat.eq_of_mul_eq_mul_left (Nat.lt_of_lt_of_le Nat.zero_lt_one p.1) (by rw[← m,Nat.mul_one])
def jg (c:Cs):DSX:=fun ds P R=>∃(t:List (List Int)) (d:D),ds=[dT t,d]∧kn d=true∧Small t∧(∀b:Nat,d=.int b→1≤b→b<B17∧P (.tup [dT (mq (gT b t) t),.int (b / gT b t:Nat)]))∧(CM d=false→R c.NoBottom)
theorem qM {c:Cs}:jC (jg c):=by
  intro xs P P' R R' k kr h
  obtain ⟨t,d,e,h0,hs,h1,h2⟩:=h
  exact⟨t,d,e,h0,hs,fun b a h=>⟨(h1 b a h).1,k _ (h1 b a h).2⟩,fun z=>kr _ (h2 z)⟩
theorem rp {c:Cs}:∀ds P R,jg c ds P R→ds.length=2:=by
  intro ds P R h
  obtain ⟨t,d,e,_⟩:=h
  rw[e];rfl
theorem tm {f:Addr}{fd:FuncData} (F:zh K mg "least_terms" cz cV [.int 1] f fd) (A_:Fns K mg) (T:Txt K mg base) {c:Cs} (xs:Exs K mg base c):aM P w K mg base (CXR P w) 3 f fd cV (spX K (jg c)):=by
  obtain ⟨f0,d0,E_check_bottom⟩:=A_.h_check_bottom
  have G_check_bottom:aM P w K mg base (CXR P w) 2 f0 d0 dD (spX K (iI c)):=rZ E_check_bottom A_ T xs
  obtain ⟨f1,d1,E_divisor_of⟩:=A_.h_divisor_of
  have G_divisor_of:aM P w K mg base CX0 2 f1 d1 fc (spP K gw):=uE E_divisor_of A_ T xs
  obtain ⟨f2,d2,E_divided_row⟩:=A_.h_divided_row
  have G_divided_row:aM P w K mg base CX0 1 f2 d2 en (spP K fA):=sL E_divided_row A_ T xs
  obtain ⟨_,_,FD,_⟩:=F.ex
  refine FD.okX nr (fun vs H Q E h=>lV rp h) (fun cdv A outer s H vs Q E hr h=>?_)
  refine⟨_,(ak (iC (ay G_check_bottom (hr.mono (by decide)) rfl E_check_bottom.mg E_check_bottom.fn.kp E_check_bottom.bd .nil xj (PA.nox (af (pv 1) aj))))
      (PSs.nox (ak (aI (i:=2) nr.nd rfl (by first | exact Or.inl rfl | exact Or.inr rfl) (ay G_divisor_of (hr.mono (by decide)) rfl E_divisor_of.mg E_divisor_of.fn.kp E_divisor_of.bd .nil bj (af (pv 0) (af (pv 1) aj))))
      (aq (aH (jV (af (cH (aL.of (sc0:=(ai cz)) (tn:=["row"]) (cap:=["divisor"]) (idx:=[2]) (by decide +kernel) rfl rfl) (bc (K:=K) rfl (pv 0)) (fI.name (by decide)) (fun _ _ _ _ _=>aQ (i:=0) (aO (l:=["row","divisor"]) (by decide +kernel)) rfl (by first | exact Or.inl rfl | exact Or.inr rfl) (by first | exact .inl rfl | exact .inr rfl)) (fun _ _ _ _ _=>(ay G_divided_row (hr.mono (by decide)) rfl E_divided_row.mg E_divided_row.fn.kp E_divided_row.bd .nil bj (af (pv 0) (af (pv 1) aj))))) (af (ba iO (pv 1) (pv 2)) aj)))))))),lZ (Γn:=[]) (N:=kQ) (fun R=>(mT (AN p9 (ah (ES.er (aa 1)) ao))
      (ST.sx (ar (ST.post (Γn:=[]) (aP 2 (EM.es (aK (S:=gw) rV (ah (ES.er (aa 0)) (ah (ES.er (aa 1)) ao))))))
      (aJ (M:=[]) (j0 (cD (bF (bB (aa 0)) (aS 0) (aK (S:=fA) qr (ah (ES.er (aa 0)) (ah (ES.er (aa 1)) ao)))) (cD (aA bW (ES.er (aa 1)) (ES.er (aa 2))) dw)))))))) (fun ds P R hS=>?_) h⟩
  obtain ⟨t,d,rfl,hk,hs,hP,hR⟩:=hS
  rw[show aN kQ [dT t,d]=[some (dT t),some (d),none] from rfl]
  walk_at "v"
  refine⟨d,rfl,hk,fun hg=>?_,fun hg=>?_⟩
  · cases d with
    | int z =>
      have z1:1≤z:=of_decide_eq_true hg
      obtain ⟨b,rfl⟩:∃b:Nat,z=b:=⟨z.toNat,by omega⟩
      have hb:1≤b:=by omega
      obtain ⟨h40,hP⟩:=hP b rfl hb
      have p:=zH (t:=t) hb
      walk_at "go"
      refine⟨t,b,rfl,hs,?_⟩
      walk_at "go"
      refine iV (t:=t) (g:=fun r=>dI (r.map fun c=>c / (gT b t:Int))) (fun R h=>h) (by have:=hs.1;omega) (fun r hr R h=>?_) ?_
      · walk_at "gb"
        exact⟨r,gT b t,rfl,hs.2 r hr,p.1,by omega,h⟩
      refine⟨HI (by omega) (by omega),by decide,?_⟩
      rw[show (t.map fun r=>dI (r.map fun c=>c / (gT b t:Int)))=(mq (gT b t) t).map dI by rw[mq,List.map_map];rfl]
      exact hP
    | _=>cases hg
  · exact hR hg
def pf (n p:Nat):List Int:=(List.range n).map fun (j:Nat)=>if j=p then 1 else 0
def ig:DSp:=fun ds P=>∃n p:Nat,ds=[.int n,.int p]∧n≤8∧P (dI (pf n p))
theorem t8:bE ig:=by
  intro xs P P' k h
  unfold ig at h ⊢
  grind
theorem uG:∀ds P,ig ds P→ds.length=2:=by
  intro ds P h
  obtain ⟨_,_,e,_⟩:=h
  rw[e];rfl
theorem xc {f:Addr}{fd:FuncData} (F:FnAt K mg "plain_row" eh fJ f fd) (A_:Fns K mg) (T:Txt K mg base) {c:Cs} (xs:Exs K mg base c):aM P w K mg base CX0 1 f fd fJ (spP K ig):=by
  refine F.fn.ok xt (fun vs H Q E h=>aU uG h) (fun cdv A outer s H vs Q E hr h=>?_)
  refine⟨_,(aq (aH (cH (aL.of (sc0:=(ai eh)) (tn:=["place"]) (cap:=["one"]) (idx:=[1]) (by decide +kernel) rfl rfl) (cI rfl T.range_ (af (pv 0) aj)) (fI.name (by decide)) (fun _ _ _ _ _=>aQ (i:=0) (aO (l:=["place","one"]) (by decide +kernel)) rfl (by first | exact Or.inl rfl | exact Or.inr rfl) (by first | exact .inl rfl | exact .inr rfl)) (fun _ _ _ _ _=>(yl (bh vn (pv 0) (pv 1) (bo _)) av av))))),bq (Γn:=[]) (N:=m5) (aJ (M:=[]) (bF (fH (ah (ES.er (aa 0)) ao)) (aS 0) (HC (aY (EM.er (aA Ce (ES.er (aa 0)) (ES.er (aa 1))))) au au))) (fun ds P hS=>?_) h⟩
  obtain ⟨n,p,rfl,hn,hP⟩:=hS
  rw[show aN m5 [.int n,.int p]=[some (.int n),some (.int p)] from rfl]
  walk_at "go"
  refine jY (lo:=0) (n:=n) (g:=fun (j:Nat)=>.int (if j=p then 1 else 0)) (fun R h=>?_) (by omega) (fun j hj R h=>?_) ?_
  · walk_at "go"
    exact h
  · walk_at "gb"
    rw[Int.zero_add]
    by_cases c:j=p
    · rw[if_pos c] at h
      rw[if_pos (by omega)]
      exact h
    · rw[if_neg c] at h
      rw[if_neg (by omega)]
      exact h
  · rw[show (List.range n).map (fun (j:Nat)=>L3.D.int (if j=p then 1 else 0))=(pf n p).map L3.D.int from iM]
    exact hP
def n4 (n:Nat):List (List Int):=(List.range n).map fun (p:Nat)=>pf n p
def fz:DSp:=fun ds P=>∃n:Nat,ds=[.int n]∧n≤8∧P (dT (n4 n))
theorem qw:bE fz:=by
  intro xs P P' k h
  unfold fz at h ⊢
  grind
theorem rF:∀ds P,fz ds P→ds.length=1:=by
  intro ds P h
  obtain ⟨_,e,_⟩:=h
  rw[e];rfl
theorem sY {f:Addr}{fd:FuncData} (F:FnAt K mg "plain_table" cA eD f fd) (A_:Fns K mg) (T:Txt K mg base) {c:Cs} (xs:Exs K mg base c):aM P w K mg base CX0 2 f fd eD (spP K fz):=by
  obtain ⟨f0,d0,E_plain_row⟩:=A_.h_plain_row
  have G_plain_row:aM P w K mg base CX0 1 f0 d0 fJ (spP K ig):=xc E_plain_row A_ T xs
  refine F.fn.ok ui (fun vs H Q E h=>aU rF h) (fun cdv A outer s H vs Q E hr h=>?_)
  refine⟨_,(aq (aH (cH (aL.of (sc0:=(ai cA)) (tn:=["place"]) (cap:=["many"]) (idx:=[0]) (by decide +kernel) rfl rfl) (cI rfl T.range_ (af (pv 0) aj)) (fI.name (by decide)) (fun _ _ _ _ _=>aQ (i:=0) (aO (l:=["place","many"]) (by decide +kernel)) rfl (by first | exact Or.inl rfl | exact Or.inr rfl) (by first | exact .inl rfl | exact .inr rfl)) (fun _ _ _ _ _=>(ay G_plain_row (hr.mono (by decide)) rfl E_plain_row.mg E_plain_row.fn.kp E_plain_row.bd .nil bj (af (pv 1) (af (pv 0) aj))))))),bq (Γn:=[]) (N:=kT) (aJ (M:=[]) (bF (fH (ah (ES.er (aa 0)) ao)) (aS 0) (aK (S:=ig) t8 (ah (ES.er (aa 1)) (ah (ES.er (aa 0)) ao))))) (fun ds P hS=>?_) h⟩
  obtain ⟨n,rfl,hn,hP⟩:=hS
  rw[show aN kT [.int n]=[some (.int n)] from rfl]
  walk_at "go"
  refine jY (lo:=0) (n:=n) (g:=fun (p:Nat)=>dI (pf n p)) (fun R h=>?_) (by omega) (fun p hp R h=>?_) ?_
  · walk_at "go"
    exact h
  · walk_at "gb"
    rw[Int.zero_add]
    exact⟨n,p,rfl,hn,h⟩
  · rw[zx];exact hP
def Bk (k:Nat) (xs:List Int):Prop:=∀j,(xs.getD j 0).natAbs<2 ^ k
def jq (p:Int) (xs:List Int) (q:Int) (ys:List Int):List Int:=(List.range xs.length).map fun (j:Nat)=>p*xs.getD j 0+q*ys.getD j 0
theorem pA {p q:Int}{xs ys:List Int}:(jq p xs q ys).length=xs.length:=by unfold jq;rw[List.length_map,List.length_range]
theorem sg {p q:Int}{xs ys:List Int}{j:Nat} (h:j<xs.length):(jq p xs q ys).getD j 0=p*xs.getD j 0+q*ys.getD j 0:=by
  unfold jq
  rw[List.getD_eq_getElem?_getD,List.getElem?_map,List.getElem?_range h];rfl
theorem Ae {k:Nat}:0<2 ^ k:=Nat.pow_pos (by decide)
theorem Bk.mix {p q:Int}{xs ys:List Int}{k:Nat} (hp:p.natAbs<2 ^ 100) (hq:q.natAbs<2 ^ 100) (hx:Bk k xs) (hy:Bk k ys):Bk (k+101) (jq p xs q ys):=fun j=>by
  rcases Nat.lt_or_ge j xs.length with h | h
  · rw[sg h]
    have a1:(p*xs.getD j 0).natAbs<2 ^ 100*2 ^ k:=by rw[Int.natAbs_mul];exact Nat.mul_lt_mul'' hp (hx j)
    have a2:(q*ys.getD j 0).natAbs<2 ^ 100*2 ^ k:=by rw[Int.natAbs_mul];exact Nat.mul_lt_mul'' hq (hy j)
    have a3:=Int.natAbs_add_le (p*xs.getD j 0) (q*ys.getD j 0)
    rw[show k+101=100+k+1 by omega,Nat.pow_succ,Nat.pow_add]
    generalize 2 ^ 100*2 ^ k=z at *
    omega
  · rw[List.getD_eq_getElem?_getD,List.getElem?_eq_none (by rw[pA];exact h)]
    exact Ae
def gh:DSp:=fun ds P=>∃(xs ys:List Int) (p q:Int) (k:Nat),ds=[dI xs,.int p,dI ys,.int q]∧xs.length≤8∧ys.length=xs.length∧p.natAbs<2 ^ 100∧q.natAbs<2 ^ 100∧k≤5000∧Bk k xs∧Bk k ys∧P (dI (jq p xs q ys))
theorem kg:bE gh:=by
  intro xs P P' k h
  obtain ⟨a,b,p,q,n,e,h1,h2,h3,h4,h5,h6,h7,h⟩:=h
  exact⟨a,b,p,q,n,e,h1,h2,h3,h4,h5,h6,h7,k _ h⟩
theorem uZ:∀ds P,gh ds P→ds.length=4:=by
  intro ds P h
  obtain ⟨_,_,_,_,_,e,_⟩:=h
  rw[e];rfl
theorem xn {f:Addr}{fd:FuncData} (F:FnAt K mg "mixed_row" d6 fW f fd) (A_:Fns K mg) (T:Txt K mg base) {c:Cs} (xs:Exs K mg base c):aM P w K mg base CX0 1 f fd fW (spP K gh):=by
  refine F.fn.ok wz (fun vs H Q E h=>aU uZ h) (fun cdv A outer s H vs Q E hr h=>?_)
  refine⟨_,(aq (aH (cH (aL.of (sc0:=(ai d6)) (tn:=["place"]) (cap:=["one","parts","other","others"]) (idx:=[0,1,2,3]) (by decide +kernel) rfl rfl) (cI rfl T.range_ (af (ax (aR (K:=K) rfl) (by rfl) T.len_ PySem.boot_len (af (pv 0) aj)) aj)) (fI.name (by decide)) (fun _ _ _ _ _=>aQ (i:=0) (aO (l:=["place","one","parts","other","others"]) (by decide +kernel)) rfl (by first | exact Or.inl rfl | exact Or.inr rfl) (by first | exact .inl rfl | exact .inr rfl)) (fun _ _ _ _ _=>(ba iB (ba nO (pv 2) (aB (aw (K:=K) rfl) (pv 1) (pv 0) (fun _ _=>rfl))) (ba nO (pv 4) (aB (aw (K:=K) rfl) (pv 3) (pv 0) (fun _ _=>rfl)))))))),bq (Γn:=[]) (N:=mF) (aJ (M:=[]) (bF (fH (ah (EM.er (bf cP (ah (ES.er (aa 0)) ao))) ao)) (aS 0) (aA eE (EM.er (aA bW (ES.er (aa 2)) (ES.er (aX (aa 1) (ES.er (aa 0)))))) (EM.er (aA bW (ES.er (aa 4)) (ES.er (aX (aa 3) (ES.er (aa 0))))))))) (fun ds P hS=>?_) h⟩
  obtain ⟨xs,ys,p,q,k,rfl,hl,hy,hp,hq,hk,b1,b2,hP⟩:=hS
  rw[show aN mF [dI xs,.int p,dI ys,.int q]=[some (dI xs),some (.int p),some (dI ys),some (.int q)] from rfl]
  walk_at "go"
  refine jY (lo:=0) (n:=xs.length) (g:=fun (j:Nat)=>.int (p*xs.getD j 0+q*ys.getD j 0)) (fun R h=>?_) (by omega) (fun j hj R h=>?_) ?_
  · walk_at "go"
    exact h
  · walk_at "gb"
    rw[Int.zero_add]
    refine aF (by omega) ?_
    rw[Int.toNat_natCast]
    refine⟨⟨100,k,hp,b1 j,by omega⟩,?_⟩
    refine aF (by omega) ?_
    rw[Int.toNat_natCast]
    exact⟨⟨100,k,hq,b2 j,by omega⟩,h⟩
  · rw[show (List.range xs.length).map (fun (j:Nat)=>L3.D.int (p*xs.getD j 0+q*ys.getD j 0))=(jq p xs q ys).map L3.D.int from iM]
    exact hP
theorem mG {f:Nat→Int}{p:Int}:∀{m:Nat},Sg m (fun j=>p*f j)=p*Sg m f
  | 0=>by rw[nN,nN,Int.mul_zero]
  | m+1=>by rw[cw,cw,mG,Int.mul_add]
theorem tI {f g:Nat→Int}{p q:Int}{m:Nat}:Sg m (fun j=>p*f j+q*g j)=p*Sg m f+q*Sg m g:=by
  rw[zO (f:=fun j=>p*f j) (g:=fun j=>q*g j),mG,mG]
structure iS (n:Nat) (F:Nat→Nat→Int) (b:Int) (z x:Nat→Int):Prop where
  nn:∀i j,i<n→j<n→0≤F i j
  rs:∀i,i<n→Sg n (fun j=>F i j)=b
  cs:∀j,j<n→Sg n (fun i=>F i j)=b
  dt:∀i,i<n→Sg n (fun j=>F i j*z j)=x i*b
def zF (F:Nat→Nat→Int) (g t:Nat) (w a:Int):Nat→Nat→Int:=fun i j=>if i=g then (w - a)*F g j+a*F t j else if i=t then (w - a)*F t j+a*F g j else w*F i j+0*F i j
theorem iS.led {n:Nat}{F:Nat→Nat→Int}{b:Int}{z x:Nat→Int} (h:iS n F b z x) {g t:Nat}{w a:Int} (hg:g<n) (ht:t<n) (hgt:g≠t) (a1:1≤a) (a2:a≤w) (hw:w=x g - x t) :
    iS n (zF F g t w a) (w*b) z (fun i=>if i=g then x g - a else if i=t then x t+a else x i):=by
  have mm:∀u v:Int,0≤u→0≤v→0≤u*v:=fun u v=>Int.mul_nonneg
  refine⟨fun i j hi hj=>?_,fun i hi=>?_,fun j hj=>?_,fun i hi=>?_⟩
  · unfold zF
    have f1:=h.nn g j hg hj
    have f2:=h.nn t j ht hj
    have f3:=h.nn i j hi hj
    have e1:=mm (w - a) (F g j) (by omega) f1
    have e2:=mm a (F t j) (by omega) f2
    have e3:=mm (w - a) (F t j) (by omega) f2
    have e4:=mm a (F g j) (by omega) f1
    have e5:=mm w (F i j) (by omega) f3
    split
    · exact Int.add_nonneg e1 e2
    · split
      · exact Int.add_nonneg e3 e4
      · rw[Int.zero_mul,Int.add_zero];exact e5
  · unfold zF
    by_cases c1:i=g
    · rw[bD (g:=fun j=>(w - a)*F g j+a*F t j) fun j _=>if_pos c1,tI,h.rs g hg,h.rs t ht,← Int.add_mul]
      congr 1;omega
    · by_cases c2:i=t
      · rw[bD (g:=fun j=>(w - a)*F t j+a*F g j) fun j _=>(if_neg c1).trans (if_pos c2),tI,h.rs g hg,h.rs t ht,← Int.add_mul]
        congr 1;omega
      · rw[bD (g:=fun j=>w*F i j+0*F i j) fun j _=>(if_neg c1).trans (if_neg c2),tI,h.rs i hi,Int.zero_mul,Int.add_zero]
  · unfold zF
    rw[xC (f:=fun i=>if i=t then (w - a)*F t j+a*F g j else w*F i j+0*F i j) hg]
    rw[xC (f:=fun i=>w*F i j+0*F i j) ht,if_neg hgt,tI,h.cs j hj,Int.zero_mul,Int.zero_mul,Int.zero_mul,Int.sub_mul,Int.sub_mul]
    generalize w*b=A
    generalize w*F t j=B
    generalize a*F t j=D
    generalize w*F g j=E
    generalize a*F g j=G
    omega
  · unfold zF
    show Sg n (fun j=>(if i=g then (w - a)*F g j+a*F t j else if i=t then (w - a)*F t j+a*F g j else w*F i j+0*F i j)*z j)=(if i=g then x g - a else if i=t then x t+a else x i)*(w*b)
    have key:∀u v:Nat,u<n→v<n→Sg n (fun j=>((w - a)*F u j+a*F v j)*z j)=(w - a)*(x u*b)+a*(x v*b):=fun u v hu hv=>by
      rw[bD (g:=fun j=>(w - a)*(F u j*z j)+a*(F v j*z j)) fun j _=>by rw[Int.add_mul,Int.mul_assoc,Int.mul_assoc],tI,h.dt u hu,h.dt v hv]
    by_cases c1:i=g
    · rw[bD (g:=fun j=>((w - a)*F g j+a*F t j)*z j) fun j _=>by rw[if_pos c1],key g t hg ht,if_pos c1]
      subst hw
      rw[← Int.mul_assoc,← Int.mul_assoc,← Int.add_mul,← Int.mul_assoc]
      congr 1
      rw[Int.sub_mul,Int.mul_comm (x g - x t) (x g),Int.sub_mul (x g) a,Int.mul_sub a]
      omega
    · rw[if_neg c1]
      by_cases c2:i=t
      · rw[bD (g:=fun j=>((w - a)*F t j+a*F g j)*z j) fun j _=>by rw[if_neg c1,if_pos c2],key t g ht hg,if_pos c2]
        subst hw
        rw[← Int.mul_assoc,← Int.mul_assoc,← Int.add_mul,← Int.mul_assoc]
        congr 1
        rw[Int.sub_mul,Int.mul_comm (x g - x t) (x t),Int.add_mul (x t) a,Int.mul_sub a]
        omega
      · rw[if_neg c2,bD (g:=fun j=>w*(F i j*z j)) fun j _=>by rw[if_neg c1,if_neg c2,Int.zero_mul,Int.add_zero,Int.mul_assoc],mG,h.dt i hi,← Int.mul_assoc,← Int.mul_assoc,Int.mul_comm w]
theorem iS.down {n:Nat}{F G:Nat→Nat→Int}{b c d:Int}{z x:Nat→Int} (h:iS n F b z x) (d1:1≤d) (e:∀i j,i<n→j<n→F i j=d*G i j) (eb:b=d*c):iS n G c z x:=by
  have can:∀{u v:Int},d*u=d*v→u=v:=fun h=>Int.eq_of_mul_eq_mul_left (by omega) h
  refine⟨fun i j hi hj=>?_,fun i hi=>can ?_,fun j hj=>can ?_,fun i hi=>can ?_⟩
  · have:=h.nn i j hi hj
    rw[e i j hi hj] at this
    exact Int.nonneg_of_mul_nonneg_right this (by omega)
  · rw[← mG,← eb,← h.rs i hi];exact (bD fun j hj=>e i j hi hj).symm
  · rw[← mG,← eb,← h.cs j hj];exact (bD fun i hi=>e i j hi hj).symm
  · rw[← mG,← Int.mul_assoc,Int.mul_comm d,Int.mul_assoc,← eb,← h.dt i hi]
    exact (bD fun j hj=>by rw[e i j hi hj,Int.mul_assoc]).symm
theorem iS.congr {n:Nat}{F G:Nat→Nat→Int}{b:Int}{z x y:Nat→Int} (h:iS n F b z x) (e:∀i j,i<n→j<n→F i j=G i j) (ex:∀i,i<n→x i=y i):iS n G b z y :=
  ⟨fun i j hi hj=>e i j hi hj▸h.nn i j hi hj,fun i hi=>(bD fun j hj=>e i j hi hj).symm.trans (h.rs i hi),fun j hj=>(bD fun i hi=>e i j hi hj).symm.trans (h.cs j hj),fun i hi=>((bD fun j hj=>by rw[e i j hi hj]).symm.trans (h.dt i hi)).trans (by rw[ex i hi])⟩
theorem se {p:Nat}:∀{m:Nat},p<m→∀f:Nat→Int,Sg m (fun j=>(if j=p then 1 else 0)*f j)=f p:=fun {m} h f=>by
  rw[bD (g:=fun j=>if j=p then f p else 0) fun j _=>by
    by_cases c:j=p
    · rw[if_pos c,if_pos c,Int.one_mul,c]
    · rw[if_neg c,if_neg c,Int.zero_mul],xC (f:=fun _=>0) h,qt]
  omega
theorem BX {n:Nat}{z:Nat→Int}:iS n (fun i j=>if j=i then 1 else 0) 1 z z:=by
  refine⟨fun i j _ _=>by split<;>decide,fun i hi=>?_,fun j hj=>?_,fun i hi=>?_⟩
  · exact Eq.trans (bD fun j _=>(Int.mul_one _).symm) (se hi (fun _=>1))
  · refine Eq.trans (bD fun i _=>?_) (se hj (fun _=>1))
    rw[Int.mul_one]
    by_cases c:i=j
    · rw[if_pos c,if_pos c.symm]
    · rw[if_neg c,if_neg (fun z=>c z.symm)]
  · rw[Int.mul_one];exact se hi z
def BkT (k:Nat) (t:List (List Int)):Prop:=∀i,Bk k (rowAt t i)
theorem vD {t:List (List Int)}{i j:Nat}{r:List Int} (h:i<t.length):rowAt (t.set i r) j=if j=i then r else rowAt t j:=by
  unfold rowAt
  rw[List.getD_eq_getElem?_getD,List.getElem?_set]
  by_cases c:j=i
  · subst c;rw[if_pos rfl,if_pos rfl,if_pos h];rfl
  · rw[if_neg (fun z=>c z.symm),if_neg c,← List.getD_eq_getElem?_getD]
theorem vh {t:List (List Int)}{i:Nat}{f:List Int→List Int} (h:i<t.length):rowAt (t.map f) i=f (rowAt t i):=by
  unfold rowAt
  rw[List.getD_eq_getElem?_getD,List.getElem?_map,List.getElem?_eq_getElem h,List.getD_eq_getElem?_getD,List.getElem?_eq_getElem h];rfl
theorem lM {t:List (List Int)}{i:Nat} (h:t.length≤i):rowAt t i=[]:=by
  unfold rowAt
  rw[List.getD_eq_getElem?_getD,List.getElem?_eq_none h];rfl
def zp (t:List (List Int)) (g u:Nat) (w a:Int):List (List Int):=((t.map fun r=>jq w r 0 r).set g (jq (w - a) (rowAt t g) a (rowAt t u))).set u (jq (w - a) (rowAt t u) a (rowAt t g))
theorem vz {n:Nat}{t:List (List Int)}{g u:Nat}{w a:Int} (hR:dH n n t) (hg:g<n) (hu:u<n):dH n n (zp t g u w a):=by
  have h0:dH n n (t.map fun r=>jq w r 0 r):=⟨by rw[List.length_map];exact hR.1,fun r hr=>by
    obtain ⟨q,hq,rfl⟩:=List.mem_map.mp hr
    rw[pA];exact hR.2 q hq⟩
  exact (h0.set (by rw[pA];exact hR.row hg)).set (by rw[pA];exact hR.row hu)
theorem y4 {n:Nat}{t:List (List Int)}{g u i:Nat}{w a:Int} (hR:dH n n t) (hg:g<n) (hu:u<n) (hgu:g≠u) (hi:i<n):rowAt (zp t g u w a) i=if i=g then jq (w - a) (rowAt t g) a (rowAt t u) else if i=u then jq (w - a) (rowAt t u) a (rowAt t g) else jq w (rowAt t i) 0 (rowAt t i):=by
  have hl:=hR.1
  unfold zp
  rw[vD (by rw[List.length_set,List.length_map];omega),vD (by rw[List.length_map];omega)]
  by_cases c1:i=g
  · rw[if_pos c1,if_neg (by omega),if_pos c1]
  · rw[if_neg c1]
    by_cases c2:i=u
    · rw[if_pos c2,if_neg c1]
      first | rfl | rw[if_pos c2]
    · rw[if_neg c2,if_neg c1,if_neg c2]
      exact vh (f:=fun r=>jq w r 0 r) (by omega)
theorem Ck {n:Nat}{t:List (List Int)}{g u i j:Nat}{w a:Int} (hR:dH n n t) (hg:g<n) (hu:u<n) (hgu:g≠u) (hi:i<n) (hj:j<n):zF (cellAt t) g u w a i j=cellAt (zp t g u w a) i j:=by
  show _=(rowAt (zp t g u w a) i).getD j 0
  rw[y4 hR hg hu hgu hi]
  unfold zF
  split
  · rw[sg (by rw[hR.row hg];exact hj)]
  · split
    · rw[sg (by rw[hR.row hu];exact hj)]
    · rw[sg (by rw[hR.row hi];exact hj)]
theorem FZ {n k:Nat}{t:List (List Int)}{g u:Nat}{w a:Int} (hR:dH n n t) (hg:g<n) (hu:u<n) (hgu:g≠u) (hw:w.natAbs<2 ^ 100) (ha:a.natAbs<2 ^ 100) (hwa:(w - a).natAbs<2 ^ 100) (hT:BkT k t):BkT (k+101) (zp t g u w a):=fun i=>by
  rcases Nat.lt_or_ge i n with h | h
  · rw[y4 hR hg hu hgu h]
    split
    · exact Bk.mix hwa ha (hT g) (hT u)
    · split
      · exact Bk.mix hwa ha (hT u) (hT g)
      · exact Bk.mix hw (by decide) (hT i) (hT i)
  · rw[lM (by rw[(vz hR hg hu).1];exact h)]
    exact fun j=>Ae
theorem AU {n:Nat}{r:List Int} (h:r.length=n):r.sum=Sg n (fun j=>r.getD j 0):=by
  have:=oZ (ys:=r) (k:=n) (by omega)
  rw[List.take_of_length_le (by omega)] at this
  exact this.symm
theorem Ao {M:Int}{f:Nat→Int}:∀{m:Nat},(∀j,j<m→f j≤M)→Sg m f≤(m:Int)*M
  | 0,_=>by rw[nN];simp
  | m+1,h=>by
    have ih:=Ao (M:=M) (f:=f) (m:=m) fun j hj=>h j (by omega)
    have e:=h m (by omega)
    rw[cw,Int.natCast_succ,Int.add_mul,Int.one_mul]
    omega
theorem iS.bot {n k:Nat}{t:List (List Int)}{b:Int}{z x:Nat→Int} (h:iS n (cellAt t) b z x) (n1:1≤n) (n8:n≤8) (hT:BkT k t):b<2 ^ (k+4):=by
  have:=h.rs 0 (by omega)
  have m:=Ao (M:=2 ^ k) (f:=fun j=>cellAt t 0 j) (m:=n) fun j hj=>by
    have:=hT 0 j
    have p:((2 ^ k:Nat):Int)=2 ^ k:=by norm_cast
    show (rowAt t 0).getD j 0≤_
    omega
  rw[this] at m
  have p:(0:Int)<2 ^ k:=Int.pow_pos (by decide)
  rw[Int.pow_add]
  generalize (2:Int) ^ k=y at *
  have:(n:Int)*y≤8*y:=Int.mul_le_mul_of_nonneg_right (by omega) (by omega)
  omega
theorem yi {t:List (List Int)}{d i:Nat}:rowAt (mq d t) i=(rowAt t i).map fun c=>c / (d:Int):=by
  rcases Nat.lt_or_ge i t.length with h | h
  · exact vh (f:=fun r=>r.map fun c=>c / (d:Int)) h
  · rw[lM h,lM (by rw[List.length_map];exact h)];rfl
theorem wb {r:List Int}{d j:Nat}:(r.map fun c=>c / (d:Int)).getD j 0=r.getD j 0 / (d:Int):=by
  rw[List.getD_eq_getElem?_getD,List.getD_eq_getElem?_getD,List.getElem?_map]
  cases r[j]? with
  | none=>show (0:Int)=0 / d;rw[Int.zero_ediv]
  | some v=>rfl
theorem Cp {n m d:Nat}{t:List (List Int)} (h:dH n m t):dH n m (mq d t):=⟨by rw[List.length_map];exact h.1,fun r hr=>by
  obtain ⟨q,hq,rfl⟩:=List.mem_map.mp hr
  rw[List.length_map];exact h.2 q hq⟩
theorem G8 {k d:Nat}{t:List (List Int)} (h:BkT k t):BkT k (mq d t):=fun i j=>by
  rw[yi,wb]
  exact Nat.lt_of_le_of_lt (Int.natAbs_ediv_le_natAbs _ _) (h i j)
theorem CG {n d i j:Nat}{t:List (List Int)} (hR:dH n n t) (h:∀r∈t,∀c∈r,d ∣ c.natAbs) (hi:i<n) (hj:j<n):cellAt t i j=(d:Int)*cellAt (mq d t) i j:=by
  show (rowAt t i).getD j 0=(d:Int)*(rowAt (mq d t) i).getD j 0
  rw[yi,wb]
  have hm:(rowAt t i).getD j 0∈rowAt t i:=by
    rw[List.getD_eq_getElem?_getD,List.getElem?_eq_getElem (by rw[hR.row hi];exact hj)]
    exact List.getElem_mem _
  exact (Int.mul_ediv_cancel' (Int.ofNat_dvd_left.mpr (h _ (nF (by rw[hR.1];exact hi)) _ hm))).symm
def ji:DSp:=fun ds P=>∃(t:List (List Int)) (row:List Int) (g u a b:Int) (n k:Nat) (z:Nat→Int),ds=[dT t,dI row,dS g u a]∧dH n n t∧1≤n∧n≤8∧row.length=n∧iS n (cellAt t) b z (atF row)∧1≤b∧iW row g u a∧Bk 98 row∧BkT k t∧k≤1500∧∀(t':List (List Int)) (b':Int),dH n n t'→iS n (cellAt t') b' z (atF (Maj.bw row g.toNat u.toNat a))→1≤b'→BkT (k+101) t'→P (dT t')
theorem pH {i:Nat}{δ:Dl}{de dx:DE}{E:bC}{t:List (List Int)}{r:List Int}{a:Int} (hs:δ[i]?=some (some (dT t))) (hde:∀R:DK,R (dI r)→de δ R) (hdx:∀R:DK,R (.int a)→dx δ R) (ha:0≤a∧a<t.length) (h:E.nx (δ.set i (some (dT (t.set a.toNat r))))):jj i de dx E δ:=by
  unfold jj
  refine hde _ ((sf hs).mpr (hdx _ ?_))
  show match ixN (t.map dI).length a with | some j=>E.nx (δ.set i (some (.lst ((t.map dI).set j (dI r))))) | none=>False
  rw[gM ha.1 (by rw[List.length_map];exact ha.2)]
  show E.nx (δ.set i (some (.lst ((t.map dI).set a.toNat (dI r)))))
  rw[Ed];exact h
theorem tf:bE ji:=by
  intro xs P P' k h
  obtain ⟨t,row,g,u,a,b,n,m,z,e,h1,h2,h3,h4,h5,h6,h7,h8,h9,h10,h⟩:=h
  exact⟨t,row,g,u,a,b,n,m,z,e,h1,h2,h3,h4,h5,h6,h7,h8,h9,h10,fun p q x y v w=>k _ (h p q x y v w)⟩
theorem uw:∀ds P,ji ds P→ds.length=3:=by
  intro ds P h
  obtain ⟨_,_,_,_,_,_,_,_,_,e,_⟩:=h
  rw[e];rfl
theorem wQ {f:Addr}{fd:FuncData} (F:FnAt K mg "led_table" d7 fZ f fd) (A_:Fns K mg) (T:Txt K mg base) {c:Cs} (xs:Exs K mg base c):aM P w K mg base CX0 4 f fd fZ (spP K ji):=by
  obtain ⟨f0,d0,E_mixed_row⟩:=A_.h_mixed_row
  have G_mixed_row:aM P w K mg base CX0 1 f0 d0 fW (spP K gh):=xn E_mixed_row A_ T xs
  obtain ⟨f1,d1,E_least_terms⟩:=A_.h_least_terms
  have G_least_terms:aM P w K mg base (CXR P w) 3 f1 d1 cV (spX K (jg c)):=tm E_least_terms A_ T xs
  refine F.fn.ok gx (fun vs H Q E h=>aU uw h) (fun cdv A outer s H vs Q E hr h=>?_)
  refine⟨_,(ak (aI (i:=3) gx.nd rfl (by first | exact Or.inl rfl | exact Or.inr rfl) (aB (aZ (K:=K) rfl) (pv 2) av (fun _ _=>rfl)))
      (ak (aI (i:=4) gx.nd rfl (by first | exact Or.inl rfl | exact Or.inr rfl) (aB (aZ (K:=K) rfl) (pv 2) av (fun _ _=>rfl)))
      (ak (aI (i:=5) gx.nd rfl (by first | exact Or.inl rfl | exact Or.inr rfl) (ba iE (aB (aw (K:=K) rfl) (pv 1) (pv 3) (fun _ _=>rfl)) (aB (aw (K:=K) rfl) (pv 1) (pv 4) (fun _ _=>rfl))))
      (ak (aI (i:=6) gx.nd rfl (by first | exact Or.inl rfl | exact Or.inr rfl) (ba iE (pv 5) (aB (aZ (K:=K) rfl) (pv 2) av (fun _ _=>rfl))))
      (ak (lI (i:=7) (aL.of (sc0:=(ai d7)) (tn:=["line"]) (cap:=["whole"]) (idx:=[5]) (by decide +kernel) rfl rfl) gx.nd rfl (by first | exact Or.inl rfl | exact Or.inr rfl) (bc (K:=K) rfl (pv 0)) (fI.name (by decide)) (fun _ _ _ _ _=>aQ (i:=0) (aO (l:=["line","whole"]) (by decide +kernel)) rfl (by first | exact Or.inl rfl | exact Or.inr rfl) (by first | exact .inl rfl | exact .inr rfl)) (fun _ _ _ _ _=>(ay G_mixed_row (hr.mono (by decide)) rfl E_mixed_row.mg E_mixed_row.fn.kp E_mixed_row.bd .nil bj (af (pv 0) (af (pv 1) (af (pv 0) (af av aj)))))))
      (ak (jz (ay G_mixed_row (hr.mono (by decide)) rfl E_mixed_row.mg E_mixed_row.fn.kp E_mixed_row.bd .nil bj (af (aB (aw (K:=K) rfl) (pv 0) (pv 3) (fun _ _=>rfl)) (af (pv 6) (af (aB (aw (K:=K) rfl) (pv 0) (pv 4) (fun _ _=>rfl)) (af (aB (aZ (K:=K) rfl) (pv 2) av (fun _ _=>rfl)) aj))))) (ka (pv 7) (pv 3) set_list))
      (ak (jz (ay G_mixed_row (hr.mono (by decide)) rfl E_mixed_row.mg E_mixed_row.fn.kp E_mixed_row.bd .nil bj (af (aB (aw (K:=K) rfl) (pv 0) (pv 4) (fun _ _=>rfl)) (af (pv 6) (af (aB (aw (K:=K) rfl) (pv 0) (pv 3) (fun _ _=>rfl)) (af (aB (aZ (K:=K) rfl) (pv 2) av (fun _ _=>rfl)) aj))))) (ka (pv 7) (pv 4) set_list))
      (aq (aH (aB (aZ (K:=K) rfl) (ay G_least_terms (hr.mono (by decide)) rfl E_least_terms.mg E_least_terms.kp E_least_terms.bd .nil vY (af (pv 7) (af (ax (iZ (K:=K) rfl rfl) (by rfl) T.sum_ boot_sum (af (aB (aw (K:=K) rfl) (pv 7) av (fun _ _=>rfl)) aj)) aj))) av (fun _ _=>rfl))))))))))),bq (Γn:=[7]) (N:=nu) (ar (ST.post (Γn:=[]) (aP 3 (bK (aa 2) (EM.er au))))
      (ar (ST.post (Γn:=[]) (aP 4 (bK (aa 2) (EM.er au))))
      (ar (ST.post (Γn:=[]) (aP 5 (EM.es (aA eE (ES.er (aX (aa 1) (ES.er (aa 3)))) (ES.er (aX (aa 1) (ES.er (aa 4))))))))
      (ar (ST.post (Γn:=[]) (aP 6 (EM.es (aA eE (ES.er (aa 5)) (ES.er (bK (aa 2) (EM.er au)))))))
      (ar (ST.post (Γn:=[7]) (bQ (M:=[]) 7 (bF (bB (aa 0)) (aS 0) (aK (S:=gh) kg (ah (ES.er (aa 0)) (ah (ES.er (aa 1)) (ah (ES.er (aa 0)) (ah (EM.er au) ao))))))))
      (ar (ff 7 (aK (S:=gh) kg (ah (ES.er (aX (aa 0) (ES.er (aa 3)))) (ah (ES.er (aa 6)) (ah (ES.er (aX (aa 0) (ES.er (aa 4)))) (ah (ES.er (bK (aa 2) (EM.er au))) ao))))) (ES.er (aa 3)))
      (ar (ff 7 (aK (S:=gh) kg (ah (ES.er (aX (aa 0) (ES.er (aa 4)))) (ah (ES.er (aa 6)) (ah (ES.er (aX (aa 0) (ES.er (aa 3)))) (ah (ES.er (bK (aa 2) (EM.er au))) ao))))) (ES.er (aa 4)))
      (aJ (M:=[]) (Ew (qa qM (ah (bL 7) (ah (EM.er (bf tW (ah (fF (bL 7) (EM.er au)) ao))) ao))) (EM.er au)))))))))) (fun ds P hS=>?_) h⟩
  obtain ⟨t,row,g,u,a,b,n,k,z,rfl,hR,n1,n8,hl,hL,b1,hs,hB,hT,hk,hP⟩:=hS
  rw[show aN nu [dT t,dI row,dS g u a]=[some (dT t),some (dI row),some (dS g u a),none,none,none,none,none] from rfl]
  obtain ⟨g0,g1,u0,u1,a1,a2⟩:=id hs
  obtain ⟨g',rfl⟩:∃g':Nat,g=g':=⟨g.toNat,by omega⟩
  obtain ⟨u',rfl⟩:∃u':Nat,u=u':=⟨u.toNat,by omega⟩
  rw[Int.toNat_natCast,Int.toNat_natCast] at a2 hP
  have ht:=hR.1
  have hg:g' < n:=by omega
  have hu:u' < n:=by omega
  have hgu:g'≠u':=fun e=>by rw[e] at a2;omega
  have bg:=hB g'
  have bu:=hB u'
  have p98:4*2 ^ 98=2 ^ 100:=by decide
  unfold dS
  walk_at "go"
  refine aF (by omega) (aF (by omega) ?_)
  rw[Int.toNat_natCast,Int.toNat_natCast]
  walk_at "go"
  generalize hw:row.getD g' 0 - row.getD u' 0=w at a2 ⊢
  have w100:w.natAbs<2 ^ 100:=by omega
  have a100:a.natAbs<2 ^ 100:=by omega
  have wa100:(w - a).natAbs<2 ^ 100:=by omega
  walk_at "go"
  refine iV (t:=t) (g:=fun r=>dI (jq w r 0 r)) (fun R h=>h) (by omega) (fun r hr R h=>?_) ?_
  · walk_at "gb"
    obtain ⟨i,hi,rfl⟩:=List.mem_iff_getElem.mp hr
    have bi:Bk k t[i]:=by
      have:=hT i
      unfold rowAt at this
      rw[List.getD_eq_getElem?_getD,List.getElem?_eq_getElem hi] at this
      exact this
    exact⟨_,_,w,0,k,rfl,by rw[hR.2 _ hr];exact n8,rfl,w100,by decide,by omega,bi,bi,h⟩
  rw[show t.map (fun r=>dI (jq w r 0 r))=(t.map fun r=>jq w r 0 r).map dI by rw[List.map_map];rfl]
  have lg:=hR.row hg
  have lu:=hR.row hu
  refine pH (t:=t.map fun r=>jq w r 0 r) (a:=g') (r:=jq (w - a) (rowAt t g') a (rowAt t u')) rfl (fun R h=>?_) (fun R h=>?_) (by rw[List.length_map];omega) ?_
  · walk_at "go"
    refine fR (by omega) (fR (by omega) ?_)
    rw[Int.toNat_natCast,Int.toNat_natCast]
    exact⟨rowAt t g',rowAt t u',w - a,a,k,rfl,by omega,by omega,wa100,a100,by omega,hT g',hT u',h⟩
  · walk_at "go"
    exact h
  walk_at "v"
  refine pH (t:=(t.map fun r=>jq w r 0 r).set g' (jq (w - a) (rowAt t g') a (rowAt t u'))) (a:=u') (r:=jq (w - a) (rowAt t u') a (rowAt t g')) rfl (fun R h=>?_) (fun R h=>?_) (by rw[List.length_set,List.length_map];omega) ?_
  · walk_at "go"
    refine fR (by omega) (fR (by omega) ?_)
    rw[Int.toNat_natCast,Int.toNat_natCast]
    exact⟨rowAt t u',rowAt t g',w - a,a,k,rfl,by omega,by omega,wa100,a100,by omega,hT u',hT g',h⟩
  · walk_at "go"
    exact h
  walk_at "v"
  have e:((t.map fun r=>jq w r 0 r).set g' (jq (w - a) (rowAt t g') a (rowAt t u'))).set u' (jq (w - a) (rowAt t u') a (rowAt t g'))=zp t g' u' w a:=rfl
  rw[e]
  have hR2:=vz (w:=w) (a:=a) hR hg hu
  have hL2:=(hL.led hg hu hgu a1 a2 hw.symm).congr (fun i j hi hj=>Ck hR hg hu hgu hi hj) (y:=atF (Maj.bw row g' u' a)) fun i hi=>(gB (by omega) (by omega) hgu).symm
  have hT2:=FZ hR hg hu hgu w100 a100 wa100 hT
  generalize zp t g' u' w a=t2 at *
  have bb:1≤w*b:=by
    have:=Int.mul_pos (show 0<w by omega) (show 0<b by omega)
    omega
  have b17:=hL2.bot n1 n8 hT2
  generalize w*b=b2 at *
  have l2:=hR2.1
  walk_at "go"
  refine fR (by omega) ?_
  walk_at "go"
  have hsum:(rowAt t2 0).sum=b2:=(AU (hR2.row (by omega))).trans (hL2.rs 0 (by omega))
  have es:(rowAt t2 (0:Int).toNat).sum=b2:=hsum
  refine⟨t2,_,rfl,rfl,⟨by omega,fun r hr=>by rw[hR2.2 r hr];exact n8⟩,fun bn e1 e2=>⟨?_,?_⟩,fun z=>?_⟩
  · have e3:(rowAt t2 0).sum=bn:=L3.D.int.inj e1
    have e4:(bn:Int)<2 ^ (k+101+4):=by rw[← e3,hsum];exact b17
    have e5:bn<2 ^ (k+101+4):=by exact_mod_cast e4
    exact Nat.lt_of_lt_of_le e5 (Nat.pow_le_pow_right (by decide) (by omega))
  · have e3:(rowAt t2 0).sum=bn:=L3.D.int.inj e1
    have dv:=uf t2 bn
    have gp:=zH (t:=t2) e2
    walk_at "go"
    refine hP _ ((bn / gT bn t2:Nat):Int) (Cp hR2) (hL2.down (d:=(gT bn t2:Int)) (by omega) (fun i j hi hj=>CG hR2 dv.2 hi hj) ?_) ?_ (G8 hT2)
    · rw[← hsum,e3,← Int.natCast_mul,Nat.mul_div_cancel' dv.1]
    · have:=Nat.div_pos gp.2 (show 0<gT bn t2 by omega)
      omega
  · have:decide (1≤(rowAt t2 0).sum)=false:=z
    rw[hsum,decide_eq_true bb] at this
    cases this
theorem Bk.step {xs:List Int}{g u:Nat}{a:Int} (h:Bk 98 xs) (hs:iW xs g u a):Bk 98 (Maj.bw xs g u a):=fun j=>by
  obtain ⟨g0,g1,u0,u1,a1,a2⟩:=hs
  rw[Int.toNat_natCast,Int.toNat_natCast] at a2
  have hg:=h g
  have hu:=h u
  rw[gB (by omega) (by omega) (fun e=>by rw[e] at a2;omega)]
  split
  · omega
  · split
    · omega
    · exact h j
theorem tY {n:Nat}:dH n n (n4 n):=⟨by unfold n4;rw[List.length_map,List.length_range],fun r hr=>by
  unfold n4 at hr
  obtain ⟨p,_,rfl⟩:=List.mem_map.mp hr
  unfold pf
  rw[List.length_map,List.length_range]⟩
theorem vA {n i:Nat} (hi:i<n):rowAt (n4 n) i=pf n i:=by
  unfold rowAt n4
  rw[List.getD_eq_getElem?_getD,List.getElem?_map,List.getElem?_range hi];rfl
theorem zq {n i j:Nat} (hj:j<n):(pf n i).getD j 0=if j=i then 1 else 0:=by
  unfold pf
  rw[List.getD_eq_getElem?_getD,List.getElem?_map,List.getElem?_range hj];rfl
theorem Ah {n i j:Nat} (hi:i<n) (hj:j<n):(if j=i then 1 else 0:Int)=cellAt (n4 n) i j:=by
  show _=(rowAt (n4 n) i).getD j 0
  rw[vA hi,zq hj]
theorem CP {n:Nat}:BkT 1 (n4 n):=fun i j=>by
  rcases Nat.lt_or_ge i n with h | h
  · rw[vA h]
    rcases Nat.lt_or_ge j n with h2 | h2
    · rw[zq h2];split<;>decide
    · rw[List.getD_eq_getElem?_getD,List.getElem?_eq_none (by unfold pf;rw[List.length_map,List.length_range];exact h2)]
      decide
  · rw[lM (by rw[tY.1];exact h)];exact Ae
theorem BkT.mono {k l:Nat}{t:List (List Int)} (h:BkT k t) (hk:k≤l):BkT l t:=fun i j=>Nat.lt_of_lt_of_le (h i j) (Nat.pow_le_pow_right (by decide) hk)
def lJ (c:Cs):DSX:=fun ds P R=>∃one other:List Int,ds=[dI one,dI other]∧1≤one.length∧one.length≤8∧(Alike one other→Bk 98 other)∧(Alike one other→(∀i,pW one other=.int i→P (.tup [.str "bar",.int i]))∧(pW one other=.non→∀(t:List (List Int)) (b:Int),dH one.length one.length t→iS one.length (cellAt t) b (atF other) (atF one)→1≤b→BkT 1500 t→P (.tup [.str "table",dT t])))∧(¬ Alike one other→R c.NotAlike)
theorem wJ {c:Cs}:jC (lJ c):=by
  intro xs P P' R R' k kr h
  obtain ⟨one,other,e,h1,h2,h3,h4,h5⟩:=h
  exact⟨one,other,e,h1,h2,h3,fun z=>⟨fun i y=>k _ ((h4 z).1 i y),fun y t b p q r s=>k _ ((h4 z).2 y t b p q r s)⟩,fun z=>kr _ (h5 z)⟩
theorem xK {c:Cs}:∀ds P R,lJ c ds P R→ds.length=2:=by
  intro ds P R h
  unfold lJ at h
  grind
theorem zL {f:Addr}{fd:FuncData} (F:FnAt K mg "lead_to" ip iU f fd) (A_:Fns K mg) (T:Txt K mg base) {c:Cs} (xs:Exs K mg base c):aM P w K mg base (CXR P w) 6 f fd iU (spX K (lJ c)):=by
  obtain ⟨f0,d0,E_steps_to⟩:=A_.h_steps_to
  have G_steps_to:aM P w K mg base (CXR P w) 5 f0 d0 gZ (spX K (j9 c)):=y1 E_steps_to A_ T xs
  obtain ⟨f1,d1,E_plain_table⟩:=A_.h_plain_table
  have G_plain_table:aM P w K mg base CX0 2 f1 d1 eD (spP K fz):=sY E_plain_table A_ T xs
  obtain ⟨f2,d2,E_led_table⟩:=A_.h_led_table
  have G_led_table:aM P w K mg base CX0 4 f2 d2 fZ (spP K ji):=wQ E_led_table A_ T xs
  obtain ⟨f3,d3,E_step_made⟩:=A_.h_step_made
  have G_step_made:aM P w K mg base (CXR P w) 3 f3 d3 cZ (spX K (eT c)):=jJ E_step_made A_ T xs
  refine F.fn.okX gY (fun vs H Q E h=>lV xK h) (fun cdv A outer s H vs Q E hr h=>?_)
  refine⟨_,(ak (aI (i:=2) gY.nd rfl (by first | exact Or.inl rfl | exact Or.inr rfl) (ay G_steps_to (hr.mono (by decide)) rfl E_steps_to.mg E_steps_to.fn.kp E_steps_to.bd .nil xj (PA.nox (af (pv 0) (af (pv 1) aj)))))
      (PSs.nox (ak (dY (bh vn (aB (aZ (K:=K) rfl) (pv 2) av (fun _ _=>rfl)) kq (bo _)) (aq (aH (pv 2))) bA)
      (ak (aI (i:=3) gY.nd rfl (by first | exact Or.inl rfl | exact Or.inr rfl) (ay G_plain_table (hr.mono (by decide)) rfl E_plain_table.mg E_plain_table.fn.kp E_plain_table.bd .nil bj (af (ax (aR (K:=K) rfl) (by rfl) T.len_ PySem.boot_len (af (pv 1) aj)) aj)))
      (ak (aI (i:=4) gY.nd rfl (by first | exact Or.inl rfl | exact Or.inr rfl) (pv 1))
      (ak (gj PassesOwn.never rfl (bc (K:=K) rfl (aB (aZ (K:=K) rfl) (pv 2) av (fun _ _=>rfl))) (aQ (i:=5) gY.nd rfl (by first | exact Or.inl rfl | exact Or.inr rfl)) (ak (aI (i:=3) gY.nd rfl (by first | exact Or.inl rfl | exact Or.inr rfl) (ay G_led_table (hr.mono (by decide)) rfl E_led_table.mg E_led_table.fn.kp E_led_table.bd .nil bj (af (pv 3) (af (pv 4) (af (pv 5) aj)))))
      (aq (aI (i:=4) gY.nd rfl (by first | exact Or.inl rfl | exact Or.inr rfl) (ay G_step_made (hr.mono (by decide)) rfl E_step_made.mg E_step_made.fn.kp E_step_made.bd .nil vY (af (pv 4) (af (pv 5) aj)))))))
      (aq (aH (jV (af kq (af (pv 3) aj))))))))))),lZ (Γn:=[3]) (N:=qO) (fun R=>(mT (Dj 2 uX (ah (ES.er (aa 0)) (ah (ES.er (aa 1)) ao)))
      (ST.sx (ar (ft (aY (EM.er (aA Ce (Jn (bL 2) (EM.er au)) (EM.er kd)))) (aJ (M:=[2]) (fC 2)) br)
      (ar (ST.post (Γn:=[3,2]) (bQ (M:=[]) 3 (aK (S:=fz) qw (ah (EM.er (bf cP (ah (ES.er (aa 1)) ao))) ao))))
      (ar (ST.post (Γn:=[3,2]) (aP 4 (aa 1)))
      (ar (ST.pre (Γ1:=[3]) (fQ (bB (bK (aa 2) (EM.er au))) (aS 5) (ar (ST.post (Γn:=[3]) (bQ (M:=[]) 3 (aK (S:=ji) tf (ah (bL 3) (ah (ES.er (aa 4)) (ah (ES.er (aa 5)) ao))))))
      (ST.post (Γn:=[3]) (aP 4 (EM.es (qa iK (ah (ES.er (aa 4)) (ah (ES.er (aa 5)) ao)))))))))
      (aJ (M:=[3]) (j0 (gu kd (gu (fC 3) dw))))))))))) (fun ds P R hS=>?_) h⟩
  obtain ⟨one,other,rfl,h1,h8,hB,hP,hR⟩:=hS
  rw[show aN qO [dI one,dI other]=[some (dI one),some (dI other),none,none,none,none] from rfl]
  walk_at "v"
  refine⟨one,other,rfl,h1,by omega,fun ha=>⟨fun i e=>?_,fun e ss hl hW _=>?_⟩,hR⟩
  · have hP:=(hP ha).1 i e
    walk_at "go"
    exact hP
  · have hP:=(hP ha).2 e
    have la:=ha.1
    walk_at "go"
    refine⟨other.length,rfl,by omega,?_⟩
    walk_at "go"
    rw[← la]
    refine eG (as:=ss) (f:=dS3) (fun i δ=>∃(zs:List Int) (t:List (List Int)) (b:Int) (o5:Option D),δ=[some (dI one),some (dI other),some (.tup [.str "steps",.lst (ss.map dS3)]),some (dT t),some (dI zs),o5]∧Walk zs (ss.drop i) one∧zs.length=one.length∧Bk 98 zs∧dH one.length one.length t∧iS one.length (cellAt t) b (atF other) (atF zs)∧1≤b∧BkT (1+101*i) t) ⟨other,n4 one.length,1,none,rfl,hW,la.symm,hB ha,tY,BX.congr (fun i j hi hj=>Ah hi hj) (fun i _=>rfl),by decide,CP⟩ ?_ ?_
    · rintro i ⟨g,u,a⟩ δ N e ⟨zs,t,b,o5,rfl,hW,lz,bz,hT,hL,b1,bt⟩ hN
      obtain ⟨q1,q2⟩:=List.getElem?_eq_some_iff.mp e
      rw[List.drop_eq_getElem_cons q1,q2] at hW
      obtain ⟨hs,hW⟩:=hW
      have hs':=id hs
      obtain ⟨g0,g1,u0,u1,a1,a2⟩:=hs'
      walk_at "go"
      refine⟨t,zs,g,u,a,b,one.length,1+101*i,atF other,rfl,hT,h1,h8,lz,hL,b1,hs,bz,bt,by omega,fun t' b' hT' hL' b1' bt'=>?_⟩
      walk_at "go"
      refine⟨zs,g,u,a,rfl,fun _=>?_,fun z=>absurd hs z⟩
      refine hN _ ⟨_,t',b',_,rfl,hW,by rw[Maj.mP];exact lz,?_,hT',hL',b1',by rw[show 1+101*(i+1)=1+101*i+101 by omega];exact bt'⟩
      exact Bk.step bz (by rw[Int.toNat_of_nonneg g0,Int.toNat_of_nonneg u0];exact hs)
    · rintro δ ⟨zs,t,b,o5,rfl,hW,lz,bz,hT,hL,b1,bt⟩
      rw[List.drop_length] at hW
      have e2:zs=one:=hW
      subst e2
      walk_at "go"
      exact hP t b hT hL b1 (bt.mono (by omega))
def oD:Option Nat→D
  | none=>.non
  | some c=>.int (c:Int)
abbrev dM (ms:List (Option Nat)):D:=.lst (ms.map oD)
abbrev dN (rs:List Nat):D:=dI (rs.map fun (r:Nat)=>(r:Int))
def Dc (kvs:List (Key × V)) (src:Nat→Option Nat):Prop:=∀c:Nat,gS kvs (.inl (c:Int))=(src c).map fun (s:Nat)=>V.int (s:Int)
def MkT (t:List (List Int)):Mat.Mk:=fun i c=>cellAt t i c=1
theorem si:∀{ms:List (Option Nat)},(ms.map oD).all L3.D.aW=true
  | []=>rfl
  | none::ms=>by rw[List.map_cons,List.all_cons,si];rfl
  | some c::ms=>by rw[List.map_cons,List.all_cons,si];rfl
theorem Dc.put {kvs:List (Key × V)}{src:Nat→Option Nat} (h:Dc kvs src) (c s:Nat):Dc (putK kvs (.inl (c:Int)) (.int (s:Int))) (Mat.put src c s):=fun d=>by
  rw[yP]
  unfold Mat.put
  by_cases z:d=c
  · subst z;rw[if_pos rfl,if_pos rfl];rfl
  · rw[if_neg (fun q=>z (by have:=Sum.inl.inj q;omega)),if_neg z];exact h d
def yz (r:List Int) (src:Nat→Option Nat):List Nat:=(List.range r.length).filter fun c=>decide (r.getD c 0=1) && (src c).isNone
def eJ:DSp:=fun ds P=>∃(r:List Int) (kvs:List (Key × V)) (src:Nat→Option Nat),ds=[dI r,.dic kvs]∧r.length≤1000∧Dc kvs src∧P (dN (yz r src))
theorem oU:bE eJ:=by
  intro xs P P' k h
  unfold eJ at h ⊢
  grind
theorem qe:∀ds P,eJ ds P→ds.length=2:=by
  intro ds P h
  obtain ⟨_,_,_,e,_⟩:=h
  rw[e];rfl
theorem rW {f:Addr}{fd:FuncData} (F:FnAt K mg "columns_from" bY dy f fd) (A_:Fns K mg) (T:Txt K mg base) {c:Cs} (xs:Exs K mg base c):aM P w K mg base CX0 1 f fd dy (spP K eJ):=by
  refine F.fn.ok r8 (fun vs H Q E h=>aU qe h) (fun cdv A outer s H vs Q E hr h=>?_)
  refine⟨_,(aq (aH (ph rfl (aL.of (sc0:=(ai bY)) (tn:=["column"]) (cap:=["line","sources"]) (idx:=[0,1]) (by decide +kernel) rfl rfl) (cI rfl T.range_ (af (ax (aR (K:=K) rfl) (by rfl) T.len_ PySem.boot_len (af (pv 0) aj)) aj)) (fI.name (by decide)) (fun _ _ _ _ _=>aQ (i:=0) (aO (l:=["column","line","sources"]) (by decide +kernel)) rfl (by first | exact Or.inl rfl | exact Or.inr rfl) (by first | exact .inl rfl | exact .inr rfl)) (fun _ _ _ _ _=>so (PW.pt (Dy (bh vn (aB (aw (K:=K) rfl) (pv 1) (pv 0) (fun _ _=>rfl)) av (bo _)) (AJ (Ft (CA (yt hr) (pv 0) (pv 2)) (by with_unfolding_all rfl)))))) (fun _ _ _ _ _=>(pv 0)) (by intro _;rfl)))),bq (Γn:=[]) (N:=ku) (aJ (M:=[]) (pI (fH (ah (EM.er (bf cP (ah (ES.er (aa 0)) ao))) ao)) (aS 0) (Fd (aY (EM.er (aA Ce (ES.er (aX (aa 1) (ES.er (aa 0)))) (EM.er au)))) (mU (EM.er (BW (ES.er (aa 0)) (ES.er (aa 2)))))) (ER.aW (ES.er (aa 0))))) (fun ds P hS=>?_) h⟩
  obtain ⟨r,kvs,src,rfl,hl,hD,hP⟩:=hS
  rw[show aN ku [dI r,.dic kvs]=[some (dI r),some (.dic kvs)] from rfl]
  walk_at "v"
  refine vd (lo:=0) (n:=r.length) (p:=fun c=>decide (r.getD c 0=1) && (src c).isNone) (g:=fun (p:Nat)=>.int (p:Int)) (fun R h=>?_) hl (fun i hi R h=>?_) ?_
  · walk_at "go";exact h
  · walk_at "gb"
    rw[Int.zero_add]
    refine aF (by omega) ?_
    walk_at "gb"
    have e1:=hD i
    rw[e1]
    by_cases c1:r.getD i 0=1
    · rw[if_pos c1]
      rw[decide_eq_true c1,Bool.true_and] at h
      cases q:src i with
      | none =>
        rw[q] at h
        rw[Option.map_none]
        exact h
      | some s =>
        rw[q] at h
        rw[Option.map_some]
        exact h
    · rw[if_neg c1]
      rw[decide_eq_false c1,Bool.false_and] at h
      exact h
  · rw[iM];exact hP
theorem JH {ms:List (Option Nat)}{r:Nat}{o:Option Nat}{P:DK} (h:ms[r]?=some o) (k:P (oD o)):asO (atI (ms.map oD) (r:Int)) P:=by
  have hl:=(List.getElem?_eq_some_iff.mp h).1
  refine (xg ?_).mpr k
  unfold atI
  rw[gM (by omega) (by rw[List.length_map];omega),Int.toNat_natCast]
  show (ms.map oD)[r]?=_
  rw[List.getElem?_map,h];rfl
theorem BY {i:Nat}{δ:Dl}{ms:List (Option Nat)}{c r:Nat}{de dx:DE}{E:bC} (hs:δ[i]?=some (some (dM ms))) (hde:∀R:DK,R (.int (c:Int))→de δ R) (hdx:∀R:DK,R (.int (r:Int))→dx δ R) (hr:r<ms.length) (h:E.nx (δ.set i (some (dM (ms.set r (some c)))))):jj i de dx E δ:=by
  unfold jj
  refine hde _ ((sf hs).mpr (hdx _ ?_))
  show match ixN (ms.map oD).length (r:Int) with | some j=>E.nx (δ.set i (some (.lst ((ms.map oD).set j (.int (c:Int)))))) | none=>False
  rw[gM (by omega) (by rw[List.length_map];omega),Int.toNat_natCast]
  have e:(ms.map oD).set r (.int (c:Int))=(ms.set r (some c)).map oD:=by rw[List.map_set];rfl
  show E.nx (δ.set i (some (.lst ((ms.map oD).set r (.int (c:Int))))))
  rw[e];exact h
def dQ:DSI:=fun ds P=>∃(ms:List (Option Nat)) (kvs:List (Key × V)) (src:Nat→Option Nat) (rs:List Nat) (row c k n:Nat) (M:Mat.Mk),ds=[dM ms,.dic kvs,.int (c:Int)]∧Dc kvs src∧Mat.Fo n M ms src rs row∧Mat.Sh n M ms ms src rs c k ∧
  ∀ms',Mat.Mt n M ms'→(∀i,Mat.Dom ms' i↔Mat.Dom ms i∨i=row)→P .non (dM ms')
theorem oN:qo dQ:=by
  intro xs P P' k h
  unfold dQ at h ⊢
  grind
theorem kG:∀ds P,dQ ds P→ds.length=3:=by
  intro ds P h
  unfold dQ at h
  grind
theorem qN {f:Addr}{fd:FuncData} (F:FnAt K mg "shift_dealing" cj cK f fd) (A_:Fns K mg) (T:Txt K mg base) {c:Cs} (xs:Exs K mg base c):aM P w K mg base CX0 1 f fd cK (spI K 0 dQ):=by
  refine F.fn.ok gm (fun vs H Q E h=>xp kG h) (fun cdv A outer s H vs Q E hr h=>?_)
  refine⟨_,(aq (mH PassesOwn.never (bh AZ (pv 2) wU (bo _)) (ak (aI (i:=3) gm.nd rfl (by first | exact Or.inl rfl | exact Or.inr rfl) (Gs (yt hr) (pv 1) (pv 2) (fun _ _=>rfl)))
      (ak (aI (i:=4) gm.nd rfl (by first | exact Or.inl rfl | exact Or.inr rfl) (aB (aw (K:=K) rfl) (pv 0) (pv 3) (fun _ _=>rfl)))
      (ak (jz (pv 2) (ka (pv 0) (pv 3) set_list))
      (aq (aI (i:=2) gm.nd rfl (by first | exact Or.inl rfl | exact Or.inr rfl) (pv 4)))))))),w8 (Γn:=[0]) (N:=jD) (p:=0) (mY (aY (EM.er (aA Fm (ES.er (aa 2)) (EM.er wI)))) (ar (ST.post (Γn:=[0]) (aP 3 (EM.es (ER.aW (GU (ES.er (aa 1)) (ES.er (aa 2)))))))
      (ar (ST.post (Γn:=[0]) (aP 4 (EM.es (ER.aW (fF (wd 0) (ES.er (aa 3)))))))
      (ar (zN 0 (yp 0 (ER.aW (ES.er (aa 2))) (ES.er (aa 3))))
      (ST.post (Γn:=[0]) (aP 2 (aa 4))))))) (fun ds P a x hS hx=>?_) (by decide) (fun ds P h=>by have:=kG ds P h;omega) h⟩
  obtain ⟨ms,kvs,src,rs,row,c,k,n,M,rfl,hD,hF,hSh,hP⟩:=hS
  have hlm:ms.length=n:=hSh.mt.len
  cases hx
  simp only[List.set_cons_zero,List.set_cons_succ]
  rw[show aN jD [.pin a (dM ms),.dic kvs,.int (c:Int)]=[some (.pin a (dM ms)),some (.dic kvs),some (.int (c:Int)),none,none] from rfl]
  refine⟨fun m δ=>(∃(ms':List (Option Nat)) (o3 o4:Option D),m=0∧δ=[some (.pin a (dM ms')),some (.dic kvs),some .non,o3,o4]∧Mat.Mt n M ms'∧∀i,Mat.Dom ms' i↔Mat.Dom ms i∨i=row)∨(∃(ms':List (Option Nat)) (c k:Nat) (o3 o4:Option D),m=k+1∧δ=[some (.pin a (dM ms')),some (.dic kvs),some (.int (c:Int)),o3,o4]∧Mat.Sh n M ms ms' src rs c k),⟨k+1,.inr ⟨ms,c,k,none,none,rfl,rfl,hSh⟩⟩,?_⟩
  rintro m δ (⟨ms',o3,o4,rfl,rfl,hmt,hdom⟩ | ⟨ms',c',k',o3,o4,rfl,rfl,h⟩)
  · walk_at "v"
    exact hP ms' hmt hdom
  · obtain ⟨r,er,hr⟩:=h.at_
    obtain ⟨hrn,hturn⟩:=Mat.Gv hF h hr hlm
    have hl':=h.mt.len
    walk_at "v"
    refine DP (v:=.int (r:Int)) (by rw[hD c',hr];rfl) ?_
    walk_at "v"
    obtain ⟨o,ho⟩:=Mat.D8 (ms:=ms') (i:=r) (by omega)
    show asO (atI (ms'.map oD) (r:Int)) _
    refine JH ho ?_
    have hsc:(oD o).aW=true:=by cases o<;>rfl
    refine⟨hsc,?_⟩
    walk_at "v"
    refine BY (ms:=ms') (c:=c') (r:=r) rfl (fun R h=>?_) (fun R h=>?_) (by omega) ?_
    · walk_at "v";exact h
    · walk_at "v";exact h
    walk_at "v"
    rcases hturn with ⟨h1,h2,h3⟩ | ⟨c1,k1,h1,h2,h3⟩
    · rw[ho] at h1;cases h1
      exact⟨0,by omega,.inl ⟨_,_,_,rfl,rfl,h2,h3⟩⟩
    · rw[ho] at h1;cases h1
      exact⟨k1+1,by omega,.inr ⟨_,c1,k1,_,_,rfl,rfl,h3⟩⟩
theorem Hk {ms:List (Option Nat)}{c:Nat}:inD (.int (c:Int)) (ms.map oD)=true↔∃i:Nat,ms[i]?=some (some c):=by
  unfold inD inV
  rw[List.any_eq_true]
  constructor
  · rintro ⟨v,hv,e⟩
    obtain ⟨d,hd,rfl⟩:=List.mem_map.mp hv
    obtain ⟨o,ho,rfl⟩:=List.mem_map.mp hd
    obtain ⟨i,hi⟩:=List.getElem?_of_mem ho
    cases o with
    | none=>exact absurd (show false=true from e) Bool.false_ne_true
    | some b =>
      have e':((b:Int) == (c:Int))=true:=e
      have:b=c:=by have:=eq_of_beq e';omega
      subst this
      exact⟨i,hi⟩
  · rintro ⟨i,hi⟩
    refine⟨.int (c:Int),List.mem_map.mpr ⟨.int (c:Int),List.mem_map.mpr ⟨some c,List.mem_of_getElem? hi,rfl⟩,rfl⟩,?_⟩
    show ((c:Int) == (c:Int))=true
    exact beq_self_eq_true _
theorem JI {neg:Bool}{c:Nat}{ms:List (Option Nat)}{P:DK} (h:P (.bl (if neg then !inD (.int (c:Int)) (ms.map oD) else inD (.int (c:Int)) (ms.map oD)))):vIn neg (.int (c:Int)) (dM ms) P:=⟨rfl,si,h⟩
theorem Ho {rs:List Nat}{k s:Nat}{P:DK} (h:rs[k]?=some s) (hk:P (.int (s:Int))):asO (atI ((rs.map fun (r:Nat)=>(r:Int)).map L3.D.int) (k:Int)) P:=by
  have hl:=(List.getElem?_eq_some_iff.mp h).1
  refine aF ⟨by omega,by rw[List.length_map];omega⟩ ?_
  have e:(rs.map fun (r:Nat)=>(r:Int)).getD (k:Int).toNat 0=(s:Int):=by
    rw[Int.toNat_natCast,List.getD_eq_getElem?_getD,List.getElem?_map,h];rfl
  rw[e];exact hk
def iT:DSI:=fun ds P=>∃(t:List (List Int)) (ms:List (Option Nat)) (n row:Nat),ds=[dT t,dM ms,.int (row:Int)]∧dH n n t∧n≤8∧Mat.Mt n (MkT t) ms∧row<n∧ms[row]?=some none ∧
  (∀ms',Mat.Mt n (MkT t) ms'→(∀i,Mat.Dom ms' i↔Mat.Dom ms i∨i=row)→P (dI []) (dM ms'))∧(∀s,Mat.Short n (MkT t) s→P (dN s) (dM ms))
theorem uS:qo iT:=by
  intro xs P P' k h
  unfold iT at h ⊢
  grind
theorem pG:∀ds P,iT ds P→ds.length=3:=by
  intro ds P h
  unfold iT at h
  grind
theorem zo {f:Addr}{fd:FuncData} (F:FnAt K mg "deal_row" fK hX f fd) (A_:Fns K mg) (T:Txt K mg base) {c:Cs} (xs:Exs K mg base c):aM P w K mg base CX0 2 f fd hX (spI K 1 iT):=by
  obtain ⟨f0,d0,E_columns_from⟩:=A_.h_columns_from
  have G_columns_from:aM P w K mg base CX0 1 f0 d0 dy (spP K eJ):=rW E_columns_from A_ T xs
  obtain ⟨f1,d1,E_shift_dealing⟩:=A_.h_shift_dealing
  have G_shift_dealing:aM P w K mg base CX0 1 f1 d1 cK (spI K 0 dQ):=qN E_shift_dealing A_ T xs
  refine F.fn.ok eQ (fun vs H Q E h=>xp pG h) (fun cdv A outer s H vs Q E hr h=>?_)
  refine⟨_,(ak (aI (i:=3) eQ.nd rfl (by first | exact Or.inl rfl | exact Or.inr rfl) (iG (af (pv 2) aj)))
      (ak (aI (i:=4) eQ.nd rfl (by first | exact Or.inl rfl | exact Or.inr rfl) Eg)
      (ak (aI (i:=5) eQ.nd rfl (by first | exact Or.inl rfl | exact Or.inr rfl) av)
      (ak (mH PassesOwn.never (bh sF (pv 5) (ax (aR (K:=K) rfl) (by rfl) T.len_ PySem.boot_len (af (pv 3) aj)) (bo _)) (ak (aI (i:=6) eQ.nd rfl (by first | exact Or.inl rfl | exact Or.inr rfl) (aB (aw (K:=K) rfl) (pv 3) (pv 5) (fun _ _=>rfl)))
      (ak (aI (i:=7) eQ.nd rfl (by first | exact Or.inl rfl | exact Or.inr rfl) (ay G_columns_from (hr.mono (by decide)) rfl E_columns_from.mg E_columns_from.fn.kp E_columns_from.bd .nil bj (af (aB (aw (K:=K) rfl) (pv 0) (pv 6) (fun _ _=>rfl)) (af (pv 4) aj))))
      (ak (gj PassesOwn.never rfl (bc (K:=K) rfl (pv 7)) (aQ (i:=8) eQ.nd rfl (by first | exact Or.inl rfl | exact Or.inr rfl)) (ak (Bv (yt hr) (pv 4) (pv 8) (pv 6) rfl)
      (ak (dY (bh (CD (K:=K) rfl) (pv 8) (pv 1) (by with_unfolding_all rfl)) (ak (iC (ay G_shift_dealing (hr.mono (by decide)) rfl E_shift_dealing.mg E_shift_dealing.fn.kp E_shift_dealing.bd .nil bj (af (pv 1) (af (pv 4) (af (pv 8) aj)))))
      (aq (aH (iG aj)))) bA)
      (aq (iC (rf PySem.F.plainAttrs_list PySem.F.slot_list_append PySem.F.type_list_append jS (pv 3) (af (rf PySem.F.plainAttrs_list PySem.F.slot_list_index PySem.F.type_list_index EK (pv 1) (af (pv 8) aj)) aj)))))))
      (aq (aI (i:=5) eQ.nd rfl (by first | exact Or.inl rfl | exact Or.inr rfl) (ba iB (pv 5) av)))))))
      (aq (aH (ax (mf (K:=K) rfl) (by rfl) T.sorted_ boot_sorted (af (pv 3) aj)))))))),w8 (Γn:=[4,3,1]) (N:=oG) (p:=1) (ar (ST.post (Γn:=[3,1]) (bQ (M:=[]) 3 (jB (cD (ER.aW (ES.er (aa 2))) dw))))
      (ar (ST.post (Γn:=[4,3,1]) (bQ (M:=[]) 4 Gr))
      (ar (ST.post (Γn:=[4,3,1]) (aP 5 (EM.es au)))
      (ar (mY (aY (EM.er (aA kE (ES.er (aa 5)) (EM.er (bf cP (ah (bL 3) ao)))))) (ar (ST.post (Γn:=[4,3,1]) (aP 6 (EM.es (ER.aW (fF (bL 3) (ES.er (aa 5)))))))
      (ar (ST.post (Γn:=[4,3,1]) (aP 7 (EM.es (aK (S:=eJ) oU (ah (ES.er (aX (aa 0) (ES.er (aa 6)))) (ah (bL 4) ao))))))
      (ar (fQ (bB (aa 7)) (aS 8) (ar (ST0.st (DN 4 (ES.er (aa 8)) (ES.er (aa 6))))
      (ar (ft (aY (EM.er (aA J9 (ES.er (aa 8)) (wd 1)))) (ar (zN 1 (qg 1 0 oN (sh 1 (lN (D4 4) (lN (vB (aa 8)) wt)))))
      (aJ (M:=[]) (jB dw))) br)
      (ST.post (Γn:=[4,3,1]) (jO (M:=[]) 3 (DY (wd 1) (ES.er (aa 8))))))))
      (ST.post (Γn:=[4,3,1]) (aP 5 (EM.es (aA eE (ES.er (aa 5)) (EM.er au)))))))))
      (aJ (M:=[]) (bf zS (ah (bL 3) ao))))))) (fun ds P a x hS hx=>?_) (by decide) (fun ds P h=>by have:=pG ds P h;omega) h⟩
  obtain ⟨t,ms,n,row,rfl,hR,hn8,hM,hrow,hnone,hP1,hP2⟩:=hS
  have hlm:=hM.len
  have hlt:=hR.1
  cases hx
  simp only[List.set_cons_zero,List.set_cons_succ]
  rw[show aN oG [dT t,.pin a (dM ms),.int (row:Int)]=[some (dT t),some (.pin a (dM ms)),some (.int (row:Int)),none,none,none,none,none,none] from rfl]
  walk_at "go"
  have rsn:∀{src rs q ks},Mat.Se n (MkT t) ms src rs row q ks→rs.length≤n:=fun S=>Mat.yL S.fo.nd S.fo.lt
  refine⟨fun m δ=>∃(rs ks:List Nat) (kvs:List (Key × V)) (src:Nat→Option Nat) (q:Nat) (o6 o7 o8:Option D),m=n - q∧δ=[some (dT t),some (.pin a (dM ms)),some (.int (row:Int)),some (dN rs),some (.dic kvs),some (.int (q:Int)),o6,o7,o8]∧Mat.Se n (MkT t) ms src rs row q ks∧Dc kvs src∧kvs.length≤ks.length∧q≤rs.length,⟨n,[row],[],[],fun _=>none,0,none,none,none,by omega,rfl,Mat.FJ hrow hnone,fun c=>rfl,Nat.le_refl _,by simp⟩,?_⟩
  rintro m δ ⟨rs,ks,kvs,src,q,o6,o7,o8,rfl,rfl,hSe,hD,hkl,hq⟩
  have hrn:=rsn hSe
  walk_at "v"
  split
  · rename_i hql
    have hql':q<rs.length:=by omega
    obtain ⟨s,hs⟩:∃s,rs[q]?=some s:=⟨_,List.getElem?_eq_getElem hql'⟩
    have hsn:s<n:=hSe.fo.lt s (List.mem_of_getElem? hs)
    refine Ho hs ?_
    walk_at "v"
    refine fR (by omega) ?_
    have hrow':=hR.row hsn
    rw[Int.toNat_natCast]
    refine⟨rowAt t s,kvs,src,rfl,by omega,hD,?_⟩
    have hmem:∀c,c∈yz (rowAt t s) src↔c<n∧MkT t s c∧src c=none:=fun c=>by
      unfold yz MkT
      rw[List.mem_filter,List.mem_range,hrow',Bool.and_eq_true,decide_eq_true_eq,Option.isNone_iff_eq_none]
    have hcn:(yz (rowAt t s) src).Nodup:=List.nodup_range.filter _
    generalize yz (rowAt t s) src=cs at *
    walk_at "v"
    rw[show (cs.map (fun (r:Nat)=>(r:Int))).map L3.D.int=cs.map fun (c:Nat)=>L3.D.int (c:Int) by rw[List.map_map];rfl]
    refine eG (as:=cs) (f:=fun (c:Nat)=>L3.D.int (c:Int)) (fun x δ=>∃(rs' ks':List Nat) (kvs':List (Key × V)) (src':Nat→Option Nat) (o8:Option D),δ=[some (dT t),some (.pin a (dM ms)),some (.int (row:Int)),some (dN rs'),some (.dic kvs'),some (.int (q:Int)),some (.int (s:Int)),some (dN cs),o8]∧Mat.Se n (MkT t) ms src' rs' row q ks'∧Dc kvs' src'∧kvs'.length≤ks'.length∧rs'[q]?=some s∧(∀y c,y<x→cs[y]?=some c→src' c≠none)∧(∀y c,x≤y→cs[y]?=some c→src' c=none)∧(∀c,src c≠none→src' c≠none)) ⟨rs,ks,kvs,src,_,rfl,hSe,hD,hkl,hs,fun y c hy=>by omega,fun y c _ hy=>((hmem c).mp (List.mem_of_getElem? hy)).2.2,fun c h=>h⟩ ?_ ?_
    · rintro x c δ N e ⟨rs',ks',kvs',src',o8',rfl,hS',hD',hkl',hs',hb,hf,hk⟩ hN
      have hrn':=rsn hS'
      have kl':=hS'.kl
      obtain ⟨hc1,hc2,hc3⟩:=(hmem c).mp (List.mem_of_getElem? e)
      have hcf:=hf x c (Nat.le_refl _) e
      walk_at "v"
      refine⟨by omega,JI ?_⟩
      have hDp:=hD'.put c s
      walk_at "v"
      by_cases hin:∃i:Nat,ms[i]?=some (some c)
      · rw[if_neg (fun z=>by rw[Hk.mpr hin] at z;cases z)]
        walk_at "v"
        obtain ⟨i,hi⟩:=hin
        refine pS (es:=ms.map oD) rfl ⟨si,i,⟨oD (some c),by rw[List.getElem?_map,hi];rfl,by show ((c:Int) == (c:Int))=true;exact beq_self_eq_true _⟩,fun j z hj hz=>?_,?_⟩
        · rw[List.getElem?_map] at hz
          cases w:ms[j]? with
          | none=>rw[w] at hz;cases hz
          | some o =>
            rw[w] at hz;cases hz
            cases o with
            | none=>rfl
            | some b =>
              show ((b:Int) == (c:Int))=false
              refine beq_eq_false_iff_ne.mpr fun z=>?_
              have:b=c:=by omega
              subst this
              have:=hM.inj j i b w hi
              omega
        · have hst:=Mat.GA hS' hlm hs' hc1 hc2 hcf hi
          have hl2:=kJ kvs' (.inl (c:Int)) (.int (s:Int))
          walk_at "v"
          refine⟨by omega,hN _ ⟨rs'++[i],ks'++[c],_,_,_,by rw[show dN (rs'++[i])=.lst ((rs'.map fun (r:Nat)=>(r:Int)).map L3.D.int++[.int (i:Int)]) from (by show L3.D.lst (((rs'++[i]).map fun (r:Nat)=>(r:Int)).map L3.D.int)=_;rw[List.map_append,List.map_append];rfl)],hst,hDp,by rw[List.length_append];simp only[List.length_cons,List.length_nil];omega,by rw[List.getElem?_append_left (by have:=(List.getElem?_eq_some_iff.mp hs').1;exact this)];exact hs',fun y d hy hd=>?_,fun y d hy hd=>?_,fun d hd=>?_⟩⟩
          · unfold Mat.put
            split
            · simp
            · rename_i hne
              refine hb y d ?_ hd
              by_cases hyx:y=x
              · subst hyx;rw[e] at hd;cases hd;exact absurd rfl hne
              · omega
          · unfold Mat.put
            split
            · rename_i z
              subst z
              have h1:=List.getElem?_eq_some_iff.mp e
              have h2:=List.getElem?_eq_some_iff.mp hd
              have:=(List.getElem_inj hcn).mp (h1.2.trans h2.2.symm)
              omega
            · exact hf y d (by omega) hd
          · unfold Mat.put
            split
            · simp
            · exact hk d hd
      · rw[if_pos (by
          cases w:inD (.int (c:Int)) (ms.map oD) with
          | false=>rfl
          | true=>exact absurd (Hk.mp w) hin)]
        walk_at "v"
        refine⟨ms,_,Mat.put src' c s,rs',row,c,q,n,MkT t,rfl,hDp,Mat.Jq hS'.fo hcf hc1 hc2,⟨hM,fun i hi=>hin ⟨i,hi⟩,⟨s,hs',by unfold Mat.put;rw[if_pos rfl]⟩,fun _ _ _ _=>rfl,fun _=>Iff.rfl⟩,fun ms' hm hd=>?_⟩
        walk_at "go"
        exact hP1 ms' hm hd
    · rintro δ ⟨rs',ks',kvs',src',o8',rfl,hS',hD',hkl',hs',hb,hf,hk⟩
      have hrn':=rsn hS'
      have hq':=(List.getElem?_eq_some_iff.mp hs').1
      walk_at "v"
      refine⟨n - (q+1),by omega,rs',ks',kvs',src',q+1,_,_,_,rfl,by rw[show ((q+1:Nat):Int)=(q:Int)+1 by omega],Mat.Gb hS' hs' fun c hc hm=>?_,hD',hkl',by omega⟩
      by_cases z:src c=none
      · have hmc:c∈cs:=(hmem c).mpr ⟨hc,hm,z⟩
        obtain ⟨y,hy⟩:=List.getElem?_of_mem hmc
        exact hb y c (List.getElem?_eq_some_iff.mp hy).1 hy
      · exact hk c z
  · rename_i hql
    have hql':q=rs.length:=by omega
    subst hql'
    walk_at "v"
    refine⟨by omega,fun ns hp ho=>?_⟩
    obtain ⟨s,rfl,hps⟩:=Mat.Dv hp
    have ho':s.Pairwise (·≤·):=by
      rw[List.pairwise_map] at ho
      exact ho.imp fun h=>by omega
    exact hP2 s (Mat.Dw hSe hps ho')
theorem ED:∀{n:Nat},rM [L3.D.non] n=(List.replicate n none).map oD:=fun {n}=>by
  unfold rM
  induction n with
  | zero=>rfl
  | succ n ih=>rw[List.replicate_succ,List.flatten_cons,ih,List.replicate_succ,List.map_cons];rfl
theorem GZ {p:List Nat}:dM (p.map some)=dN p:=by
  show L3.D.lst ((p.map some).map oD)=L3.D.lst ((p.map fun (r:Nat)=>(r:Int)).map L3.D.int)
  rw[List.map_map,List.map_map];rfl
def gC:DSp:=fun ds P=>∃(t:List (List Int)) (n:Nat),ds=[dT t]∧dH n n t∧1≤n∧n≤8∧(∀p,Mat.Lies n (MkT t) p→P (.tup [.str "dealing",dN p]))∧(∀s,Mat.Short n (MkT t) s→P (.tup [.str "short",dN s]))
theorem rD:bE gC:=by
  intro xs P P' k h
  unfold gC at h ⊢
  grind
theorem sZ:∀ds P,gC ds P→ds.length=1:=by
  intro ds P h
  obtain ⟨_,_,e,_⟩:=h
  rw[e];rfl
theorem uQ {f:Addr}{fd:FuncData} (F:FnAt K mg "dealing_in" dW fh f fd) (A_:Fns K mg) (T:Txt K mg base) {c:Cs} (xs:Exs K mg base c):aM P w K mg base CX0 3 f fd fh (spP K gC):=by
  obtain ⟨f0,d0,E_deal_row⟩:=A_.h_deal_row
  have G_deal_row:aM P w K mg base CX0 2 f0 d0 hX (spI K 1 iT):=zo E_deal_row A_ T xs
  refine F.fn.ok jh (fun vs H Q E h=>aU sZ h) (fun cdv A outer s H vs Q E hr h=>?_)
  refine⟨_,(ak (aI (i:=1) jh.nd rfl (by first | exact Or.inl rfl | exact Or.inr rfl) (ba Fv (iG (af wU aj)) (ax (aR (K:=K) rfl) (by rfl) T.len_ PySem.boot_len (af (pv 0) aj))))
      (ak (gj PassesOwn.never rfl (cI rfl T.range_ (af (ax (aR (K:=K) rfl) (by rfl) T.len_ PySem.boot_len (af (pv 0) aj)) aj)) (aQ (i:=2) jh.nd rfl (by first | exact Or.inl rfl | exact Or.inr rfl)) (ak (aI (i:=3) jh.nd rfl (by first | exact Or.inl rfl | exact Or.inr rfl) (ay G_deal_row (hr.mono (by decide)) rfl E_deal_row.mg E_deal_row.fn.kp E_deal_row.bd .nil bj (af (pv 0) (af (pv 1) (af (pv 2) aj)))))
      (aq (dY (bh (Ab hr.units) (pv 3) (iG aj) (bo _)) (aq (aH (jV (af kq (af (pv 3) aj))))) bA))))
      (aq (aH (jV (af kq (af (pv 1) aj))))))),bq (Γn:=[1]) (N:=me) (ar (ST.post (Γn:=[1]) (bQ (M:=[]) 1 (aA Hf (EM.er (jB (cD wI dw))) (EM.er (bf cP (ah (ES.er (aa 0)) ao))))))
      (ar (fQ (fH (ah (EM.er (bf cP (ah (ES.er (aa 0)) ao))) ao)) (aS 2) (ST.post (Γn:=[1]) (ar (ST.post (Γn:=[3,1]) (GL 1 1 3 uS (GV (vB (aa 0)) (sh 1 (lN (vB (aa 2)) wt)))))
      (ft (aY (EM.er (aA CH (bL 3) (EM.er (jB dw))))) (aJ (M:=[3]) (j0 (gu kd (gu (fC 3) dw)))) br))))
      (aJ (M:=[1]) (j0 (gu kd (gu (fC 1) dw)))))) (fun ds P hS=>?_) h⟩
  obtain ⟨t,n,rfl,hR,hn1,hn8,hP1,hP2⟩:=hS
  have hlt:=hR.1
  rw[show aN me [dT t]=[some (dT t),none,none,none] from rfl]
  walk_at "go"
  rw[hlt,ED]
  refine⟨⟨rfl,by omega,by omega⟩,?_⟩
  walk_at "go"
  refine m7 (fun i δ=>∃(ms:List (Option Nat)) (o2 o3:Option D),δ=[some (dT t),some (dM ms),o2,o3]∧Mat.Mt n (MkT t) ms∧∀j,Mat.Dom ms j↔j<i) ⟨List.replicate n none,none,none,rfl,⟨List.length_replicate,fun i c e=>?_,fun i j c e=>?_⟩,fun j=>⟨fun ⟨c,e⟩=>?_,fun h=>by omega⟩⟩ ?_ ?_
  · rw[List.getElem?_replicate] at e;split at e<;>cases e
  · rw[List.getElem?_replicate] at e;split at e<;>cases e
  · rw[List.getElem?_replicate] at e;split at e<;>cases e
  · rintro i δ N hi ⟨ms,o2,o3,rfl,hM,hd⟩ hN
    have hlm:=hM.len
    walk_at "go"
    rw[Int.zero_add]
    have hnone:ms[i]?=some none:=by
      obtain ⟨o,ho⟩:=Mat.D8 (ms:=ms) (i:=i) (by omega)
      cases o with
      | none=>exact ho
      | some c=>exact absurd ((hd i).mp ⟨c,ho⟩) (by omega)
    refine⟨t,ms,n,i,rfl,hR,hn8,hM,by omega,hnone,fun ms' hm hd'=>?_,fun s hs=>?_⟩
    · walk_at "go"
      refine jb (ys:=[]) ?_
      walk_at "v"
      exact hN _ ⟨ms',_,_,rfl,hm,fun j=>by rw[hd' j,hd j];omega⟩
    · walk_at "go"
      refine jb (ys:=[]) ?_
      walk_at "v"
      rw[if_pos (fun z=>hs.ne (List.map_eq_nil_iff.mp z))]
      walk_at "go"
      exact hP2 s hs
  · rintro δ ⟨ms,o2,o3,rfl,hM,hd⟩
    walk_at "go"
    obtain ⟨p,rfl,hp⟩:=Mat.G7 hM fun i hi=>(hd i).mpr hi
    rw[GZ]
    exact hP1 p hp
def eK:DSp:=fun ds P=>∃t,ds=[dT t]∧t.length≤1000∧P (dT t)
theorem p6:bE eK:=by
  intro xs P P' k h
  unfold eK at h ⊢
  grind
theorem qy:∀ds P,eK ds P→ds.length=1:=by
  intro ds P h
  obtain ⟨_,e,_⟩:=h
  rw[e];rfl
theorem rN {f:Addr}{fd:FuncData} (F:FnAt K mg "copied_table" bV dz f fd) (A_:Fns K mg) (T:Txt K mg base) {c:Cs} (xs:Exs K mg base c):aM P w K mg base CX0 1 f fd dz (spP K eK):=by
  refine F.fn.ok rH (fun vs H Q E h=>aU qy h) (fun cdv A outer s H vs Q E hr h=>?_)
  refine⟨_,(aq (aH (cH (aL.of (sc0:=(ai bV)) (tn:=["row"]) (cap:=[]) (idx:=[]) (by decide +kernel) rfl rfl) (bc (K:=K) rfl (pv 0)) (fI.name (by decide)) (fun _ _ _ _ _=>aQ (i:=0) (aO (l:=["row"]) (by decide +kernel)) rfl (by first | exact Or.inl rfl | exact Or.inr rfl) (by first | exact .inl rfl | exact .inr rfl)) (fun _ _ _ _ _=>(gz (gP (K:=K) rfl) (by rfl) T.list_ boot_list (af (pv 0) aj)))))),bq (Γn:=[]) (N:=kf) (aJ (M:=[]) (bF (bB (aa 0)) (aS 0) (bf ou (ah (ES.er (aa 0)) ao)))) (fun ds P hS=>?_) h⟩
  obtain ⟨t,rfl,hl,hP⟩:=hS
  rw[show aN kf [dT t]=[some (dT t)] from rfl]
  walk_at "v"
  refine vW (t:=t) (fun R h=>h) hl (fun r hr R h=>by walk_at "gb";exact h) ?_
  exact hP
def cG:DSp:=fun ds P=>∃t,ds=[dT t]∧t.length≤1000∧P (dI (t.map List.sum))
theorem kH:bE cG:=by
  intro xs P P' k h
  unfold cG at h ⊢
  grind
theorem qQ:∀ds P,cG ds P→ds.length=1:=by
  intro ds P h
  obtain ⟨_,e,_⟩:=h
  rw[e];rfl
theorem mv {f:Addr}{fd:FuncData} (F:FnAt K mg "sums_of_rows" bX cF f fd) (A_:Fns K mg) (T:Txt K mg base) {c:Cs} (xs:Exs K mg base c):aM P w K mg base CX0 1 f fd cF (spP K cG):=by
  refine F.fn.ok rY (fun vs H Q E h=>aU qQ h) (fun cdv A outer s H vs Q E hr h=>?_)
  refine⟨_,(aq (aH (cH (aL.of (sc0:=(ai bX)) (tn:=["row"]) (cap:=[]) (idx:=[]) (by decide +kernel) rfl rfl) (bc (K:=K) rfl (pv 0)) (fI.name (by decide)) (fun _ _ _ _ _=>aQ (i:=0) (aO (l:=["row"]) (by decide +kernel)) rfl (by first | exact Or.inl rfl | exact Or.inr rfl) (by first | exact .inl rfl | exact .inr rfl)) (fun _ _ _ _ _=>(ax (iZ (K:=K) rfl rfl) (by rfl) T.sum_ boot_sum (af (pv 0) aj)))))),bq (Γn:=[]) (N:=kc) (aJ (M:=[]) (bF (bB (aa 0)) (aS 0) (bf tW (ah (ES.er (aa 0)) ao)))) (fun ds P hS=>?_) h⟩
  obtain ⟨t,rfl,hl,hP⟩:=hS
  rw[show aN kc [dT t]=[some (dT t)] from rfl]
  walk_at "v"
  refine iV (t:=t) (g:=fun r=>.int r.sum) (fun R h=>h) hl (fun r hr R h=>?_) ?_
  · walk_at "gb"
    exact h
  · rw[iM];exact hP
def ie:DSp:=fun ds P=>∃(t:List (List Int)) (j:Nat),ds=[dT t,.int j]∧t.length≤1000∧(∀r∈t,j<r.length)∧P (dI (qX t j))
theorem sE:bE ie:=by
  intro xs P P' k h
  unfold ie at h ⊢
  grind
theorem uV:∀ds P,ie ds P→ds.length=2:=by
  intro ds P h
  obtain ⟨_,_,e,_⟩:=h
  rw[e];rfl
theorem xo {f:Addr}{fd:FuncData} (F:FnAt K mg "column_of" dZ gg f fd) (A_:Fns K mg) (T:Txt K mg base) {c:Cs} (xs:Exs K mg base c):aM P w K mg base CX0 1 f fd gg (spP K ie):=by
  refine F.fn.ok wk (fun vs H Q E h=>aU uV h) (fun cdv A outer s H vs Q E hr h=>?_)
  refine⟨_,(aq (aH (cH (aL.of (sc0:=(ai dZ)) (tn:=["row"]) (cap:=["place"]) (idx:=[1]) (by decide +kernel) rfl rfl) (bc (K:=K) rfl (pv 0)) (fI.name (by decide)) (fun _ _ _ _ _=>aQ (i:=0) (aO (l:=["row","place"]) (by decide +kernel)) rfl (by first | exact Or.inl rfl | exact Or.inr rfl) (by first | exact .inl rfl | exact .inr rfl)) (fun _ _ _ _ _=>(aB (aw (K:=K) rfl) (pv 0) (pv 1) (fun _ _=>rfl)))))),bq (Γn:=[]) (N:=mZ) (aJ (M:=[]) (bF (bB (aa 0)) (aS 0) (ER.aW (ES.er (aX (aa 0) (ES.er (aa 1))))))) (fun ds P hS=>?_) h⟩
  obtain ⟨t,j,rfl,hl,hj,hP⟩:=hS
  rw[show aN mZ [dT t,.int j]=[some (dT t),some (.int j)] from rfl]
  walk_at "v"
  refine iV (t:=t) (g:=fun r=>.int (r.getD j 0)) (fun R h=>h) hl (fun r hr R h=>?_) ?_
  · walk_at "gb"
    have:=hj r hr
    refine aF (by omega) ?_
    rw[Int.toNat_natCast]
    exact⟨rfl,h⟩
  · rw[iM];exact hP
def turned (m:Nat) (t:List (List Int)):List (List Int):=(List.range m).map fun (j:Nat)=>qX t j
def eI:DSp:=fun ds P=>∃(t:List (List Int)) (n m:Nat),ds=[dT t]∧dH n m t∧1≤n∧n≤1000∧m≤1000∧P (dT (turned m t))
theorem pV:bE eI:=by
  intro xs P P' k h
  unfold eI at h ⊢
  grind
theorem qC:∀ds P,eI ds P→ds.length=1:=by
  intro ds P h
  obtain ⟨_,_,_,e,_⟩:=h
  rw[e];rfl
theorem rL {f:Addr}{fd:FuncData} (F:FnAt K mg "turned_table" b7 dC f fd) (A_:Fns K mg) (T:Txt K mg base) {c:Cs} (xs:Exs K mg base c):aM P w K mg base CX0 2 f fd dC (spP K eI):=by
  obtain ⟨f0,d0,E_column_of⟩:=A_.h_column_of
  have G_column_of:aM P w K mg base CX0 1 f0 d0 gg (spP K ie):=xo E_column_of A_ T xs
  refine F.fn.ok rO (fun vs H Q E h=>aU qC h) (fun cdv A outer s H vs Q E hr h=>?_)
  refine⟨_,(aq (aH (cH (aL.of (sc0:=(ai b7)) (tn:=["place"]) (cap:=["table"]) (idx:=[0]) (by decide +kernel) rfl rfl) (cI rfl T.range_ (af (ax (aR (K:=K) rfl) (by rfl) T.len_ PySem.boot_len (af (aB (aw (K:=K) rfl) (pv 0) av (fun _ _=>rfl)) aj)) aj)) (fI.name (by decide)) (fun _ _ _ _ _=>aQ (i:=0) (aO (l:=["place","table"]) (by decide +kernel)) rfl (by first | exact Or.inl rfl | exact Or.inr rfl) (by first | exact .inl rfl | exact .inr rfl)) (fun _ _ _ _ _=>(ay G_column_of (hr.mono (by decide)) rfl E_column_of.mg E_column_of.fn.kp E_column_of.bd .nil bj (af (pv 1) (af (pv 0) aj))))))),bq (Γn:=[]) (N:=jU) (aJ (M:=[]) (bF (fH (ah (EM.er (bf cP (ah (ES.er (aX (aa 0) (EM.er au))) ao))) ao)) (aS 0) (aK (S:=ie) sE (ah (ES.er (aa 1)) (ah (ES.er (aa 0)) ao))))) (fun ds P hS=>?_) h⟩
  obtain ⟨t,n,m,rfl,hR,hn,hn2,hm,hP⟩:=hS
  rw[show aN jU [dT t]=[some (dT t)] from rfl]
  have ht:=hR.1
  have h0:=hR.row (i:=0) (by omega)
  walk_at "v"
  refine jY (lo:=0) (n:=m) (g:=fun (j:Nat)=>dI (qX t j)) (fun R h=>?_) hm (fun j hj R h=>?_) ?_
  · walk_at "v"
    refine fR (by omega) ?_
    walk_at "v"
    rw[h0]
    exact⟨by omega,h⟩
  · walk_at "gb"
    rw[Int.zero_add]
    exact⟨t,j,rfl,by omega,fun r hr=>by rw[hR.2 r hr];exact hj,h⟩
  · rw[zx];exact hP
def cJ:DSp:=fun ds P=>∃(t:List (List Int)) (n m:Nat),ds=[dT t]∧dH n m t∧1≤n∧n≤1000∧m≤1000∧P (dI ((turned m t).map List.sum))
theorem m4:bE cJ:=by
  intro xs P P' k h
  unfold cJ at h ⊢
  grind
theorem nR:∀ds P,cJ ds P→ds.length=1:=by
  intro ds P h
  obtain ⟨_,_,_,e,_⟩:=h
  rw[e];rfl
theorem oM {f:Addr}{fd:FuncData} (F:FnAt K mg "sums_of_columns" bM bZ f fd) (A_:Fns K mg) (T:Txt K mg base) {c:Cs} (xs:Exs K mg base c):aM P w K mg base CX0 3 f fd bZ (spP K cJ):=by
  obtain ⟨f0,d0,E_sums_of_rows⟩:=A_.h_sums_of_rows
  have G_sums_of_rows:aM P w K mg base CX0 1 f0 d0 cF (spP K cG):=mv E_sums_of_rows A_ T xs
  obtain ⟨f1,d1,E_turned_table⟩:=A_.h_turned_table
  have G_turned_table:aM P w K mg base CX0 2 f1 d1 dC (spP K eI):=rL E_turned_table A_ T xs
  refine F.fn.ok oA (fun vs H Q E h=>aU nR h) (fun cdv A outer s H vs Q E hr h=>?_)
  refine⟨_,(aq (aH (ay G_sums_of_rows (hr.mono (by decide)) rfl E_sums_of_rows.mg E_sums_of_rows.fn.kp E_sums_of_rows.bd .nil bj (af (ay G_turned_table (hr.mono (by decide)) rfl E_turned_table.mg E_turned_table.fn.kp E_turned_table.bd .nil bj (af (pv 0) aj)) aj)))),bq (Γn:=[]) (N:=iF) (aJ (M:=[]) (aK (S:=cG) kH (ah (EM.er (aK (S:=eI) pV (ah (ES.er (aa 0)) ao))) ao))) (fun ds P hS=>?_) h⟩
  obtain ⟨t,n,m,rfl,hR,hn,hn2,hm,hP⟩:=hS
  rw[show aN iF [dT t]=[some (dT t)] from rfl]
  walk_at "v"
  refine⟨t,n,m,rfl,hR,hn,hn2,hm,?_⟩
  exact⟨turned m t,rfl,by unfold turned;rw[List.length_map,List.length_range];exact hm,hP⟩
def HH (n m:Nat) (t:List (List Int)):Prop:=n=m∧(∀r∈t,∀x∈r,0≤x)∧1≤(rowAt t 0).sum∧(∀r∈t,r.sum=(rowAt t 0).sum)∧∀j,j<m→(qX t j).sum=(rowAt t 0).sum
theorem FQ {r:List Int}{M:Int} (h1:M∈r) (h2:∀x∈r,M≤x):decide (M<0)=r.any fun x=>decide (x<0):=by
  rw[Bool.eq_iff_iff,decide_eq_true_eq,List.any_eq_true]
  constructor
  · exact fun h=>⟨M,h1,decide_eq_true h⟩
  · rintro ⟨x,hx,h⟩
    have:=h2 x hx
    have:=of_decide_eq_true h
    omega
def jN:DSp:=fun ds P=>∃(t:List (List Int)) (n m:Nat),ds=[dT t]∧dH n m t∧1≤n∧n≤9∧1≤m∧m≤9∧∀b:Bool,(b=true↔HH n m t)→P (.bl b)
theorem wL:bE jN:=by
  intro xs P P' k h
  unfold jN at h ⊢
  grind
theorem yb:∀ds P,jN ds P→ds.length=1:=by
  intro ds P h
  obtain ⟨_,_,_,e,_⟩:=h
  rw[e];rfl
theorem zJ {f:Addr}{fd:FuncData} (F:FnAt K mg "is_even" fB i7 f fd) (A_:Fns K mg) (T:Txt K mg base) {c:Cs} (xs:Exs K mg base c):aM P w K mg base CX0 4 f fd i7 (spP K jN):=by
  obtain ⟨f0,d0,E_sums_of_rows⟩:=A_.h_sums_of_rows
  have G_sums_of_rows:aM P w K mg base CX0 1 f0 d0 cF (spP K cG):=mv E_sums_of_rows A_ T xs
  obtain ⟨f1,d1,E_sums_of_columns⟩:=A_.h_sums_of_columns
  have G_sums_of_columns:aM P w K mg base CX0 3 f1 d1 bZ (spP K cJ):=oM E_sums_of_columns A_ T xs
  refine F.fn.ok tE (fun vs H Q E h=>aU yb h) (fun cdv A outer s H vs Q E hr h=>?_)
  refine⟨_,(ak (dY (bh oj (ax (aR (K:=K) rfl) (by rfl) T.len_ PySem.boot_len (af (aB (aw (K:=K) rfl) (pv 0) av (fun _ _=>rfl)) aj)) (ax (aR (K:=K) rfl) (by rfl) T.len_ PySem.boot_len (af (pv 0) aj)) (bo _)) (aq (aH jF)) bA)
      (ak (dY (gO (ax (Ct (K:=K) rfl rfl) (by rfl) T.any_ boot_any (af (cH (aL.of (sc0:=(ai fB)) (tn:=["row"]) (cap:=[]) (idx:=[]) (by decide +kernel) rfl rfl) (bc (K:=K) rfl (pv 0)) (fI.name (by decide)) (fun _ _ _ _ _=>aQ (i:=0) (aO (l:=["row"]) (by decide +kernel)) rfl (by first | exact Or.inl rfl | exact Or.inr rfl) (by first | exact .inl rfl | exact .inr rfl)) (fun _ _ _ _ _=>(jH sF (ax (qi (K:=K) rfl rfl) (by rfl) T.min_ boot_min (af (pv 0) aj)) av (bo _)))) aj))) (aq (aH jF)) bA)
      (ak (aI (i:=1) tE.nd rfl (by first | exact Or.inl rfl | exact Or.inr rfl) (ba zA (ay G_sums_of_rows (hr.mono (by decide)) rfl E_sums_of_rows.mg E_sums_of_rows.fn.kp E_sums_of_rows.bd .nil bj (af (pv 0) aj)) (ay G_sums_of_columns (hr.mono (by decide)) rfl E_sums_of_columns.mg E_sums_of_columns.fn.kp E_sums_of_columns.bd .nil bj (af (pv 0) aj))))
      (aq (aH (oB (jH HD (aB (aw (K:=K) rfl) (pv 1) av (fun _ _=>rfl)) av (bo _)) (qP (ax (vq (K:=K) rfl rfl) (by rfl) T.all_ boot_all (af (cH (aL.of (sc0:=(ai fB)) (tn:=["number"]) (cap:=["sums"]) (idx:=[1]) (by decide +kernel) rfl rfl) (bc (K:=K) rfl (pv 1)) (fI.name (by decide)) (fun _ _ _ _ _=>aQ (i:=0) (aO (l:=["number","sums"]) (by decide +kernel)) rfl (by first | exact Or.inl rfl | exact Or.inr rfl) (by first | exact .inl rfl | exact .inr rfl)) (fun _ _ _ _ _=>(jH vn (pv 0) (aB (aw (K:=K) rfl) (pv 1) av (fun _ _=>rfl)) (bo _)))) aj))))))))),bq (Γn:=[]) (N:=qk) (ar (ft (aY (EM.er (aA uy (EM.er (bf cP (ah (ES.er (aX (aa 0) (EM.er au))) ao))) (EM.er (bf cP (ah (ES.er (aa 0)) ao)))))) (aJ (M:=[]) kB) br)
      (ar (ft (mU (EM.er (bf Ij (ah (EM.er (bF (bB (aa 0)) (aS 0) (aA kE (EM.er (bf z7 (ah (ES.er (aa 0)) ao))) (EM.er au)))) ao)))) (aJ (M:=[]) kB) br)
      (ar (ST.post (Γn:=[]) (aP 1 (EM.es (aA Hn (EM.er (aK (S:=cG) kH (ah (ES.er (aa 0)) ao))) (EM.er (aK (S:=cJ) m4 (ah (ES.er (aa 0)) ao)))))))
      (aJ (M:=[]) (mn (EM.er (aA kE (ES.er (aX (aa 1) (EM.er au))) (EM.er au))) (bf Dd (ah (EM.er (bF (bB (aa 1)) (aS 0) (aA Ce (ES.er (aa 0)) (ES.er (aX (aa 1) (EM.er au)))))) ao))))))) (fun ds P hS=>?_) h⟩
  obtain ⟨t,n,m,rfl,hR,hn1,hn9,hm1,hm9,hP⟩:=hS
  rw[show aN qk [dT t]=[some (dT t),none] from rfl]
  have hl:=hR.1
  have h0:=hR.row (i:=0) (by omega)
  walk_at "v"
  refine fR (by omega) ?_
  walk_at "v"
  rw[h0,hl]
  split
  · rename_i c
    exact hP false ⟨fun z=>(by cases z),fun z=>absurd (by rw[z.1]:(m:Int)=n) c⟩
  rename_i c
  have emn:n=m:=by omega
  refine iV (t:=t) (g:=fun r=>.bl (r.any fun x=>decide (x<0))) (fun R h=>h) (by omega) (fun r hr R h=>?_) ?_
  · walk_at "gb"
    refine⟨by rw[hR.2 r hr];omega,fun M h1 h2=>?_⟩
    walk_at "gb"
    rw[FQ h1 h2]
    exact h
  rw[Df]
  walk_at "v"
  split
  · rename_i c2
    refine hP false ⟨fun z=>(by cases z),fun z=>?_⟩
    rw[List.any_map,List.any_eq_true] at c2
    obtain ⟨r,hr,h⟩:=c2
    obtain ⟨x,hx,h⟩:=List.any_eq_true.mp h
    have:=z.2.1 r hr x hx
    have:=of_decide_eq_true h
    omega
  rename_i c2
  have nonneg:∀r∈t,∀x∈r,0≤x:=fun r hr x hx=>by
    by_cases h:0≤x
    · exact h
    · refine absurd ?_ c2
      rw[List.any_map,List.any_eq_true]
      exact⟨r,hr,List.any_eq_true.mpr ⟨x,hx,decide_eq_true (by omega)⟩⟩
  refine⟨t,rfl,by omega,?_⟩
  refine⟨t,n,m,rfl,hR,by omega,by omega,by omega,?_⟩
  have hlt:(turned m t).length=m:=by unfold turned;rw[List.length_map,List.length_range]
  walk_at "go"
  refine⟨⟨dJ,dJ,by omega⟩,?_⟩
  rw[EU]
  generalize hs:t.map List.sum++(turned m t).map List.sum=sums
  have hs0:sums.getD 0 0=(rowAt t 0).sum:=by
    rw[← hs,rowAt,List.getD_eq_getElem?_getD,List.getD_eq_getElem?_getD,List.getElem?_append_left (by rw[List.length_map];omega),List.getElem?_map,List.getElem?_eq_getElem (by omega)]
    rfl
  have hsl:sums.length=n+m:=by rw[← hs,List.length_append,List.length_map,List.length_map,hl,hlt]
  refine aF (by omega) ?_
  walk_at "v"
  rw[hs0]
  have all:(∀x∈sums,x=(rowAt t 0).sum)↔(∀r∈t,r.sum=(rowAt t 0).sum)∧∀j,j<m→(qX t j).sum=(rowAt t 0).sum:=by
    rw[← hs]
    constructor
    · intro h
      refine⟨fun r hr=>h _ (List.mem_append_left _ (List.mem_map_of_mem hr)),fun j hj=>h _ (List.mem_append_right _ (List.mem_map.mpr ⟨qX t j,?_,rfl⟩))⟩
      exact List.mem_map.mpr ⟨j,List.mem_range.mpr hj,rfl⟩
    · rintro ⟨h1,h2⟩ x hx
      rcases List.mem_append.mp hx with z | z
      · obtain ⟨r,hr,rfl⟩:=List.mem_map.mp z;exact h1 r hr
      · obtain ⟨r,hr,rfl⟩:=List.mem_map.mp z
        obtain ⟨j,hj,rfl⟩:=List.mem_map.mp hr
        exact h2 j (List.mem_range.mp hj)
  split
  · rename_i c3
    refine jR (ns:=sums) (g:=fun x=>.bl (decide (x=(rowAt t 0).sum))) (fun R h=>h) (by omega) (fun x hx R h=>?_) ?_
    · walk_at "gb"
      refine aF (by omega) ?_
      walk_at "gb"
      rw[hs0]
      exact h
    rw[Df]
    walk_at "v"
    refine hP _ ?_
    rw[List.all_map,List.all_eq_true]
    constructor
    · intro h
      exact⟨emn,nonneg,c3,all.mp fun x hx=>of_decide_eq_true (h x hx)⟩
    · intro h x hx
      exact decide_eq_true (all.mpr h.2.2.2 x hx)
  · rename_i c3
    exact hP false ⟨fun z=>(by cases z),fun z=>absurd z.2.2.1 c3⟩
def eC:DSI:=fun ds P=>∃(t:List (List Int)) (n:Nat) (w:Int) (d:List Int),ds=[dT t,.int w,dI d]∧dH n n t∧n≤8∧d.Perm (iA n)∧∀u,dH n n u→(∀k j:Nat,k<n→j<n→cellAt u k j=cellAt t k j+if d.getD k 0=(j:Int) then w else 0)→P .non (dT u)
theorem lG:qo eC:=by
  intro xs P P' k h
  unfold eC at h ⊢
  grind
theorem mz:∀ds P,eC ds P→ds.length=3:=by
  intro ds P h
  unfold eC at h
  grind
theorem mX {f:Addr}{fd:FuncData} (F:FnAt K mg "add_dealing" cU dq f fd) (A_:Fns K mg) (T:Txt K mg base) {c:Cs} (xs:Exs K mg base c):aM P w K mg base CX0 1 f fd dq (spI K 0 eC):=by
  refine F.fn.ok mI (fun vs H Q E h=>xp mz h) (fun cdv A outer s H vs Q E hr h=>?_)
  refine⟨_,(aq (gj PassesOwn.never rfl (cI rfl T.range_ (af (ax (aR (K:=K) rfl) (by rfl) T.len_ PySem.boot_len (af (pv 2) aj)) aj)) (aQ (i:=3) mI.nd rfl (by first | exact Or.inl rfl | exact Or.inr rfl)) (aq (jz (ba iB (aB (aw (K:=K) rfl) (aB (aw (K:=K) rfl) (pv 0) (pv 3) (fun _ _=>rfl)) (aB (aw (K:=K) rfl) (pv 2) (pv 3) (fun _ _=>rfl)) (fun _ _=>rfl)) (pv 1)) (ka (aB (aw (K:=K) rfl) (pv 0) (pv 3) (fun _ _=>rfl)) (aB (aw (K:=K) rfl) (pv 2) (pv 3) (fun _ _=>rfl)) set_list))))),w8 (Γn:=[0]) (N:=kP) (p:=0) (fQ (fH (ah (EM.er (bf cP (ah (ES.er (aa 2)) ao))) ao)) (aS 3) (zN 0 (wq 0 (aA eE (fF (fF (bL 0) (ES.er (aa 3))) (ES.er (aX (aa 2) (ES.er (aa 3))))) (ES.er (aa 1))) (ES.er (aa 3)) (ES.er (aX (aa 2) (ES.er (aa 3))))))) (fun ds P a x hS hx=>?_) (by decide) (fun ds P h=>by have:=mz ds P h;omega) h⟩
  obtain ⟨t,n,w,d,rfl,hR,n8,hp,hP⟩:=hS
  have hlr:(iA n).length=n:=by unfold iA;rw[List.length_map,List.length_range]
  have hdl:d.length=n:=by rw[hp.length_eq];exact hlr
  cases hx
  simp only[List.set_cons_zero,List.set_cons_succ]
  rw[show aN kP [.pin a (dT t),.int w,dI d]=[some (.pin a (dT t)),some (.int w),some (dI d),none] from rfl]
  walk_at "go"
  refine m7 (fun i δ=>∃(u:List (List Int)) (o3:Option D),δ=[some (.pin a (dT u)),some (.int w),some (dI d),o3]∧dH n n u∧∀k j:Nat,k<n→j<n→cellAt u k j=cellAt t k j+if k<i∧d.getD k 0=(j:Int) then w else 0) ⟨t,none,rfl,hR,fun k j _ _=>by simp⟩ ?_ ?_
  · rintro i δ N hi ⟨u,o3,rfl,hU,hc⟩ hN
    obtain ⟨p1,p2,p3⟩:=wg hp (show i<n by omega)
    have hl:=hU.1
    have hrow:=hU.row (i:=i) (by omega)
    obtain ⟨c,ec⟩:∃c:Nat,d.getD i 0=(c:Int):=⟨(d.getD i 0).toNat,by omega⟩
    walk_at "v"
    rw[Int.zero_add]
    refine wC (t:=u) (a:=(i:Int)) (b:=(c:Int)) (v:=cellAt u i c+w) rfl (fun R h=>?_) (fun R h=>?_) (fun R h=>?_) (by omega) (by rw[Int.toNat_natCast,hrow];omega) ?_
    · walk_at "v"
      refine fR (by omega) ?_
      walk_at "v"
      refine aF (by omega) ?_
      rw[Int.toNat_natCast,ec]
      walk_at "v"
      refine aF (by rw[hrow];omega) ?_
      rw[Int.toNat_natCast]
      walk_at "v"
      exact h
    · walk_at "v";exact h
    · walk_at "v"
      refine aF (by omega) ?_
      rw[Int.toNat_natCast,ec]
      exact h
    rw[Int.toNat_natCast,Int.toNat_natCast]
    walk_at "v"
    refine hN _ ⟨_,_,rfl,hU.setCell (by omega),fun k j hk hj=>?_⟩
    rw[D3 hU (by omega) (by omega)]
    by_cases q:i=k∧c=j
    · obtain ⟨rfl,rfl⟩:=q
      rw[if_pos ⟨rfl,rfl⟩,hc i c hk hj,if_neg (fun z=>by omega),if_pos ⟨by omega,ec⟩]
      omega
    · rw[if_neg q,hc k j hk hj]
      congr 1
      by_cases h1:k<i∧d.getD k 0=(j:Int)
      · rw[if_pos h1,if_pos ⟨by omega,h1.2⟩]
      · rw[if_neg h1,if_neg (fun z=>?_)]
        by_cases z1:k=i
        · subst z1
          rw[ec] at z
          exact q ⟨rfl,by omega⟩
        · exact h1 ⟨by omega,z.2⟩
  · rintro δ ⟨u,o3,rfl,hU,hc⟩
    walk_at "v"
    exact hP u hU fun k j hk hj=>by rw[hc k j hk hj,hdl];simp [hk]
def mk1 (x:Int):Int:=if 0<x then 1 else 0
def gA:DSp:=fun ds P=>∃r,ds=[dI r]∧r.length≤1000∧P (dI (r.map mk1))
theorem rg:bE gA:=by
  intro xs P P' k h
  unfold gA at h ⊢
  grind
theorem sA:∀ds P,gA ds P→ds.length=1:=by
  intro ds P h
  obtain ⟨_,e,_⟩:=h
  rw[e];rfl
theorem uN {f:Addr}{fd:FuncData} (F:FnAt K mg "marked_row" cT eX f fd) (A_:Fns K mg) (T:Txt K mg base) {c:Cs} (xs:Exs K mg base c):aM P w K mg base CX0 1 f fd eX (spP K gA):=by
  refine F.fn.ok uz (fun vs H Q E h=>aU sA h) (fun cdv A outer s H vs Q E hr h=>?_)
  refine⟨_,(aq (aH (cH (aL.of (sc0:=(ai cT)) (tn:=["cell"]) (cap:=[]) (idx:=[]) (by decide +kernel) rfl rfl) (bc (K:=K) rfl (pv 0)) (fI.name (by decide)) (fun _ _ _ _ _=>aQ (i:=0) (aO (l:=["cell"]) (by decide +kernel)) rfl (by first | exact Or.inl rfl | exact Or.inr rfl) (by first | exact .inl rfl | exact .inr rfl)) (fun _ _ _ _ _=>(yl (bh qW (pv 0) av (bo _)) av av))))),bq (Γn:=[]) (N:=mh) (aJ (M:=[]) (bF (bB (aa 0)) (aS 0) (HC (aY (EM.er (aA kE (ES.er (aa 0)) (EM.er au)))) au au))) (fun ds P hS=>?_) h⟩
  obtain ⟨r,rfl,hl,hP⟩:=hS
  rw[show aN mh [dI r]=[some (dI r)] from rfl]
  walk_at "v"
  refine jR (ns:=r) (g:=fun x=>.int (mk1 x)) (fun R h=>h) hl (fun x hx R h=>?_) ?_
  · walk_at "gb"
    unfold mk1 at h
    split
    · rename_i c;rw[if_pos c] at h;exact h
    · rename_i c;rw[if_neg c] at h;exact h
  · rw[iM];exact hP
def i8:DSp:=fun ds P=>∃t:List (List Int),ds=[dT t]∧t.length≤1000∧(∀r∈t,r.length≤1000)∧P (dT (t.map fun r=>r.map mk1))
theorem u3:bE i8:=by
  intro xs P P' k h
  unfold i8 at h ⊢
  grind
theorem wA:∀ds P,i8 ds P→ds.length=1:=by
  intro ds P h
  obtain ⟨_,e,_⟩:=h
  rw[e];rfl
theorem yC {f:Addr}{fd:FuncData} (F:FnAt K mg "marks_of" eY gQ f fd) (A_:Fns K mg) (T:Txt K mg base) {c:Cs} (xs:Exs K mg base c):aM P w K mg base CX0 2 f fd gQ (spP K i8):=by
  obtain ⟨f0,d0,E_marked_row⟩:=A_.h_marked_row
  have G_marked_row:aM P w K mg base CX0 1 f0 d0 eX (spP K gA):=uN E_marked_row A_ T xs
  refine F.fn.ok yw (fun vs H Q E h=>aU wA h) (fun cdv A outer s H vs Q E hr h=>?_)
  refine⟨_,(aq (aH (cH (aL.of (sc0:=(ai eY)) (tn:=["row"]) (cap:=[]) (idx:=[]) (by decide +kernel) rfl rfl) (bc (K:=K) rfl (pv 0)) (fI.name (by decide)) (fun _ _ _ _ _=>aQ (i:=0) (aO (l:=["row"]) (by decide +kernel)) rfl (by first | exact Or.inl rfl | exact Or.inr rfl) (by first | exact .inl rfl | exact .inr rfl)) (fun _ _ _ _ _=>(ay G_marked_row (hr.mono (by decide)) rfl E_marked_row.mg E_marked_row.fn.kp E_marked_row.bd .nil bj (af (pv 0) aj)))))),bq (Γn:=[]) (N:=oy) (aJ (M:=[]) (bF (bB (aa 0)) (aS 0) (aK (S:=gA) rg (ah (ES.er (aa 0)) ao)))) (fun ds P hS=>?_) h⟩
  obtain ⟨t,rfl,hl,h2,hP⟩:=hS
  rw[show aN oy [dT t]=[some (dT t)] from rfl]
  walk_at "v"
  refine iV (t:=t) (g:=fun r=>dI (r.map mk1)) (fun R h=>h) hl (fun r hr R h=>?_) ?_
  · walk_at "gb"
    exact⟨r,rfl,h2 r hr,h⟩
  · rw[show t.map (fun r=>dI (r.map mk1))=(t.map fun r=>r.map mk1).map dI by rw[List.map_map];rfl]
    exact hP
structure JN (n:Nat) (t:List (List Int)) (qs:List Bir.Qd):Prop where
  ne:1≤qs.length
  few:qs.length≤(n - 1)*(n - 1)+1
  ok:∀q∈qs,1≤q.1∧Bir.Pm n q.2.1
  apart:(qs.map fun q=>q.2.1).Nodup
  tab:Tab n (qs.map Bir.mD) t
def gv:DSp:=fun ds P=>∃(t:List (List Int)) (n:Nat) (b:Int),ds=[dT t]∧1≤n∧n≤8∧1≤b∧Bir.Ev n t b∧∀qs,JN n t qs→P (.lst ((qs.map Bir.mD).map dPr))
theorem GB {n:Nat}{t:List (List Int)}{b:Int} (h:Bir.Ev n t b) (hn:1≤n) (hb:1≤b):HH n n t:=by
  have hl:=h.rect.1
  have rs:∀r∈t,r.sum=b:=fun r hr=>by
    obtain ⟨i,hi⟩:=List.getElem?_of_mem hr
    have hi1:=(List.getElem?_eq_some_iff.mp hi).1
    have e:rowAt t i=r:=by unfold rowAt;rw[List.getD_eq_getElem?_getD,hi];rfl
    rw[Bir.DX (h.rect.2 r hr),← h.row i (by omega),← e]
  have h0:(rowAt t 0).sum=b:=rs _ (nF (by omega))
  refine⟨rfl,fun r hr x hx=>?_,by omega,fun r hr=>by rw[h0];exact rs r hr,fun j hj=>?_⟩
  · obtain ⟨i,hi⟩:=List.getElem?_of_mem hr
    obtain ⟨k,hk⟩:=List.getElem?_of_mem hx
    have hi1:=(List.getElem?_eq_some_iff.mp hi).1
    have hk1:=(List.getElem?_eq_some_iff.mp hk).1
    have hrl:=h.rect.2 r hr
    have:=h.nn i k (by omega) (by omega)
    have e:cellAt t i k=x:=by unfold cellAt;rw[List.getD_eq_getElem?_getD (l:=t),hi,Option.getD_some,List.getD_eq_getElem?_getD,hk];rfl
    rw[e] at this;exact this
  · rw[h0,← h.col j hj,Bir.DX (n:=n) (by unfold qX;rw[List.length_map];exact hl)]
    refine Bir.cy fun i hi=>?_
    unfold qX cellAt
    rw[List.getD_eq_getElem?_getD,List.getElem?_map,List.getElem?_eq_getElem (by omega),Option.map_some,Option.getD_some,List.getD_eq_getElem?_getD (l:=t),List.getElem?_eq_getElem (by omega),Option.getD_some]
theorem rG:bE gv:=by
  intro xs P P' k h
  unfold gv at h ⊢
  grind
theorem tT:∀ds P,gv ds P→ds.length=1:=by
  intro ds P h
  obtain ⟨_,_,_,e,_⟩:=h
  rw[e];rfl
theorem uP {f:Addr}{fd:FuncData} (F:FnAt K mg "mixture_of" cS eV f fd) (A_:Fns K mg) (T:Txt K mg base) {c:Cs} (xs:Exs K mg base c):aM P w K mg base CX0 5 f fd eV (spP K gv):=by
  obtain ⟨f0,d0,E_copied_table⟩:=A_.h_copied_table
  have G_copied_table:aM P w K mg base CX0 1 f0 d0 dz (spP K eK):=rN E_copied_table A_ T xs
  obtain ⟨f1,d1,E_is_even⟩:=A_.h_is_even
  have G_is_even:aM P w K mg base CX0 4 f1 d1 i7 (spP K jN):=zJ E_is_even A_ T xs
  obtain ⟨f2,d2,E_add_dealing⟩:=A_.h_add_dealing
  have G_add_dealing:aM P w K mg base CX0 1 f2 d2 dq (spI K 0 eC):=mX E_add_dealing A_ T xs
  obtain ⟨f3,d3,E_dealing_in⟩:=A_.h_dealing_in
  have G_dealing_in:aM P w K mg base CX0 3 f3 d3 fh (spP K gC):=uQ E_dealing_in A_ T xs
  obtain ⟨f4,d4,E_marks_of⟩:=A_.h_marks_of
  have G_marks_of:aM P w K mg base CX0 2 f4 d4 gQ (spP K i8):=yC E_marks_of A_ T xs
  refine F.fn.ok gH (fun vs H Q E h=>aU tT h) (fun cdv A outer s H vs Q E hr h=>?_)
  refine⟨_,(ak (dY (iD (gO (ay G_is_even (hr.mono (by decide)) rfl E_is_even.mg E_is_even.fn.kp E_is_even.bd .nil bj (af (pv 0) aj)))) (aq yX) bA)
      (ak (aI (i:=1) gH.nd rfl (by first | exact Or.inl rfl | exact Or.inr rfl) (ay G_copied_table (hr.mono (by decide)) rfl E_copied_table.mg E_copied_table.fn.kp E_copied_table.bd .nil bj (af (pv 0) aj)))
      (ak (aI (i:=2) gH.nd rfl (by first | exact Or.inl rfl | exact Or.inr rfl) (iG aj))
      (ak (mH PassesOwn.never (bh qW (ax (iZ (K:=K) rfl rfl) (by rfl) T.sum_ boot_sum (af (aB (aw (K:=K) rfl) (pv 1) av (fun _ _=>rfl)) aj)) av (bo _)) (ak (aI (i:=3) gH.nd rfl (by first | exact Or.inl rfl | exact Or.inr rfl) (aB (aZ (K:=K) rfl) (ay G_dealing_in (hr.mono (by decide)) rfl E_dealing_in.mg E_dealing_in.fn.kp E_dealing_in.bd .nil bj (af (ay G_marks_of (hr.mono (by decide)) rfl E_marks_of.mg E_marks_of.fn.kp E_marks_of.bd .nil bj (af (pv 1) aj)) aj)) av (fun _ _=>rfl)))
      (ak (aI (i:=4) gH.nd rfl (by first | exact Or.inl rfl | exact Or.inr rfl) (ax (qi (K:=K) rfl rfl) (by rfl) T.min_ boot_min (af (cH (aL.of (sc0:=(ai cS)) (tn:=["row"]) (cap:=["left","dealing"]) (idx:=[1,3]) (by decide +kernel) rfl rfl) (cI rfl T.range_ (af (ax (aR (K:=K) rfl) (by rfl) T.len_ PySem.boot_len (af (pv 1) aj)) aj)) (fI.name (by decide)) (fun _ _ _ _ _=>aQ (i:=0) (aO (l:=["row","left","dealing"]) (by decide +kernel)) rfl (by first | exact Or.inl rfl | exact Or.inr rfl) (by first | exact .inl rfl | exact .inr rfl)) (fun _ _ _ _ _=>(aB (aw (K:=K) rfl) (aB (aw (K:=K) rfl) (pv 1) (pv 0) (fun _ _=>rfl)) (aB (aw (K:=K) rfl) (pv 2) (pv 0) (fun _ _=>rfl)) (fun _ _=>rfl)))) aj)))
      (ak (iC (ay G_add_dealing (hr.mono (by decide)) rfl E_add_dealing.mg E_add_dealing.fn.kp E_add_dealing.bd .nil bj (af (pv 1) (af (HA C3 (pv 4)) (af (pv 3) aj)))))
      (aq (iC (rf PySem.F.plainAttrs_list PySem.F.slot_list_append PySem.F.type_list_append jS (pv 2) (af (jV (af (pv 4) (af (pv 3) aj))) aj))))))))
      (aq (aH (pv 2))))))),bq (Γn:=[2,1]) (N:=lX) (ar (ft (iJ (mU (EM.er (aK (S:=jN) wL (ah (ES.er (aa 0)) ao))))) xN br)
      (ar (ST.post (Γn:=[1]) (bQ (M:=[]) 1 (aK (S:=eK) p6 (ah (ES.er (aa 0)) ao))))
      (ar (ST.post (Γn:=[2,1]) (bQ (M:=[]) 2 (jB dw)))
      (ar (mY (aY (EM.er (aA kE (EM.er (bf tW (ah (fF (bL 1) (EM.er au)) ao))) (EM.er au)))) (ar (ST.post (Γn:=[3,2,1]) (bQ (M:=[]) 3 (Ew (aK (S:=gC) rD (ah (EM.er (aK (S:=i8) u3 (ah (bL 1) ao))) ao)) (EM.er au))))
      (ar (ST.post (Γn:=[3,2,1]) (aP 4 (EM.es (bf z7 (ah (EM.er (bF (fH (ah (EM.er (bf cP (ah (ES.er (aa 1)) ao))) ao)) (aS 0) (ER.aW (ES.er (aX (aX (aa 1) (ES.er (aa 0))) (ES.er (aX (aa 2) (ES.er (aa 0))))))))) ao)))))
      (ar (ST0.st (qg 1 0 lG (sh 1 (lN (vB (EM.es (Hq Hh (ES.er (aa 4))))) (lN (D4 3) wt)))))
      (ST.post (Γn:=[2,1]) (jO (M:=[3]) 2 (j0 (gu (ER.aW (ES.er (aa 4))) (gu (fC 3) dw)))))))))
      (aJ (M:=[2]) (fC 2)))))) (fun ds P hS=>?_) h⟩
  obtain ⟨t,n,b,rfl,n1,n8,hb,hE,hP⟩:=hS
  have hR:=hE.rect
  have hl:=hR.1
  rw[show aN lX [dT t]=[some (dT t),none,none,none,none] from rfl]
  walk_at "go"
  refine⟨t,n,n,rfl,hR,n1,by omega,n1,by omega,fun bb hbb=>?_⟩
  rw[hbb.mpr (GB hE n1 hb)]
  walk_at "go"
  refine⟨t,rfl,by omega,?_⟩
  walk_at "go"
  have sumB:∀{L:List (List Int)}{c:Int},Bir.Ev n L c→(rowAt L 0).sum=c:=fun {L c} h=>by
    rw[Bir.DX (h.rect.row (by omega)),← h.row 0 (by omega)]
  refine⟨fun m δ=>∃(Lf:List (List Int)) (c:Int) (qs:List Bir.Qd) (o3 o4:Option D),m=c.toNat∧δ=[some (dT t),some (dT Lf),some (.lst ((qs.map Bir.mD).map dPr)),o3,o4]∧Bir.Mo n t Lf c qs∧0≤c∧(c=b∨1≤qs.length),⟨b.toNat,t,b,[],none,none,rfl,rfl,⟨hE,fun q h=>(nomatch h),List.Pairwise.nil,fun k j _ _=>by simp⟩,by omega,.inl rfl⟩,?_⟩
  rintro m δ ⟨Lf,c,qs,o3,o4,rfl,rfl,hM,hc0,hcb⟩
  have hEL:=hM.ev
  have hRL:=hEL.rect
  have hlL:=hRL.1
  have hs0:=sumB hEL
  have hfew:=hM.few n1
  have hn2:(n - 1)*(n - 1)≤7*7:=Nat.mul_le_mul (by omega) (by omega)
  walk_at "v"
  refine fR (by omega) ?_
  walk_at "v"
  rw[hs0]
  split
  · rename_i hc
    refine⟨Lf,rfl,by omega,fun r hr=>by rw[hRL.2 r hr];omega,?_⟩
    have hRm:dH n n (Lf.map fun r=>r.map mk1):=⟨by rw[List.length_map];exact hlL,fun r hr=>by obtain ⟨r',hr',rfl⟩:=List.mem_map.mp hr;rw[List.length_map];exact hRL.2 r' hr'⟩
    have hmk:∀i j:Nat,i<n→j<n→(MkT (Lf.map fun r=>r.map mk1) i j↔0<cellAt Lf i j):=fun i j hi hj=>by
      unfold MkT
      rw[EC hRL hi hj]
      unfold mk1
      split
      · exact⟨fun _=>by assumption,fun _=>rfl⟩
      · exact⟨fun z=>(by cases z),fun z=>by omega⟩
    refine⟨_,n,rfl,hRm,n1,n8,fun p hp=>?_,fun s hs=>?_⟩
    case refine_2 =>
      exfalso
      refine Bir.yg (s:=s) hEL (by omega) ⟨hs.ne,hs.up,hs.lt,?_⟩
      obtain ⟨ks,a1,a2,a3⟩:=hs.few
      exact⟨ks,a1,a2,fun r hr c hc hm=>a3 r hr c hc ((hmk r c (hs.lt r hr) hc).mpr hm)⟩
    have hL:Mat.Lies n (fun i c=>0<cellAt Lf i c) p:=⟨hp.len,fun i c e=>by
      have hi:i<n:=by rw[← hp.len];exact (List.getElem?_eq_some_iff.mp e).1
      obtain ⟨h1,h2⟩:=hp.ok i c e
      exact⟨h1,(hmk i c hi h1).mp h2⟩,hp.nd⟩
    have hpl:=hp.len
    have hPm:=Bir.Pm.AE hL
    walk_at "go"
    refine jY (lo:=0) (n:=n) (g:=fun (i:Nat)=>.int (cellAt Lf i (p.getD i 0))) (fun R h=>?_) (by omega) (fun i hi R h=>?_) ?_
    · walk_at "v";rw[hlL];exact⟨by omega,h⟩
    · obtain ⟨x,ex⟩:∃x,p[i]?=some x:=⟨_,List.getElem?_eq_getElem (by omega)⟩
      have hx:=hPm.lt i x ex
      have e:p.getD i 0=x:=by rw[List.getD_eq_getElem?_getD,ex];rfl
      rw[e] at h
      have hrow:=hRL.row hi
      walk_at "gb"
      rw[Int.zero_add]
      refine fR (by omega) ?_
      rw[Int.toNat_natCast]
      walk_at "gb"
      refine Ho ex ?_
      refine aF (by omega) ?_
      rw[Int.toNat_natCast]
      walk_at "gb"
      exact h
    rw[iM]
    walk_at "go"
    refine⟨by rw[List.length_range];omega,fun w hw1 hw2=>?_⟩
    obtain ⟨i0,hi0,ew⟩:=List.mem_map.mp hw1
    have hi0':=List.mem_range.mp hi0
    obtain ⟨x0,ex0⟩:∃x,p[i0]?=some x:=⟨_,List.getElem?_eq_getElem (by omega)⟩
    have e0:p.getD i0 0=x0:=by rw[List.getD_eq_getElem?_getD,ex0];rfl
    rw[e0] at ew
    have hwall:∀i c:Nat,p[i]?=some c→w≤cellAt Lf i c:=fun i c e=>by
      have hi:i<n:=by rw[← hpl];exact (List.getElem?_eq_some_iff.mp e).1
      refine hw2 _ (List.mem_map.mpr ⟨i,List.mem_range.mpr hi,?_⟩)
      rw[List.getD_eq_getElem?_getD,e];rfl
    have hwpos:0<w:=by rw[← ew];exact (hL.ok i0 x0 ex0).2
    walk_at "go"
    refine⟨Lf,n,-w,_,rfl,hRL,n8,hPm.perm,fun u hU hcu=>?_⟩
    have hcu':∀k j:Nat,k<n→j<n→cellAt u k j=cellAt Lf k j - if p[k]?=some j then w else 0:=fun k j hk hj=>by
      rw[hcu k j hk hj]
      by_cases z:p[k]?=some j
      · rw[if_pos z,if_pos ((Bir.nI (by omega)).mpr z)];omega
      · rw[if_neg z,if_neg fun y=>z ((Bir.nI (by omega)).mp y)];omega
    obtain ⟨r,x,hM'⟩:=hM.step hL ⟨i0,x0,ex0,ew⟩ hwall hU hcu'
    have hcw:0≤c - w:=by
      have:=Bir.xR (m:=n) (f:=cellAt u 0) fun j hj=>hM'.ev.nn 0 j (by omega) hj
      rw[hM'.ev.row 0 (by omega)] at this
      exact this
    walk_at "go"
    refine⟨(c - w).toNat,by omega,u,c - w,qs++[(w,p,r,x)],none,some (.int w),rfl,?_,hM',hcw,.inr (by rw[List.length_append];simp)⟩
    rw[List.map_append,List.map_append]
    rfl
  · rename_i hc
    have hc':c=0:=by omega
    subst hc'
    walk_at "v"
    exact hP qs ⟨by omega,hfew,fun q hq=>⟨(hM.ok q hq).1,(hM.ok q hq).2.1⟩,hM.apart,hM.tab hR⟩
def jQ:DSp:=fun ds P=>∃(w:Int) (d:List Int) (n:Nat),ds=[.tup [.int w,dI d],.int n]∧n≤8∧1≤w∧d.Perm (iA n)∧P (.bl true)
theorem wB:bE jQ:=by
  intro xs P P' k h
  unfold jQ at h ⊢
  grind
theorem yj:∀ds P,jQ ds P→ds.length=2:=by
  intro ds P h
  obtain ⟨_,_,_,e,_⟩:=h
  rw[e];rfl
theorem Ai {f:Addr}{fd:FuncData} (F:FnAt K mg "is_pair" iu i9 f fd) (A_:Fns K mg) (T:Txt K mg base) {c:Cs} (xs:Exs K mg base c):aM P w K mg base CX0 1 f fd i9 (spP K jQ):=by
  refine F.fn.ok zR (fun vs H Q E h=>aU yj h) (fun cdv A outer s H vs Q E hr h=>?_)
  refine⟨_,(aq (aH (oB (jH HD (aB (aZ (K:=K) rfl) (pv 0) av (fun _ _=>rfl)) av (bo _)) (oB (jH vn (ax (aR (K:=K) rfl) (by rfl) T.len_ PySem.boot_len (af (aB (aZ (K:=K) rfl) (pv 0) av (fun _ _=>rfl)) aj)) (pv 1) (bo _)) (qP (jH (qA hr.units) (ax (mf (K:=K) rfl) (by rfl) T.sorted_ boot_sorted (af (aB (aZ (K:=K) rfl) (pv 0) av (fun _ _=>rfl)) aj)) (rd rfl rfl T.list_ rfl T.range_ (pv 1)) (bo _))))))),bq (Γn:=[]) (N:=qT) (aJ (M:=[]) (mn (EM.er (aA kE (ES.er (bK (aa 0) (EM.er au))) (EM.er au))) (mn (EM.er (aA Ce (EM.er (bf cP (ah (ES.er (bK (aa 0) (EM.er au))) ao))) (ES.er (aa 1)))) (aA v7 (EM.er (bf zS (ah (ES.er (bK (aa 0) (EM.er au))) ao))) (EM.er (sV (ES.er (aa 1)))))))) (fun ds P hS=>?_) h⟩
  obtain ⟨w,d,n,rfl,hn,h1,hp,hP⟩:=hS
  have hl:=hp.length_eq
  have hlr:(iA n).length=n:=by unfold iA;rw[List.length_map,List.length_range]
  rw[show aN qT [.tup [.int w,dI d],.int n]=[some (.tup [.int w,dI d]),some (.int n)] from rfl]
  walk_at "go"
  rw[if_pos (by omega),if_pos (by omega)]
  refine⟨by omega,fun ms hm ho=>?_⟩
  rw[tw (hm.trans hp) ho]
  walk_at "go"
  refine jb ?_
  walk_at "go"
  exact hP
def Mix (n:Nat) (ps:List (Int × List Int)):Prop:=1≤n∧n≤8∧1≤ps.length∧ps.length≤200∧∀q∈ps,1≤q.1∧q.2.Perm (iA n)
theorem Mix.len {n:Nat}{ps:List (Int × List Int)} (h:Mix n ps) {q:Int × List Int} (hq:q∈ps):q.2.length=n:=by
  have:=(h.2.2.2.2 q hq).2.length_eq
  rw[this];unfold iA;rw[List.length_map,List.length_range]
theorem Hd {ps:List (Int × List Int)}{P:DK} (h:1≤ps.length) (k:∀q∈ps,P (dPr q)):asO (atI (ps.map dPr) 0) P:=Gz h (.inl rfl) k
def gn:DSp:=fun ds P=>∃(ps:List (Int × List Int)) (n:Nat),ds=[.lst (ps.map dPr)]∧Mix n ps∧P (.bl true)
theorem rl:bE gn:=by
  intro xs P P' k h
  unfold gn at h ⊢
  grind
theorem uk:∀ds P,gn ds P→ds.length=1:=by
  intro ds P h
  obtain ⟨_,_,e,_⟩:=h
  rw[e];rfl
theorem u4 {f:Addr}{fd:FuncData} (F:FnAt K mg "is_mixture" cR fj f fd) (A_:Fns K mg) (T:Txt K mg base) {c:Cs} (xs:Exs K mg base c):aM P w K mg base CX0 2 f fd fj (spP K gn):=by
  obtain ⟨f0,d0,E_is_pair⟩:=A_.h_is_pair
  have G_is_pair:aM P w K mg base CX0 1 f0 d0 i9 (spP K jQ):=Ai E_is_pair A_ T xs
  refine F.fn.ok n0 (fun vs H Q E h=>aU uk h) (fun cdv A outer s H vs Q E hr h=>?_)
  refine⟨_,(ak (dY (bh (qA hr.units) (pv 0) (iG aj) (bo _)) (aq (aH jF)) bA)
      (ak (aI (i:=1) n0.nd rfl (by first | exact Or.inl rfl | exact Or.inr rfl) (ax (aR (K:=K) rfl) (by rfl) T.len_ PySem.boot_len (af (aB (aZ (K:=K) rfl) (aB (aw (K:=K) rfl) (pv 0) av (fun _ _=>rfl)) av (fun _ _=>rfl)) aj)))
      (aq (aH (oB (sT zt zt av (pv 1) (FU (v:=.int 8) rfl T.MOST_.choose_spec ⟨_,rfl⟩)) (qP (ax (vq (K:=K) rfl rfl) (by rfl) T.all_ boot_all (af (cH (aL.of (sc0:=(ai cR)) (tn:=["pair"]) (cap:=["many"]) (idx:=[1]) (by decide +kernel) rfl rfl) (bc (K:=K) rfl (pv 0)) (fI.name (by decide)) (fun _ _ _ _ _=>aQ (i:=0) (aO (l:=["pair","many"]) (by decide +kernel)) rfl (by first | exact Or.inl rfl | exact Or.inr rfl) (by first | exact .inl rfl | exact .inr rfl)) (fun _ _ _ _ _=>(ay G_is_pair (hr.mono (by decide)) rfl E_is_pair.mg E_is_pair.fn.kp E_is_pair.bd .nil bj (af (pv 0) (af (pv 1) aj))))) aj)))))))),bq (Γn:=[]) (N:=mi) (ar (ft (aY (EM.er (aA v7 (ES.er (aa 0)) (EM.er (jB dw))))) (aJ (M:=[]) kB) br)
      (ar (ST.post (Γn:=[]) (aP 1 (EM.es (bf cP (ah (ES.er (bK (aX (aa 0) (EM.er au)) (EM.er au))) ao)))))
      (aJ (M:=[]) (mn (EM.er (sN kE kE (EM.er au) (ES.er (aa 1)) (EM.er au))) (bf Dd (ah (EM.er (bF (bB (aa 0)) (aS 0) (aK (S:=jQ) wB (ah (ES.er (aa 0)) (ah (ES.er (aa 1)) ao))))) ao)))))) (fun ds P hS=>?_) h⟩
  obtain ⟨ps,n,rfl,hM,hP⟩:=hS
  obtain ⟨n1,n8,p1,p2,hq⟩:=id hM
  rw[show aN mi [.lst (ps.map dPr)]=[some (.lst (ps.map dPr)),none] from rfl]
  walk_at "go"
  refine zZ (qs:=[]) ?_
  walk_at "v"
  rw[if_neg (fun z=>by rw[z] at p1;exact absurd p1 (by decide))]
  refine Hd p1 fun q hq0=>?_
  walk_at "go"
  rw[hM.len hq0,if_pos (by omega)]
  walk_at "go"
  rw[if_pos (by omega)]
  refine mJ (as:=ps) (f:=dPr) (p:=fun _=>true) (g:=fun _=>.bl true) (fun R h=>h) (by omega) (fun q' hq' R h=>?_) ?_
  · walk_at "gb"
    exact⟨q'.1,q'.2,n,rfl,n8,(hq q' hq').1,(hq q' hq').2,h⟩
  rw[show (ps.filter fun _=>true)=ps from List.filter_eq_self.mpr fun _ _=>rfl,show ps.map (fun _=>L3.D.bl true)=(ps.map fun _=>true).map L3.D.bl by rw[List.map_map];rfl]
  walk_at "v"
  rw[show ((ps.map fun _=>true).all id)=true by rw[List.all_map];exact List.all_eq_true.mpr fun _ _=>rfl]
  exact hP
def jM:DSp:=fun ds P=>∃(ps:List (Int × List Int)) (n:Nat),ds=[.lst (ps.map dPr)]∧Mix n ps∧∀t,Tab n ps t→P (dT t)
theorem xq:bE jM:=by
  intro xs P P' k h
  unfold jM at h ⊢
  grind
theorem x5:∀ds P,jM ds P→ds.length=1:=by
  intro ds P h
  obtain ⟨_,_,e,_⟩:=h
  rw[e];rfl
theorem zQ {f:Addr}{fd:FuncData} (F:FnAt K mg "told_by" gr jc f fd) (A_:Fns K mg) (T:Txt K mg base) {c:Cs} (xs:Exs K mg base c):aM P w K mg base CX0 3 f fd jc (spP K jM):=by
  obtain ⟨f0,d0,E_is_mixture⟩:=A_.h_is_mixture
  have G_is_mixture:aM P w K mg base CX0 2 f0 d0 fj (spP K gn):=u4 E_is_mixture A_ T xs
  obtain ⟨f1,d1,E_add_dealing⟩:=A_.h_add_dealing
  have G_add_dealing:aM P w K mg base CX0 1 f1 d1 dq (spI K 0 eC):=mX E_add_dealing A_ T xs
  refine F.fn.ok lT (fun vs H Q E h=>aU x5 h) (fun cdv A outer s H vs Q E hr h=>?_)
  refine⟨_,(ak (dY (iD (gO (ay G_is_mixture (hr.mono (by decide)) rfl E_is_mixture.mg E_is_mixture.fn.kp E_is_mixture.bd .nil bj (af (pv 0) aj)))) (aq yX) bA)
      (ak (aI (i:=1) lT.nd rfl (by first | exact Or.inl rfl | exact Or.inr rfl) (ax (aR (K:=K) rfl) (by rfl) T.len_ PySem.boot_len (af (aB (aZ (K:=K) rfl) (aB (aw (K:=K) rfl) (pv 0) av (fun _ _=>rfl)) av (fun _ _=>rfl)) aj)))
      (ak (lI (i:=2) (aL.of (sc0:=(ai gr)) (tn:=["row"]) (cap:=["many"]) (idx:=[1]) (by decide +kernel) rfl rfl) lT.nd rfl (by first | exact Or.inl rfl | exact Or.inr rfl) (cI rfl T.range_ (af (pv 1) aj)) (fI.name (by decide)) (fun _ _ _ _ _=>aQ (i:=0) (aO (l:=["row","many"]) (by decide +kernel)) rfl (by first | exact Or.inl rfl | exact Or.inr rfl) (by first | exact .inl rfl | exact .inr rfl)) (fun _ _ _ _ _=>(ba Fv (iG (af av aj)) (pv 1))))
      (ak (gj PassesOwn.never rfl (bc (K:=K) rfl (pv 0)) (aQ (i:=3) lT.nd rfl (by first | exact Or.inl rfl | exact Or.inr rfl)) (aq (iC (ay G_add_dealing (hr.mono (by decide)) rfl E_add_dealing.mg E_add_dealing.fn.kp E_add_dealing.bd .nil bj (af (pv 2) (af (aB (aZ (K:=K) rfl) (pv 3) av (fun _ _=>rfl)) (af (aB (aZ (K:=K) rfl) (pv 3) av (fun _ _=>rfl)) aj)))))))
      (aq (aH (pv 2))))))),bq (Γn:=[2]) (N:=qH) (ar (ft (iJ (mU (EM.er (aK (S:=gn) rl (ah (ES.er (aa 0)) ao))))) xN br)
      (ar (ST.post (Γn:=[]) (aP 1 (EM.es (bf cP (ah (ES.er (bK (aX (aa 0) (EM.er au)) (EM.er au))) ao)))))
      (ar (ST.post (Γn:=[2]) (bQ (M:=[]) 2 (bF (fH (ah (ES.er (aa 1)) ao)) (aS 0) (aA Hf (EM.er (jB (cD au dw))) (ES.er (aa 1))))))
      (ar (fQ (bB (aa 0)) (aS 3) (ST0.st (qg 2 0 lG (sh 2 (lN (vB (bK (aa 3) (EM.er au))) (lN (vB (bK (aa 3) (EM.er au))) wt))))))
      (aJ (M:=[2]) (fC 2)))))) (fun ds P hS=>?_) h⟩
  obtain ⟨ps,n,rfl,hM,hP⟩:=hS
  obtain ⟨n1,n8,p1,p2,hq⟩:=id hM
  rw[show aN qH [.lst (ps.map dPr)]=[some (.lst (ps.map dPr)),none,none,none] from rfl]
  walk_at "go"
  refine⟨ps,n,rfl,hM,?_⟩
  walk_at "go"
  refine Hd p1 fun q hq0=>?_
  walk_at "go"
  rw[hM.len hq0]
  refine jY (lo:=0) (n:=n) (g:=fun _=>dI (List.replicate n 0)) (fun R h=>?_) (by omega) (fun i hi R h=>?_) ?_
  · walk_at "go";exact h
  · walk_at "gb"
    rw[Fb]
    exact⟨⟨rfl,by omega,by omega⟩,h⟩
  rw[zx]
  walk_at "go"
  have h0:dH n n ((List.range n).map fun _=>List.replicate n (0:Int)):=⟨by rw[List.length_map,List.length_range],fun r hr=>by
    obtain ⟨_,_,rfl⟩:=List.mem_map.mp hr
    exact List.length_replicate⟩
  have c0:∀k j:Nat,k<n→j<n→cellAt ((List.range n).map fun _=>List.replicate n (0:Int)) k j=0:=fun k j hk hj=>by
    unfold cellAt
    rw[List.getD_eq_getElem?_getD (l:=(List.range n).map _),List.getElem?_map,List.getElem?_range hk,Option.map_some,Option.getD_some,List.getD_eq_getElem?_getD,List.getElem?_replicate,if_pos hj];rfl
  refine eG (as:=ps) (f:=dPr) (fun i δ=>∃(t:List (List Int)) (o3:Option D),δ=[some (.lst (ps.map dPr)),some (.int n),some (dT t),o3]∧Tab n (ps.take i) t) ⟨_,none,rfl,h0,fun k j hk hj=>by rw[c0 k j hk hj,List.take_zero];rfl⟩ ?_ ?_
  · rintro i q' δ N e ⟨t,o3,rfl,hT⟩ hN
    have hq':=hq q' (List.mem_of_getElem? e)
    walk_at "go"
    refine⟨t,n,q'.1,q'.2,rfl,hT.1,n8,hq'.2,fun u hU hc=>?_⟩
    walk_at "v"
    refine hN _ ⟨u,_,rfl,?_⟩
    rw[List.take_add_one,e]
    exact hT.snoc hU hc
  · rintro δ ⟨t,o3,rfl,hT⟩
    rw[List.take_length] at hT
    walk_at "v"
    exact hP t hT
def bR:DSp:=fun ds P=>∃(ns:List Int) (j:Nat),ds=[.scr ns,.int j]∧P (.int (ns.getD j 0))
theorem A0 {ns:List Int}{x:Int}{P:DK} (h0:0≤x) (h:P (.int (ns.getD x.toNat 0))):bR [.scr ns,.int x] P:=⟨ns,x.toNat,by rw[Int.toNat_of_nonneg h0],h⟩
theorem lC:bE bR:=by
  intro xs P P' k h
  unfold bR at h ⊢
  grind
theorem rK:∀ds P,bR ds P→ds.length=2:=by
  intro ds P h
  obtain ⟨_,_,e,_⟩:=h
  rw[e];rfl
theorem nh {f:Addr}{fd:FuncData} (F:FnAt K mg "_law_cell_at" df du f fd) (A_:Fns K mg) (T:Txt K mg base) {c:Cs} (xs:Exs K mg base c):aM P w K mg base CX0 1 f fd du (spP K bR):=by
  refine F.fn.ok tP (fun vs H Q E h=>aU rK h) (fun cdv A outer s H vs Q E hr h=>?_)
  refine⟨_,(ak (dY (bh sF (pv 1) (ax (aR (K:=K) rfl) (by rfl) T.len_ PySem.boot_len (af (pv 0) aj)) (bo _)) (aq (aH (aB (aw (K:=K) rfl) (pv 0) (pv 1) (fun _ _=>rfl)))) bA)
      (aq (aH av))),bq (Γn:=[]) (N:=kY) (ar (ft (aY (EM.er (aA kE (ES.er (aa 1)) (EM.er (bf cP (ah (ES.er (aa 0)) ao)))))) (aJ (M:=[]) (ER.aW (ES.er (aX (aa 0) (ES.er (aa 1)))))) br)
      (aJ (M:=[]) au)) (fun ds P hS=>?_) h⟩
  obtain ⟨ns,j,rfl,hP⟩:=hS
  rw[show aN kY [.scr ns,.int j]=[some (.scr ns),some (.int j)] from rfl]
  walk_at "v"
  split
  · rename_i c
    rw[Hl (by omega) c,tQ,Int.toNat_natCast]
    exact⟨rfl,hP⟩
  · rename_i c
    have e:ns.getD j 0=0:=by rw[List.getD_eq_getElem?_getD,List.getElem?_eq_none (by omega)];rfl
    rw[e] at hP
    exact hP
def eM:DSp:=fun ds P=>∃i,ds=[.int i]∧P (.bl true)
theorem ni:bE eM:=by
  intro xs P P' k h
  unfold eM at h ⊢
  grind
theorem uR:∀ds P,eM ds P→ds.length=1:=by
  intro ds P h
  obtain ⟨_,e,_⟩:=h
  rw[e];rfl
theorem p5 {f:Addr}{fd:FuncData} (F:FnAt K mg "_law_whole" eN eS f fd) (A_:Fns K mg) (T:Txt K mg base) {c:Cs} (xs:Exs K mg base c):aM P w K mg base CX0 1 f fd eS (spP K eM):=by
  refine F.fn.ok xB (fun vs H Q E h=>aU uR h) (fun cdv A outer s H vs Q E hr h=>?_)
  refine⟨_,(aq (aH (oB (ax (eg (K:=K) rfl) (by rfl) T.isinstance_ boot_isinstance (af (pv 0) (af (kI (v:=.ty "int") rfl T.int_ boot_int rfl) aj))) (qP (DW (ax (eg (K:=K) rfl) (by rfl) T.isinstance_ boot_isinstance (af (pv 0) (af (kI (v:=.ty "bool") rfl T.bool_ boot_bool rfl) aj)))))))),bq (Γn:=[]) (N:=nq) (aJ (M:=[]) (mn (EM.er (iz Aw (ES.er (aa 0)))) (BC (EM.er (iz yK (ES.er (aa 0))))))) (fun ds P hS=>?_) h⟩
  obtain ⟨i,rfl,hP⟩:=hS
  rw[show aN nq [.int i]=[some (.int i)] from rfl]
  walk_at "v"
  exact hP
def i6:DSp:=fun ds P=>∃ns,ds=[.scr ns]∧ns.length≤63∧∀xs:List Int,1≤xs.length→xs.length≤8→(∀x∈xs,x.natAbs≤40000)→P (dI xs)
theorem uL:bE i6:=by
  intro xs P P' k h
  obtain ⟨ns,e,h1,h⟩:=h
  exact⟨ns,e,h1,fun xs a b d=>k _ (h xs a b d)⟩
theorem wM:∀ds P,i6 ds P→ds.length=1:=by
  intro ds P h
  obtain ⟨_,e,_⟩:=h
  rw[e];rfl
theorem x3 {f:Addr}{fd:FuncData} (F:FnAt K mg "_law_tops" fb gX f fd) (A_:Fns K mg) (T:Txt K mg base) {c:Cs} (xs:Exs K mg base c):aM P w K mg base CX0 2 f fd gX (spP K i6):=by
  obtain ⟨f0,d0,E_law_cell_at⟩:=A_.h_law_cell_at
  have G_law_cell_at:aM P w K mg base CX0 1 f0 d0 du (spP K bR):=nh E_law_cell_at A_ T xs
  refine F.fn.ok ik (fun vs H Q E h=>aU wM h) (fun cdv A outer s H vs Q E hr h=>?_)
  refine⟨_,(ak (aI (i:=1) ik.nd rfl (by first | exact Or.inl rfl | exact Or.inr rfl) (ba iN (ba nO (ba iN (ay G_law_cell_at (hr.mono (by decide)) rfl E_law_cell_at.mg E_law_cell_at.fn.kp E_law_cell_at.bd .nil bj (af (pv 0) (af av aj))) av) av) av))
      (ak (aI (i:=2) ik.nd rfl (by first | exact Or.inl rfl | exact Or.inr rfl) (ba iB av (ba iN (pv 1) av)))
      (ak (lI (i:=3) (aL.of (sc0:=(ai fb)) (tn:=["_law_k"]) (cap:=[]) (idx:=[]) (by decide +kernel) rfl rfl) ik.nd rfl (by first | exact Or.inl rfl | exact Or.inr rfl) (cI rfl T.range_ (af (pv 2) aj)) (fI.name (by decide)) (fun _ _ _ _ _=>aQ (i:=0) (aO (l:=["_law_k"]) (by decide +kernel)) rfl (by first | exact Or.inl rfl | exact Or.inr rfl) (by first | exact .inl rfl | exact .inr rfl)) (fun _ _ _ _ _=>av))
      (ak (gj PassesOwn.never rfl (bc (K:=K) rfl (j6 (ke (K:=K) rfl) (pv 0) (jG av) (jG av))) (aQ (i:=4) ik.nd rfl (by first | exact Or.inl rfl | exact Or.inr rfl)) (ak (aI (i:=5) ik.nd rfl (by first | exact Or.inl rfl | exact Or.inr rfl) (ba iN (pv 4) (pv 2)))
      (aq (jz (ba iE (ba iB (aB (aw (K:=K) rfl) (pv 3) (pv 5) (fun _ _=>rfl)) (ba iN (ba iO (pv 4) (pv 2)) av)) av) (ka (pv 3) (pv 5) set_list)))))
      (aq (aH (pv 3))))))),bq (Γn:=[3]) (N:=oK) (ar (ST.post (Γn:=[]) (aP 1 (EM.es (aA bW (EM.er (aA bW (EM.er (aA bW (EM.er (aK (S:=bR) lC (ah (ES.er (aa 0)) (ah (EM.er au) ao)))) (EM.er au))) (EM.er au))) (EM.er au)))))
      (ar (ST.post (Γn:=[]) (aP 2 (EM.es (aA eE (EM.er au) (EM.er (aA bW (ES.er (aa 1)) (EM.er au)))))))
      (ar (ST.post (Γn:=[3]) (bQ (M:=[]) 3 (bF (fH (ah (ES.er (aa 2)) ao)) (aS 0) au)))
      (ar (fQ (bB (EM.es (tV (ES.er (aa 0)) (or_some (EM.er au)) (or_some (EM.er au))))) (aS 4) (ar (ST.post (Γn:=[3]) (aP 5 (EM.es (aA bW (ES.er (aa 4)) (ES.er (aa 2))))))
      (ff 3 (aA eE (EM.er (aA eE (fF (bL 3) (ES.er (aa 5))) (EM.er (aA bW (EM.er (aA bW (ES.er (aa 4)) (ES.er (aa 2)))) (EM.er au))))) (EM.er au)) (ES.er (aa 5)))))
      (aJ (M:=[3]) (fC 3)))))) (fun ds P hS=>?_) h⟩
  obtain ⟨ns,rfl,hz,hP⟩:=hS
  rw[show aN oK [.scr ns]=[some (.scr ns),none,none,none,none,none] from rfl]
  walk_at "go"
  refine A0 (by omega) ?_
  have q1:=emod_lt (x:=ns.getD (0:Int).toNat 0) (n:=2147483647) (by omega)
  walk_at "go"
  generalize ns.getD 0 0 % 2147483647*48271 % 2147483647=y
  have h5:=emod_lt (x:=y) (n:=5) (by omega)
  obtain ⟨m,em⟩:∃m:Nat,(1+y % 5:Int)=m:=⟨(1+y % 5).toNat,by omega⟩
  have m1:1≤m:=by omega
  have m8:m≤8:=by omega
  rw[em]
  refine jY (lo:=0) (n:=m) (g:=fun (_:Nat)=>.int 0) (fun R h=>?_) (by omega) (fun j hj R h=>?_) ?_
  · walk_at "go"
    exact h
  · walk_at "gb"
    exact h
  · have e:(List.range m).map (fun _=>L3.D.int 0)=((List.range m).map fun _=>(0:Int)).map L3.D.int:=iM
    rw[e]
    obtain ⟨ms,em2,hm⟩:=nv (ns:=ns) (lo:=some 2) (hi:=some 202)
    rw[em2]
    refine⟨dJ,?_⟩
    refine eG (as:=ms) (f:=L3.D.int) (fun i δ=>∃(xs:List Int) (o4 o5:Option D),δ=[some (.scr ns),some (.int y),some (.int m),some (dI xs),o4,o5]∧xs.length=m∧∀x∈xs,(x.natAbs:Int)≤500*(i:Int)) ⟨_,none,none,rfl,by rw[List.length_map,List.length_range],fun x hx=>by obtain ⟨_,_,rfl⟩:=List.mem_map.mp hx;decide⟩ ?_ ?_
    · rintro i a δ N e ⟨xs,o4,o5,rfl,hx,hb⟩ hN
      walk_at "go"
      have h:=emod_lt (x:=a) (n:=(m:Int)) (by omega)
      refine fi (r:=xs) (a:=a % m) (v:=xs.getD (a % m).toNat 0+a / m % 1000 - 500) rfl (fun R h'=>?_) (fun R h'=>?_) (by omega) ?_
      · walk_at "go"
        refine aF (by omega) ?_
        walk_at "go"
        exact h'
      · walk_at "v"
        exact h'
      · walk_at "v"
        refine hN _ ⟨_,_,_,rfl,by rw[List.length_set];exact hx,fun x hx'=>?_⟩
        have h18:=emod_lt (x:=a / m) (n:=1000) (by decide)
        have hg:((xs.getD (a % m).toNat 0).natAbs:Int)≤500*(i:Int):=by
          rw[List.getD_eq_getElem?_getD,List.getElem?_eq_getElem (by omega),Option.getD_some]
          exact hb _ (List.getElem_mem _)
        rcases List.mem_or_eq_of_mem_set hx' with z | z
        · have:=hb x z
          omega
        · rw[z]
          omega
    · rintro δ ⟨xs,o4,o5,rfl,hx,hb⟩
      walk_at "v"
      have hml:ms.length≤63:=by rw[hm,List.length_take,List.length_drop];omega
      refine hP xs (by omega) (by omega) fun x hx=>?_
      have:=hb x hx
      omega
theorem wO {B:Nat}{xs:List Int}{i:Nat} (h:∀x∈xs,x.natAbs≤B):(xs.getD i 0).natAbs≤B:=by
  rw[List.getD_eq_getElem?_getD]
  cases e:xs[i]? with
  | none=>exact Nat.zero_le _
  | some v=>exact h v (List.mem_of_getElem? e)
theorem Hb {B:Nat}{xs:List Int}{g k:Nat}{b:Int} (h:∀x∈xs,x.natAbs≤B) (hne:g≠k) (b0:0≤b) (b1:b≤xs.getD g 0 - xs.getD k 0):∀x∈Maj.bw xs g k b,x.natAbs≤B:=fun x hx=>by
  have h1:=wO (i:=g) h
  have h2:=wO (i:=k) h
  have e1:∀y∈xs.set g (xs.getD g 0 - b),y.natAbs≤B:=fun y hy=>by
    rcases List.mem_or_eq_of_mem_set hy with z | z
    · exact h y z
    · rw[z];omega
  unfold Maj.bw at hx
  rcases List.mem_or_eq_of_mem_set hx with z | z
  · exact e1 x z
  · rw[z,Maj.fL hne]
    omega
theorem FO {xs ys:List Int} (h:xs.Perm ys):Maj.Le xs ys:=fun k hk=>by
  obtain ⟨m,hm,hc,hs⟩:=Maj.yJ hk
  obtain ⟨m',h1,h2,h3⟩:=Maj.qD h m hm
  have:=Maj.w6 h1
  rw[h3,h2,hs,hc] at this
  exact this
def cO:DSp:=fun ds P=>∃(xs ms:List Int) (t:Int) (B:Nat),ds=[dI xs,dI ms,.int t]∧ms.length≤63∧1≤xs.length∧xs.length≤8∧(∀x∈xs,x.natAbs≤B)∧B≤1000000∧∀ys:List Int,ys.length=xs.length→ys.sum=xs.sum→Maj.Le ys xs→(∀y∈ys,y.natAbs≤B)→P (dI ys)
theorem jX:bE cO:=by
  intro xs P P' k h
  obtain ⟨x,ns,t,B,e,h1,h2,h3,h4,h5,h⟩:=h
  exact⟨x,ns,t,B,e,h1,h2,h3,h4,h5,fun ys a b d f=>k _ (h ys a b d f)⟩
theorem pU:∀ds P,cO ds P→ds.length=3:=by
  intro ds P h
  obtain ⟨_,_,_,_,e,_⟩:=h
  rw[e];rfl
theorem qp {f:Addr}{fd:FuncData} (F:FnAt K mg "_law_more_even" b9 cN f fd) (A_:Fns K mg) (T:Txt K mg base) {c:Cs} (xs:Exs K mg base c):aM P w K mg base CX0 1 f fd cN (spP K cO):=by
  refine F.fn.ok cu (fun vs H Q E h=>aU pU h) (fun cdv A outer s H vs Q E hr h=>?_)
  refine⟨_,(ak (aI (i:=3) cu.nd rfl (by first | exact Or.inl rfl | exact Or.inr rfl) (gz (gP (K:=K) rfl) (by rfl) T.list_ boot_list (af (pv 0) aj)))
      (ak (gj PassesOwn.never rfl (bc (K:=K) rfl (j6 (ke (K:=K) rfl) (pv 1) oW (jG av))) (aQ (i:=4) cu.nd rfl (by first | exact Or.inl rfl | exact Or.inr rfl)) (ak (aI (i:=5) cu.nd rfl (by first | exact Or.inl rfl | exact Or.inr rfl) (ba iN (ba iO (pv 4) av) (ax (aR (K:=K) rfl) (by rfl) T.len_ PySem.boot_len (af (pv 0) aj))))
      (ak (aI (i:=6) cu.nd rfl (by first | exact Or.inl rfl | exact Or.inr rfl) (ba iN (ba iO (pv 4) av) (ax (aR (K:=K) rfl) (by rfl) T.len_ PySem.boot_len (af (pv 0) aj))))
      (aq (dY (bh qW (aB (aw (K:=K) rfl) (pv 3) (pv 5) (fun _ _=>rfl)) (aB (aw (K:=K) rfl) (pv 3) (pv 6) (fun _ _=>rfl)) (bo _)) (ak (aI (i:=7) cu.nd rfl (by first | exact Or.inl rfl | exact Or.inr rfl) (ba iB av (ba iN (ba iO (pv 4) av) (ba iE (aB (aw (K:=K) rfl) (pv 3) (pv 5) (fun _ _=>rfl)) (aB (aw (K:=K) rfl) (pv 3) (pv 6) (fun _ _=>rfl))))))
      (ak (jz (ba iE (aB (aw (K:=K) rfl) (pv 3) (pv 5) (fun _ _=>rfl)) (pv 7)) (ka (pv 3) (pv 5) set_list))
      (aq (jz (ba iB (aB (aw (K:=K) rfl) (pv 3) (pv 6) (fun _ _=>rfl)) (pv 7)) (ka (pv 3) (pv 6) set_list))))) bA)))))
      (ak (aI (i:=2) cu.nd rfl (by first | exact Or.inl rfl | exact Or.inr rfl) (ba iN (pv 2) (ax (aR (K:=K) rfl) (by rfl) T.len_ PySem.boot_len (af (pv 0) aj))))
      (aq (aH (ba zA (j6 (ke (K:=K) rfl) (pv 3) (jG (pv 2)) oW) (j6 (ke (K:=K) rfl) (pv 3) oW (jG (pv 2))))))))),bq (Γn:=[3]) (N:=jy) (ar (ST.post (Γn:=[3]) (bQ (M:=[]) 3 (bf ou (ah (ES.er (aa 0)) ao))))
      (ar (fQ (bB (EM.es (tV (ES.er (aa 1)) or_none (or_some (EM.er au))))) (aS 4) (ar (ST.post (Γn:=[3]) (aP 5 (EM.es (aA bW (EM.er (aA bW (ES.er (aa 4)) (EM.er au))) (EM.er (bf cP (ah (ES.er (aa 0)) ao)))))))
      (ar (ST.post (Γn:=[3]) (aP 6 (EM.es (aA bW (EM.er (aA bW (ES.er (aa 4)) (EM.er au))) (EM.er (bf cP (ah (ES.er (aa 0)) ao)))))))
      (ft (aY (EM.er (aA kE (fF (bL 3) (ES.er (aa 5))) (fF (bL 3) (ES.er (aa 6)))))) (ar (ST.post (Γn:=[3]) (aP 7 (EM.es (aA eE (EM.er au) (EM.er (aA bW (EM.er (aA bW (ES.er (aa 4)) (EM.er au))) (EM.er (aA eE (fF (bL 3) (ES.er (aa 5))) (fF (bL 3) (ES.er (aa 6)))))))))))
      (ar (ff 3 (aA eE (fF (bL 3) (ES.er (aa 5))) (ES.er (aa 7))) (ES.er (aa 5)))
      (ff 3 (aA eE (fF (bL 3) (ES.er (aa 6))) (ES.er (aa 7))) (ES.er (aa 6))))) br))))
      (ar (ST.post (Γn:=[3]) (aP 2 (EM.es (aA bW (ES.er (aa 2)) (EM.er (bf cP (ah (ES.er (aa 0)) ao)))))))
      (aJ (M:=[]) (aA Hn (EM.er (tV (bL 3) (or_some (ES.er (aa 2))) or_none)) (EM.er (tV (bL 3) or_none (or_some (ES.er (aa 2)))))))))) (fun ds P hS=>?_) h⟩
  obtain ⟨xs,ms,t,B,rfl,hz,h1,h8,hb,hB,hP⟩:=hS
  rw[show aN jy [dI xs,dI ms,.int t]=[some (dI xs),some (dI ms),some (.int t),none,none,none,none,none] from rfl]
  walk_at "go"
  obtain ⟨cs,em2,hm⟩:=nv (ns:=ms) (lo:=none) (hi:=some 200)
  rw[em2]
  have hml:cs.length≤63:=by rw[hm,List.length_take,List.length_drop];omega
  refine eG (as:=cs) (f:=L3.D.int) (fun i δ=>∃(ys:List Int) (o4 o5 o6 o7:Option D),δ=[some (dI xs),some (dI ms),some (.int t),some (dI ys),o4,o5,o6,o7]∧ys.length=xs.length∧ys.sum=xs.sum∧Maj.Le ys xs∧∀y∈ys,y.natAbs≤B) ⟨xs,none,none,none,none,rfl,rfl,rfl,Maj.Le.refl,hb⟩ ?_ ?_
  · rintro i a δ N e ⟨ys,o4,o5,o6,o7,rfl,hl,hs,hle,hy⟩ hN
    walk_at "go"
    have a1:=emod_lt (x:=a / 3) (n:=(xs.length:Int)) (by omega)
    have a2:=emod_lt (x:=a / 24) (n:=(xs.length:Int)) (by omega)
    generalize a / 3 % (xs.length:Int)=g at *
    generalize a / 24 % (xs.length:Int)=k at *
    refine aF (by omega) (aF (by omega) ?_)
    walk_at "go"
    split
    · rename_i c
      walk_at "go"
      refine aF (by omega) (aF (by omega) ?_)
      have d0:0<ys.getD g.toNat 0 - ys.getD k.toNat 0:=by omega
      have dm:=emod_lt (x:=a / 192) (n:=ys.getD g.toNat 0 - ys.getD k.toNat 0) d0
      walk_at "go"
      obtain ⟨b,hb'⟩:∃b,1+a / 192 % (ys.getD g.toNat 0 - ys.getD k.toNat 0)=b:=⟨_,rfl⟩
      rw[hb']
      have hne:g.toNat≠k.toNat:=fun z=>by rw[z] at c;exact absurd c (by omega)
      refine fi (r:=ys) (a:=g) (v:=ys.getD g.toNat 0 - b) rfl (fun R h'=>?_) (fun R h'=>?_) (by omega) ?_
      · walk_at "v"
        refine aF (by omega) ?_
        walk_at "v"
        exact h'
      · walk_at "v"
        exact h'
      walk_at "v"
      refine fi (r:=ys.set g.toNat (ys.getD g.toNat 0 - b)) (a:=k) (v:=(ys.set g.toNat (ys.getD g.toNat 0 - b)).getD k.toNat 0+b) rfl (fun R h'=>?_) (fun R h'=>?_) (by rw[List.length_set];omega) ?_
      · walk_at "v"
        refine aF (by rw[List.length_set];omega) ?_
        walk_at "v"
        exact h'
      · walk_at "v"
        exact h'
      walk_at "v"
      exact hN _ ⟨Maj.bw ys g.toNat k.toNat b,_,_,_,_,rfl,by rw[Maj.mP];exact hl,by rw[Maj.Dh (by omega) (by omega) hne];exact hs,Maj.Le.trans (Maj.GQ (by omega) (by omega) hne (by omega) (by omega)) hle (by rw[Maj.mP]),Hb hy hne (by omega) (by omega)⟩
    · exact hN _ ⟨ys,_,_,_,_,rfl,hl,hs,hle,hy⟩
  · rintro δ ⟨ys,o4,o5,o6,o7,rfl,hl,hs,hle,hy⟩
    walk_at "go"
    have a1:=emod_lt (x:=t) (n:=(xs.length:Int)) (by omega)
    rw[B5 (by omega) (by rw[List.length_map];omega),Gk (by omega),← List.map_drop,← List.map_take]
    refine⟨⟨dJ,dJ,by rw[List.length_map,List.length_map,List.length_drop,List.length_take];omega⟩,?_⟩
    rw[EU]
    have pm:(ys.drop (t % (xs.length:Int)).toNat++ys.take (t % (xs.length:Int)).toNat).Perm ys:=by
      refine List.perm_append_comm.trans ?_
      rw[List.take_append_drop]
    refine hP _ ?_ ?_ (Maj.Le.trans (FO pm) hle (by rw[pm.length_eq])) fun y h=>hy y (pm.mem_iff.mp h)
    · rw[pm.length_eq];exact hl
    · rw[List.sum_append,Int.add_comm,← List.sum_append,List.take_append_drop];exact hs
def iH:DSp:=fun ds P=>∃(ms:List Int) (m:Nat) (b:Int),ds=[dI ms,.int m,.int b]∧1≤ms.length∧ms.length≤63∧m≤100∧0<b∧b<2 ^ 100∧∀xs:List Int,xs.length=m→(∀x∈xs,0≤x∧x<b)→P (dI xs)
theorem rT:bE iH:=by
  intro xs P P' k h
  obtain ⟨ms,m,b,e,h1,h2,h3,h4,h5,h⟩:=h
  exact⟨ms,m,b,e,h1,h2,h3,h4,h5,fun xs a d=>k _ (h xs a d)⟩
theorem sG:∀ds P,iH ds P→ds.length=3:=by
  intro ds P h
  obtain ⟨_,_,_,e,_⟩:=h
  rw[e];rfl
theorem uI {f:Addr}{fd:FuncData} (F:FnAt K mg "_law_digits" dU eU f fd) (A_:Fns K mg) (T:Txt K mg base) {c:Cs} (xs:Exs K mg base c):aM P w K mg base CX0 1 f fd eU (spP K iH):=by
  refine F.fn.ok gL (fun vs H Q E h=>aU sG h) (fun cdv A outer s H vs Q E hr h=>?_)
  refine⟨_,(ak (aI (i:=3) gL.nd rfl (by first | exact Or.inl rfl | exact Or.inr rfl) (gz (gP (K:=K) rfl) (by rfl) T.list_ boot_list (af (pv 0) aj)))
      (ak (aI (i:=4) gL.nd rfl (by first | exact Or.inl rfl | exact Or.inr rfl) (iG aj))
      (ak (gj PassesOwn.never rfl (cI rfl T.range_ (af (pv 1) aj)) (aQ (i:=5) gL.nd rfl (by first | exact Or.inl rfl | exact Or.inr rfl)) (ak (aI (i:=6) gL.nd rfl (by first | exact Or.inl rfl | exact Or.inr rfl) (ba iN (pv 5) (ax (aR (K:=K) rfl) (by rfl) T.len_ PySem.boot_len (af (pv 3) aj))))
      (ak (iC (rf PySem.F.plainAttrs_list PySem.F.slot_list_append PySem.F.type_list_append jS (pv 4) (af (ba iN (aB (aw (K:=K) rfl) (pv 3) (pv 6) (fun _ _=>rfl)) (pv 2)) aj)))
      (aq (jz (ba iO (aB (aw (K:=K) rfl) (pv 3) (pv 6) (fun _ _=>rfl)) (pv 2)) (ka (pv 3) (pv 6) set_list))))))
      (aq (aH (pv 4)))))),bq (Γn:=[4,3]) (N:=md) (ar (ST.post (Γn:=[3]) (bQ (M:=[]) 3 (bf ou (ah (ES.er (aa 0)) ao))))
      (ar (ST.post (Γn:=[4,3]) (bQ (M:=[]) 4 (jB dw)))
      (ar (fQ (fH (ah (ES.er (aa 1)) ao)) (aS 5) (ar (ST.post (Γn:=[4,3]) (aP 6 (EM.es (aA bW (ES.er (aa 5)) (EM.er (bf cP (ah (bL 3) ao)))))))
      (ar (ST.post (Γn:=[4,3]) (jO (M:=[]) 4 (aA bW (fF (bL 3) (ES.er (aa 6))) (ES.er (aa 2)))))
      (ff 3 (aA bW (fF (bL 3) (ES.er (aa 6))) (ES.er (aa 2))) (ES.er (aa 6))))))
      (aJ (M:=[4]) (fC 4))))) (fun ds P hS=>?_) h⟩
  obtain ⟨ms,m,b,rfl,h1,h63,hm,b0,b1,hP⟩:=hS
  rw[show aN md [dI ms,.int m,.int b]=[some (dI ms),some (.int m),some (.int b),none,none,none,none] from rfl]
  walk_at "go"
  refine m7 (fun i δ=>∃(left xs:List Int) (o5 o6:Option D),δ=[some (dI ms),some (.int m),some (.int b),some (dI left),some (dI xs),o5,o6]∧left.length=ms.length∧xs.length=i∧∀x∈xs,0≤x∧x<b) ⟨ms,[],none,none,rfl,rfl,rfl,fun _ h=>nomatch h⟩ ?_ ?_
  · rintro i δ N hi ⟨left,xs,o5,o6,rfl,hl,hx,hb⟩ hN
    walk_at "go"
    have h:=emod_lt (x:=0+(i:Int)) (n:=(left.length:Int)) (by omega)
    refine aF (by omega) ?_
    walk_at "go"
    refine fi (r:=left) (a:=(0+(i:Int)) % left.length) (v:=left.getD ((0+(i:Int)) % left.length).toNat 0 / b) rfl (fun R h'=>?_) (fun R h'=>h') (by omega) ?_
    · walk_at "v"
      refine aF (by omega) ?_
      walk_at "v"
      exact⟨⟨b0,100,by omega,by decide⟩,h'⟩
    · walk_at "v"
      rw[AH]
      refine hN _ ⟨_,_,_,_,rfl,by rw[List.length_set];exact hl,by rw[List.length_append,hx];rfl,fun x hx'=>?_⟩
      rcases List.mem_append.mp hx' with z | z
      · exact hb x z
      · rw[List.mem_singleton.mp z]
        exact emod_lt b0
  · rintro δ ⟨left,xs,o5,o6,rfl,hl,hx,hb⟩
    walk_at "v"
    exact hP xs hx hb
theorem Hw {B:Nat}{xs:List Int} (h:∀x∈xs,x.natAbs≤B) (hB:B≤1000000):Bk 98 xs:=fun j=>Nat.lt_of_le_of_lt (Nat.le_trans (wO h) hB) (by decide)
theorem ET {di:DI}{dg:D→Dl→(Dl→Prop)→Prop}{dt:DT}{de:DE}{k:Nat}{idx:List Nat}{δ:Dl}{P:DK} (h:di δ fun ds=>mx (fun _ R=>R ds) dg dt de k idx δ P):mx di dg dt de k idx δ P:=h
def ll:DSp:=fun ds P=>∃ns,ds=[.scr ns]∧ns.length≤63∧∀xs ys:List Int,1≤xs.length→xs.length≤8→ys.length=xs.length→ys.sum=xs.sum→Maj.Le ys xs→Bk 98 xs→Bk 98 ys→P (.lst [dI xs,dI ys])
theorem xb:bE ll:=by
  intro xs P P' k h
  obtain ⟨ns,e,h1,h⟩:=h
  exact⟨ns,e,h1,fun xs ys a b d f g i j=>k _ (h xs ys a b d f g i j)⟩
theorem x4:∀ds P,ll ds P→ds.length=1:=by
  intro ds P h
  obtain ⟨_,e,_⟩:=h
  rw[e];rfl
theorem Af {f:Addr}{fd:FuncData} (F:FnAt K mg "_law_two" gy iX f fd) (A_:Fns K mg) (T:Txt K mg base) {c:Cs} (xs:Exs K mg base c):aM P w K mg base CX0 3 f fd iX (spR K ll):=by
  obtain ⟨f0,d0,E_law_tops⟩:=A_.h_law_tops
  have G_law_tops:aM P w K mg base CX0 2 f0 d0 gX (spP K i6):=x3 E_law_tops A_ T xs
  obtain ⟨f1,d1,E_law_more_even⟩:=A_.h_law_more_even
  have G_law_more_even:aM P w K mg base CX0 1 f1 d1 cN (spP K cO):=qp E_law_more_even A_ T xs
  obtain ⟨f2,d2,E_law_cell_at⟩:=A_.h_law_cell_at
  have G_law_cell_at:aM P w K mg base CX0 1 f2 d2 du (spP K bR):=nh E_law_cell_at A_ T xs
  obtain ⟨f3,d3,E_law_digits⟩:=A_.h_law_digits
  have G_law_digits:aM P w K mg base CX0 1 f3 d3 eU (spP K iH):=uI E_law_digits A_ T xs
  refine F.fn.ok oF (fun vs H Q E h=>Ay x4 h) (fun cdv A outer s H vs Q E hr h=>?_)
  refine⟨_,(ak (dY (PW.pt (Dy (bh qW (ax (aR (K:=K) rfl) (by rfl) T.len_ PySem.boot_len (af (pv 0) aj)) av (bo _)) (AJ (bh vn (ba iN (aB (aw (K:=K) rfl) (pv 0) av (fun _ _=>rfl)) av) av (bo _))))) (ak (lI (i:=1) (aL.of (sc0:=(ai gy)) (tn:=["_law_digit"]) (cap:=[]) (idx:=[]) (by decide +kernel) rfl rfl) oF.nd rfl (by first | exact Or.inl rfl | exact Or.inr rfl) (bc (K:=K) rfl (ay G_law_digits (hr.mono (by decide)) rfl E_law_digits.mg E_law_digits.fn.kp E_law_digits.bd .nil bj (af (j6 (ke (K:=K) rfl) (pv 0) (jG av) (jG av)) (af (ba iB av (ba iN (ba iO (aB (aw (K:=K) rfl) (pv 0) av (fun _ _=>rfl)) av) av)) (af av aj))))) (fI.name (by decide)) (fun _ _ _ _ _=>aQ (i:=0) (aO (l:=["_law_digit"]) (by decide +kernel)) rfl (by first | exact Or.inl rfl | exact Or.inr rfl) (by first | exact .inl rfl | exact .inr rfl)) (fun _ _ _ _ _=>(ba iE (pv 0) av)))
      (aq (aH (iG (af (pv 1) (af (ay G_law_more_even (hr.mono (by decide)) rfl E_law_more_even.mg E_law_more_even.fn.kp E_law_more_even.bd .nil bj (af (pv 1) (af (j6 (ke (K:=K) rfl) (pv 0) (jG av) oW) (af (ba iO (aB (aw (K:=K) rfl) (pv 0) av (fun _ _=>rfl)) av) aj)))) aj)))))) bA)
      (ak (aI (i:=1) oF.nd rfl (by first | exact Or.inl rfl | exact Or.inr rfl) (ay G_law_tops (hr.mono (by decide)) rfl E_law_tops.mg E_law_tops.fn.kp E_law_tops.bd .nil bj (af (pv 0) aj)))
      (aq (aH (iG (af (pv 1) (af (ay G_law_more_even (hr.mono (by decide)) rfl E_law_more_even.mg E_law_more_even.fn.kp E_law_more_even.bd .nil bj (af (pv 1) (af (j6 (ke (K:=K) rfl) (pv 0) (jG av) oW) (af (ay G_law_cell_at (hr.mono (by decide)) rfl E_law_cell_at.mg E_law_cell_at.fn.kp E_law_cell_at.bd .nil bj (af (pv 0) (af av aj))) aj)))) aj))))))),Bf (Γn:=[]) (N:=qJ) (ar (ft (Fd (aY (EM.er (aA kE (EM.er (bf cP (ah (ES.er (aa 0)) ao))) (EM.er au)))) (aY (EM.er (aA Ce (EM.er (aA bW (ES.er (aX (aa 0) (EM.er au))) (EM.er au))) (EM.er au))))) (ar (ST.post (Γn:=[]) (aP 1 (EM.es (bF (bB (EM.es (aK (S:=iH) rT (ah (EM.er (tV (ES.er (aa 0)) (or_some (EM.er au)) (or_some (EM.er au)))) (ah (EM.er (aA eE (EM.er au) (EM.er (aA bW (EM.er (aA bW (ES.er (aX (aa 0) (EM.er au))) (EM.er au))) (EM.er au))))) (ah (EM.er au) ao)))))) (aS 0) (aA eE (ES.er (aa 0)) (EM.er au))))))
      (w5 (FE (ah (ES.er (aa 1)) (ah (EM.er (aK (S:=cO) jX (ah (ES.er (aa 1)) (ah (EM.er (tV (ES.er (aa 0)) (or_some (EM.er au)) or_none)) (ah (EM.er (aA bW (ES.er (aX (aa 0) (EM.er au))) (EM.er au))) ao))))) ao))))) br)
      (ar (ST.post (Γn:=[]) (aP 1 (EM.es (aK (S:=i6) uL (ah (ES.er (aa 0)) ao)))))
      (w5 (FE (ah (ES.er (aa 1)) (ah (EM.er (aK (S:=cO) jX (ah (ES.er (aa 1)) (ah (EM.er (tV (ES.er (aa 0)) (or_some (EM.er au)) or_none)) (ah (EM.er (aK (S:=bR) lC (ah (ES.er (aa 0)) (ah (EM.er au) ao)))) ao))))) ao)))))) (fun ds P hS=>?_) h⟩
  obtain ⟨ns,rfl,hz,hP⟩:=hS
  rw[show aN qJ [.scr ns]=[some (.scr ns),none] from rfl]
  have fin:∀(B:Nat) (xs ys:List Int),B≤1000000→1≤xs.length→xs.length≤8→(∀x∈xs,x.natAbs≤B)→ys.length=xs.length→ys.sum=xs.sum→Maj.Le ys xs→(∀y∈ys,y.natAbs≤B)→P (.lst [dI xs,dI ys]):=fun B xs ys hB h1 h8 hx a b d h=>hP xs ys h1 h8 a b d (Hw hx hB) (Hw h hB)
  have rest:i6 [L3.D.scr ns] (fun x=>(List.map L3.D.int ns).all L3.D.aW=true∧bR [L3.D.scr ns,L3.D.int 1] fun x_1=>cO [x,L3.D.lst (L3.cutD (List.map L3.D.int ns) (some 2) none),x_1] fun x_2=>0+1+1≤1000∧P (L3.D.lst [x,x_2])):=by
    refine⟨ns,rfl,hz,fun xs h1 h8 hb=>⟨dJ,?_⟩⟩
    obtain ⟨ms,em,hm⟩:=nv (ns:=ns) (lo:=some 2) (hi:=none)
    rw[em]
    refine A0 (by omega) ?_
    exact⟨xs,ms,_,40000,rfl,by rw[hm,List.length_take,List.length_drop];omega,h1,h8,hb,by omega,fun ys a b d h=>⟨by decide,fin 40000 xs ys (by omega) h1 h8 hb a b d h⟩⟩
  walk_at "go"
  split
  · refine aF (by omega) ?_
    walk_at "go"
    split
    · obtain ⟨x,hx⟩:∃x,ns.getD (0:Int).toNat 0=x:=⟨_,rfl⟩
      have h5:=emod_lt (x:=x / 2) (n:=5) (by omega)
      obtain ⟨m,em⟩:∃m:Nat,(1+x / 2 % 5:Int)=m:=⟨(1+x / 2 % 5).toNat,by omega⟩
      obtain ⟨cs,ec,hc⟩:=nv (ns:=ns) (lo:=some 1) (hi:=some 6)
      have lc:1≤cs.length∧cs.length≤63:=by
        rw[hc,List.length_take,List.length_drop,show (some (1:Int))=some ((1:Nat):Int) from rfl,show (some (6:Int))=some ((6:Nat):Int) from rfl,HT.su,HT.su]
        omega
      refine ET ?_
      walk_at "go"
      rw[ec]
      refine aF (by omega) ?_
      rw[hx]
      walk_at "go"
      rw[em]
      refine⟨cs,m,1001,rfl,lc.1,lc.2,by omega,by decide,by decide,fun ds ld hd=>?_⟩
      walk_at "go"
      refine jR (ns:=ds) (g:=fun z=>.int (z - 500)) (fun R h=>h) (by omega) (fun z hz R h=>?_) ?_
      · walk_at "gb"
        exact h
      rw[show ds.map (fun z=>L3.D.int (z - 500))=(ds.map fun z=>z - 500).map L3.D.int from iM]
      refine⟨dJ,?_⟩
      refine aF (by omega) ?_
      walk_at "go"
      obtain ⟨ms,em3,hm⟩:=nv (ns:=ns) (lo:=some 6) (hi:=none)
      rw[em3]
      have hb:∀y∈ds.map fun z=>z - 500,y.natAbs≤501:=fun y hy=>by
        obtain ⟨v,hv,rfl⟩:=List.mem_map.mp hy
        have:=hd v hv
        omega
      have l1:1≤(ds.map fun z=>z - 500).length:=by rw[List.length_map];omega
      have l8:(ds.map fun z=>z - 500).length≤8:=by rw[List.length_map];omega
      exact⟨_,ms,_,501,rfl,by rw[hm,List.length_take,List.length_drop];omega,l1,l8,hb,by omega,fun ys a b d h=>⟨by decide,fin 501 _ ys (by omega) l1 l8 hb a b d h⟩⟩
    · exact rest
  · exact rest
def fu:DSp:=fun ds P=>∃(d:List Int) (n:Nat),ds=[dI d,.int n]∧n≤8∧d.Perm (iA n)∧P (.bl true)
theorem ql:bE fu:=by
  intro xs P P' k h
  unfold fu at h ⊢
  grind
theorem rq:∀ds P,fu ds P→ds.length=2:=by
  intro ds P h
  obtain ⟨_,_,e,_⟩:=h
  rw[e];rfl
theorem tF {f:Addr}{fd:FuncData} (F:FnAt K mg "_law_dealing" cX ek f fd) (A_:Fns K mg) (T:Txt K mg base) {c:Cs} (xs:Exs K mg base c):aM P w K mg base CX0 2 f fd ek (spP K fu):=by
  obtain ⟨f0,d0,E_law_whole⟩:=A_.h_law_whole
  have G_law_whole:aM P w K mg base CX0 1 f0 d0 eS (spP K eM):=p5 E_law_whole A_ T xs
  refine F.fn.ok nc (fun vs H Q E h=>aU rq h) (fun cdv A outer s H vs Q E hr h=>?_)
  refine⟨_,(ak (dY (PW.pt (oq (iD (gO (ax (eg (K:=K) rfl) (by rfl) T.isinstance_ boot_isinstance (af (pv 0) (af (kI (v:=.ty "list") rfl T.list_ boot_list rfl) aj))))) (oE (bh oj (ax (aR (K:=K) rfl) (by rfl) T.len_ PySem.boot_len (af (pv 0) aj)) (pv 1) (bo _))))) (aq (aH jF)) bA)
      (ak (gj PassesOwn.never rfl (bc (K:=K) rfl (pv 0)) (aQ (i:=2) nc.nd rfl (by first | exact Or.inl rfl | exact Or.inr rfl)) (aq (dY (iD (gO (ay G_law_whole (hr.mono (by decide)) rfl E_law_whole.mg E_law_whole.fn.kp E_law_whole.bd .nil bj (af (pv 2) aj)))) (aq (aH jF)) bA)))
      (aq (aH (jH (qA hr.units) (ax (mf (K:=K) rfl) (by rfl) T.sorted_ boot_sorted (af (pv 0) aj)) (rd rfl rfl T.list_ rfl T.range_ (pv 1)) (bo _)))))),bq (Γn:=[]) (N:=kS) (ar (ft (nX (iJ (mU (EM.er (iz yI (ES.er (aa 0)))))) (aY (EM.er (aA uy (EM.er (bf cP (ah (ES.er (aa 0)) ao))) (ES.er (aa 1)))))) (aJ (M:=[]) kB) br)
      (ar (fQ (bB (aa 0)) (aS 2) (ft (iJ (mU (EM.er (aK (S:=eM) ni (ah (ES.er (aa 2)) ao))))) (aJ (M:=[]) kB) br))
      (aJ (M:=[]) (aA v7 (EM.er (bf zS (ah (ES.er (aa 0)) ao))) (EM.er (sV (ES.er (aa 1)))))))) (fun ds P hS=>?_) h⟩
  obtain ⟨d,n,rfl,n8,hp,hP⟩:=hS
  have hl:=hp.length_eq
  have hlr:(iA n).length=n:=by unfold iA;rw[List.length_map,List.length_range]
  rw[show aN kS [dI d,.int n]=[some (dI d),some (.int n),none] from rfl]
  walk_at "go"
  rw[if_neg (by omega)]
  refine eG (as:=d) (f:=L3.D.int) (fun i δ=>∃(o2:Option D),δ=[some (dI d),some (.int n),o2]) ⟨none,rfl⟩ ?_ ?_
  · rintro i a δ N e ⟨o2,rfl⟩ hN
    walk_at "go"
    refine⟨_,rfl,?_⟩
    walk_at "go"
    exact hN _ ⟨_,rfl⟩
  · rintro δ ⟨o2,rfl⟩
    walk_at "go"
    refine fun ms hm ho=>?_
    rw[tw (hm.trans hp) ho]
    walk_at "go"
    refine jb ?_
    walk_at "go"
    exact hP
def KsT (kvs:List (List Key × V)) (ps:List (List Nat)):Prop:=∀p:List Nat,(gS kvs (nA (p.map fun (r:Nat)=>(r:Int)))).isSome=true↔p∈ps
theorem FG {p q:List Nat} (h:nA (p.map fun (r:Nat)=>(r:Int))=nA (q.map fun (r:Nat)=>(r:Int))):p=q:=by
  unfold nA at h
  rw[List.map_map,List.map_map] at h
  refine List.map_inj_right (fun a b z=>?_) |>.mp h
  have:(a:Int)=(b:Int):=Sum.inl.inj z
  omega
theorem KsT.put {kvs:List (List Key × V)}{ps:List (List Nat)} (h:KsT kvs ps) (p:List Nat) (v:V):KsT (putK kvs (nA (p.map fun (r:Nat)=>(r:Int))) v) (ps++[p]):=fun d=>by
  rw[yP,List.mem_append,List.mem_singleton]
  by_cases z:d=p
  · subst z;rw[if_pos rfl];simp
  · rw[if_neg (fun q=>z (FG q)),h d];simp [z]
theorem KsT.nil:KsT [] []:=fun c=>⟨fun h=>(nomatch h),fun h=>(nomatch h)⟩
def ij:DSp:=fun ds P=>∃(qs:List Bir.Qd) (n:Nat),ds=[.lst ((qs.map Bir.mD).map dPr),.int n]∧1≤n∧n≤8∧qs.length≤(n - 1)*(n - 1)+1∧(∀q∈qs,1≤q.1∧Bir.Pm n q.2.1)∧(qs.map fun q=>q.2.1).Nodup∧P (.bl true)
theorem sR:bE ij:=by
  intro xs P P' k h
  unfold ij at h ⊢
  grind
theorem uD:∀ds P,ij ds P→ds.length=2:=by
  intro ds P h
  obtain ⟨_,_,e,_⟩:=h
  rw[e];rfl
theorem xy {f:Addr}{fd:FuncData} (F:FnAt K mg "_law_pairs" eO fV f fd) (A_:Fns K mg) (T:Txt K mg base) {c:Cs} (xs:Exs K mg base c):aM P w K mg base CX0 3 f fd fV (spP K ij):=by
  obtain ⟨f0,d0,E_law_whole⟩:=A_.h_law_whole
  have G_law_whole:aM P w K mg base CX0 1 f0 d0 eS (spP K eM):=p5 E_law_whole A_ T xs
  obtain ⟨f1,d1,E_law_dealing⟩:=A_.h_law_dealing
  have G_law_dealing:aM P w K mg base CX0 2 f1 d1 ek (spP K fu):=tF E_law_dealing A_ T xs
  refine F.fn.ok lQ (fun vs H Q E h=>aU uD h) (fun cdv A outer s H vs Q E hr h=>?_)
  refine⟨_,(ak (dY (PW.pt (oq (iD (gO (ax (eg (K:=K) rfl) (by rfl) T.isinstance_ boot_isinstance (af (pv 0) (af (kI (v:=.ty "list") rfl T.list_ boot_list rfl) aj))))) (oE (bh qW (ax (aR (K:=K) rfl) (by rfl) T.len_ PySem.boot_len (af (pv 0) aj)) (ba iB (ba nO (ba iE (pv 1) av) (ba iE (pv 1) av)) av) (bo _))))) (aq (aH jF)) bA)
      (ak (aI (i:=2) lQ.nd rfl (by first | exact Or.inl rfl | exact Or.inr rfl) CS)
      (ak (gj PassesOwn.never rfl (bc (K:=K) rfl (pv 0)) (aQ (i:=3) lQ.nd rfl (by first | exact Or.inl rfl | exact Or.inr rfl)) (ak (dY (PW.pt (oq (iD (gO (ax (eg (K:=K) rfl) (by rfl) T.isinstance_ boot_isinstance (af (pv 3) (af (kI (v:=.ty "tuple") rfl T.tuple_ boot_tuple rfl) aj))))) (oq (bh oj (ax (aR (K:=K) rfl) (by rfl) T.len_ PySem.boot_len (af (pv 3) aj)) av (bo _)) (oq (iD (gO (ay G_law_whole (hr.mono (by decide)) rfl E_law_whole.mg E_law_whole.fn.kp E_law_whole.bd .nil bj (af (aB (aZ (K:=K) rfl) (pv 3) av (fun _ _=>rfl)) aj)))) (oE (bh sF (aB (aZ (K:=K) rfl) (pv 3) av (fun _ _=>rfl)) av (bo _))))))) (aq (aH jF)) bA)
      (ak (dY (PW.pt (oq (iD (gO (ay G_law_dealing (hr.mono (by decide)) rfl E_law_dealing.mg E_law_dealing.fn.kp E_law_dealing.bd .nil bj (af (aB (aZ (K:=K) rfl) (pv 3) av (fun _ _=>rfl)) (af (pv 1) aj))))) (oE (Ft (Ii (yt hr) (gz (ra (K:=K) rfl) (by rfl) T.tuple_ boot_tuple (af (aB (aZ (K:=K) rfl) (pv 3) av (fun _ _=>rfl)) aj)) (pv 2)) (by with_unfolding_all rfl))))) (aq (aH jF)) bA)
      (aq (Bv (yt hr) (pv 2) (gz (ra (K:=K) rfl) (by rfl) T.tuple_ boot_tuple (af (aB (aZ (K:=K) rfl) (pv 3) av (fun _ _=>rfl)) aj)) jF rfl)))))
      (aq (aH jF))))),bq (Γn:=[2]) (N:=nB) (ar (ft (nX (iJ (mU (EM.er (iz yI (ES.er (aa 0)))))) (aY (EM.er (aA kE (EM.er (bf cP (ah (ES.er (aa 0)) ao))) (EM.er (aA eE (EM.er (aA bW (EM.er (aA eE (ES.er (aa 1)) (EM.er au))) (EM.er (aA eE (ES.er (aa 1)) (EM.er au))))) (EM.er au))))))) (aJ (M:=[]) kB) br)
      (ar (ST.post (Γn:=[2]) (bQ (M:=[]) 2 C5))
      (ar (fQ (bB (aa 0)) (aS 3) (ar (ft (nX (iJ (mU (EM.er (iz kit_tuple (ES.er (aa 3)))))) (nX (aY (EM.er (aA uy (EM.er (bf cP (ah (ES.er (aa 3)) ao))) (EM.er au)))) (nX (iJ (mU (EM.er (aK (S:=eM) ni (ah (ES.er (bK (aa 3) (EM.er au))) ao))))) (aY (EM.er (aA kE (ES.er (bK (aa 3) (EM.er au))) (EM.er au))))))) (aJ (M:=[]) kB) br)
      (ar (ft (nX (iJ (mU (EM.er (aK (S:=fu) ql (ah (ES.er (bK (aa 3) (EM.er au))) (ah (ES.er (aa 1)) ao)))))) (mU (EM.er (G6 (EM.er (bf Ap (ah (ES.er (bK (aa 3) (EM.er au))) ao))) (bL 2))))) (aJ (M:=[]) kB) br)
      (ST0.st (Cv 2 (EM.er (bf Ap (ah (ES.er (bK (aa 3) (EM.er au))) ao))) (EM.er kB))))))
      (aJ (M:=[]) kB)))) (fun ds P hS=>?_) h⟩
  obtain ⟨qs,n,rfl,n1,n8,few,hok,hnd,hP⟩:=hS
  have hn2:(n - 1)*(n - 1)≤7*7:=Nat.mul_le_mul (by omega) (by omega)
  have hI:((n:Int) - 1)*((n:Int) - 1)=(((n - 1)*(n - 1):Nat):Int):=by rw[Int.natCast_mul,show ((n - 1:Nat):Int)=(n:Int) - 1 by omega]
  rw[show aN nB [.lst ((qs.map Bir.mD).map dPr),.int n]=[some (.lst ((qs.map Bir.mD).map dPr)),some (.int n),none,none] from rfl]
  rw[show (qs.map Bir.mD).map dPr=qs.map fun q=>dPr (Bir.mD q) by rw[List.map_map];rfl]
  walk_at "go"
  rw[hI,if_neg (by omega)]
  walk_at "go"
  refine eG (as:=qs) (f:=fun q=>dPr (Bir.mD q)) (fun i δ=>∃(kvs:List (List Key × V)) (o3:Option D),δ=[some (.lst (qs.map fun q=>dPr (Bir.mD q))),some (.int n),some (.dit kvs),o3]∧KsT kvs ((qs.map fun q=>q.2.1).take i)∧kvs.length≤i) ⟨[],none,rfl,by rw[List.take_zero];exact KsT.nil,Nat.zero_le _⟩ ?_ ?_
  · rintro i q δ N e ⟨kvs,o3,rfl,hk,hlk⟩ hN
    have hi:=(List.getElem?_eq_some_iff.mp e).1
    obtain ⟨hw,hp⟩:=hok q (List.mem_of_getElem? e)
    have hpl:=hp.len
    have ep:(qs.map fun q=>q.2.1)[i]?=some q.2.1:=by rw[List.getElem?_map,e];rfl
    have hnin:¬ (gS kvs (nA (q.2.1.map fun (r:Nat)=>(r:Int)))).isSome=true:=fun z=>by
      have:=(hk q.2.1).mp z
      obtain ⟨j,hj⟩:=List.getElem?_of_mem this
      have hj1:=(List.getElem?_eq_some_iff.mp hj).1
      rw[List.length_take] at hj1
      rw[List.getElem?_take_of_lt (by omega)] at hj
      have h1:=List.getElem?_eq_some_iff.mp hj
      have h2:=List.getElem?_eq_some_iff.mp ep
      have:=(List.getElem_inj hnd).mp (h1.2.trans h2.2.symm)
      omega
    have hl3:=kJ kvs (nA (q.2.1.map fun (r:Nat)=>(r:Int))) (.bl true)
    have hlp:(Bir.mD q).2.length=n:=by show (q.2.1.map fun (r:Nat)=>(r:Int)).length=n;rw[List.length_map];exact hpl
    walk_at "go"
    refine⟨_,rfl,?_⟩
    walk_at "go"
    rw[if_neg (show ¬ (Bir.mD q).1<1 from Int.not_lt.mpr hw)]
    walk_at "go"
    refine⟨_,n,rfl,n8,hp.perm,?_⟩
    walk_at "go"
    rw[if_neg (show ¬ (gS kvs (nA (Bir.mD q).2)).isSome=true from hnin)]
    refine⟨dJ,by omega,hN _ ⟨_,_,rfl,?_,Nat.le_trans hl3 (by omega)⟩⟩
    rw[List.take_add_one,ep]
    exact hk.put q.2.1 _
  · rintro δ ⟨kvs,o3,rfl,hk,hlk⟩
    walk_at "go"
    exact hP
def lH (ps:List (Int × List Int)) (xs:List Int) (k:Nat):Int:=(ps.map fun q=>q.1*xs.getD (q.2.getD k 0).toNat 0).sum
def iq:DSp:=fun ds P=>∃(ps:List (Int × List Int)) (xs:List Int) (n:Nat),ds=[.lst (ps.map dPr),dI xs]∧xs.length=n∧n≤8∧ps.length≤200∧(∀q∈ps,q.2.Perm (iA n)∧q.1.natAbs<2 ^ 1504)∧Bk 98 xs∧P (dI ((List.range n).map (lH ps xs)))
theorem t9:bE iq:=by
  intro xs P P' k h
  unfold iq at h ⊢
  grind
theorem uB:∀ds P,iq ds P→ds.length=2:=by
  intro ds P h
  obtain ⟨_,_,_,e,_⟩:=h
  rw[e];rfl
theorem xG {f:Addr}{fd:FuncData} (F:FnAt K mg "_law_mixed" d9 fS f fd) (A_:Fns K mg) (T:Txt K mg base) {c:Cs} (xs:Exs K mg base c):aM P w K mg base CX0 1 f fd fS (spP K iq):=by
  refine F.fn.ok iL (fun vs H Q E h=>aU uB h) (fun cdv A outer s H vs Q E hr h=>?_)
  refine⟨_,(ak (lI (i:=2) (aL.of (sc0:=(ai d9)) (tn:=["_law_k"]) (cap:=[]) (idx:=[]) (by decide +kernel) rfl rfl) iL.nd rfl (by first | exact Or.inl rfl | exact Or.inr rfl) (bc (K:=K) rfl (pv 1)) (fI.name (by decide)) (fun _ _ _ _ _=>aQ (i:=0) (aO (l:=["_law_k"]) (by decide +kernel)) rfl (by first | exact Or.inl rfl | exact Or.inr rfl) (by first | exact .inl rfl | exact .inr rfl)) (fun _ _ _ _ _=>av))
      (ak (gj PassesOwn.never rfl (bc (K:=K) rfl (pv 0)) (Bz (K:=K) rfl rfl (lA (aQ (i:=3) iL.nd rfl (by first | exact Or.inl rfl | exact Or.inr rfl)) (lA (aQ (i:=4) iL.nd rfl (by first | exact Or.inl rfl | exact Or.inr rfl)) wy))) (aq (gj PassesOwn.never rfl (cI rfl T.range_ (af (ax (aR (K:=K) rfl) (by rfl) T.len_ PySem.boot_len (af (pv 1) aj)) aj)) (aQ (i:=5) iL.nd rfl (by first | exact Or.inl rfl | exact Or.inr rfl)) (aq (jz (ba iB (aB (aw (K:=K) rfl) (pv 2) (pv 5) (fun _ _=>rfl)) (ba nO (pv 3) (aB (aw (K:=K) rfl) (pv 1) (aB (aw (K:=K) rfl) (pv 4) (pv 5) (fun _ _=>rfl)) (fun _ _=>rfl)))) (ka (pv 2) (pv 5) set_list))))))
      (aq (aH (pv 2))))),bq (Γn:=[2]) (N:=mW) (ar (ST.post (Γn:=[2]) (bQ (M:=[]) 2 (bF (bB (aa 1)) (aS 0) au)))
      (ar (fQ (bB (aa 0)) (CO (lE (aS 3) (lE (aS 4) wW))) (fQ (fH (ah (EM.er (bf cP (ah (ES.er (aa 1)) ao))) ao)) (aS 5) (ff 2 (aA eE (fF (bL 2) (ES.er (aa 5))) (EM.er (aA bW (ES.er (aa 3)) (ES.er (aX (aa 1) (ES.er (aX (aa 4) (ES.er (aa 5))))))))) (ES.er (aa 5)))))
      (aJ (M:=[2]) (fC 2)))) (fun ds P hS=>?_) h⟩
  obtain ⟨ps,xs,n,rfl,lx,n8,l2,hq,hx,hP⟩:=hS
  rw[show aN mW [.lst (ps.map dPr),dI xs]=[some (.lst (ps.map dPr)),some (dI xs),none,none,none,none] from rfl]
  have upd:∀(F:Nat→Int) (k:Nat) (v:Int),k<n→((List.range n).map F).set k v=(List.range n).map fun j=>if j=k then v else F j:=fun F k v hk=>by
    refine List.ext_getElem (by simp) fun i h1 h2=>?_
    rw[List.getElem_set,List.getElem_map,List.getElem_map,List.getElem_range]
    by_cases z:k=i
    · rw[if_pos z,if_pos z.symm]
    · rw[if_neg z,if_neg (fun y=>z y.symm)]
  have gets:∀(F:Nat→Int) (k:Nat),k<n→((List.range n).map F).getD k 0=F k:=fun F k hk=>by
    rw[List.getD_eq_getElem?_getD,List.getElem?_map,List.getElem?_range hk];rfl
  have lenF:∀F:Nat→Int,((List.range n).map F).length=n:=fun F=>by rw[List.length_map,List.length_range]
  walk_at "go"
  refine jR (ns:=xs) (g:=fun _=>.int 0) (fun R h=>h) (by omega) (fun x hx R h=>by walk_at "gb";exact h) ?_
  rw[show xs.map (fun _=>L3.D.int 0)=((List.range n).map (lH [] xs)).map L3.D.int by
    rw[List.map_map]
    refine List.ext_getElem (by simp [lx]) fun i h1 h2=>?_
    rw[List.getElem_map,List.getElem_map];rfl]
  refine eG (as:=ps) (f:=dPr) (fun i δ=>∃(o3 o4 o5:Option D),δ=[some (.lst (ps.map dPr)),some (dI xs),some (dI ((List.range n).map (lH (ps.take i) xs))),o3,o4,o5]) ⟨none,none,none,rfl⟩ ?_ ?_
  · rintro i q δ N e ⟨o3,o4,o5,rfl⟩ hN
    obtain ⟨hp,hw⟩:=hq q (List.mem_of_getElem? e)
    have tk:∀k,lH (ps.take (i+1)) xs k=lH (ps.take i) xs k+q.1*xs.getD (q.2.getD k 0).toNat 0:=fun k=>by
      unfold lH
      rw[List.take_add_one,e,List.map_append,List.sum_append]
      simp
    walk_at "go"
    rw[lx]
    refine m7 (lo:=0) (n:=n) (fun k δ=>∃(o5:Option D),δ=[some (.lst (ps.map dPr)),some (dI xs),some (dI ((List.range n).map fun j=>if j<k then lH (ps.take (i+1)) xs j else lH (ps.take i) xs j)),some (.int q.1),some (dI q.2),o5]) ⟨_,rfl⟩ ?_ ?_
    · rintro k δ N' hk ⟨o5,rfl⟩ hN'
      rw[Int.zero_add]
      obtain ⟨p1,p2,p3⟩:=wg hp hk
      refine fi (r:=(List.range n).map fun j=>if j<k then lH (ps.take (i+1)) xs j else lH (ps.take i) xs j) (a:=(k:Int)) (v:=lH (ps.take i) xs k+q.1*xs.getD (q.2.getD k 0).toNat 0) rfl (fun R h'=>?_) (fun R h'=>?_) (by rw[lenF];omega) ?_
      · walk_at "go"
        refine aF (by rw[lenF];omega) ?_
        rw[Int.toNat_natCast,gets _ k hk,if_neg (Nat.lt_irrefl _)]
        walk_at "go"
        refine aF (by omega) ?_
        rw[Int.toNat_natCast]
        walk_at "go"
        refine aF (by omega) ?_
        walk_at "go"
        exact⟨⟨1504,98,hw,hx _,by decide⟩,h'⟩
      · walk_at "go"
        exact h'
      rw[Int.toNat_natCast,upd _ k _ hk]
      have ext:((List.range n).map fun j=>if j=k then lH (ps.take i) xs k+q.1*xs.getD (q.2.getD k 0).toNat 0 else if j<k then lH (ps.take (i+1)) xs j else lH (ps.take i) xs j)=(List.range n).map fun j=>if j<k+1 then lH (ps.take (i+1)) xs j else lH (ps.take i) xs j:=by
        refine List.map_congr_left fun j _=>?_
        by_cases z:j=k
        · subst z;rw[if_pos rfl,if_pos (Nat.lt_succ_self _),tk]
        · rw[if_neg z]
          by_cases y:j<k
          · rw[if_pos y,if_pos (by omega)]
          · rw[if_neg y,if_neg (by omega)]
      rw[ext]
      exact hN' _ ⟨_,rfl⟩
    · rintro δ ⟨o5,rfl⟩
      rw[show ((List.range n).map fun j=>if j<n then lH (ps.take (i+1)) xs j else lH (ps.take i) xs j)=(List.range n).map (lH (ps.take (i+1)) xs) from List.map_congr_left fun j hj=>if_pos (List.mem_range.mp hj)]
      exact hN _ ⟨_,_,_,rfl⟩
  · rintro δ ⟨o3,o4,o5,rfl⟩
    rw[List.take_length]
    walk_at "go"
    exact hP
theorem uY {A R:DS}{E:bC}{δ:Dl} (h:∀R',R'=R→zM A R' E δ):zM A R E δ:=h R rfl
theorem Gf {one other:List Int} (h:Maj.Le one other):pW one other=.non:=by
  unfold pW;rw[Maj.BN h]
theorem iS.row {n i:Nat}{t:List (List Int)}{b:Int}{z x:Nat→Int} (h:iS n (cellAt t) b z x) (hR:dH n n t) (hi:i<n):(rowAt t i).sum=b:=(AU (hR.row hi)).trans (h.rs i hi)
theorem Bb:∀{ns:List Int},(∀x∈ns,0≤x)→∀x∈ns,x≤ns.sum
  | y::ns,h,x,hx=>by
    have s0:∀{ms:List Int},(∀x∈ms,0≤x)→0≤ms.sum:=fun {ms}=>by
      induction ms with
      | nil=>intro _;exact Int.le_refl _
      | cons a ms ih =>
        intro h
        rw[List.sum_cons]
        have:=h a List.mem_cons_self
        have:=ih fun x hx=>h x (List.mem_cons_of_mem _ hx)
        omega
    have h1:=h y List.mem_cons_self
    have h2:=s0 fun x hx=>h x (List.mem_cons_of_mem _ hx)
    rw[List.sum_cons]
    rcases List.mem_cons.mp hx with z | z
    · rw[z];omega
    · have:=Bb (fun x hx=>h x (List.mem_cons_of_mem _ hx)) x z
      omega
theorem Be {n k:Nat} (hk:k<n) (z:Nat→Int):∀ps:List (Int × List Int),(∀q∈ps,q.2.Perm (iA n))→Sg n (fun j=>(ps.map fun q=>if q.2.getD k 0=(j:Int) then q.1 else 0).sum*z j)=(ps.map fun q=>q.1*z (q.2.getD k 0).toNat).sum
  | [],_=>by
    show Sg n (fun j=>0*z j)=0
    rw[bD (g:=fun _=>0) fun j _=>Int.zero_mul _,qt]
  | q::ps,h=>by
    obtain ⟨_,c0,c1⟩:=wg (h q List.mem_cons_self) hk
    obtain ⟨c,hc⟩:∃c:Nat,q.2.getD k 0=c:=⟨(q.2.getD k 0).toNat,by omega⟩
    rw[List.map_cons,List.sum_cons,← Be hk z ps fun q' h'=>h q' (List.mem_cons_of_mem _ h'),hc,Int.toNat_natCast,← se (show c<n by omega) z,← mG,← zO]
    refine bD fun j hj=>?_
    rw[List.map_cons,List.sum_cons,Int.add_mul,hc]
    congr 1
    by_cases e:j=c
    · subst e
      rw[if_pos rfl,if_pos rfl,Int.one_mul]
    · rw[if_neg (by omega),if_neg e,Int.zero_mul,Int.mul_zero]
theorem Bi {n k:Nat}{ps:List (Int × List Int)}{t:List (List Int)} (hT:Tab n ps t) (hk:k<n) (hp:∀q∈ps,q.2.Perm (iA n)) (z:Nat→Int):Sg n (fun j=>cellAt t k j*z j)=(ps.map fun q=>q.1*z (q.2.getD k 0).toNat).sum:=by
  rw[← Be hk z ps hp]
  exact bD fun j hj=>by rw[hT.2 k j hk hj]
def qU:DSp:=fun ds P=>∃ns,ds=[.scr ns]∧ns.length≤63∧P (.bl true)
theorem Fw {ns:List Int}{P:DK} (hl:ns.length≤63) (h:P (.bl true)):qU [.scr ns] P:=⟨ns,rfl,hl,h⟩
theorem Ju:bE qU:=by
  intro xs P P' k h
  unfold qU at h ⊢
  grind
theorem GS:∀ds P,qU ds P→ds.length=1:=by
  intro ds P h
  obtain ⟨_,e,_⟩:=h
  rw[e];rfl
theorem Il {f:Addr}{fd:FuncData} (F:FnAt K mg "law" kA sv f fd) (A_:Fns K mg) (T:Txt K mg base) {c:Cs} (xs:Exs K mg base c):aM P w K mg base CX0 7 f fd sv (spP K qU):=by
  obtain ⟨f0,d0,E_law_two⟩:=A_.h_law_two
  have G_law_two:aM P w K mg base CX0 3 f0 d0 iX (spR K ll):=Af E_law_two A_ T xs
  obtain ⟨f1,d1,E_lead_to⟩:=A_.h_lead_to
  have G_lead_to:aM P w K mg base (CXR P w) 6 f1 d1 iU (spX K (lJ c)):=zL E_lead_to A_ T xs
  obtain ⟨f2,d2,E_mixture_of⟩:=A_.h_mixture_of
  have G_mixture_of:aM P w K mg base CX0 5 f2 d2 eV (spP K gv):=uP E_mixture_of A_ T xs
  obtain ⟨f3,d3,E_law_pairs⟩:=A_.h_law_pairs
  have G_law_pairs:aM P w K mg base CX0 3 f3 d3 fV (spP K ij):=xy E_law_pairs A_ T xs
  obtain ⟨f4,d4,E_law_mixed⟩:=A_.h_law_mixed
  have G_law_mixed:aM P w K mg base CX0 1 f4 d4 fS (spP K iq):=xG E_law_mixed A_ T xs
  obtain ⟨f5,d5,E_told_by⟩:=A_.h_told_by
  have G_told_by:aM P w K mg base CX0 3 f5 d5 jc (spP K jM):=zQ E_told_by A_ T xs
  refine F.fn.ok oC (fun vs H Q E h=>aU GS h) (fun cdv A outer s H vs Q E hr h=>?_)
  refine⟨_,(ak (jz (ay G_law_two (hr.mono (by decide)) rfl E_law_two.mg E_law_two.fn.kp E_law_two.bd .nil bj (af (pv 0) aj)) (GP (K:=K) rfl rfl (lA (aQ (i:=1) oC.nd rfl (by first | exact Or.inl rfl | exact Or.inr rfl)) (lA (aQ (i:=2) oC.nd rfl (by first | exact Or.inl rfl | exact Or.inr rfl)) wy))))
      (ak (aI (i:=3) oC.nd rfl (by first | exact Or.inl rfl | exact Or.inr rfl) (ay G_lead_to (hr.mono (by decide)) rfl E_lead_to.mg E_lead_to.fn.kp E_lead_to.bd .nil vY (af (gz (gP (K:=K) rfl) (by rfl) T.list_ boot_list (af (pv 2) aj)) (af (gz (gP (K:=K) rfl) (by rfl) T.list_ boot_list (af (pv 1) aj)) aj))))
      (ak (dY (PW.pt (oq (iD (gO (ax (eg (K:=K) rfl) (by rfl) T.isinstance_ boot_isinstance (af (pv 3) (af (kI (v:=.ty "tuple") rfl T.tuple_ boot_tuple rfl) aj))))) (oq (bh oj (ax (aR (K:=K) rfl) (by rfl) T.len_ PySem.boot_len (af (pv 3) aj)) av (bo _)) (oE (bh oj (aB (aZ (K:=K) rfl) (pv 3) av (fun _ _=>rfl)) kq (bo _)))))) (aq (aH jF)) bA)
      (ak (lI (i:=4) (aL.of (sc0:=(ai kA)) (tn:=["_law_line"]) (cap:=[]) (idx:=[]) (by decide +kernel) rfl rfl) oC.nd rfl (by first | exact Or.inl rfl | exact Or.inr rfl) (bc (K:=K) rfl (aB (aZ (K:=K) rfl) (pv 3) av (fun _ _=>rfl))) (fI.name (by decide)) (fun _ _ _ _ _=>aQ (i:=0) (aO (l:=["_law_line"]) (by decide +kernel)) rfl (by first | exact Or.inl rfl | exact Or.inr rfl) (by first | exact .inl rfl | exact .inr rfl)) (fun _ _ _ _ _=>(gz (gP (K:=K) rfl) (by rfl) T.list_ boot_list (af (pv 0) aj))))
      (ak (aI (i:=5) oC.nd rfl (by first | exact Or.inl rfl | exact Or.inr rfl) (ay G_mixture_of (hr.mono (by decide)) rfl E_mixture_of.mg E_mixture_of.fn.kp E_mixture_of.bd .nil bj (af (aB (aZ (K:=K) rfl) (pv 3) av (fun _ _=>rfl)) aj)))
      (ak (dY (iD (gO (ay G_law_pairs (hr.mono (by decide)) rfl E_law_pairs.mg E_law_pairs.fn.kp E_law_pairs.bd .nil bj (af (pv 5) (af (ax (aR (K:=K) rfl) (by rfl) T.len_ PySem.boot_len (af (pv 1) aj)) aj))))) (aq (aH jF)) bA)
      (ak (aI (i:=6) oC.nd rfl (by first | exact Or.inl rfl | exact Or.inr rfl) (ax (iZ (K:=K) rfl rfl) (by rfl) T.sum_ boot_sum (af (cH (aL.of (sc0:=(ai kA)) (tn:=["_law_parts","_law_dealing_here"]) (cap:=[]) (idx:=[]) (by decide +kernel) rfl rfl) (bc (K:=K) rfl (pv 5)) (fI.tup (pT.cons (by decide) (pT.cons (by decide) pT.nil))) (fun _ _ _ _ _=>Bz (K:=K) (n:=2) rfl rfl (lA (aQ (i:=0) (aO (l:=["_law_parts","_law_dealing_here"]) (by decide +kernel)) rfl (by first | exact Or.inl rfl | exact Or.inr rfl) (by first | exact .inl rfl | exact .inr rfl)) (lA (aQ (i:=1) (aO (l:=["_law_parts","_law_dealing_here"]) (by decide +kernel)) rfl (by first | exact Or.inl rfl | exact Or.inr rfl) (by first | exact .inl rfl | exact .inr rfl)) wy))) (fun _ _ _ _ _=>(pv 0))) aj)))
      (ak (dY (bh qW (ax (aR (K:=K) rfl) (by rfl) T.len_ PySem.boot_len (af (ph rfl (aL.of (sc0:=(ai kA)) (tn:=["_law_line"]) (cap:=["_law_bottom"]) (idx:=[6]) (by decide +kernel) rfl rfl) (bc (K:=K) rfl (pv 4)) (fI.name (by decide)) (fun _ _ _ _ _=>aQ (i:=0) (aO (l:=["_law_line","_law_bottom"]) (by decide +kernel)) rfl (by first | exact Or.inl rfl | exact Or.inr rfl) (by first | exact .inl rfl | exact .inr rfl)) (fun _ _ _ _ _=>so (bh oj (ax (iZ (K:=K) rfl rfl) (by rfl) T.sum_ boot_sum (af (pv 0) aj)) (pv 1) (bo _))) (fun _ _ _ _ _=>(pv 0)) (by intro _;rfl)) aj)) av (bo _)) (aq (aH jF)) bA)
      (ak (dY (bh (Ab hr.units) (ay G_law_mixed (hr.mono (by decide)) rfl E_law_mixed.mg E_law_mixed.fn.kp E_law_mixed.bd .nil bj (af (pv 5) (af (pv 1) aj))) (cH (aL.of (sc0:=(ai kA)) (tn:=["_law_number"]) (cap:=["_law_bottom"]) (idx:=[6]) (by decide +kernel) rfl rfl) (bc (K:=K) rfl (pv 2)) (fI.name (by decide)) (fun _ _ _ _ _=>aQ (i:=0) (aO (l:=["_law_number","_law_bottom"]) (by decide +kernel)) rfl (by first | exact Or.inl rfl | exact Or.inr rfl) (by first | exact .inl rfl | exact .inr rfl)) (fun _ _ _ _ _=>(ba nO (pv 1) (pv 0)))) (bo _)) (aq (aH jF)) bA)
      (aq (aH (oB (jH (qA hr.units) (ay G_told_by (hr.mono (by decide)) rfl E_told_by.mg E_told_by.fn.kp E_told_by.bd .nil bj (af (pv 5) aj)) (pv 4) (bo _)) (qP (jH (qA hr.units) (aB (aZ (K:=K) rfl) (pv 3) av (fun _ _=>rfl)) (pv 4) (bo _))))))))))))))),bq (Γn:=[]) (N:=EB) (ar (Gq (ER.es0 (Bw (S:=ll) xb (ah (ES.er (aa 0)) ao))) (Jc (lE (aS 1) (lE (aS 2) wW))))
      (ar (ST.post (Γn:=[]) (aP 3 (EM.es (qa wJ (ah (EM.er (bf ou (ah (ES.er (aa 2)) ao))) (ah (EM.er (bf ou (ah (ES.er (aa 1)) ao))) ao))))))
      (ar (ft (nX (iJ (mU (EM.er (iz kit_tuple (ES.er (aa 3)))))) (nX (aY (EM.er (aA uy (EM.er (bf cP (ah (ES.er (aa 3)) ao))) (EM.er au)))) (aY (EM.er (aA uy (ES.er (bK (aa 3) (EM.er au))) (EM.er kd)))))) (aJ (M:=[]) kB) br)
      (ar (ST.post (Γn:=[]) (aP 4 (EM.es (bF (bB (bK (aa 3) (EM.er au))) (aS 0) (bf ou (ah (ES.er (aa 0)) ao))))))
      (ar (ST.post (Γn:=[]) (aP 5 (EM.es (aK (S:=gv) rG (ah (ES.er (bK (aa 3) (EM.er au))) ao)))))
      (ar (ft (iJ (mU (EM.er (aK (S:=ij) sR (ah (ES.er (aa 5)) (ah (EM.er (bf cP (ah (ES.er (aa 1)) ao))) ao)))))) (aJ (M:=[]) kB) br)
      (ar (ST.post (Γn:=[]) (aP 6 (EM.es (bf tW (ah (EM.er (bF (bB (aa 5)) (CO (lE (aS 0) (lE (aS 1) wW))) (ER.aW (ES.er (aa 0))))) ao)))))
      (ar (ft (aY (EM.er (aA kE (EM.er (bf cP (ah (EM.er (pI (bB (aa 4)) (aS 0) (aY (EM.er (aA uy (EM.er (bf tW (ah (ES.er (aa 0)) ao))) (ES.er (aa 1))))) (ER.aW (ES.er (aa 0))))) ao))) (EM.er au)))) (aJ (M:=[]) kB) br)
      (ar (ft (aY (EM.er (aA CH (EM.er (aK (S:=iq) t9 (ah (ES.er (aa 5)) (ah (ES.er (aa 1)) ao)))) (EM.er (bF (bB (aa 2)) (aS 0) (aA bW (ES.er (aa 1)) (ES.er (aa 0)))))))) (aJ (M:=[]) kB) br)
      (aJ (M:=[]) (mn (EM.er (aA v7 (EM.er (aK (S:=jM) xq (ah (ES.er (aa 5)) ao))) (ES.er (aa 4)))) (aA v7 (ES.er (bK (aa 3) (EM.er au))) (ES.er (aa 4)))))))))))))) (fun ds P hS=>?_) h⟩
  obtain ⟨ns,rfl,hz,hP⟩:=hS
  rw[show aN EB [.scr ns]=[some (.scr ns),none,none,none,none,none,none] from rfl]
  refine uY fun R1 e1=>?_
  walk_at "go"
  refine⟨ns,rfl,hz,fun xs ys x1 x8 ly sy hle bx by'=>?_⟩
  walk_at "go"
  subst e1
  refine uY fun R1 e1=>?_
  walk_at "go"
  have al:Alike ys xs:=⟨ly,sy⟩
  refine⟨ys,xs,rfl,by omega,by omega,fun _=>bx,fun _=>⟨fun i hi=>?_,fun _ t b hR hL b1 hT=>?_⟩,fun z=>absurd al z⟩
  · rw[Gf hle] at hi;cases hi
  rw[ly] at hR hL
  obtain ⟨n,hn⟩:∃n,xs.length=n:=⟨_,rfl⟩
  rw[hn] at hR hL x1 x8 ly
  have lt:=hR.1
  have bb:b.natAbs<2 ^ 1504:=by
    have:=hL.bot x1 x8 hT
    have e:((b.natAbs:Nat):Int)<2 ^ 1504:=by rw[Int.natAbs_of_nonneg (by omega)];exact this
    exact_mod_cast e
  have hn2:(n - 1)*(n - 1)≤7*7:=Nat.mul_le_mul (by omega) (by omega)
  walk_at "go"
  subst e1
  refine uY fun R1 e1=>?_
  walk_at "go"
  rw[if_neg (fun z=>z rfl)]
  subst e1
  refine uY fun R1 e1=>?_
  walk_at "go"
  refine vW (t:=t) (fun R h=>by walk_at "go";exact h) (by omega) (fun r hr R h=>by walk_at "gb";exact h) ?_
  walk_at "go"
  subst e1
  refine uY fun R1 e1=>?_
  walk_at "go"
  refine⟨t,n,b,rfl,x1,x8,b1,⟨hR,hL.nn,fun i hi=>hL.rs i hi,fun j hj=>hL.cs j hj⟩,fun qs hM=>?_⟩
  walk_at "go"
  subst e1
  refine uY fun R1 e1=>?_
  walk_at "go"
  refine⟨qs,n,by rw[hn],x1,x8,hM.few,hM.ok,hM.apart,?_⟩
  walk_at "go"
  have few:=hM.few
  have tab:=hM.tab
  have ne:1≤(qs.map Bir.mD).length:=by rw[List.length_map];exact hM.ne
  have pq:∀q∈qs.map Bir.mD,1≤q.1∧q.2.Perm (iA n):=fun q hq=>by
    obtain ⟨q',h',rfl⟩:=List.mem_map.mp hq
    exact⟨(hM.ok q' h').1,(hM.ok q' h').2.perm⟩
  have l2:(qs.map Bir.mD).length≤200:=by rw[List.length_map];omega
  obtain ⟨ps,hps⟩:∃ps,qs.map Bir.mD=ps:=⟨_,rfl⟩
  rw[hps] at tab pq l2 ne ⊢
  clear hps hM few
  have bot:(ps.map fun q=>q.1).sum=b:=by
    have h:=Bi tab (show 0<n by omega) (fun q hq=>(pq q hq).2) fun _=>1
    rw[show (ps.map fun q=>q.1*1)=ps.map fun q=>q.1 from List.map_congr_left fun q _=>Int.mul_one _] at h
    rw[← h,← hL.rs 0 (by omega)]
    exact bD fun j _=>Int.mul_one _
  have pb:∀q∈ps,q.1.natAbs<2 ^ 1504:=fun q hq=>by
    have h1:=Bb (ns:=ps.map fun q=>q.1) (fun x hx=>by obtain ⟨q',h',rfl⟩:=List.mem_map.mp hx;have:=(pq q' h').1;omega) _ (List.mem_map.mpr ⟨q,hq,rfl⟩)
    have h2:=(pq q hq).1
    rw[bot] at h1
    exact Nat.lt_of_le_of_lt (by omega) bb
  subst e1
  refine uY fun R1 e1=>?_
  walk_at "go"
  refine pF (as:=ps) (f:=dPr) (g:=fun q=>.int q.1) (fun R h=>h) (by omega) (fun q hq R h=>?_) ?_
  · walk_at "gb"
    exact h
  rw[show ps.map (fun q=>L3.D.int q.1)=(ps.map fun q=>q.1).map L3.D.int by rw[List.map_map];rfl]
  walk_at "go"
  rw[bot]
  subst e1
  refine uY fun R1 e1=>?_
  walk_at "go"
  refine mJ (as:=t) (f:=dI) (p:=fun _=>false) (g:=fun r=>dI r) (fun R h=>h) (by omega) (fun r hr R h=>?_) ?_
  · have rs:r.sum=b:=by
      obtain ⟨i,hi,rfl⟩:=List.mem_iff_getElem.mp hr
      have:=hL.row hR (i:=i) (by omega)
      unfold rowAt at this
      rw[List.getD_eq_getElem?_getD,List.getElem?_eq_getElem hi] at this
      exact this
    walk_at "gb"
    rw[if_neg (fun z=>z rs)]
    exact h
  rw[show t.filter (fun _=>false)=[] from List.filter_eq_nil_iff.mpr fun _ _=>Bool.false_ne_true]
  walk_at "go"
  rw[if_neg (by decide)]
  subst e1
  refine uY fun R1 e1=>?_
  walk_at "go"
  refine⟨ps,xs,n,rfl,hn,x8,l2,fun q hq=>⟨(pq q hq).2,pb q hq⟩,bx,?_⟩
  walk_at "go"
  refine jR (ns:=ys) (g:=fun y=>.int (b*y)) (fun R h=>by walk_at "go";exact h) (by omega) (fun y hy R h=>?_) ?_
  · walk_at "gb"
    obtain ⟨i,hi,rfl⟩:=List.mem_iff_getElem.mp hy
    have h1:=by' i
    rw[List.getD_eq_getElem?_getD,List.getElem?_eq_getElem hi] at h1
    exact⟨⟨1504,98,bb,h1,by decide⟩,h⟩
  rw[show ys.map (fun y=>L3.D.int (b*y))=(ys.map fun y=>b*y).map L3.D.int by rw[List.map_map];rfl]
  refine jb ?_
  have em:(List.range n).map (lH ps xs)=ys.map fun y=>b*y:=by
    refine List.ext_getElem (by rw[List.length_map,List.length_map,List.length_range];omega) fun i h1 h2=>?_
    have hi:i<n:=by rw[List.length_map,List.length_range] at h1;exact h1
    rw[List.getElem_map,List.getElem_range,List.getElem_map]
    have h3:=Bi tab hi (fun q hq=>(pq q hq).2) (atF xs)
    have h4:=hL.dt i hi
    have h5:atF ys i=ys[i]:=by
      unfold atF
      rw[List.getD_eq_getElem?_getD,List.getElem?_eq_getElem (by omega)];rfl
    rw[h3,h5] at h4
    rw[Int.mul_comm]
    exact h4
  rw[if_pos rfl,decide_eq_true em]
  walk_at "go"
  subst e1
  walk_at "go"
  refine⟨ps,n,rfl,⟨x1,x8,ne,l2,pq⟩,fun t2 hT2=>?_⟩
  rw[hT2.uniq tab]
  walk_at "go"
  refine vR (xs:=t) (ys:=t) ?_
  rw[if_neg (by decide),decide_eq_true rfl]
  walk_at "go"
  refine vR (xs:=t) (ys:=t) ?_
  rw[if_neg (by decide),decide_eq_true rfl]
  exact hP
end
end Mine
set_option maxHeartbeats 16000000
namespace Mine
open PySem L2 PyProof.Rows
theorem all_mk {l:PySem.W.OpenLaw}{w:World}{K:PySem.W.Frag}{h:Heap}{mg:Str→Option Value}{fa f0 f1 f2 f3 f4 f5 f6 f7 f8 f9 f10 f11 f12 f13 f14 f15 f16 f17 f18 f19 f20 f21 f22 f23 f24 f25 f26 f27 f28 f29 f30 f31 f32 f33 f34 f35 f36 f37 f38 f39 f40 f41 f42 f43 f44 f45 f46 f47 f48 f49 f50 f51 f52 f53 da38:Addr} (X:K.In h) (G:h.Ns mainGlobals mg) (hfa:mg "law" = some (.ref fa))
    {od0 an0 od1 an1 od2 an2 od3 an3 od4 an4 od5 an5 od6 an6 od7 an7 od8 an8 od9 an9 od10 an10 od11 an11 od12 an12 od13 an13 od14 an14 od15 an15 od16 an16 od17 an17 od18 an18 od19 an19 od20 an20 od21 an21 od22 an22 od23 an23 od24 an24 od25 an25 od26 an26 od27 an27 od28 an28 od29 an29 od30 an30 od31 an31 od32 an32 od33 an33 od34 an34 od35 an35 od36 an36 od37 an37 od38 an38 od39 an39 od40 an40 od41 an41 od42 an42 od43 an43 od44 an44 od45 an45 od46 an46 od47 an47 od48 an48 od49 an49 od50 an50 od51 an51 od52 an52 od53 an53:Option Addr}{sl0 sl1 sl2 sl3 sl4 sl5 sl6 sl7 sl8 sl9 sl10 sl11 sl12 sl13 sl14 sl15 sl16 sl17 sl18 sl19 sl20 sl21 sl22 sl23 sl24 sl25 sl26 sl27 sl28 sl29 sl30 sl31 sl32 sl33 sl34 sl35 sl36 sl37 sl38 sl39 sl40 sl41 sl42 sl43 sl44 sl45 sl46 sl47 sl48 sl49 sl50 sl51 sl52 sl53:Array (Option Value)}{oc0 kV0 dc0 pm0 cd0 ct0 oc1 kV1 dc1 pm1 cd1 ct1 oc2 kV2 dc2 pm2 cd2 ct2 oc3 kV3 dc3 pm3 cd3 ct3 oc4 kV4 dc4 pm4 cd4 ct4 oc5 kV5 dc5 pm5 cd5 ct5 oc6 kV6 dc6 pm6 cd6 ct6 oc7 kV7 dc7 pm7 cd7 ct7 oc8 kV8 dc8 pm8 cd8 ct8 oc9 kV9 dc9 pm9 cd9 ct9 oc10 kV10 dc10 pm10 cd10 ct10 oc11 kV11 dc11 pm11 cd11 ct11 oc12 kV12 dc12 pm12 cd12 ct12 oc13 kV13 dc13 pm13 cd13 ct13 oc14 kV14 dc14 pm14 cd14 ct14 oc15 kV15 dc15 pm15 cd15 ct15 oc16 kV16 dc16 pm16 cd16 ct16 oc17 kV17 dc17 pm17 cd17 ct17 oc18 kV18 dc18 pm18 cd18 ct18 oc19 kV19 dc19 pm19 cd19 ct19 oc20 kV20 dc20 pm20 cd20 ct20 oc21 kV21 dc21 pm21 cd21 ct21 oc22 kV22 dc22 pm22 cd22 ct22 oc23 kV23 dc23 pm23 cd23 ct23 oc24 kV24 dc24 pm24 cd24 ct24 oc25 kV25 dc25 pm25 cd25 ct25 oc26 kV26 dc26 pm26 cd26 ct26 oc27 kV27 dc27 pm27 cd27 ct27 oc28 kV28 dc28 pm28 cd28 ct28 oc29 kV29 dc29 pm29 cd29 ct29 oc30 kV30 dc30 pm30 cd30 ct30 oc31 kV31 dc31 pm31 cd31 ct31 oc32 kV32 dc32 pm32 cd32 ct32 oc33 kV33 dc33 pm33 cd33 ct33 oc34 kV34 dc34 pm34 cd34 ct34 oc35 kV35 dc35 pm35 cd35 ct35 oc36 kV36 dc36 pm36 cd36 ct36 oc37 kV37 dc37 pm37 cd37 ct37 oc38 kV38 dc38 pm38 cd38 ct38 oc39 kV39 dc39 pm39 cd39 ct39 oc40 kV40 dc40 pm40 cd40 ct40 oc41 kV41 dc41 pm41 cd41 ct41 oc42 kV42 dc42 pm42 cd42 ct42 oc43 kV43 dc43 pm43 cd43 ct43 oc44 kV44 dc44 pm44 cd44 ct44 oc45 kV45 dc45 pm45 cd45 ct45 oc46 kV46 dc46 pm46 cd46 ct46 oc47 kV47 dc47 pm47 cd47 ct47 oc48 kV48 dc48 pm48 cd48 ct48 oc49 kV49 dc49 pm49 cd49 ct49 oc50 kV50 dc50 pm50 cd50 ct50 oc51 kV51 dc51 pm51 cd51 ct51 oc52 kV52 dc52 pm52 cd52 ct52 oc53 kV53 dc53 pm53 cd53 ct53:Value}
    (a0:PySem.W.nsIn K mainGlobals "dealing_in" = some (some (.ref f0))) (l0:K.lookup f0=some ⟨oc0,od0,.func (PySem.W.fnOf "dealing_in" "dealing_in" (aD dW) (az dW) (ai dW) .none kV0 dc0 pm0 an0 cd0 ct0),sl0⟩) (c0:PySem.W.codeIn K cd0 "dealing_in" = true) (k0:PySem.W.keepIn K (.ref f0)=true)
    (a1:PySem.W.nsIn K mainGlobals "deal_row" = some (some (.ref f1))) (l1:K.lookup f1=some ⟨oc1,od1,.func (PySem.W.fnOf "deal_row" "deal_row" (aD fK) (az fK) (ai fK) .none kV1 dc1 pm1 an1 cd1 ct1),sl1⟩) (c1:PySem.W.codeIn K cd1 "deal_row" = true) (k1:PySem.W.keepIn K (.ref f1)=true)
    (a2:PySem.W.nsIn K mainGlobals "columns_from" = some (some (.ref f2))) (l2:K.lookup f2=some ⟨oc2,od2,.func (PySem.W.fnOf "columns_from" "columns_from" (aD bY) (az bY) (ai bY) .none kV2 dc2 pm2 an2 cd2 ct2),sl2⟩) (c2:PySem.W.codeIn K cd2 "columns_from" = true) (k2:PySem.W.keepIn K (.ref f2)=true)
    (a3:PySem.W.nsIn K mainGlobals "shift_dealing" = some (some (.ref f3))) (l3:K.lookup f3=some ⟨oc3,od3,.func (PySem.W.fnOf "shift_dealing" "shift_dealing" (aD cj) (az cj) (ai cj) .none kV3 dc3 pm3 an3 cd3 ct3),sl3⟩) (c3:PySem.W.codeIn K cd3 "shift_dealing" = true) (k3:PySem.W.keepIn K (.ref f3)=true)
    (a4:PySem.W.nsIn K mainGlobals "is_number" = some (some (.ref f4))) (l4:K.lookup f4=some ⟨oc4,od4,.func (PySem.W.fnOf "is_number" "is_number" (aD eP) (az eP) (ai eP) .none kV4 dc4 pm4 an4 cd4 ct4),sl4⟩) (c4:PySem.W.codeIn K cd4 "is_number" = true) (k4:PySem.W.keepIn K (.ref f4)=true)
    (a5:PySem.W.nsIn K mainGlobals "is_place" = some (some (.ref f5))) (l5:K.lookup f5=some ⟨oc5,od5,.func (PySem.W.fnOf "is_place" "is_place" (aD gk) (az gk) (ai gk) .none kV5 dc5 pm5 an5 cd5 ct5),sl5⟩) (c5:PySem.W.codeIn K cd5 "is_place" = true) (k5:PySem.W.keepIn K (.ref f5)=true)
    (a6:PySem.W.nsIn K mainGlobals "copied_table" = some (some (.ref f6))) (l6:K.lookup f6=some ⟨oc6,od6,.func (PySem.W.fnOf "copied_table" "copied_table" (aD bV) (az bV) (ai bV) .none kV6 dc6 pm6 an6 cd6 ct6),sl6⟩) (c6:PySem.W.codeIn K cd6 "copied_table" = true) (k6:PySem.W.keepIn K (.ref f6)=true)
    (a7:PySem.W.nsIn K mainGlobals "sums_of_rows" = some (some (.ref f7))) (l7:K.lookup f7=some ⟨oc7,od7,.func (PySem.W.fnOf "sums_of_rows" "sums_of_rows" (aD bX) (az bX) (ai bX) .none kV7 dc7 pm7 an7 cd7 ct7),sl7⟩) (c7:PySem.W.codeIn K cd7 "sums_of_rows" = true) (k7:PySem.W.keepIn K (.ref f7)=true)
    (a8:PySem.W.nsIn K mainGlobals "sums_of_columns" = some (some (.ref f8))) (l8:K.lookup f8=some ⟨oc8,od8,.func (PySem.W.fnOf "sums_of_columns" "sums_of_columns" (aD bM) (az bM) (ai bM) .none kV8 dc8 pm8 an8 cd8 ct8),sl8⟩) (c8:PySem.W.codeIn K cd8 "sums_of_columns" = true) (k8:PySem.W.keepIn K (.ref f8)=true)
    (a9:PySem.W.nsIn K mainGlobals "turned_table" = some (some (.ref f9))) (l9:K.lookup f9=some ⟨oc9,od9,.func (PySem.W.fnOf "turned_table" "turned_table" (aD b7) (az b7) (ai b7) .none kV9 dc9 pm9 an9 cd9 ct9),sl9⟩) (c9:PySem.W.codeIn K cd9 "turned_table" = true) (k9:PySem.W.keepIn K (.ref f9)=true)
    (a10:PySem.W.nsIn K mainGlobals "column_of" = some (some (.ref f10))) (l10:K.lookup f10=some ⟨oc10,od10,.func (PySem.W.fnOf "column_of" "column_of" (aD dZ) (az dZ) (ai dZ) .none kV10 dc10 pm10 an10 cd10 ct10),sl10⟩) (c10:PySem.W.codeIn K cd10 "column_of" = true) (k10:PySem.W.keepIn K (.ref f10)=true)
    (a11:PySem.W.nsIn K mainGlobals "is_even" = some (some (.ref f11))) (l11:K.lookup f11=some ⟨oc11,od11,.func (PySem.W.fnOf "is_even" "is_even" (aD fB) (az fB) (ai fB) .none kV11 dc11 pm11 an11 cd11 ct11),sl11⟩) (c11:PySem.W.codeIn K cd11 "is_even" = true) (k11:PySem.W.keepIn K (.ref f11)=true)
    (a12:PySem.W.nsIn K mainGlobals "is_mixture" = some (some (.ref f12))) (l12:K.lookup f12=some ⟨oc12,od12,.func (PySem.W.fnOf "is_mixture" "is_mixture" (aD cR) (az cR) (ai cR) .none kV12 dc12 pm12 an12 cd12 ct12),sl12⟩) (c12:PySem.W.codeIn K cd12 "is_mixture" = true) (k12:PySem.W.keepIn K (.ref f12)=true)
    (a13:PySem.W.nsIn K mainGlobals "is_pair" = some (some (.ref f13))) (l13:K.lookup f13=some ⟨oc13,od13,.func (PySem.W.fnOf "is_pair" "is_pair" (aD iu) (az iu) (ai iu) .none kV13 dc13 pm13 an13 cd13 ct13),sl13⟩) (c13:PySem.W.codeIn K cd13 "is_pair" = true) (k13:PySem.W.keepIn K (.ref f13)=true)
    (a14:PySem.W.nsIn K mainGlobals "told_by" = some (some (.ref f14))) (l14:K.lookup f14=some ⟨oc14,od14,.func (PySem.W.fnOf "told_by" "told_by" (aD gr) (az gr) (ai gr) .none kV14 dc14 pm14 an14 cd14 ct14),sl14⟩) (c14:PySem.W.codeIn K cd14 "told_by" = true) (k14:PySem.W.keepIn K (.ref f14)=true)
    (a15:PySem.W.nsIn K mainGlobals "add_dealing" = some (some (.ref f15))) (l15:K.lookup f15=some ⟨oc15,od15,.func (PySem.W.fnOf "add_dealing" "add_dealing" (aD cU) (az cU) (ai cU) .none kV15 dc15 pm15 an15 cd15 ct15),sl15⟩) (c15:PySem.W.codeIn K cd15 "add_dealing" = true) (k15:PySem.W.keepIn K (.ref f15)=true)
    (a16:PySem.W.nsIn K mainGlobals "mixture_of" = some (some (.ref f16))) (l16:K.lookup f16=some ⟨oc16,od16,.func (PySem.W.fnOf "mixture_of" "mixture_of" (aD cS) (az cS) (ai cS) .none kV16 dc16 pm16 an16 cd16 ct16),sl16⟩) (c16:PySem.W.codeIn K cd16 "mixture_of" = true) (k16:PySem.W.keepIn K (.ref f16)=true)
    (a17:PySem.W.nsIn K mainGlobals "marks_of" = some (some (.ref f17))) (l17:K.lookup f17=some ⟨oc17,od17,.func (PySem.W.fnOf "marks_of" "marks_of" (aD eY) (az eY) (ai eY) .none kV17 dc17 pm17 an17 cd17 ct17),sl17⟩) (c17:PySem.W.codeIn K cd17 "marks_of" = true) (k17:PySem.W.keepIn K (.ref f17)=true)
    (a18:PySem.W.nsIn K mainGlobals "marked_row" = some (some (.ref f18))) (l18:K.lookup f18=some ⟨oc18,od18,.func (PySem.W.fnOf "marked_row" "marked_row" (aD cT) (az cT) (ai cT) .none kV18 dc18 pm18 an18 cd18 ct18),sl18⟩) (c18:PySem.W.codeIn K cd18 "marked_row" = true) (k18:PySem.W.keepIn K (.ref f18)=true)
    (a19:PySem.W.nsIn K mainGlobals "falling" = some (some (.ref f19))) (l19:K.lookup f19=some ⟨oc19,od19,.func (PySem.W.fnOf "falling" "falling" (aD ix) (az ix) (ai ix) .none kV19 dc19 pm19 an19 cd19 ct19),sl19⟩) (c19:PySem.W.codeIn K cd19 "falling" = true) (k19:PySem.W.keepIn K (.ref f19)=true)
    (a20:PySem.W.nsIn K mainGlobals "falling_places" = some (some (.ref f20))) (l20:K.lookup f20=some ⟨oc20,od20,.func (PySem.W.fnOf "falling_places" "falling_places" (aD bP) (az bP) (ai bP) .none kV20 dc20 pm20 an20 cd20 ct20),sl20⟩) (c20:PySem.W.codeIn K cd20 "falling_places" = true) (k20:PySem.W.keepIn K (.ref f20)=true)
    (a21:PySem.W.nsIn K mainGlobals "places_below" = some (some (.ref f21))) (l21:K.lookup f21=some ⟨oc21,od21,.func (PySem.W.fnOf "places_below" "places_below" (aD bS) (az bS) (ai bS) .none kV21 dc21 pm21 an21 cd21 ct21),sl21⟩) (c21:PySem.W.codeIn K cd21 "places_below" = true) (k21:PySem.W.keepIn K (.ref f21)=true)
    (a22:PySem.W.nsIn K mainGlobals "heads_of" = some (some (.ref f22))) (l22:K.lookup f22=some ⟨oc22,od22,.func (PySem.W.fnOf "heads_of" "heads_of" (aD fP) (az fP) (ai fP) .none kV22 dc22 pm22 an22 cd22 ct22),sl22⟩) (c22:PySem.W.codeIn K cd22 "heads_of" = true) (k22:PySem.W.keepIn K (.ref f22)=true)
    (a23:PySem.W.nsIn K mainGlobals "check_alike" = some (some (.ref f23))) (l23:K.lookup f23=some ⟨oc23,od23,.func (PySem.W.fnOf "check_alike" "check_alike" (aD cW) (az cW) (ai cW) .none kV23 dc23 pm23 an23 cd23 ct23),sl23⟩) (c23:PySem.W.codeIn K cd23 "check_alike" = true) (k23:PySem.W.keepIn K (.ref f23)=true)
    (a24:PySem.W.nsIn K mainGlobals "first_head_above" = some (some (.ref f24))) (l24:K.lookup f24=some ⟨oc24,od24,.func (PySem.W.fnOf "first_head_above" "first_head_above" (aD bH) (az bH) (ai bH) .none kV24 dc24 pm24 an24 cd24 ct24),sl24⟩) (c24:PySem.W.codeIn K cd24 "first_head_above" = true) (k24:PySem.W.keepIn K (.ref f24)=true)
    (a25:PySem.W.nsIn K mainGlobals "bar_of" = some (some (.ref f25))) (l25:K.lookup f25=some ⟨oc25,od25,.func (PySem.W.fnOf "bar_of" "bar_of" (aD jk) (az jk) (ai jk) .none kV25 dc25 pm25 an25 cd25 ct25),sl25⟩) (c25:PySem.W.codeIn K cd25 "bar_of" = true) (k25:PySem.W.keepIn K (.ref f25)=true)
    (a26:PySem.W.nsIn K mainGlobals "can_step" = some (some (.ref f26))) (l26:K.lookup f26=some ⟨oc26,od26,.func (PySem.W.fnOf "can_step" "can_step" (aD fM) (az fM) (ai fM) .none kV26 dc26 pm26 an26 cd26 ct26),sl26⟩) (c26:PySem.W.codeIn K cd26 "can_step" = true) (k26:PySem.W.keepIn K (.ref f26)=true)
    (a27:PySem.W.nsIn K mainGlobals "step_made" = some (some (.ref f27))) (l27:K.lookup f27=some ⟨oc27,od27,.func (PySem.W.fnOf "step_made" "step_made" (aD eR) (az eR) (ai eR) .none kV27 dc27 pm27 an27 cd27 ct27),sl27⟩) (c27:PySem.W.codeIn K cd27 "step_made" = true) (k27:PySem.W.keepIn K (.ref f27)=true)
    (a28:PySem.W.nsIn K mainGlobals "steps_to" = some (some (.ref f28))) (l28:K.lookup f28=some ⟨oc28,od28,.func (PySem.W.fnOf "steps_to" "steps_to" (aD fX) (az fX) (ai fX) .none kV28 dc28 pm28 an28 cd28 ct28),sl28⟩) (c28:PySem.W.codeIn K cd28 "steps_to" = true) (k28:PySem.W.keepIn K (.ref f28)=true)
    (a29:PySem.W.nsIn K mainGlobals "row_behind" = some (some (.ref f29))) (l29:K.lookup f29=some ⟨oc29,od29,.func (PySem.W.fnOf "row_behind" "row_behind" (aD dX) (az dX) (ai dX) .none kV29 dc29 pm29 an29 cd29 ct29),sl29⟩) (c29:PySem.W.codeIn K cd29 "row_behind" = true) (k29:PySem.W.keepIn K (.ref f29)=true)
    (a30:PySem.W.nsIn K mainGlobals "evening_steps" = some (some (.ref f30))) (l30:K.lookup f30=some ⟨oc30,od30,.func (PySem.W.fnOf "evening_steps" "evening_steps" (aD b8) (az b8) (ai b8) .none kV30 dc30 pm30 an30 cd30 ct30),sl30⟩) (c30:PySem.W.codeIn K cd30 "evening_steps" = true) (k30:PySem.W.keepIn K (.ref f30)=true)
    (a31:PySem.W.nsIn K mainGlobals "evening_step" = some (some (.ref f31))) (l31:K.lookup f31=some ⟨oc31,od31,.func (PySem.W.fnOf "evening_step" "evening_step" (aD bU) (az bU) (ai bU) .none kV31 dc31 pm31 an31 cd31 ct31),sl31⟩) (c31:PySem.W.codeIn K cd31 "evening_step" = true) (k31:PySem.W.keepIn K (.ref f31)=true)
    (a32:PySem.W.nsIn K mainGlobals "exchanges_to" = some (some (.ref f32))) (l32:K.lookup f32=some ⟨oc32,od32,.func (PySem.W.fnOf "exchanges_to" "exchanges_to" (aD cC) (az cC) (ai cC) .none kV32 dc32 pm32 an32 cd32 ct32),sl32⟩) (c32:PySem.W.codeIn K cd32 "exchanges_to" = true) (k32:PySem.W.keepIn K (.ref f32)=true)
    (a33:PySem.W.nsIn K mainGlobals "exchange_step" = some (some (.ref f33))) (l33:K.lookup f33=some ⟨oc33,od33,.func (PySem.W.fnOf "exchange_step" "exchange_step" (aD cb) (az cb) (ai cb) .none kV33 dc33 pm33 an33 cd33 ct33),sl33⟩) (c33:PySem.W.codeIn K cd33 "exchange_step" = true) (k33:PySem.W.keepIn K (.ref f33)=true)
    (a34:PySem.W.nsIn K mainGlobals "check_bottom" = some (some (.ref f34))) (l34:K.lookup f34=some ⟨oc34,od34,.func (PySem.W.fnOf "check_bottom" "check_bottom" (aD cB) (az cB) (ai cB) .none kV34 dc34 pm34 an34 cd34 ct34),sl34⟩) (c34:PySem.W.codeIn K cd34 "check_bottom" = true) (k34:PySem.W.keepIn K (.ref f34)=true)
    (a35:PySem.W.nsIn K mainGlobals "greatest_divisor" = some (some (.ref f35))) (l35:K.lookup f35=some ⟨oc35,od35,.func (PySem.W.fnOf "greatest_divisor" "greatest_divisor" (aD bI) (az bI) (ai bI) .none kV35 dc35 pm35 an35 cd35 ct35),sl35⟩) (c35:PySem.W.codeIn K cd35 "greatest_divisor" = true) (k35:PySem.W.keepIn K (.ref f35)=true)
    (a36:PySem.W.nsIn K mainGlobals "divisor_of" = some (some (.ref f36))) (l36:K.lookup f36=some ⟨oc36,od36,.func (PySem.W.fnOf "divisor_of" "divisor_of" (aD d8) (az d8) (ai d8) .none kV36 dc36 pm36 an36 cd36 ct36),sl36⟩) (c36:PySem.W.codeIn K cd36 "divisor_of" = true) (k36:PySem.W.keepIn K (.ref f36)=true)
    (a37:PySem.W.nsIn K mainGlobals "divided_row" = some (some (.ref f37))) (l37:K.lookup f37=some ⟨oc37,od37,.func (PySem.W.fnOf "divided_row" "divided_row" (aD cx) (az cx) (ai cx) .none kV37 dc37 pm37 an37 cd37 ct37),sl37⟩) (c37:PySem.W.codeIn K cd37 "divided_row" = true) (k37:PySem.W.keepIn K (.ref f37)=true)
    (a38:PySem.W.nsIn K mainGlobals "least_terms" = some (some (.ref f38))) (l38:K.lookup f38=some ⟨oc38,od38,.func (PySem.W.fnOf "least_terms" "least_terms" (aD cz) (az cz) (ai cz) (.ref da38) kV38 dc38 pm38 an38 cd38 ct38),sl38⟩) (c38:PySem.W.codeIn K cd38 "least_terms" = true) (k38:PySem.W.keepIn K (.ref f38)=true)
    (a39:PySem.W.nsIn K mainGlobals "lead_to" = some (some (.ref f39))) (l39:K.lookup f39=some ⟨oc39,od39,.func (PySem.W.fnOf "lead_to" "lead_to" (aD ip) (az ip) (ai ip) .none kV39 dc39 pm39 an39 cd39 ct39),sl39⟩) (c39:PySem.W.codeIn K cd39 "lead_to" = true) (k39:PySem.W.keepIn K (.ref f39)=true)
    (a40:PySem.W.nsIn K mainGlobals "plain_table" = some (some (.ref f40))) (l40:K.lookup f40=some ⟨oc40,od40,.func (PySem.W.fnOf "plain_table" "plain_table" (aD cA) (az cA) (ai cA) .none kV40 dc40 pm40 an40 cd40 ct40),sl40⟩) (c40:PySem.W.codeIn K cd40 "plain_table" = true) (k40:PySem.W.keepIn K (.ref f40)=true)
    (a41:PySem.W.nsIn K mainGlobals "plain_row" = some (some (.ref f41))) (l41:K.lookup f41=some ⟨oc41,od41,.func (PySem.W.fnOf "plain_row" "plain_row" (aD eh) (az eh) (ai eh) .none kV41 dc41 pm41 an41 cd41 ct41),sl41⟩) (c41:PySem.W.codeIn K cd41 "plain_row" = true) (k41:PySem.W.keepIn K (.ref f41)=true)
    (a42:PySem.W.nsIn K mainGlobals "led_table" = some (some (.ref f42))) (l42:K.lookup f42=some ⟨oc42,od42,.func (PySem.W.fnOf "led_table" "led_table" (aD d7) (az d7) (ai d7) .none kV42 dc42 pm42 an42 cd42 ct42),sl42⟩) (c42:PySem.W.codeIn K cd42 "led_table" = true) (k42:PySem.W.keepIn K (.ref f42)=true)
    (a43:PySem.W.nsIn K mainGlobals "mixed_row" = some (some (.ref f43))) (l43:K.lookup f43=some ⟨oc43,od43,.func (PySem.W.fnOf "mixed_row" "mixed_row" (aD d6) (az d6) (ai d6) .none kV43 dc43 pm43 an43 cd43 ct43),sl43⟩) (c43:PySem.W.codeIn K cd43 "mixed_row" = true) (k43:PySem.W.keepIn K (.ref f43)=true)
    (a44:PySem.W.nsIn K mainGlobals "_law_cell_at" = some (some (.ref f44))) (l44:K.lookup f44=some ⟨oc44,od44,.func (PySem.W.fnOf "_law_cell_at" "_law_cell_at" (aD df) (az df) (ai df) .none kV44 dc44 pm44 an44 cd44 ct44),sl44⟩) (c44:PySem.W.codeIn K cd44 "_law_cell_at" = true) (k44:PySem.W.keepIn K (.ref f44)=true)
    (a45:PySem.W.nsIn K mainGlobals "_law_whole" = some (some (.ref f45))) (l45:K.lookup f45=some ⟨oc45,od45,.func (PySem.W.fnOf "_law_whole" "_law_whole" (aD eN) (az eN) (ai eN) .none kV45 dc45 pm45 an45 cd45 ct45),sl45⟩) (c45:PySem.W.codeIn K cd45 "_law_whole" = true) (k45:PySem.W.keepIn K (.ref f45)=true)
    (a46:PySem.W.nsIn K mainGlobals "_law_tops" = some (some (.ref f46))) (l46:K.lookup f46=some ⟨oc46,od46,.func (PySem.W.fnOf "_law_tops" "_law_tops" (aD fb) (az fb) (ai fb) .none kV46 dc46 pm46 an46 cd46 ct46),sl46⟩) (c46:PySem.W.codeIn K cd46 "_law_tops" = true) (k46:PySem.W.keepIn K (.ref f46)=true)
    (a47:PySem.W.nsIn K mainGlobals "_law_more_even" = some (some (.ref f47))) (l47:K.lookup f47=some ⟨oc47,od47,.func (PySem.W.fnOf "_law_more_even" "_law_more_even" (aD b9) (az b9) (ai b9) .none kV47 dc47 pm47 an47 cd47 ct47),sl47⟩) (c47:PySem.W.codeIn K cd47 "_law_more_even" = true) (k47:PySem.W.keepIn K (.ref f47)=true)
    (a48:PySem.W.nsIn K mainGlobals "_law_digits" = some (some (.ref f48))) (l48:K.lookup f48=some ⟨oc48,od48,.func (PySem.W.fnOf "_law_digits" "_law_digits" (aD dU) (az dU) (ai dU) .none kV48 dc48 pm48 an48 cd48 ct48),sl48⟩) (c48:PySem.W.codeIn K cd48 "_law_digits" = true) (k48:PySem.W.keepIn K (.ref f48)=true)
    (a49:PySem.W.nsIn K mainGlobals "_law_two" = some (some (.ref f49))) (l49:K.lookup f49=some ⟨oc49,od49,.func (PySem.W.fnOf "_law_two" "_law_two" (aD gy) (az gy) (ai gy) .none kV49 dc49 pm49 an49 cd49 ct49),sl49⟩) (c49:PySem.W.codeIn K cd49 "_law_two" = true) (k49:PySem.W.keepIn K (.ref f49)=true)
    (a50:PySem.W.nsIn K mainGlobals "_law_dealing" = some (some (.ref f50))) (l50:K.lookup f50=some ⟨oc50,od50,.func (PySem.W.fnOf "_law_dealing" "_law_dealing" (aD cX) (az cX) (ai cX) .none kV50 dc50 pm50 an50 cd50 ct50),sl50⟩) (c50:PySem.W.codeIn K cd50 "_law_dealing" = true) (k50:PySem.W.keepIn K (.ref f50)=true)
    (a51:PySem.W.nsIn K mainGlobals "_law_pairs" = some (some (.ref f51))) (l51:K.lookup f51=some ⟨oc51,od51,.func (PySem.W.fnOf "_law_pairs" "_law_pairs" (aD eO) (az eO) (ai eO) .none kV51 dc51 pm51 an51 cd51 ct51),sl51⟩) (c51:PySem.W.codeIn K cd51 "_law_pairs" = true) (k51:PySem.W.keepIn K (.ref f51)=true)
    (a52:PySem.W.nsIn K mainGlobals "_law_mixed" = some (some (.ref f52))) (l52:K.lookup f52=some ⟨oc52,od52,.func (PySem.W.fnOf "_law_mixed" "_law_mixed" (aD d9) (az d9) (ai d9) .none kV52 dc52 pm52 an52 cd52 ct52),sl52⟩) (c52:PySem.W.codeIn K cd52 "_law_mixed" = true) (k52:PySem.W.keepIn K (.ref f52)=true)
    (a53:PySem.W.nsIn K mainGlobals "law" = some (some (.ref f53))) (l53:K.lookup f53=some ⟨oc53,od53,.func (PySem.W.fnOf "law" "law" (aD kA) (az kA) (ai kA) .none kV53 dc53 pm53 an53 cd53 ct53),sl53⟩) (c53:PySem.W.codeIn K cd53 "law" = true) (k53:PySem.W.keepIn K (.ref f53)=true)
    {dcl38:Value}{ddd38:Option Addr}{dsl38:Array (Option Value)}{dtk38:Tok}{dn38:Nat} (d38:K.lookup da38=some ⟨dcl38,ddd38,.seq #[Value.int 1 dtk38] dn38,dsl38⟩)
    {C_MixError C_NoBottom C_NotAlike C_NoStep C_NoMix C_NotEven:Addr}
    {dd_MixError:Option Addr}{nm_MixError qn_MixError:Str}{bs_MixError:List Value}{ns_MixError:Addr}{hd_MixError:Bool}{sn_MixError:List Str}{sub_MixError:List Value}{ab_MixError:Bool}{col_MixError:Option Bool}{k0_MixError k1_MixError k2_MixError k3_MixError k5_MixError:Option Value}
    {dd_NoBottom:Option Addr}{nm_NoBottom qn_NoBottom:Str}{bs_NoBottom:List Value}{ns_NoBottom:Addr}{hd_NoBottom:Bool}{sn_NoBottom:List Str}{sub_NoBottom:List Value}{ab_NoBottom:Bool}{col_NoBottom:Option Bool}{k0_NoBottom k1_NoBottom k2_NoBottom k3_NoBottom k5_NoBottom:Option Value}
    {dd_NoStep:Option Addr}{nm_NoStep qn_NoStep:Str}{bs_NoStep:List Value}{ns_NoStep:Addr}{hd_NoStep:Bool}{sn_NoStep:List Str}{sub_NoStep:List Value}{ab_NoStep:Bool}{col_NoStep:Option Bool}{k0_NoStep k1_NoStep k2_NoStep k3_NoStep k5_NoStep:Option Value}
    {dd_NotAlike:Option Addr}{nm_NotAlike qn_NotAlike:Str}{bs_NotAlike:List Value}{ns_NotAlike:Addr}{hd_NotAlike:Bool}{sn_NotAlike:List Str}{sub_NotAlike:List Value}{ab_NotAlike:Bool}{col_NotAlike:Option Bool}{k0_NotAlike k1_NotAlike k2_NotAlike k3_NotAlike k5_NotAlike:Option Value}
    (e_MixError:PySem.W.nsIn K mainGlobals "MixError" = some (some (.ref C_MixError)))
    (e_NoBottom:PySem.W.nsIn K mainGlobals "NoBottom" = some (some (.ref C_NoBottom)))
    (e_NotAlike:PySem.W.nsIn K mainGlobals "NotAlike" = some (some (.ref C_NotAlike)))
    (e_NoStep:PySem.W.nsIn K mainGlobals "NoStep" = some (some (.ref C_NoStep)))
    (e_NoMix:PySem.W.nsIn K mainGlobals "NoMix" = some (some (.ref C_NoMix)))
    (e_NotEven:PySem.W.nsIn K mainGlobals "NotEven" = some (some (.ref C_NotEven)))
    (u_MixError:K.lookup C_MixError=some ⟨.type "type",dd_MixError,.cls ⟨nm_MixError,bs_MixError,.ref C_MixError::VB,ns_MixError,qn_MixError,hd_MixError,sn_MixError,sub_MixError,ab_MixError,col_MixError,false⟩,#[k0_MixError,k1_MixError,k2_MixError,k3_MixError,some (.builtin "ValueError.__new__"),k5_MixError]⟩) (v_MixError:PySem.W.excIn K C_MixError VB "ValueError.__new__" = true)
    (u_NoBottom:K.lookup C_NoBottom=some ⟨.type "type",dd_NoBottom,.cls ⟨nm_NoBottom,bs_NoBottom,.ref C_NoBottom::.ref C_MixError::VB,ns_NoBottom,qn_NoBottom,hd_NoBottom,sn_NoBottom,sub_NoBottom,ab_NoBottom,col_NoBottom,false⟩,#[k0_NoBottom,k1_NoBottom,k2_NoBottom,k3_NoBottom,some (.builtin "ValueError.__new__"),k5_NoBottom]⟩) (v_NoBottom:PySem.W.excIn K C_NoBottom VB "ValueError.__new__" = true)
    (u_NoStep:K.lookup C_NoStep=some ⟨.type "type",dd_NoStep,.cls ⟨nm_NoStep,bs_NoStep,.ref C_NoStep::.ref C_MixError::VB,ns_NoStep,qn_NoStep,hd_NoStep,sn_NoStep,sub_NoStep,ab_NoStep,col_NoStep,false⟩,#[k0_NoStep,k1_NoStep,k2_NoStep,k3_NoStep,some (.builtin "ValueError.__new__"),k5_NoStep]⟩) (v_NoStep:PySem.W.excIn K C_NoStep VB "ValueError.__new__" = true)
    (u_NotAlike:K.lookup C_NotAlike=some ⟨.type "type",dd_NotAlike,.cls ⟨nm_NotAlike,bs_NotAlike,.ref C_NotAlike::.ref C_MixError::VB,ns_NotAlike,qn_NotAlike,hd_NotAlike,sn_NotAlike,sub_NotAlike,ab_NotAlike,col_NotAlike,false⟩,#[k0_NotAlike,k1_NotAlike,k2_NotAlike,k3_NotAlike,some (.builtin "ValueError.__new__"),k5_NotAlike]⟩) (v_NotAlike:PySem.W.excIn K C_NotAlike VB "ValueError.__new__" = true)
    (ga_NoBottom:PySem.W.findIn K (.ref C_NoBottom) "__getattribute__" = some (some (.builtin "BaseException.__getattribute__"))) (ge_NoBottom:PySem.W.findIn K (.ref C_NoBottom) "__getattr__" = some none) (cl_NoBottom:PySem.W.findIn K (.ref C_NoBottom) "__class__" = some (some (.builtin "object.__class__"))) (ob_NoBottom:PySem.W.mroIn K C_NoBottom (.type "object")=some true) (be_NoBottom:PySem.W.mroIn K C_NoBottom (.type "BaseException")=some true)
    (ga_NoStep:PySem.W.findIn K (.ref C_NoStep) "__getattribute__" = some (some (.builtin "BaseException.__getattribute__"))) (ge_NoStep:PySem.W.findIn K (.ref C_NoStep) "__getattr__" = some none) (cl_NoStep:PySem.W.findIn K (.ref C_NoStep) "__class__" = some (some (.builtin "object.__class__"))) (ob_NoStep:PySem.W.mroIn K C_NoStep (.type "object")=some true) (be_NoStep:PySem.W.mroIn K C_NoStep (.type "BaseException")=some true)
    (ga_NotAlike:PySem.W.findIn K (.ref C_NotAlike) "__getattribute__" = some (some (.builtin "BaseException.__getattribute__"))) (ge_NotAlike:PySem.W.findIn K (.ref C_NotAlike) "__getattr__" = some none) (cl_NotAlike:PySem.W.findIn K (.ref C_NotAlike) "__class__" = some (some (.builtin "object.__class__"))) (ob_NotAlike:PySem.W.mroIn K C_NotAlike (.type "object")=some true) (be_NotAlike:PySem.W.mroIn K C_NotAlike (.type "BaseException")=some true)
    {tk_MOST:Tok} (g_MOST:PySem.W.nsIn K mainGlobals "MOST" = some (some (Value.int 8 tk_MOST)))
    {c_fp:Addr} (hcf:cd20=.ref c_fp) (hch:PySem.W.codeHdIn K c_fp L3.uW=true)
    (z_len:PySem.W.nsIn K mainGlobals "len" = some none) (z_isinstance:PySem.W.nsIn K mainGlobals "isinstance" = some none) (z_int:PySem.W.nsIn K mainGlobals "int" = some none) (z_bool:PySem.W.nsIn K mainGlobals "bool" = some none) (z_list:PySem.W.nsIn K mainGlobals "list" = some none) (z_range:PySem.W.nsIn K mainGlobals "range" = some none) (z_sum:PySem.W.nsIn K mainGlobals "sum" = some none) (z_sorted:PySem.W.nsIn K mainGlobals "sorted" = some none) (z_tuple:PySem.W.nsIn K mainGlobals "tuple" = some none) (z_str:PySem.W.nsIn K mainGlobals "str" = some none) (z_min:PySem.W.nsIn K mainGlobals "min" = some none) (z_any:PySem.W.nsIn K mainGlobals "any" = some none) (z_all:PySem.W.nsIn K mainGlobals "all" = some none) (z_reversed:PySem.W.nsIn K mainGlobals "reversed" = some none) (z_abs:PySem.W.nsIn K mainGlobals "abs" = some none) (z_zip:PySem.W.nsIn K mainGlobals "zip" = some none) (z_ValueError:PySem.W.nsIn K mainGlobals "ValueError" = some none) :
    ∃fd:FuncData,(∀(s:Shared) (v:Value),BindsTo s fd ⟨[v],[]⟩ [("_law_script",v)])∧∀base:Heap,K.In base→base.Ns mainGlobals mg→L3.BMd base mg→aM l.prog w K mg base CX0 7 fa fd sv (L3.spP K qU):=by
  have e:=hfa.symm.trans (PySem.W.mg_of X G a53)
  cases e
  have T:∀base:Heap,L3.BMd base mg→Txt K mg base:=fun base hbm_=>⟨PySem.W.mg_none_of X G z_len,PySem.W.mg_none_of X G z_isinstance,PySem.W.mg_none_of X G z_int,PySem.W.mg_none_of X G z_bool,PySem.W.mg_none_of X G z_list,PySem.W.mg_none_of X G z_range,PySem.W.mg_none_of X G z_sum,PySem.W.mg_none_of X G z_sorted,PySem.W.mg_none_of X G z_tuple,PySem.W.mg_none_of X G z_str,PySem.W.mg_none_of X G z_min,PySem.W.mg_none_of X G z_any,PySem.W.mg_none_of X G z_all,PySem.W.mg_none_of X G z_reversed,PySem.W.mg_none_of X G z_abs,PySem.W.mg_none_of X G z_zip,PySem.W.mg_none_of X G z_ValueError,⟨_,PySem.W.mg_of X G g_MOST⟩,⟨f20,_,c_fp,PySem.W.mg_of X G a20,⟨_,_,_,l20⟩,hcf,hch,hbm_⟩⟩
  have F0:=aT (st:=dW) l0 c0 k0
  have E0:FnAt K mg "dealing_in" dW fh f0 _:=⟨F0,PySem.W.mg_of X G a0,F0.binds (ps:=fh) fun _ _ _ _ _ _ us hl=>match us,hl with | [_],_=>rfl⟩
  have F1:=aT (st:=fK) l1 c1 k1
  have E1:FnAt K mg "deal_row" fK hX f1 _:=⟨F1,PySem.W.mg_of X G a1,F1.binds (ps:=hX) fun _ _ _ _ _ _ us hl=>match us,hl with | [_,_,_],_=>rfl⟩
  have F2:=aT (st:=bY) l2 c2 k2
  have E2:FnAt K mg "columns_from" bY dy f2 _:=⟨F2,PySem.W.mg_of X G a2,F2.binds (ps:=dy) fun _ _ _ _ _ _ us hl=>match us,hl with | [_,_],_=>rfl⟩
  have F3:=aT (st:=cj) l3 c3 k3
  have E3:FnAt K mg "shift_dealing" cj cK f3 _:=⟨F3,PySem.W.mg_of X G a3,F3.binds (ps:=cK) fun _ _ _ _ _ _ us hl=>match us,hl with | [_,_,_],_=>rfl⟩
  have F4:=aT (st:=eP) l4 c4 k4
  have E4:FnAt K mg "is_number" eP fN f4 _:=⟨F4,PySem.W.mg_of X G a4,F4.binds (ps:=fN) fun _ _ _ _ _ _ us hl=>match us,hl with | [_],_=>rfl⟩
  have F5:=aT (st:=gk) l5 c5 k5
  have E5:FnAt K mg "is_place" gk gN f5 _:=⟨F5,PySem.W.mg_of X G a5,F5.binds (ps:=gN) fun _ _ _ _ _ _ us hl=>match us,hl with | [_,_],_=>rfl⟩
  have F6:=aT (st:=bV) l6 c6 k6
  have E6:FnAt K mg "copied_table" bV dz f6 _:=⟨F6,PySem.W.mg_of X G a6,F6.binds (ps:=dz) fun _ _ _ _ _ _ us hl=>match us,hl with | [_],_=>rfl⟩
  have F7:=aT (st:=bX) l7 c7 k7
  have E7:FnAt K mg "sums_of_rows" bX cF f7 _:=⟨F7,PySem.W.mg_of X G a7,F7.binds (ps:=cF) fun _ _ _ _ _ _ us hl=>match us,hl with | [_],_=>rfl⟩
  have F8:=aT (st:=bM) l8 c8 k8
  have E8:FnAt K mg "sums_of_columns" bM bZ f8 _:=⟨F8,PySem.W.mg_of X G a8,F8.binds (ps:=bZ) fun _ _ _ _ _ _ us hl=>match us,hl with | [_],_=>rfl⟩
  have F9:=aT (st:=b7) l9 c9 k9
  have E9:FnAt K mg "turned_table" b7 dC f9 _:=⟨F9,PySem.W.mg_of X G a9,F9.binds (ps:=dC) fun _ _ _ _ _ _ us hl=>match us,hl with | [_],_=>rfl⟩
  have F10:=aT (st:=dZ) l10 c10 k10
  have E10:FnAt K mg "column_of" dZ gg f10 _:=⟨F10,PySem.W.mg_of X G a10,F10.binds (ps:=gg) fun _ _ _ _ _ _ us hl=>match us,hl with | [_,_],_=>rfl⟩
  have F11:=aT (st:=fB) l11 c11 k11
  have E11:FnAt K mg "is_even" fB i7 f11 _:=⟨F11,PySem.W.mg_of X G a11,F11.binds (ps:=i7) fun _ _ _ _ _ _ us hl=>match us,hl with | [_],_=>rfl⟩
  have F12:=aT (st:=cR) l12 c12 k12
  have E12:FnAt K mg "is_mixture" cR fj f12 _:=⟨F12,PySem.W.mg_of X G a12,F12.binds (ps:=fj) fun _ _ _ _ _ _ us hl=>match us,hl with | [_],_=>rfl⟩
  have F13:=aT (st:=iu) l13 c13 k13
  have E13:FnAt K mg "is_pair" iu i9 f13 _:=⟨F13,PySem.W.mg_of X G a13,F13.binds (ps:=i9) fun _ _ _ _ _ _ us hl=>match us,hl with | [_,_],_=>rfl⟩
  have F14:=aT (st:=gr) l14 c14 k14
  have E14:FnAt K mg "told_by" gr jc f14 _:=⟨F14,PySem.W.mg_of X G a14,F14.binds (ps:=jc) fun _ _ _ _ _ _ us hl=>match us,hl with | [_],_=>rfl⟩
  have F15:=aT (st:=cU) l15 c15 k15
  have E15:FnAt K mg "add_dealing" cU dq f15 _:=⟨F15,PySem.W.mg_of X G a15,F15.binds (ps:=dq) fun _ _ _ _ _ _ us hl=>match us,hl with | [_,_,_],_=>rfl⟩
  have F16:=aT (st:=cS) l16 c16 k16
  have E16:FnAt K mg "mixture_of" cS eV f16 _:=⟨F16,PySem.W.mg_of X G a16,F16.binds (ps:=eV) fun _ _ _ _ _ _ us hl=>match us,hl with | [_],_=>rfl⟩
  have F17:=aT (st:=eY) l17 c17 k17
  have E17:FnAt K mg "marks_of" eY gQ f17 _:=⟨F17,PySem.W.mg_of X G a17,F17.binds (ps:=gQ) fun _ _ _ _ _ _ us hl=>match us,hl with | [_],_=>rfl⟩
  have F18:=aT (st:=cT) l18 c18 k18
  have E18:FnAt K mg "marked_row" cT eX f18 _:=⟨F18,PySem.W.mg_of X G a18,F18.binds (ps:=eX) fun _ _ _ _ _ _ us hl=>match us,hl with | [_],_=>rfl⟩
  have F19:=aT (st:=ix) l19 c19 k19
  have E19:FnAt K mg "falling" ix il f19 _:=⟨F19,PySem.W.mg_of X G a19,F19.binds (ps:=il) fun _ _ _ _ _ _ us hl=>match us,hl with | [_],_=>rfl⟩
  have F20:=aT (st:=bP) l20 c20 k20
  have E20:FnAt K mg "falling_places" bP cn f20 _:=⟨F20,PySem.W.mg_of X G a20,F20.binds (ps:=cn) fun _ _ _ _ _ _ us hl=>match us,hl with | [_],_=>rfl⟩
  have F21:=aT (st:=bS) l21 c21 k21
  have E21:FnAt K mg "places_below" bS cE f21 _:=⟨F21,PySem.W.mg_of X G a21,F21.binds (ps:=cE) fun _ _ _ _ _ _ us hl=>match us,hl with | [_,_],_=>rfl⟩
  have F22:=aT (st:=fP) l22 c22 k22
  have E22:FnAt K mg "heads_of" fP ic f22 _:=⟨F22,PySem.W.mg_of X G a22,F22.binds (ps:=ic) fun _ _ _ _ _ _ us hl=>match us,hl with | [_],_=>rfl⟩
  have F23:=aT (st:=cW) l23 c23 k23
  have E23:FnAt K mg "check_alike" cW eB f23 _:=⟨F23,PySem.W.mg_of X G a23,F23.binds (ps:=eB) fun _ _ _ _ _ _ us hl=>match us,hl with | [_,_],_=>rfl⟩
  have F24:=aT (st:=bH) l24 c24 k24
  have E24:FnAt K mg "first_head_above" bH bN f24 _:=⟨F24,PySem.W.mg_of X G a24,F24.binds (ps:=bN) fun _ _ _ _ _ _ us hl=>match us,hl with | [_,_],_=>rfl⟩
  have F25:=aT (st:=jk) l25 c25 k25
  have E25:FnAt K mg "bar_of" jk kx f25 _:=⟨F25,PySem.W.mg_of X G a25,F25.binds (ps:=kx) fun _ _ _ _ _ _ us hl=>match us,hl with | [_,_],_=>rfl⟩
  have F26:=aT (st:=fM) l26 c26 k26
  have E26:FnAt K mg "can_step" fM hV f26 _:=⟨F26,PySem.W.mg_of X G a26,F26.binds (ps:=hV) fun _ _ _ _ _ _ us hl=>match us,hl with | [_,_],_=>rfl⟩
  have F27:=aT (st:=eR) l27 c27 k27
  have E27:FnAt K mg "step_made" eR cZ f27 _:=⟨F27,PySem.W.mg_of X G a27,F27.binds (ps:=cZ) fun _ _ _ _ _ _ us hl=>match us,hl with | [_,_],_=>rfl⟩
  have F28:=aT (st:=fX) l28 c28 k28
  have E28:FnAt K mg "steps_to" fX gZ f28 _:=⟨F28,PySem.W.mg_of X G a28,F28.binds (ps:=gZ) fun _ _ _ _ _ _ us hl=>match us,hl with | [_,_],_=>rfl⟩
  have F29:=aT (st:=dX) l29 c29 k29
  have E29:FnAt K mg "row_behind" dX eZ f29 _:=⟨F29,PySem.W.mg_of X G a29,F29.binds (ps:=eZ) fun _ _ _ _ _ _ us hl=>match us,hl with | [_,_],_=>rfl⟩
  have F30:=aT (st:=b8) l30 c30 k30
  have E30:FnAt K mg "evening_steps" b8 cL f30 _:=⟨F30,PySem.W.mg_of X G a30,F30.binds (ps:=cL) fun _ _ _ _ _ _ us hl=>match us,hl with | [_,_],_=>rfl⟩
  have F31:=aT (st:=bU) l31 c31 k31
  have E31:FnAt K mg "evening_step" bU dB f31 _:=⟨F31,PySem.W.mg_of X G a31,F31.binds (ps:=dB) fun _ _ _ _ _ _ us hl=>match us,hl with | [_,_],_=>rfl⟩
  have F32:=aT (st:=cC) l32 c32 k32
  have E32:FnAt K mg "exchanges_to" cC dE f32 _:=⟨F32,PySem.W.mg_of X G a32,F32.binds (ps:=dE) fun _ _ _ _ _ _ us hl=>match us,hl with | [_,_],_=>rfl⟩
  have F33:=aT (st:=cb) l33 c33 k33
  have E33:FnAt K mg "exchange_step" cb cM f33 _:=⟨F33,PySem.W.mg_of X G a33,F33.binds (ps:=cM) fun _ _ _ _ _ _ us hl=>match us,hl with | [_,_,_],_=>rfl⟩
  have F34:=aT (st:=cB) l34 c34 k34
  have E34:FnAt K mg "check_bottom" cB dD f34 _:=⟨F34,PySem.W.mg_of X G a34,F34.binds (ps:=dD) fun _ _ _ _ _ _ us hl=>match us,hl with | [_],_=>rfl⟩
  have F35:=aT (st:=bI) l35 c35 k35
  have E35:FnAt K mg "greatest_divisor" bI bO f35 _:=⟨F35,PySem.W.mg_of X G a35,F35.binds (ps:=bO) fun _ _ _ _ _ _ us hl=>match us,hl with | [_,_],_=>rfl⟩
  have F36:=aT (st:=d8) l36 c36 k36
  have E36:FnAt K mg "divisor_of" d8 fc f36 _:=⟨F36,PySem.W.mg_of X G a36,F36.binds (ps:=fc) fun _ _ _ _ _ _ us hl=>match us,hl with | [_,_],_=>rfl⟩
  have F37:=aT (st:=cx) l37 c37 k37
  have E37:FnAt K mg "divided_row" cx en f37 _:=⟨F37,PySem.W.mg_of X G a37,F37.binds (ps:=en) fun _ _ _ _ _ _ us hl=>match us,hl with | [_,_],_=>rfl⟩
  have F38:Cu K "least_terms" "least_terms" cz [Value.int 1 dtk38] f38 _:=⟨⟨_,_,_,_,_,_,_,_,_,_,_,_,rfl,l38,c38,d38,rfl⟩,k38⟩
  have E38:zh K mg "least_terms" cz cV [.int 1] f38 _:=⟨⟨_,.cons ⟨_,rfl⟩ .nil,F38,F38.binds (ps:=cV) (ds:=[Value.int 1 dtk38]) fun _ _ _ _ _ _ _ us hl=>match us,(show us.length=1 from by rw[List.length_append] at hl;exact Nat.add_right_cancel (show us.length+1=1+1 from hl)) with | [_],_=>⟨_,rfl,rfl⟩⟩,PySem.W.mg_of X G a38,F38.binds (ps:=cV) (ds:=[]) fun _ _ _ _ _ _ _ us hl=>match us,hl with | [_,_],_=>⟨_,rfl,rfl⟩⟩
  have F39:=aT (st:=ip) l39 c39 k39
  have E39:FnAt K mg "lead_to" ip iU f39 _:=⟨F39,PySem.W.mg_of X G a39,F39.binds (ps:=iU) fun _ _ _ _ _ _ us hl=>match us,hl with | [_,_],_=>rfl⟩
  have F40:=aT (st:=cA) l40 c40 k40
  have E40:FnAt K mg "plain_table" cA eD f40 _:=⟨F40,PySem.W.mg_of X G a40,F40.binds (ps:=eD) fun _ _ _ _ _ _ us hl=>match us,hl with | [_],_=>rfl⟩
  have F41:=aT (st:=eh) l41 c41 k41
  have E41:FnAt K mg "plain_row" eh fJ f41 _:=⟨F41,PySem.W.mg_of X G a41,F41.binds (ps:=fJ) fun _ _ _ _ _ _ us hl=>match us,hl with | [_,_],_=>rfl⟩
  have F42:=aT (st:=d7) l42 c42 k42
  have E42:FnAt K mg "led_table" d7 fZ f42 _:=⟨F42,PySem.W.mg_of X G a42,F42.binds (ps:=fZ) fun _ _ _ _ _ _ us hl=>match us,hl with | [_,_,_],_=>rfl⟩
  have F43:=aT (st:=d6) l43 c43 k43
  have E43:FnAt K mg "mixed_row" d6 fW f43 _:=⟨F43,PySem.W.mg_of X G a43,F43.binds (ps:=fW) fun _ _ _ _ _ _ us hl=>match us,hl with | [_,_,_,_],_=>rfl⟩
  have F44:=aT (st:=df) l44 c44 k44
  have E44:FnAt K mg "_law_cell_at" df du f44 _:=⟨F44,PySem.W.mg_of X G a44,F44.binds (ps:=du) fun _ _ _ _ _ _ us hl=>match us,hl with | [_,_],_=>rfl⟩
  have F45:=aT (st:=eN) l45 c45 k45
  have E45:FnAt K mg "_law_whole" eN eS f45 _:=⟨F45,PySem.W.mg_of X G a45,F45.binds (ps:=eS) fun _ _ _ _ _ _ us hl=>match us,hl with | [_],_=>rfl⟩
  have F46:=aT (st:=fb) l46 c46 k46
  have E46:FnAt K mg "_law_tops" fb gX f46 _:=⟨F46,PySem.W.mg_of X G a46,F46.binds (ps:=gX) fun _ _ _ _ _ _ us hl=>match us,hl with | [_],_=>rfl⟩
  have F47:=aT (st:=b9) l47 c47 k47
  have E47:FnAt K mg "_law_more_even" b9 cN f47 _:=⟨F47,PySem.W.mg_of X G a47,F47.binds (ps:=cN) fun _ _ _ _ _ _ us hl=>match us,hl with | [_,_,_],_=>rfl⟩
  have F48:=aT (st:=dU) l48 c48 k48
  have E48:FnAt K mg "_law_digits" dU eU f48 _:=⟨F48,PySem.W.mg_of X G a48,F48.binds (ps:=eU) fun _ _ _ _ _ _ us hl=>match us,hl with | [_,_,_],_=>rfl⟩
  have F49:=aT (st:=gy) l49 c49 k49
  have E49:FnAt K mg "_law_two" gy iX f49 _:=⟨F49,PySem.W.mg_of X G a49,F49.binds (ps:=iX) fun _ _ _ _ _ _ us hl=>match us,hl with | [_],_=>rfl⟩
  have F50:=aT (st:=cX) l50 c50 k50
  have E50:FnAt K mg "_law_dealing" cX ek f50 _:=⟨F50,PySem.W.mg_of X G a50,F50.binds (ps:=ek) fun _ _ _ _ _ _ us hl=>match us,hl with | [_,_],_=>rfl⟩
  have F51:=aT (st:=eO) l51 c51 k51
  have E51:FnAt K mg "_law_pairs" eO fV f51 _:=⟨F51,PySem.W.mg_of X G a51,F51.binds (ps:=fV) fun _ _ _ _ _ _ us hl=>match us,hl with | [_,_],_=>rfl⟩
  have F52:=aT (st:=d9) l52 c52 k52
  have E52:FnAt K mg "_law_mixed" d9 fS f52 _:=⟨F52,PySem.W.mg_of X G a52,F52.binds (ps:=fS) fun _ _ _ _ _ _ us hl=>match us,hl with | [_,_],_=>rfl⟩
  have F53:=aT (st:=kA) l53 c53 k53
  have E53:FnAt K mg "law" kA sv fa _:=⟨F53,PySem.W.mg_of X G a53,F53.binds (ps:=sv) fun _ _ _ _ _ _ us hl=>match us,hl with | [_],_=>rfl⟩
  have A_:Fns K mg:=⟨⟨_,_,E0⟩,⟨_,_,E1⟩,⟨_,_,E2⟩,⟨_,_,E3⟩,⟨_,_,E4⟩,⟨_,_,E5⟩,⟨_,_,E6⟩,⟨_,_,E7⟩,⟨_,_,E8⟩,⟨_,_,E9⟩,⟨_,_,E10⟩,⟨_,_,E11⟩,⟨_,_,E12⟩,⟨_,_,E13⟩,⟨_,_,E14⟩,⟨_,_,E15⟩,⟨_,_,E16⟩,⟨_,_,E17⟩,⟨_,_,E18⟩,⟨_,_,E19⟩,⟨_,_,E20⟩,⟨_,_,E21⟩,⟨_,_,E22⟩,⟨_,_,E23⟩,⟨_,_,E24⟩,⟨_,_,E25⟩,⟨_,_,E26⟩,⟨_,_,E27⟩,⟨_,_,E28⟩,⟨_,_,E29⟩,⟨_,_,E30⟩,⟨_,_,E31⟩,⟨_,_,E32⟩,⟨_,_,E33⟩,⟨_,_,E34⟩,⟨_,_,E35⟩,⟨_,_,E36⟩,⟨_,_,E37⟩,⟨_,_,E38⟩,⟨_,_,E39⟩,⟨_,_,E40⟩,⟨_,_,E41⟩,⟨_,_,E42⟩,⟨_,_,E43⟩,⟨_,_,E44⟩,⟨_,_,E45⟩,⟨_,_,E46⟩,⟨_,_,E47⟩,⟨_,_,E48⟩,⟨_,_,E49⟩,⟨_,_,E50⟩,⟨_,_,E51⟩,⟨_,_,E52⟩,⟨_,_,E53⟩⟩
  exact⟨PySem.W.fnOf "law" "law" (aD kA) (az kA) (ai kA) .none kV53 dc53 pm53 an53 cd53 ct53,fun s v=>.of_eq rfl,fun base hb _ hbm=>Il E53 A_ (T base hbm) (c:=⟨C_MixError,C_NoBottom,C_NotAlike,C_NoStep,C_NoMix,C_NotEven⟩) ⟨PySem.W.mg_of X G e_MixError,PySem.W.mg_of X G e_NoBottom,PySem.W.mg_of X G e_NotAlike,PySem.W.mg_of X G e_NoStep,PySem.W.mg_of X G e_NoMix,PySem.W.mg_of X G e_NotEven,jw.of_lookup (ups:=[]) hb u_MixError rfl v_MixError,jw.of_lookup (ups:=[C_MixError]) hb u_NoBottom rfl v_NoBottom,⟨ga_NoBottom,ge_NoBottom,cl_NoBottom,ob_NoBottom,be_NoBottom,by unfold PySem.W.clsIn;rw[u_NoBottom];rfl⟩,jw.of_lookup (ups:=[C_MixError]) hb u_NoStep rfl v_NoStep,⟨ga_NoStep,ge_NoStep,cl_NoStep,ob_NoStep,be_NoStep,by unfold PySem.W.clsIn;rw[u_NoStep];rfl⟩,jw.of_lookup (ups:=[C_MixError]) hb u_NotAlike rfl v_NotAlike,⟨ga_NotAlike,ge_NotAlike,cl_NotAlike,ob_NotAlike,be_NotAlike,by unfold PySem.W.clsIn;rw[u_NotAlike];rfl⟩⟩⟩
theorem walk {l:PySem.W.OpenLaw}{q:Program}{loose:List Str}{XP:(Str→Option Value)→Heap→Prop}{YP:World→Heap→Prop}{d:DefRec}{K:Params→PySem.W.Frag} (hn:l.most=some 63) (hdf:d.params.defaults=[])
    (hY:∀(w:World) (h:Heap),YP w h→(K w.params).In h) (hT:∀(w:World) (h:Heap),YP w h→h.get? L3.uW=some (PySem.W.tabObj #[])) (hKP:∀w:World,(K w.params).lookup L3.uW=none) {c_:Addr} (hcd:∀w:World,PySem.W.codeHdIn (K w.params) c_ L3.uW=true)
    (F:∀(w:World) (mg:Str→Option Value) (fa:Addr) (h:Heap),(K w.params).In h→h.Ns mainGlobals mg→mg d.name=some (.ref fa) →
      ∃fd:FuncData,(∀(s:Shared) (u:Value),BindsTo s fd ⟨[u],[]⟩ [("_law_script",u)])∧∀base:Heap,(K w.params).In base→base.Ns mainGlobals mg→L3.BMd base mg→aM l.prog w (K w.params) mg base CX0 7 fa fd ["_law_script"] (L3.spP (K w.params) qU)) :
    PySem.W.WalkO q loose XP YP l.row.toRowW d [] (fun f vs=>PySem.call f vs) :=
  L3.Ez (n:=63) (k:=7) (x:="_law_script") (CX:=fun _=>CX0) (sp:=fun w=>L3.spP (K w.params) qU) hn (by decide) hdf ⟨rfl,by decide,by decide⟩ hY hT hKP hcd F (fun w H a ns hl hO hS=>⟨[.scr ns],⟨[],_,_,[],[],rfl,rfl,⟨a,rfl,L3.Ja hO hS,rfl⟩,rfl,rfl⟩,hO.tab,Fw hl (fun v H' fp s r n=>r.1)⟩) fun _ _ _ _ _ z=>z
end Mine
open PySem PySem.W PyProof.Rows
namespace PySem.W.Fast
def tw15471421891035863188:=0
def tw9357866301763390240:=0
def tw9222885004818289061:=0
def tw8161881090471179715:=0
def tw10782466686337234773:=0
def tw17860973676665188775:=0
def tw3904154933166915907:=0
def tw10951432742165694642:=0
def tw16444182860534140996:=0
def tw7182912470235537826:=0
def tw3071561020314016921:=0
def tw10112038581314290148:=0
def tw2317435195583431603:=0
def tw11721492158960793522:=0
def tw16505150555704668035:=0
def tw17157449215086278302:=0
def tw10793513434502921842:=0
def tw12880788670859812025:=0
def tw2897310961352566782:=0
def tw6054470489003456292:=0
def tw5213452862783163479:=0
def tw11438595935752907752:=0
def tw13738634554901520589:=0
def tw14682650296898248759:=0
def tw18234929088928495545:=0
def tw17932687941021694775:=0
def tw4192012302871288230:=0
def tw2607891004456387235:=0
def tw1349450356801747465:=0
def tw3605374786933871543:=0
def tw5368855792194212273:=0
def tw4605713425593281493:=0
def tw1876508852228270856:=0
def tw1682951248528336574:=0
def tw1051192981239063514:=0
def tw11067638445647303149:=0
def tw10162593242903058690:=0
def tw14863353883895067699:=0
def tw13427235026632083912:=0
def tw17596857666049942788:=0
def tw14859375067574128145:=0
def tw10196720582930214914:=0
def tw2874615834201068679:=0
def tw10377211407996044260:=0
def tw9174705054435869977:=0
def tw1563934282183625444:=0
def tw8134440127185808682:=0
def tw8921805235115836012:=0
def tw9254017746200334170:=0
def tw2142554156739277174:=0
def tw11108206781858799940:=0
def tw10011296953887769967:=0
def tw840449724160579823:=0
def tw11012482930552912452:=0
def tw814824778348363183:=0
def tw15458402993411281958:=0
def tw2940640935827797542:=0
def tw18349014643759837902:=0
def tw198915598240959497:=0
def tw564764419637984978:=0
def tw14411714888138176286:=0
def tw3322178804362991857:=0
def tw18169352989615052338:=0
def tw4513687257593608377:=0
def tw3016986042185562571:=0
def tw17964545827115571233:=0
def tw18006269897652814925:=0
def tw1655484761699171436:=0
def tw16549682324312434311:=0
def tw2030913989254347423:=0
def tw15464916618511201345:=0
def tw11706811809978641996:=0
def tw17089281340858768794:=0
def tw13561106051547034505:=0
def tw9546917304288069071:=0
def tw16427991758953626189:=0
def tw9551848639566421694:=0
def tw8454933564269699759:=0
def tw15355626736391110471:=0
def tw6190899339032373355:=0
def tw1192774510943876266:=0
def tw17706981261639627837:=0
def tw2980306718973717384:=0
def tw2541217395327781208:=0
def tw503833676943721146:=0
def tw4974423132857004966:=0
def tw17639475554238760150:=0
def tw17646812505082064512:=0
def tw2209445213206642066:=0
def tw15049697368488065954:=0
def tw7628565219507121567:=0
def tw4156390444544285145:=0
def tw14157301859785941944:=0
def tw2617136103554933226:=0
def tw8978401293295495096:=0
def tw10624122927404581789:=0
def tw15598222778649101204:=0
def tw7118732395133251684:=0
def tw198285823113332527:=0
def tw7086861437024869024:=0
def tw8659138440734455478:=0
def tw11800863062718519723:=0
def tw14196467852605483645:=0
def tw15229174881582168706:=0
def tw14648544677905779214:=0
def tw9205871263484527772:=0
def tw3247163356493281328:=0
def tw14195737376113349423:=0
def tw3213188769238847129:=0
def tw580671403392018472:=0
def tw10469026755769244859:=0
def tw17750917089837563308:=0
def tw10750308382847205632:=0
def tw15150823486827282505:=0
def tw17425358599876648142:=0
def tw1241168948220404399:=0
def tw6333016300004702345:=0
def tw3427582722165881238:=0
def tw14163127190225800428:=0
def tw8808929742431987063:=0
def tw15917151826809260681:=0
def tw1660189703298626976:=0
def tw446480166691838032:=0
def tw9020256591220214810:=0
def tw6001729348839636276:=0
def tw4683698356806293179:=0
def tw82247879734644494:=0
def tw1495864789191911712:=0
def tw14514848116711765705:=0
def tw8958182351315520026:=0
def tw445107365302531011:=0
def tw3332311016447285617:=0
def tw3374098846542015243:=0
def tw11217685233182816210:=0
def tw12291994764190769889:=0
def tw12552058406776798531:=0
def tw17866456626616374693:=0
def tw12563175432482258331:=0
def tw13456117473868058819:=0
def tw14409972000995291894:=0
def tw4578134490565080698:=0
def tw13555331859908575152:=0
def tw6072850703010167684:=0
def tw12490737992822252094:=0
def tw17870528794563899058:=0
def tw16209067356234223620:=0
def tw4611266164195908697:=0
def tw1120289726883655761:=0
def tw607133743133010508:=0
def tw7860458375328568820:=0
def tw9163966915379722661:=0
def tw3165714420651952663:=0
def tw9283637242361976410:=0
def tw7997326405355378489:=0
def tw3985728539732179849:=0
def tw12659642519519035331:=0
def tw13402053345789127682:=0
def tw9864294319642963128:=0
def tw15674042510409104282:=0
def tw2116788500422599059:=0
def tw6560807486512214479:=0
def tw29605689088541112:=0
def tw6570316499444864481:=0
def tw12852965370141509929:=0
def tw4274135203243999795:=0
def tw9932897894450444119:=0
def tw1878129843639094189:=0
def tw16223918861539343400:=0
def tw15991080127529171471:=0
def tw16844311688993283694:=0
def tw1776228858244172452:=0
def tw16513153628564033453:=0
def tw16488312212101484932:=0
def tw3388098873600201192:=0
def tw7472478955356429023:=0
def tw9639472671050146702:=0
def tw8082331696347175868:=0
def tw17666263567816476370:=0
def tw3023209505674217486:=0
def tw18207194131437061238:=0
def tw13370057633024727918:=0
def tw9242164687341119416:=0
def tw17565413007222871340:=0
def tw8043891179586563849:=0
def tw1681980613124794762:=0
def tw731994636569855051:=0
def tw1138866973361260423:=0
def tw16976071856480637251:=0
def tw16527624753972739758:=0
def tw13000827296610145183:=0
def tw14987400704317800830:=0
def tw14402507599525479645:=0
def tw5491700068796221365:=0
def tw6858495627619148689:=0
def tw3022359900860207249:=0
def tw6934083370461958449:=0
def tw2424878595937215812:=0
def tw14241382036558911226:=0
def tw18008979763065993652:=0
def tw17136730690834466039:=0
def tw15749439732378797888:=0
def tw10515856886197508126:=0
def tw16882767287424607045:=0
def tw5590883993235474915:=0
def tw5814203790319052328:=0
def tw2177883387343735859:=0
def tw10433377779068396783:=0
def tw6851068651554240575:=0
def tw10935165295451691221:=0
def tw16407039827111288295:=0
def tw7843580930878180139:=0
def tw8406443851771781705:=0
def tw1337751632899233852:=0
def tw10422805961738328903:=0
def tw2345495574103161459:=0
def tw9589733673456141551:=0
def tw2481816399947001260:=0
def tw10972618636199949711:=0
def tw3671712123790868051:=0
def tw2409217015277695125:=0
def tw4943635078566812379:=0
def tw11694312091033039767:=0
def tw5994436170469910301:=0
def tw514079235319267875:=0
def tw8156879529956393617:=0
def tw9135284703108105478:=0
def tw2783943467984274677:=0
def tw15659692602186996010:=0
def tw8920628298689659534:=0
def tw10073005085757679703:=0
def tw10149400953310416844:=0
def tw454028484700459264:=0
def tw3136536742842489980:=0
def tw10835906912916247624:=0
def tw9582230354319965911:=0
def tw4891364593556195765:=0
def tw15244732138506954404:=0
def tw12400517457090785073:=0
def tw747444702646737727:=0
def tw11682987582484771239:=0
def tw10777859450777651164:=0
def tw1006238593879794268:=0
def tw13884952077435400376:=0
def tw9640610347897490246:=0
def tw768878304408764358:=0
def tw730522123023760713:=0
def tw4387600886011318777:=0
def tw4935646989603252777:=0
def tw9479213271290297894:=0
def tw7426923830138725631:=0
def tw9714640413427913859:=0
def tw9025268881401023173:=0
def tw7776145182760859533:=0
def tw529346069493855800:=0
def tw8168060401611857332:=0
def tw3966392801861887926:=0
def tw6314358958771844067:=0
def tw8838458336057774118:=0
def tw14256812687826394614:=0
def tw11392203002041096016:=0
def tw13517379456325398973:=0
def tw3745915508976801106:=0
def tw11158866443114336419:=0
def tw10723264293589076508:=0
def tw884889342431473492:=0
def tw4758019666774204838:=0
def tw8531669366149967382:=0
def tw2271726551464508758:=0
def tw15135609201349351194:=0
def tw12585139573700597057:=0
def tw7774309703991861199:=0
def tw9664404588396494558:=0
def tw6846600638821930098:=0
def tw4550014150963639244:=0
def tw5455675643589117943:=0
def tw12669212845641237578:=0
def tw13448167037654360772:=0
def tw16668491159519215207:=0
def tw9694807723413922582:=0
def tw4240366015958966336:=0
def tw14694983008348178562:=0
def tw5701149417390367712:=0
def tw5653094298870616841:=0
def tw8014778121477092682:=0
def tw17311521156057305908:=0
def tw12612655671643472925:=0
def tw3462264113128037730:=0
def tw15909570097304334921:=0
def tw14062598870899122106:=0
def tw17216662671417902384:=0
def tw6496295762586124259:=0
def tw11892075941955704043:=0
def tw17836361123142860679:=0
def tw11127852075047045928:=0
def tw6113160269812464842:=0
def tw16925181209868375184:=0
def tw6492424044043134069:=0
def tw7743247747007510257:=0
def tw5473151722080817492:=0
def tw10930468264584063366:=0
def tw2490063890621695605:=0
def tw10946298469959908551:=0
def tw14833115518352818744:=0
def tw18285515551112634459:=0
def tw8233825707673933863:=0
def tw17032186517165156184:=0
def tw7554406275466097055:=0
def tw8310919199701694665:=0
def tw14376286752694460224:=0
def tw17381951603725594532:=0
def tw9603398173192549885:=0
def tw3587312099086306435:=0
def tw3518543854036597366:=0
def tw4411950899059222649:=0
def tw11949241573353729725:=0
def tw7904505649706803486:=0
def tw10733189334711438495:=0
def tw8680756255733380441:=0
def tw11875871642754868317:=0
def tw4234636309742940642:=0
def tw8882995879696008142:=0
def tw16583404012806212998:=0
def tw10010357343033513077:=0
def tw5293931570153817378:=0
def tw5032642556739881978:=0
def tw11257154679799560349:=0
def tw11580203694931115949:=0
def tw14832728982853709943:=0
def tw4116159606080162523:=0
def tw16188192870839698813:=0
def tw13132024088264563655:=0
def tw15794378244208743058:=0
def tw11531463862249412943:=0
def tw8952395238221612977:=0
def tw740229575255116773:=0
def tw1398475165725470822:=0
def tw3914353807449002134:=0
def tw8832648545950166280:=0
def tw10402220573081943559:=0
def tw186858646659537071:=0
def tw10357226612303446562:=0
def tw17332978279893333929:=0
def tw8321858369247879183:=0
def tw6520437732065094230:=0
def tw7131975331320202810:=0
def tw14428865377945085612:=0
def tw12565940028653773569:=0
def tw6245837973836114063:=0
def tw4733758893221954505:=0
def tw12610029015172783010:=0
def tw12237916752357339276:=0
def tw5373037074201529761:=0
def tw14606343766525059379:=0
def tw12931381579185593871:=0
def tw1663777917007216224:=0
def tw5889296663649046616:=0
def tw677828916544629034:=0
def tw13475553146245042176:=0
def tw7663507321085813965:=0
def tw16680878836202529917:=0
def tw10324226553779230147:=0
def tw5210318930592927554:=0
def tw8222872618505725863:=0
def tw2384875746398111805:=0
def tw8908100809821125086:=0
def tw18425345038342225163:=0
def tw15838727618325943082:=0
def tw3731850222789240049:=0
def tw7674786363964612520:=0
def tw17078807087305146460:=0
def tw14052826400152111374:=0
def tw16704888178578938319:=0
def tw12636199228171126490:=0
def tw4744457774903410542:=0
def tw16358118468610686723:=0
def tw11487605224894084182:=0
def tw1904212339404198744:=0
def tw14799594790857379428:=0
def tw3895825623591771332:=0
def tw10461682118042166254:=0
def tw1989755453865003782:=0
def tw1361149604670608285:=0
def tw15128940766840270074:=0
def tw17492591169164946700:=0
def tw11430290249143436570:=0
def tw3303872784747279253:=0
def tw3843793533715419917:=0
def tw4039508900137129371:=0
def tw16717643846390405022:=0
def tw2750987173815751080:=0
def tw4940250841667214844:=0
def tw14236873715120316391:=0
end PySem.W.Fast
set_option maxRecDepth 100000 in
set_option maxHeartbeats 0 in
theorem PySem.Challenge.cw_evenmix_k71_whole_dealt_rows_mixed_holds : PySem.Challenge.rw_evenmix_k71_whole_dealt_rows_mixed.Holds := by
  w_on;o_law;k_head;(case hw=>w_witness2)
  k_fill
  refine Mine.walk (l:=PySem.Challenge.rw_evenmix_k71_whole_dealt_rows_mixed) rfl rfl (fun w h Y=>PySem.W.km_in_of Y) (fun w h Y=>PySem.W.km_tabs_of Y L3.uW (by decide)) (fun w=>by first | exact rfl | kernel_rfl) (c_:=211) (fun w=>by first | exact rfl | kernel_rfl) ?F
  case F =>
    intro w mg fa h KX G hmg
    refine' Mine.all_mk KX G hmg ?a0 ?l0 ?c0 ?k0 ?a1 ?l1 ?c1 ?k1 ?a2 ?l2 ?c2 ?k2 ?a3 ?l3 ?c3 ?k3 ?a4 ?l4 ?c4 ?k4 ?a5 ?l5 ?c5 ?k5 ?a6 ?l6 ?c6 ?k6 ?a7 ?l7 ?c7 ?k7 ?a8 ?l8 ?c8 ?k8 ?a9 ?l9 ?c9 ?k9 ?a10 ?l10 ?c10 ?k10 ?a11 ?l11 ?c11 ?k11 ?a12 ?l12 ?c12 ?k12 ?a13 ?l13 ?c13 ?k13 ?a14 ?l14 ?c14 ?k14 ?a15 ?l15 ?c15 ?k15 ?a16 ?l16 ?c16 ?k16 ?a17 ?l17 ?c17 ?k17 ?a18 ?l18 ?c18 ?k18 ?a19 ?l19 ?c19 ?k19 ?a20 ?l20 ?c20 ?k20 ?a21 ?l21 ?c21 ?k21 ?a22 ?l22 ?c22 ?k22 ?a23 ?l23 ?c23 ?k23 ?a24 ?l24 ?c24 ?k24 ?a25 ?l25 ?c25 ?k25 ?a26 ?l26 ?c26 ?k26 ?a27 ?l27 ?c27 ?k27 ?a28 ?l28 ?c28 ?k28 ?a29 ?l29 ?c29 ?k29 ?a30 ?l30 ?c30 ?k30 ?a31 ?l31 ?c31 ?k31 ?a32 ?l32 ?c32 ?k32 ?a33 ?l33 ?c33 ?k33 ?a34 ?l34 ?c34 ?k34 ?a35 ?l35 ?c35 ?k35 ?a36 ?l36 ?c36 ?k36 ?a37 ?l37 ?c37 ?k37 ?a38 ?l38 ?c38 ?k38 ?a39 ?l39 ?c39 ?k39 ?a40 ?l40 ?c40 ?k40 ?a41 ?l41 ?c41 ?k41 ?a42 ?l42 ?c42 ?k42 ?a43 ?l43 ?c43 ?k43 ?a44 ?l44 ?c44 ?k44 ?a45 ?l45 ?c45 ?k45 ?a46 ?l46 ?c46 ?k46 ?a47 ?l47 ?c47 ?k47 ?a48 ?l48 ?c48 ?k48 ?a49 ?l49 ?c49 ?k49 ?a50 ?l50 ?c50 ?k50 ?a51 ?l51 ?c51 ?k51 ?a52 ?l52 ?c52 ?k52 ?a53 ?l53 ?c53 ?k53 ?d38 ?e_MixError ?e_NoBottom ?e_NotAlike ?e_NoStep ?e_NoMix ?e_NotEven ?u_MixError ?v_MixError ?u_NoBottom ?v_NoBottom ?u_NoStep ?v_NoStep ?u_NotAlike ?v_NotAlike ?ga_NoBottom ?ge_NoBottom ?cl_NoBottom ?ob_NoBottom ?be_NoBottom ?ga_NoStep ?ge_NoStep ?cl_NoStep ?ob_NoStep ?be_NoStep ?ga_NotAlike ?ge_NotAlike ?cl_NotAlike ?ob_NotAlike ?be_NotAlike ?g_MOST ?hcf ?hch ?z_len ?z_isinstance ?z_int ?z_bool ?z_list ?z_range ?z_sum ?z_sorted ?z_tuple ?z_str ?z_min ?z_any ?z_all ?z_reversed ?z_abs ?z_zip ?z_ValueError
    (case e_MixError=>k_is)
    (case e_NoBottom=>k_is)
    (case e_NotAlike=>k_is)
    (case e_NoStep=>k_is)
    (case e_NoMix=>k_is)
    (case e_NotEven=>k_is)
    (case a0=>k_is)
    (case l0=>k_is)
    (case c0=>k_is)
    (case k0=>k_is)
    (case a1=>k_is)
    (case l1=>k_is)
    (case c1=>k_is)
    (case k1=>k_is)
    (case a2=>k_is)
    (case l2=>k_is)
    (case c2=>k_is)
    (case k2=>k_is)
    (case a3=>k_is)
    (case l3=>k_is)
    (case c3=>k_is)
    (case k3=>k_is)
    (case a4=>k_is)
    (case l4=>k_is)
    (case c4=>k_is)
    (case k4=>k_is)
    (case a5=>k_is)
    (case l5=>k_is)
    (case c5=>k_is)
    (case k5=>k_is)
    (case a6=>k_is)
    (case l6=>k_is)
    (case c6=>k_is)
    (case k6=>k_is)
    (case a7=>k_is)
    (case l7=>k_is)
    (case c7=>k_is)
    (case k7=>k_is)
    (case a8=>k_is)
    (case l8=>k_is)
    (case c8=>k_is)
    (case k8=>k_is)
    (case a9=>k_is)
    (case l9=>k_is)
    (case c9=>k_is)
    (case k9=>k_is)
    (case a10=>k_is)
    (case l10=>k_is)
    (case c10=>k_is)
    (case k10=>k_is)
    (case a11=>k_is)
    (case l11=>k_is)
    (case c11=>k_is)
    (case k11=>k_is)
    (case a12=>k_is)
    (case l12=>k_is)
    (case c12=>k_is)
    (case k12=>k_is)
    (case a13=>k_is)
    (case l13=>k_is)
    (case c13=>k_is)
    (case k13=>k_is)
    (case a14=>k_is)
    (case l14=>k_is)
    (case c14=>k_is)
    (case k14=>k_is)
    (case a15=>k_is)
    (case l15=>k_is)
    (case c15=>k_is)
    (case k15=>k_is)
    (case a16=>k_is)
    (case l16=>k_is)
    (case c16=>k_is)
    (case k16=>k_is)
    (case a17=>k_is)
    (case l17=>k_is)
    (case c17=>k_is)
    (case k17=>k_is)
    (case a18=>k_is)
    (case l18=>k_is)
    (case c18=>k_is)
    (case k18=>k_is)
    (case a19=>k_is)
    (case l19=>k_is)
    (case c19=>k_is)
    (case k19=>k_is)
    (case a20=>k_is)
    (case l20=>k_is)
    (case c20=>k_is)
    (case k20=>k_is)
    (case a21=>k_is)
    (case l21=>k_is)
    (case c21=>k_is)
    (case k21=>k_is)
    (case a22=>k_is)
    (case l22=>k_is)
    (case c22=>k_is)
    (case k22=>k_is)
    (case a23=>k_is)
    (case l23=>k_is)
    (case c23=>k_is)
    (case k23=>k_is)
    (case a24=>k_is)
    (case l24=>k_is)
    (case c24=>k_is)
    (case k24=>k_is)
    (case a25=>k_is)
    (case l25=>k_is)
    (case c25=>k_is)
    (case k25=>k_is)
    (case a26=>k_is)
    (case l26=>k_is)
    (case c26=>k_is)
    (case k26=>k_is)
    (case a27=>k_is)
    (case l27=>k_is)
    (case c27=>k_is)
    (case k27=>k_is)
    (case a28=>k_is)
    (case l28=>k_is)
    (case c28=>k_is)
    (case k28=>k_is)
    (case a29=>k_is)
    (case l29=>k_is)
    (case c29=>k_is)
    (case k29=>k_is)
    (case a30=>k_is)
    (case l30=>k_is)
    (case c30=>k_is)
    (case k30=>k_is)
    (case a31=>k_is)
    (case l31=>k_is)
    (case c31=>k_is)
    (case k31=>k_is)
    (case a32=>k_is)
    (case l32=>k_is)
    (case c32=>k_is)
    (case k32=>k_is)
    (case a33=>k_is)
    (case l33=>k_is)
    (case c33=>k_is)
    (case k33=>k_is)
    (case a34=>k_is)
    (case l34=>k_is)
    (case c34=>k_is)
    (case k34=>k_is)
    (case a35=>k_is)
    (case l35=>k_is)
    (case c35=>k_is)
    (case k35=>k_is)
    (case a36=>k_is)
    (case l36=>k_is)
    (case c36=>k_is)
    (case k36=>k_is)
    (case a37=>k_is)
    (case l37=>k_is)
    (case c37=>k_is)
    (case k37=>k_is)
    (case a38=>k_is)
    (case l38=>k_is)
    (case c38=>k_is)
    (case k38=>k_is)
    (case a39=>k_is)
    (case l39=>k_is)
    (case c39=>k_is)
    (case k39=>k_is)
    (case a40=>k_is)
    (case l40=>k_is)
    (case c40=>k_is)
    (case k40=>k_is)
    (case a41=>k_is)
    (case l41=>k_is)
    (case c41=>k_is)
    (case k41=>k_is)
    (case a42=>k_is)
    (case l42=>k_is)
    (case c42=>k_is)
    (case k42=>k_is)
    (case a43=>k_is)
    (case l43=>k_is)
    (case c43=>k_is)
    (case k43=>k_is)
    (case a44=>k_is)
    (case l44=>k_is)
    (case c44=>k_is)
    (case k44=>k_is)
    (case a45=>k_is)
    (case l45=>k_is)
    (case c45=>k_is)
    (case k45=>k_is)
    (case a46=>k_is)
    (case l46=>k_is)
    (case c46=>k_is)
    (case k46=>k_is)
    (case a47=>k_is)
    (case l47=>k_is)
    (case c47=>k_is)
    (case k47=>k_is)
    (case a48=>k_is)
    (case l48=>k_is)
    (case c48=>k_is)
    (case k48=>k_is)
    (case a49=>k_is)
    (case l49=>k_is)
    (case c49=>k_is)
    (case k49=>k_is)
    (case a50=>k_is)
    (case l50=>k_is)
    (case c50=>k_is)
    (case k50=>k_is)
    (case a51=>k_is)
    (case l51=>k_is)
    (case c51=>k_is)
    (case k51=>k_is)
    (case a52=>k_is)
    (case l52=>k_is)
    (case c52=>k_is)
    (case k52=>k_is)
    (case a53=>k_is)
    (case l53=>k_is)
    (case c53=>k_is)
    (case k53=>k_is)
    (case d38=>k_is)
    (case u_MixError=>k_is)
    (case v_MixError=>k_exc)
    (case u_NoBottom=>k_is)
    (case v_NoBottom=>k_exc)
    (case u_NoStep=>k_is)
    (case v_NoStep=>k_exc)
    (case u_NotAlike=>k_is)
    (case v_NotAlike=>k_exc)
    (case ga_NoBottom=>k_is)
    (case ge_NoBottom=>k_is)
    (case cl_NoBottom=>k_is)
    (case ob_NoBottom=>k_is)
    (case be_NoBottom=>k_is)
    (case ga_NoStep=>k_is)
    (case ge_NoStep=>k_is)
    (case cl_NoStep=>k_is)
    (case ob_NoStep=>k_is)
    (case be_NoStep=>k_is)
    (case ga_NotAlike=>k_is)
    (case ge_NotAlike=>k_is)
    (case cl_NotAlike=>k_is)
    (case ob_NotAlike=>k_is)
    (case be_NotAlike=>k_is)
    (case g_MOST=>k_is)
    (case hcf=>exact rfl)
    (case hch=>first | exact rfl | k_is)
    (case z_len=>k_is)
    (case z_isinstance=>k_is)
    (case z_int=>k_is)
    (case z_bool=>k_is)
    (case z_list=>k_is)
    (case z_range=>k_is)
    (case z_sum=>k_is)
    (case z_sorted=>k_is)
    (case z_tuple=>k_is)
    (case z_str=>k_is)
    (case z_min=>k_is)
    (case z_any=>k_is)
    (case z_all=>k_is)
    (case z_reversed=>k_is)
    (case z_abs=>k_is)
    (case z_zip=>k_is)
    (case z_ValueError=>k_is)
