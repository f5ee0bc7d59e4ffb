import PyProof.Rows.All
import Wide.All
import OpenK.AllK
import Wide.FinOn
import Lean
import PyProof.EqAt
import PyProof.EqKinds
import PyProof.TupleCall
import PyProof.DictRoadsH
import PyProof.TupleKey
import PyProof.NeKinds
import PyProof.ZipIter
import KE.KRevIter
import PyProof.ListRange
import KE.LcSums
import PyProof.Rows.MinMaxN
import KE.KTryDeep
import PyProof.ExcArgsOwn
import PyProof.ExcAttrAll.ValueError
import KE.KIntText
import PyProof.JoinWalk
import PyProof.StrCalls
import KE.KDictSum
import KE.KIsAll
import KE.RegKIsAll
import PySem.Challenge.RW_evenmix_k35_whole_swaps
set_option linter.all false
set_option maxRecDepth 100000
namespace L2
open PySem
abbrev PKey:=Int × List Int
section
variable {prog:Program}{w:World}
abbrev inner (prog:Program) (w:World):=PySem.intKind prog w
def IsDKey (h:Heap) (k:PKey) (a:Addr):Prop :=
  ∃o n t b,h.get? a=some o∧o.cls=.type "tuple"∧o.data=.seq #[.int k.1 t,.ref b] n∧IsTupleKey (inner prog w) h k.2 b
def pairHash (prog:Program) (w:World) (k:PKey):Int:=reduceHash (Builtin.Tuple.tupleHashOf [hashInt k.1,tupleKeyHash (inner prog w) k.2])
theorem IsDKey.ty {s:Shared}{k:PKey}{a:Addr} (x:IsDKey (prog:=prog) (w:=w) s.heap k a):s.TypeIs (.ref a) "tuple":=by
  obtain ⟨o,n,t,b,e,c,_⟩:=x
  exact⟨o,e,c⟩
theorem IsDKey.uniq {h:Heap}{a:Addr}{x y:PKey} (hx:IsDKey (prog:=prog) (w:=w) h x a) (hy:IsDKey (prog:=prog) (w:=w) h y a):x=y:=by
  obtain ⟨o,n,t,b,e,c,d,i⟩:=hx
  obtain ⟨o',n',t',b',e',c',d',i'⟩:=hy
  rw[e] at e'
  cases e'
  rw[d] at d'
  injection d' with q1 _
  have q2:=congrArg Array.toList q1
  injection q2 with q3 q4
  injection q3 with q5 _
  injection q4 with q6 _
  injection q6 with q7
  subst q7
  exact Prod.ext q5 (i.inj i')
theorem IsDKey.stays {h h':Heap}{k:PKey}{a d:Addr}{o:Obj}{es ep} (x:IsDKey (prog:=prog) (w:=w) h k a) (ho:h.get? d=some o) (hd:o.data=.dict es ep) (hs:Heap.SameBut d h h'):IsDKey (prog:=prog) (w:=w) h' k a:=by
  obtain ⟨o',n,t,b,e,c,q,i⟩:=x
  have ne:a≠d:=fun z=>by
    rw[z,ho] at e
    cases e
    rw[hd] at q
    exact nomatch q
  exact⟨o',n,t,b,(hs.2 a ne).trans e,c,q,i.keeps ho hd hs⟩
theorem flat_items {p1 p2:Program}{w1 w2:World}{ks:List Int}{vs:List Value} (h:ItemsAre (intKind p1 w1) ks vs):ItemsAre (intKind p2 w2) ks vs:=by
  induction h with
  | nil=>exact .nil
  | cons a _ ih=>exact .cons a ih
theorem flat_any {p1 p2:Program}{w1 w2:World}{h:Heap}{ks:List Int}{a:Addr} (x:IsTupleKey (intKind p1 w1) h ks a):IsTupleKey (intKind p2 w2) h ks a:=by
  obtain ⟨o,it,n,e1,e2,e3,e4⟩:=x
  exact⟨o,it,n,e1,e2,e3,flat_items e4⟩
variable {A:Around}{E:Value→Shared→Prop}{s:Shared}
theorem pair_hash {k:PKey}{a:Addr}{Q:Int→Shared→Prop} (hu:A.units+2<cLine) (hk:IsDKey (prog:=prog) (w:=w) s.heap k a) (h:Q (pairHash prog w k) { s with toks:=s.toks+(k.2.length+3) }):wpAny (model prog w) A (pyHash (.ref a)) Q E s:=by
  have ty:=hk.ty
  obtain ⟨o,n,t,b,ho,_,hd,hi⟩:=hk
  unfold pyHash
  first | unfold pyHashByItsType | skip
  first | refine wpAny_bind (wpAny_cRoomFor_or (.inr (by omega)) ?_) | skip
  refine (wpAny_bind (wpAny_specialOf ty F.slot_tuple_hash.lookup ?_))
  show wpAny (model prog w) A (if (some (Value.builtin "tuple.__hash__") == some Value.none)=true then _ else _) Q E s
  rw[if_neg (fun z=>by rw[beq_builtin_none] at z;cases z)]
  refine (wpAny_bind (wpAny_specialOf ty F.slot_tuple_hash.lookup ?_))
  show wpAny (model prog w) A (callSpecialIfBoundUnlessNone? (.ref a) "__hash__" _ >>= _) Q E s
  refine wpAny_bind (wpAny_callSpecialIfBoundUnlessNone?_slot ty F.slot_tuple_hash (wpAny_call_entry F.slot_tuple_hash ty F.entry_tuple_hash ?_ (F.args_tuple_hash_1 _)))
  show wpAny (model prog w) _ (Builtin.Tuple.tupleItemsOf (.ref a) >>= _) _ _ s
  refine wpAny_bind (wpAny_tupleItemsOf ho hd (wpAny_bind ?_))
  rw[← Array.forIn_toList]
  refine wpAny_forIn_list _ (fun rest (z:Array Int) s'=>(rest=[.int k.1 t,.ref b]∧z.toList=[]∧s'=s)∨(rest=[.ref b]∧z.toList=[hashInt k.1]∧s'={ s with toks:=s.toks+1 })∨(rest=[]∧z.toList=[hashInt k.1,tupleKeyHash (inner prog w) k.2]∧s'={ s with toks:=s.toks+1+(k.2.length+1) })) _ ?_ ?_ _ _ (.inl ⟨rfl,rfl,rfl⟩)
  · rintro x rest z s' (⟨e1,e2,rfl⟩ | ⟨e1,e2,rfl⟩ | ⟨e1,_⟩)
    · cases e1
      refine wpAny_bind ((inner prog w).pyHash (k:=k.1) (by simp [inner,intKind,Value.isInt]) ?_)
      first
        | exact wpAny_pure (.inr (.inl ⟨rfl,by simp [e2];rfl,rfl⟩))
        | exact wpAny_bind (wpAny_pure (wpAny_pure (.inr (.inl ⟨rfl,by simp [e2];rfl,rfl⟩))))
    · cases e1
      refine wpAny_bind (wpAny_pyHash_tuple (knd:=inner prog w) (ks:=k.2) (by first | omega | (show A.in1.units<cLine;show A.units+1<cLine;omega)) hi ?_)
      first
        | exact wpAny_pure (.inr (.inr ⟨rfl,by simp [e2],rfl⟩))
        | exact wpAny_bind (wpAny_pure (wpAny_pure (.inr (.inr ⟨rfl,by simp [e2],rfl⟩))))
    · cases e1
  · rintro z s' (⟨e1,_⟩ | ⟨e1,_⟩ | ⟨_,e2,rfl⟩)
    · cases e1
    · cases e1
    show wpAny (model prog w) _ (retInt (Builtin.Tuple.tupleHashOf z.toList)) _ _ _
    rw[e2]
    refine wpAny_ret_mkInt ?_
    unfold pairHash reduceHash at h
    generalize Builtin.Tuple.tupleHashOf [hashInt k.1,tupleKeyHash (inner prog w) k.2]=m at h ⊢
    rw[show s.toks+(k.2.length+3)=s.toks+1+(k.2.length+1)+1 by omega] at h
    show wpAny (model prog w) A (if (decide (-(2:Int) ^ 63≤m) && decide (m<2 ^ 63))=true then _ else _) Q E _
    by_cases hr:(decide (-(2:Int) ^ 63≤m) && decide (m<2 ^ 63))=true
    · rw[if_pos hr] at h ⊢
      exact wpAny_pure h
    · rw[if_neg hr] at h ⊢
      exact wpAny_bind (wpAny_rule (wpAny_pure h))
theorem pair_eq {x y:PKey}{a b:Addr} (hu:A.units+2<cLine) (hx:IsDKey (prog:=prog) (w:=w) s.heap x a) (hy:IsDKey (prog:=prog) (w:=w) s.heap y b):SeqAt.EqAt A s (.ref a) (.ref b) (decide (x=y)):=by
  by_cases hab:a=b
  · subst hab
    rw[hx.uniq hy,decide_eq_true rfl]
    exact SeqAt.EqAt.same _
  · obtain ⟨o1,n1,t1,b1,g1,c1,d1,i1⟩:=hx
    obtain ⟨o2,n2,t2,b2,g2,c2,d2,i2⟩:=hy
    have r1:s.heap.IsTuple a #[.int x.1 t1,.ref b1]:=⟨o1,g1,c1,n1,d1⟩
    have r2:s.heap.IsTuple b #[.int y.1 t2,.ref b2]:=⟨o2,g2,c2,n2,d2⟩
    have inn:SeqAt.EqAt A.in1 s (.ref b1) (.ref b2) (decide (x.2=y.2)):=fun prog' w' E' Q' q=>by
      have:=wpAny_eqBool_tuple (prog:=prog') (w:=w') (knd:=intKind prog' w') (A:=A.in1) (E:=E') (s:=s) (x:=x.2) (y:=y.2) (a:=b1) (b:=b2) (Q:=Q') (by show A.units+1<cLine;omega) (flat_any i1) (flat_any i2) q
      exact this
    have key:=SeqAt.RcAt.tuples (A:=A) (e:=fun j=>if j=0 then decide (x.1=y.1) else decide (x.2=y.2)) r1 r2 (by omega) (fun j h1 h2=>by
      have hj:j=0∨j=1:=by simp at h1;omega
      rcases hj with rfl | rfl
      · have:=SeqAt.EqAt.int_int (A:=A.in1) (s:=s) x.1 t1 y.1 t2
        rw[show (x.1 == y.1)=decide (x.1=y.1) from rfl] at this
        exact this
      · exact inn)
    refine SeqAt.EqAt.of_refs hab ?_
    have e:decide (x=y)=((List.range (min (#[Value.int x.1 t1,Value.ref b1]:Array Value).size (#[Value.int y.1 t2,Value.ref b2]:Array Value).size)).all (fun j=>if j=0 then decide (x.1=y.1) else decide (x.2=y.2)) && (#[Value.int x.1 t1,Value.ref b1]:Array Value).size == (#[Value.int y.1 t2,Value.ref b2]:Array Value).size):=by
      rw[show (List.range (min (#[Value.int x.1 t1,Value.ref b1]:Array Value).size (#[Value.int y.1 t2,Value.ref b2]:Array Value).size))=[0,1] from rfl]
      rw[Bool.eq_iff_iff]
      simp [Prod.ext_iff]
    rw[e]
    exact key
theorem quiet_flat {ks:List Int}{a:Addr}{n:Nat}{Q:Bool→Shared→Prop} (hk:IsTupleKey (inner prog w) s.heap ks a) (h:Q true s):wpAny (model prog w) A (eqIsQuiet (n+1) (.ref a)) Q E s:=by
  have ty:=hk.typeIs
  obtain ⟨o,it,m,ho,_,hd,hi⟩:=hk
  unfold eqIsQuiet
  refine (wpAny_bind (wpAny_specialOf ty F.slot_tuple_eq.lookup ?_))
  show wpAny (model prog w) A (isInstance (.ref a) (.type "tuple") >>= _) Q E s
  refine (wpAny_bind (wpAny_isInstance ty isSubtype_tuple_tuple ?_))
  simp only[Bool.not_true,Bool.false_eq_true,if_false]
  refine (wpAny_bind (wpAny_seqItems ho hd (wpAny_bind ?_)))
  show wpAny (model prog w) A (forIn it _ _) _ E s
  rw[← Array.forIn_toList]
  refine wpAny_forIn_list _ (fun rest r s'=>(r.1=none∧s'=s)∧∀v∈rest,carriedByValue v=true) _ ?_ ?_ _ _ ⟨⟨rfl,rfl⟩,hi.byValue⟩
  · rintro v rest r s' ⟨⟨hr,rfl⟩,hall⟩
    rw[eqIsQuiet_byValue _ (hall v List.mem_cons_self)]
    refine wpAny_bind (wpAny_pure ?_)
    simp only[Bool.not_true,Bool.false_eq_true,if_false]
    exact wpAny_pure ⟨⟨rfl,rfl⟩,fun u hu=>hall u (List.mem_cons_of_mem _ hu)⟩
  · rintro ⟨r1,r2⟩ s' ⟨⟨hr,rfl⟩,_⟩
    simp only at hr
    subst hr
    exact wpAny_pure h
theorem pair_quiet {k:PKey}{a:Addr}{Q:Bool→Shared→Prop} (hk:IsDKey (prog:=prog) (w:=w) s.heap k a) (h:Q true s):wpAny (model prog w) A (eqIsQuiet 8 (.ref a)) Q E s:=by
  have ty:=hk.ty
  obtain ⟨o,n,t,b,ho,_,hd,hi⟩:=hk
  unfold eqIsQuiet
  refine (wpAny_bind (wpAny_specialOf ty F.slot_tuple_eq.lookup ?_))
  show wpAny (model prog w) A (isInstance (.ref a) (.type "tuple") >>= _) Q E s
  refine (wpAny_bind (wpAny_isInstance ty isSubtype_tuple_tuple ?_))
  simp only[Bool.not_true,Bool.false_eq_true,if_false]
  refine (wpAny_bind (wpAny_seqItems ho hd (wpAny_bind ?_)))
  show wpAny (model prog w) A (forIn (#[Value.int k.1 t,Value.ref b]:Array Value) _ _) _ E s
  rw[← Array.forIn_toList]
  refine wpAny_forIn_list _ (fun rest r s'=>(r.1=none∧s'=s)∧∀v∈rest,v=.int k.1 t∨v=.ref b) _ ?_ ?_ _ _ ⟨⟨rfl,rfl⟩,fun v hv=>by simpa using hv⟩
  · rintro v rest r s' ⟨⟨hr,rfl⟩,hall⟩
    rcases hall v List.mem_cons_self with rfl | rfl
    · rw[eqIsQuiet_byValue _ rfl]
      refine wpAny_bind (wpAny_pure ?_)
      simp only[Bool.not_true,Bool.false_eq_true,if_false]
      exact wpAny_pure ⟨⟨rfl,rfl⟩,fun u hu=>hall u (List.mem_cons_of_mem _ hu)⟩
    · refine wpAny_bind (quiet_flat hi ?_)
      simp only[Bool.not_true,Bool.false_eq_true,if_false]
      exact wpAny_pure ⟨⟨rfl,rfl⟩,fun u hu=>hall u (List.mem_cons_of_mem _ hu)⟩
  · rintro ⟨r1,r2⟩ s' ⟨⟨hr,rfl⟩,_⟩
    simp only at hr
    subst hr
    exact wpAny_pure h
end
def pairKind (prog:Program) (w:World):HeapKind prog w PKey where
  is:=IsDKey (prog:=prog) (w:=w)
  hash:=pairHash prog w
  draws:=fun k=>k.2.length+3
  room:=fun A=>A.units+2<cLine
  inj:=fun hx hy=>hx.uniq hy
  keeps:=fun x ho hd hs=>x.stays ho hd hs
  pyHash:=fun hu hk h=>pair_hash hu hk h
  eqBool:=fun hu hx hy h=>pair_eq hu hx hy _ _ _ _ h
  quiet:=fun hk h=>pair_quiet hk h
end L2
set_option Elab.async false
set_option linter.all false
set_option maxRecDepth 100000
namespace L2
open PySem PySem.Spec PyProof.Rows
abbrev Key:=Sum Int Str
def keyIs:Key→Value→Bool
  | .inl k,v=>Value.isInt k v
  | .inr x,v=>Value.isStrOf x v
def keyH (w:World):Key→Int
  | .inl k=>hashInt k
  | .inr x=>hashStr w x
theorem keyIs_shape:∀{k:Key}{v:Value},keyIs k v=true→(∃i t,k=Sum.inl i∧v=Value.int i t)∨(∃x t,k=Sum.inr x∧v=Value.str x t)
  | .inl i,v,h=>by
    obtain ⟨t,e⟩:=Value.isInt_shape (k:=i) (v:=v) h
    exact .inl ⟨i,t,rfl,e⟩
  | .inr x,v,h=>by
    obtain ⟨t,e⟩:=Value.isStrOf_shape (x:=x) (v:=v) h
    exact .inr ⟨x,t,rfl,e⟩
theorem key_ll (a b:Int):decide ((Sum.inl a:Key)=Sum.inl b)=(a == b):=by
  by_cases e:a=b
  · subst e;simp
  · have h:¬ (Sum.inl a:Key)=Sum.inl b:=fun q=>e (Sum.inl.inj q)
    rw[decide_eq_false h]
    exact (beq_eq_false_iff_ne.mpr e).symm
theorem key_rr (a b:Str):decide ((Sum.inr a:Key)=Sum.inr b)=decide (a=b):=by
  by_cases e:a=b
  · subst e;simp
  · have h:¬ (Sum.inr a:Key)=Sum.inr b:=fun q=>e (Sum.inr.inj q)
    rw[decide_eq_false h,decide_eq_false e]
theorem key_lr (a:Int) (b:Str):decide ((Sum.inl a:Key)=Sum.inr b)=false:=decide_eq_false (fun q=>nomatch q)
theorem key_rl (a:Str) (b:Int):decide ((Sum.inr a:Key)=Sum.inl b)=false:=decide_eq_false (fun q=>nomatch q)
def mixKind (prog:Program) (w:World):PySem.KeyKind prog w Key where
  is:=keyIs
  hash:=keyH w
  inj:=fun v a b ha hb=>by
    rcases keyIs_shape ha with ⟨i,t,rfl,rfl⟩ | ⟨x,t,rfl,rfl⟩
    · rcases keyIs_shape hb with ⟨j,u,rfl,e⟩ | ⟨y,u,rfl,e⟩
      · injection e with e1 _;rw[e1]
      · exact nomatch e
    · rcases keyIs_shape hb with ⟨j,u,rfl,e⟩ | ⟨y,u,rfl,e⟩
      · exact nomatch e
      · injection e with e1 _;rw[e1]
  byValue:=fun k v h=>by
    rcases keyIs_shape h with ⟨i,t,rfl,rfl⟩ | ⟨x,t,rfl,rfl⟩<;>rfl
  pyHash:=fun hv h=>by
    rcases keyIs_shape hv with ⟨i,t,rfl,rfl⟩ | ⟨x,t,rfl,rfl⟩
    · exact wpAny_pyHash_int h
    · exact wpAny_pyHash_str h
  eqBool:=fun hu hv h=>by
    rcases keyIs_shape hu with ⟨i,t,rfl,rfl⟩ | ⟨x,t,rfl,rfl⟩
    · rcases keyIs_shape hv with ⟨j,u,rfl,rfl⟩ | ⟨y,u,rfl,rfl⟩
      · rw[key_ll] at h;exact wpAny_eqBool_int h
      · rw[key_lr] at h;exact SeqAt.EqAt.int_str i t y u _ _ _ _ h
    · rcases keyIs_shape hv with ⟨j,u,rfl,rfl⟩ | ⟨y,u,rfl,rfl⟩
      · rw[key_rl] at h;exact SeqAt.EqAt.str_int x t j u _ _ _ _ h
      · rw[key_rr] at h;exact wpAny_eqBool_str h
  «strs»:=fun k x t v h=>by
    rcases keyIs_shape h with ⟨i,u,rfl,e⟩ | ⟨y,u,rfl,e⟩
    · exact nomatch e
    · injection e with e1 _
      subst e1
      cases v<;>rfl
end L2
namespace L2
open PySem PySem.Spec PyProof.Rows
inductive V where
  | non | bl (b:Bool) | int (i:Int) | str (x:Str) | byt (b:Array UInt8) | flt (b:UInt64) | ref (a:Addr) | ty (n:String)
  deriving DecidableEq
def RelV:V→Value→Prop
  | .non,u=>u=Value.none
  | .bl b,u=>u=Value.bool b
  | .int i,u=>∃t,u=Value.int i t
  | .str x,u=>∃t,u=Value.str x t
  | .byt b,u=>∃t,u=Value.bytes b t
  | .flt b,u=>∃t,u=Value.float b t
  | .ref a,u=>u=Value.ref a
  | .ty n,u=>u=Value.type n
abbrev Vals:List V→List Value→Prop:=Paired RelV
theorem Vals.length {xs:List V}{us:List Value} (r:Vals xs us):xs.length=us.length:=Paired.length r
theorem Vals.get:∀{xs:List V}{us:List Value}{i:Nat}{x:V},Vals xs us→xs[i]?=some x→∃u,us[i]?=some u∧RelV x u
  | _,_,_,_,.nil,e=>by simp at e
  | _,_,0,_,.cons r _,e=>by simp at e;subst e;exact⟨_,rfl,r⟩
  | _,_,i+1,x,.cons _ t,e=>by
    obtain ⟨u,h1,h2⟩:=Vals.get (i:=i) (x:=x) t (by simpa using e)
    exact⟨u,by simpa using h1,h2⟩
theorem Vals.set {x:V}{u:Value} (r:RelV x u):∀{xs:List V}{us:List Value} (i:Nat),Vals xs us→Vals (xs.set i x) (us.set i u)
  | _,_,_,.nil=>.nil
  | _,_,0,.cons _ t=>.cons r t
  | _,_,i+1,.cons q t=>.cons q (Vals.set r i t)
theorem Vals.append:∀{xs ys:List V}{us ws:List Value},Vals xs us→Vals ys ws→Vals (xs++ys) (us++ws)
  | _,_,_,_,.nil,s=>s
  | _,_,_,_,.cons r t,s=>.cons r (Vals.append t s)
theorem Vals.take:∀{xs:List V}{us:List Value} (n:Nat),Vals xs us→Vals (xs.take n) (us.take n)
  | _,_,0,_=>.nil
  | _,_,_+1,.nil=>.nil
  | _,_,n+1,.cons r t=>.cons r (Vals.take n t)
theorem Vals.drop:∀{xs:List V}{us:List Value} (n:Nat),Vals xs us→Vals (xs.drop n) (us.drop n)
  | _,_,0,r=>r
  | _,_,_+1,.nil=>.nil
  | _,_,n+1,.cons _ t=>Vals.drop n t
def RelO:Option V→Option Value→Prop
  | some v,some u=>RelV v u
  | none,none=>True
  | _,_=>False
def KV {κ:Type}:List (κ × V)→List (κ × Value)→Prop:=Paired fun (p:κ × V) (q:κ × Value)=>p.1=q.1∧RelV p.2 q.2
def kV:Key→V
  | .inl i=>.int i
  | .inr x=>.str x
inductive HO where
    | lst (xs:List V)
    | tup (xs:List V)
    | dK (kvs:List (Key × V)) | dT (kvs:List (List Key × V))
    | set (S:Int→Bool) (n:Nat)
    | ins (C dx:Addr) (fs:List (Str × V))
    | own (x:Addr)
    | xd (fs:List (Str × V))
    | met (f x:Addr)
    | rng (lo hi:Int)
    | frz (o:Obj) (u:HO)
    | tbl (ps:Array Value)
    | ext (φ:Heap→Prop)
  | memo (φ:Int→List Int→Int→Prop) (ks:List PKey)
abbrev Hp:=Addr→Option HO
def upd (H:Hp) (a:Addr) (o:HO):Hp:=fun b=>if b=a then some o else H b
theorem upd_same {H:Hp}{a:Addr}{o:HO}:upd H a o a=some o:=by unfold upd;rw[if_pos rfl]
theorem upd_ne {H:Hp}{a b:Addr}{o:HO} (h:b≠a):upd H a o b=H b:=by unfold upd;rw[if_neg h]
theorem ne_of_none {H:Hp}{a b:Addr}{o:HO} (h:H a=some o) (h':H b=none):a≠b:=by
  intro e;subst e;rw[h] at h';cases h'
def boxK (k:PKey):Bool:=decide (0≤k.1) && decide (k.1<8) && decide (k.2.length≤5) && k.2.all fun e=>decide (0≤e) && decide (e<7)
def MemoAt (H:Hp) (φ:Int→List Int→Int→Prop) (x:PKey × Addr × Value):Prop:=∃b n t,H x.2.1=some (.tup [.int x.1.1,.ref b])∧H b=some (.tup (x.1.2.map V.int))∧x.2.2=.int n t∧φ x.1.1 x.1.2 n∧boxK x.1=true
section
variable (P:Program) (w:World)
def ObjOk (H:Hp) (h:Heap) (a:Addr):HO→Prop
  | .lst xs=>xs.length≤sizeLine∧∃(its:List Value) (n:Nat),Vals xs its∧h.get? a=some { cls:=.type "list",data:=.seq its.toArray n }
  | .tup xs=>xs.length≤sizeLine∧∃its:List Value,Vals xs its∧IsTup h a its.toArray
  | .dK kvs=>kvs.length≤sizeLine∧(a == sysModules)=false∧∃vs,KV kvs vs∧h.DictOf (mixKind P w) a vs
  | .dT kvs=>kvs.length≤sizeLine∧(a == sysModules)=false∧∃xs:List (List Key × Addr × Value),
      Paired (fun (p:List Key × V) (q:List Key × Addr × Value)=>p.1=q.1∧H q.2.1=some (.tup (p.1.map kV))∧RelV p.2 q.2.2) kvs xs ∧
      ∃o es ep,h.get? a=some o∧o.ExactDict∧o.data=.dict es ep∧es.toList=xs.map (entryOfKey (tupleKind (mixKind P w)))∧(xs.map (·.1)).Nodup
  | .set S n=>h.SetOf (intKind P w) a S n
  | .ins C dx fs=>H dx=some (.own a)∧fs.length≤1000∧dx≠a∧h.get? a=some (PySem.W.instObj C dx) ∧
      ∃mA,h.Ns1 dx mA∧(∀f,RelO (fs.lookup f) (mA f))∧PySem.Within mA (fs.map (·.1))
  | .own _=>∃o,h.get? a=some o
  | .xd fs=>∃mA,h.Ns1 a mA∧∀f,RelO (fs.lookup f) (mA f)
  | .rng lo hi=>∃t u v,h.get? a=some { cls:=.type "range",data:=.fields #[.int lo t,.int hi u,.int 1 v] }
  | .frz o u=>h.get? a=some o∧ObjOk H h a u
  | .tbl ps=>h.get? a=some { cls:=.none,data:=.fields ps }
  | .met f x=>h.get? a=some (PySem.W.methodObj (.ref f) (.ref x))
  | .memo φ ks=>(a == sysModules)=false∧∃xs:List (PKey × Addr × Value),(∀x∈xs,MemoAt H φ x)∧(∀k∈ks,k∈xs.map (·.1)) ∧
      ∃o es ep,h.get? a=some o∧o.ExactDict∧o.data=.dict es ep∧es.toList=xs.map (entryOfKey (pairKind P w))∧(xs.map (·.1)).Nodup
  | .ext φ=>φ h∧(∃o,h.get? a=some o)∧∀h1 h2:Heap,φ h1→(∀o,h1.get? a=some o→h2.get? a=some o)→φ h2
def HOk (H:Hp) (h:Heap):Prop:=∀a o,H a=some o→ObjOk P w H h a o
end
section
variable {P:Program}{w:World}{H H':Hp}{h h':Heap}{a:Addr}{o:HO}
theorem ObjOk.lt (x:ObjOk P w H h a o):a<h.objs.size:=by
  cases o with
  | lst xs=>obtain ⟨_,_,_,_,e⟩:=x;exact Heap.lt_size e
  | tup xs=>obtain ⟨_,_,_,p⟩:=x;exact p.lt
  | dK kvs=>obtain ⟨_,_,_,_,o,_,_,e,_⟩:=x;exact Heap.lt_size e
  | dT kvs=>obtain ⟨_,_,_,_,o,_,_,e,_⟩:=x;exact Heap.lt_size e
  | set S n=>obtain ⟨o,_,_,_,e,_⟩:=x;exact Heap.lt_size e
  | ins C dx fs=>obtain ⟨_,_,_,e,_⟩:=x;exact Heap.lt_size e
  | own y=>obtain ⟨_,e⟩:=x;exact Heap.lt_size e
  | xd fs=>obtain ⟨_,⟨_,_,_,e,_⟩,_⟩:=x;exact Heap.lt_size e
  | rng lo hi=>obtain ⟨_,_,_,e⟩:=x;exact Heap.lt_size e
  | frz ob u=>obtain ⟨e,_⟩:=x;exact Heap.lt_size e
  | tbl ps=>exact Heap.lt_size (show h.get? a=some _ from x)
  | met f y=>exact Heap.lt_size (show h.get? a=some _ from x)
  | ext φ=>obtain ⟨_,⟨_,e⟩,_⟩:=x;exact Heap.lt_size e
  | memo φ ks=>obtain ⟨_,_,_,_,_,_,_,e,_⟩:=x;exact Heap.lt_size e
theorem Paired.mapP {α β:Type}{F G:α→β→Prop}:∀{l₁:List α}{l₂:List β},Paired F l₁ l₂→(∀a b,F a b→G a b)→Paired G l₁ l₂
  | _,_,.nil,_=>.nil
  | _,_,.cons r t,f=>.cons (f _ _ r) (Paired.mapP t f)
theorem ObjOk.stay (x:ObjOk P w H h a o) (k:∀b u,(b=a∨H b=some (.own a))→h.get? b=some u→h'.get? b=some u)
    (ho:∀b,H b=some (.own a)→H' b=some (.own a)) (ht:∀b xs,H b=some (.tup xs)→H' b=some (.tup xs)):ObjOk P w H' h' a o:=by
  induction o with
  | lst xs=>obtain ⟨z,its,n,r,e⟩:=x;exact⟨z,its,n,r,k _ _ (.inl rfl) e⟩
  | tup xs=>obtain ⟨z,its,r,ob,e,c⟩:=x;exact⟨z,its,r,ob,k _ _ (.inl rfl) e,c⟩
  | dK kvs=>obtain ⟨z,y,vs,r,ob,es,ep,e,c⟩:=x;exact⟨z,y,vs,r,ob,es,ep,k _ _ (.inl rfl) e,c⟩
  | dT kvs =>
    obtain ⟨z,y,xs,r,ob,es,ep,e,c⟩:=x
    exact⟨z,y,xs,Paired.mapP r fun p q z=>⟨z.1,ht _ _ z.2.1,z.2.2⟩,ob,es,ep,k _ _ (.inl rfl) e,c⟩
  | set S n=>obtain ⟨ob,es,ep,t,e,c⟩:=x;exact⟨ob,es,ep,t,k _ _ (.inl rfl) e,c⟩
  | ins C dx fs =>
    obtain ⟨d,z,ne,e,mA,⟨od,es,ep,e2,c⟩,r⟩:=x
    exact⟨ho _ d,z,ne,k _ _ (.inl rfl) e,mA,⟨od,es,ep,k _ _ (.inr d) e2,c⟩,r⟩
  | own y=>obtain ⟨ob,e⟩:=x;exact⟨ob,k _ _ (.inl rfl) e⟩
  | xd fs=>obtain ⟨mA,⟨od,es,ep,e,c⟩,r⟩:=x;exact⟨mA,⟨od,es,ep,k _ _ (.inl rfl) e,c⟩,r⟩
  | rng lo hi=>obtain ⟨t,u,v,e⟩:=x;exact⟨t,u,v,k _ _ (.inl rfl) e⟩
  | frz ob u ih=>obtain ⟨e,q⟩:=x;exact⟨k _ _ (.inl rfl) e,ih q⟩
  | tbl ps =>
    have e:h.get? a=some { cls:=.none,data:=.fields ps }:=x
    show h'.get? a=some { cls:=.none,data:=.fields ps }
    exact k a _ (.inl rfl) e
  | met f y =>
    have e:h.get? a=some (PySem.W.methodObj (.ref f) (.ref y)):=x
    show h'.get? a=some (PySem.W.methodObj (.ref f) (.ref y))
    exact k a _ (.inl rfl) e
  | memo φ ks =>
    obtain ⟨y,xs,hx,hk,ob,es,ep,e,c⟩:=x
    exact⟨y,xs,fun z hz=>let ⟨b,n,t,q1,q2,q3⟩:=hx z hz;⟨b,n,t,ht _ _ q1,ht _ _ q2,q3⟩,hk,ob,es,ep,k _ _ (.inl rfl) e,c⟩
  | ext φ=>obtain ⟨p,⟨o,e⟩,st⟩:=x;exact⟨st _ _ p fun o q=>k _ _ (.inl rfl) q,⟨o,k _ _ (.inl rfl) e⟩,st⟩
theorem HOk.lt (x:HOk P w H h) (e:H a=some o):a<h.objs.size:=(x a o e).lt
theorem HOk.fresh (x:HOk P w H h) (e:h.objs.size≤a):H a=none:=by
  cases q:H a with
  | none=>rfl
  | some u=>exact absurd (Nat.lt_of_lt_of_le (x.lt q) e) (Nat.lt_irrefl _)
theorem HOk.kept (x:HOk P w H h) (k:∀b u,h.get? b=some u→h'.get? b=some u):HOk P w H h':=fun a o e =>
  (x a o e).stay (fun b u _ q=>k b u q) (fun _ q=>q) fun _ _ q=>q
theorem HOk.laid (x:HOk P w H h) (k:∀b u,h.get? b=some u→h'.get? b=some u) (hp:h.objs.size≤a) (new:ObjOk P w (upd H a o) h' a o):HOk P w (upd H a o) h':=fun b u e=>by
  have hn:=x.fresh hp
  by_cases hb:b=a
  · subst hb;rw[upd_same] at e;cases e;exact new
  · rw[upd_ne hb] at e
    exact (x b u e).stay (fun c v _ q=>k c v q) (fun c q=>by rw[upd_ne (ne_of_none q hn)];exact q) fun c xs q=>by rw[upd_ne (ne_of_none q hn)];exact q
end
def Rd (H:Hp) (a:Addr) (u:HO):Prop:=H a=some u∨∃o,H a=some (.frz o u)
theorem Rd.ok {P:Program}{w:World}{H:Hp}{h:Heap}{a:Addr}{u:HO} (r:Rd H a u) (x:HOk P w H h):ObjOk P w H h a u:=by
  rcases r with r | ⟨o,r⟩
  · exact x a u r
  · obtain ⟨_,q⟩:=x a _ r
    exact q
def Mut:Option HO→Prop
  | some (.lst _)=>True
  | some (.dK _)=>True
  | some (.dT _)=>True
  | some (.set _ _)=>True
  | some (.ins _ _ _)=>True
  | some (.ext _)=>True
  | some (.memo _ _)=>True
  | _=>False
section
variable {P:Program}{w:World}{H:Hp}{h h':Heap}{x e:Addr}{o':HO}
theorem HOk.write (ok:HOk P w H h) (mu:Mut (H x)) (he:e=x∨H e=some (.own x)) (k:∀b u,b≠e→h.get? b=some u→h'.get? b=some u) (heo:∃u,h'.get? e=some u)
    (new:ObjOk P w (upd H x o') h' x o'):HOk P w (upd H x o') h':=fun b u q=>by
  have nown:∀c y,H c=some (.own y)→c≠x:=fun c y r z=>by subst z;rw[r] at mu;exact mu
  have ntup:∀c xs,H c=some (.tup xs)→c≠x:=fun c xs r z=>by subst z;rw[r] at mu;exact mu
  by_cases hb:b=x
  · subst hb;rw[upd_same] at q;cases q;exact new
  · rw[upd_ne hb] at q
    by_cases hbe:b=e
    · have q':H b=some (.own x):=by
        rcases he with z | z
        · exact absurd (hbe.trans z) hb
        · rw[hbe];exact z
      rw[q] at q';cases q'
      obtain ⟨v,hv⟩:=heo
      exact⟨v,by rw[hbe];exact hv⟩
    · refine (ok b u q).stay (fun c v hc r=>k c v ?_ r) (fun c r=>by rw[upd_ne (nown c b r)];exact r) fun c xs r=>by rw[upd_ne (ntup c xs r)];exact r
      rcases hc with rfl | hc
      · exact hbe
      · rintro rfl
        rcases he with z | z
        · exact nown c b hc z
        · rw[hc] at z;cases z;exact hb rfl
end
structure Un (fs ex:List Addr) (H H':Hp) (h h':Heap):Prop where
  keep:∀b o,h.get? b=some o→H b=none→b∉fs→b∉ex→h'.get? b=some o
  slot:∀b o,h.get? b=some o→H b=none→b∈fs→b∉ex→∃sl,h'.get? b=some { o with slots:=sl }
  free:∀b o,h.get? b=some o→H b=none→b∉ex→H' b=none
  there:∀b o,h.get? b=some o→b∉ex→∃o',h'.get? b=some o'
  tups:∀b xs,H b=some (.tup xs)→H' b=some (.tup xs)
  frzs:∀b o u,H b=some (.frz o u)→H' b=some (.frz o u)
  tbls:∀b ps,H b=some (.tbl ps)→∃more,H' b=some (.tbl (ps++more))
section
variable {fs fs' ex ex':List Addr}{H H1 H2:Hp}{h h1 h2 h':Heap}{a x e:Addr}{o:HO}
theorem Un.any (u:Un fs ex H H1 h h1) {b:Addr}{ob:Obj} (q:h.get? b=some ob) (n:H b=none) (hx:b∉ex):∃sl,h1.get? b=some { ob with slots:=sl }:=by
  by_cases hb:b∈fs
  · exact u.slot b ob q n hb hx
  · exact⟨ob.slots,u.keep b ob q n hb hx⟩
theorem Un.kept (k:∀b u,h.get? b=some u→h'.get? b=some u):Un fs ex H H h h' :=
  ⟨fun b ob q _ _ _=>k b ob q,fun b ob q _ _ _=>⟨ob.slots,k b ob q⟩,fun _ _ _ n _=>n,fun b ob q _=>⟨ob,k b ob q⟩,fun _ _ q=>q,fun _ _ _ q=>q,fun _ ps q=>⟨#[],by rw[q];simp⟩⟩
theorem Un.refl:Un fs ex H H h h:=Un.kept fun _ _ q=>q
theorem Un.laid (k:∀b u,h.get? b=some u→h'.get? b=some u) (hp:h.objs.size≤a) (hn:H a=none):Un fs ex H (upd H a o) h h' where
  keep:=fun b u q _ _ _=>k b u q
  slot:=fun b u q _ _ _=>⟨u.slots,k b u q⟩
  free:=fun b u q n _=>by rw[upd_ne (Nat.ne_of_lt (Nat.lt_of_lt_of_le (Heap.lt_size q) hp))];exact n
  there:=fun b u q _=>⟨u,k b u q⟩
  tups:=fun b xs q=>by rw[upd_ne (ne_of_none q hn)];exact q
  frzs:=fun b u xs q=>by rw[upd_ne (ne_of_none q hn)];exact q
  tbls:=fun b ps q=>⟨#[],by rw[upd_ne (ne_of_none q hn),q];simp⟩
theorem Un.write (mu:Mut (H x)) (he:e=x∨H e=some (.own x)) (k:∀b u,b≠e→h.get? b=some u→h'.get? b=some u) (heo:∃u,h'.get? e=some u):Un fs ex H (upd H x o) h h':=by
  have hx:∀b,H b=none→b≠x:=fun b n z=>by subst z;rw[n] at mu;exact mu
  have hb:∀b,H b=none→b≠e:=fun b n z=>by
    subst z
    rcases he with r | r
    · exact hx b n r
    · rw[n] at r;cases r
  have hm:∀b u,H b=some u→¬ Mut (some u)→b≠x:=fun b u q nm z=>by subst z;rw[q] at mu;exact nm mu
  refine⟨fun b u q n _ _=>k b u (hb b n) q,fun b u q n _ _=>⟨u.slots,k b u (hb b n) q⟩,fun b u q n _=>by rw[upd_ne (hx b n)];exact n,fun b u q _=>?_,
    fun b xs q=>by rw[upd_ne (hm b _ q fun z=>z)];exact q,fun b u xs q=>by rw[upd_ne (hm b _ q fun z=>z)];exact q,fun b ps q=>⟨#[],by rw[upd_ne (hm b _ q fun z=>z),q];simp⟩⟩
  by_cases hbe:b=e
  · subst hbe;exact heo
  · exact⟨u,k b u hbe q⟩
end
def trk (h:Heap) (H:Hp):List Addr:=(List.range h.objs.size).filter fun a=>(H a).isSome
def hidT (h:Heap) (H:Hp):Heap:=PySem.W.hideAll h (trk h H)
theorem hidT_size (h:Heap) (H:Hp):(hidT h H).objs.size=h.objs.size:=PySem.W.hideAll_size _ _
theorem hidT_get {h:Heap}{H:Hp}{b:Addr}{o:Obj} (e:h.get? b=some o) (n:H b=none):(hidT h H).get? b=some o :=
  PySem.W.hideAll_get _ e fun hm=>by
    have q:(H b).isSome=true:=(List.mem_filter.mp hm).2
    rw[n] at q;simp at q
theorem of_hidT {h:Heap}{H:Hp}{b:Addr}{o:Obj} (e:(hidT h H).get? b=some o):h.get? b=some o∧H b=none:=by
  have e':h.get? b=some o:=PySem.W.of_hideAll (trk h H) e
  refine⟨e',?_⟩
  cases q:H b with
  | none=>rfl
  | some x =>
    have hm:b∈trk h H:=List.mem_filter.mpr ⟨List.mem_range.mpr (Heap.lt_size e'),by simp [q]⟩
    have z:(hidT h H).get? b=none:=PySem.W.hideAll_none (trk h H) hm
    rw[z] at e;cases e
def allNews (g h:Heap) (L:Addr):List (Addr × Obj):=(List.range h.objs.size).filterMap fun a=>if a=L∨(g.get? a).isSome=true then none else (h.get? a).map fun o=>(a,o)
def rest (g h:Heap) (L d:Addr):List (Addr × Obj):=(allNews g h L).filter fun p=>decide (p.1≠d)
end L2
namespace L2
open PySem PySem.Spec PyProof.Rows
structure Mod (K:PySem.W.Frag) (mg:Str→Option Value) (base:Heap):Prop where
  kin:K.In base
  glob:base.Ns mainGlobals mg
  blt:∃mb,base.Ns builtinsNs mb∧∀x:Str,x≠"__name__"→mb x=bootBuiltins x
  nolimit:base.NoLimit
structure Cx where
  prog:Program
  w:World
  K:PySem.W.Frag
  mg:Str→Option Value
  base:Heap
  A:Around
  N:List Str
  s₀:Shared
  H₀:Hp
  env:Env
  outer:List Env
  stack:List Env
  ex:List Addr
  fn:Str→Bool
  calm:Bool
  pn:List (Addr × Obj)
  xe:Value→Shared→Prop
def frs (l:List Env):List Addr:=l.filterMap (·.frame)
abbrev Cx.fs (X:Cx):List Addr:=frs X.outer
def Vis (sc:Scope) (x:Str):Prop:=sc.names.lookup x=some .local∨sc.names.lookup x=some .cell∨sc.names.lookup x=some .free
def Loc (sc:Scope) (x:Str):Prop:=sc.names.lookup x=some .local∨sc.names.lookup x=some .cell
def Look (env:Env) (h:Heap) (m:Str→Option Value) (x:Str) (u:Value):Prop :=
  (env.kindOf x=some .local∧m x=some u)∨((env.kindOf x=some .cell∨env.kindOf x=some .free)∧∃c,env.cells.lookup x=some c∧h.IsCell c (some u))
structure Cx.Ok (X:Cx):Prop where
  mod:Mod X.K X.mg X.base
  kind:X.env.scope.kind=.function
  glob:X.env.globals=mainGlobals
  blt:X.env.builtins=builtinsNs
  above:X.s₀.heap.objs.size≤X.env.locals
  inj:∀x y c,X.env.cells.lookup x=some c→X.env.cells.lookup y=some c→x=y
  has:∀x,(X.env.kindOf x=some .cell∨X.env.kindOf x=some .free)→∃c,X.env.cells.lookup x=some c
  cab:∀x c,X.fn x=true→X.env.cells.lookup x=some c→X.s₀.heap.objs.size≤c
  hd:X.calm=true→X.A.handled=none
  frames:X.A.frames=some X.stack
  stk:X.stack=X.outer∨(X.stack=X.env::X.outer∧X.env.frame=some X.env.locals)
  exf:∀b∈X.ex,b≠X.env.locals∧∀x c,X.env.cells.lookup x=some c→c≠b
  bs:∀b o,X.base.get? b=some o→X.s₀.heap.get? b=some o∧X.H₀ b=none
  bsz:X.base.objs.size≤X.s₀.heap.objs.size
  noex:∀b o,X.base.get? b=some o→b∉X.ex
  exfs:∀b∈X.ex,b∉X.fs
  funs:X.s₀.heap.FunFrames X.base X.outer
  frf:∀b∈X.fs,X.H₀ b=none
structure Inv (X:Cx) (pins:List (Addr × Obj)) (σ:List (Option V)) (H:Hp) (s:Shared):Prop where
  ok:X.Ok
  os:s.os=X.s₀.os
  bare:AllBare s.gens
  base:Un X.fs X.ex X.H₀ H X.s₀.heap s.heap
  loc:∃m,s.heap.Ns X.env.locals m∧∀(i:Nat) (x:Str) (v:V),X.N[i]?=some x→σ[i]?=some (some v)→Vis X.env.scope x→∃u,RelV v u∧Look X.env s.heap m x u
  cell:∀x c,X.env.cells.lookup x=some c→∃v,s.heap.IsCell c v
  free:H X.env.locals=none
  freeC:∀x c,X.env.cells.lookup x=some c→H c=none
  pin:∀p∈X.pn++pins,s.heap.get? p.1=some p.2∧H p.1=none∧p.1≠X.env.locals∧p.1∉X.fs∧∀v,p.2.data≠.cell v
  hok:HOk X.prog X.w H s.heap
  len:σ.length=X.N.length
section
variable {X:Cx}{pins:List (Addr × Obj)}{σ:List (Option V)}{H H':Hp}{s:Shared}{h':Heap}
theorem Cx.Ok.nofr (ok:X.Ok) {b:Addr}{o:Obj} (e:X.base.get? b=some o):b∉X.fs:=fun hb=>by
  have:=(ok.funs.mem hb).1
  rw[e] at this;cases this
theorem Inv.bs (I:Inv X pins σ H s):∀b o,X.base.get? b=some o→s.heap.get? b=some o∧H b=none:=fun b o e =>
  ⟨I.base.keep b o (I.ok.bs b o e).1 (I.ok.bs b o e).2 (I.ok.nofr e) (I.ok.noex b o e),I.base.free b o (I.ok.bs b o e).1 (I.ok.bs b o e).2 (I.ok.noex b o e)⟩
theorem Inv.bk (I:Inv X pins σ H s):∀b o,X.base.get? b=some o→s.heap.get? b=some o:=fun b o e=>(I.bs b o e).1
theorem Inv.mod (I:Inv X pins σ H s):Mod X.K X.mg X.base:=I.ok.mod
theorem Inv.kIn (I:Inv X pins σ H s):X.K.In s.heap:=I.ok.mod.kin.keeps I.bk
theorem Inv.fr (I:Inv X pins σ H s):∃m,Fr X.base X.env.locals s.heap m :=
  let ⟨m,hn,_⟩:=I.loc
  ⟨m,hn,I.bk,Nat.le_trans I.ok.bsz I.ok.above⟩
theorem Inv.lt (I:Inv X pins σ H s):X.env.locals<s.heap.objs.size:=let ⟨_,hn,_⟩:=I.loc;hn.lt
theorem Inv.sz (I:Inv X pins σ H s):X.s₀.heap.objs.size≤s.heap.objs.size:=Nat.le_trans I.ok.above (Nat.le_of_lt I.lt)
theorem Inv.nofs (I:Inv X pins σ H s) {a:Addr} (h:s.heap.objs.size≤a):a∉X.fs:=fun hb=>by
  obtain ⟨_,o,ho,_⟩:=I.ok.funs.mem hb
  exact absurd (Nat.lt_of_lt_of_le (Heap.lt_size ho) (Nat.le_trans I.sz h)) (Nat.lt_irrefl _)
theorem Inv.cne (I:Inv X pins σ H s):∀x c,X.env.cells.lookup x=some c→c≠X.env.locals:=fun x c e z=>by
  obtain ⟨v,o,ho,hd⟩:=I.cell x c e
  obtain ⟨m,⟨o',es,ep,ho',hd',_⟩,_⟩:=I.loc
  rw[z,ho'] at ho;cases ho;rw[hd'] at hd;cases hd
theorem Inv.funs (I:Inv X pins σ H s):s.heap.FunFrames X.base X.outer:=by
  have all:∀(l:List Env),(∀b∈frs l,b∈X.fs)→X.s₀.heap.FunFrames X.base l→s.heap.FunFrames X.base l:=by
    intro l
    induction l with
    | nil=>intro _ _;trivial
    | cons env r ih =>
      intro hs hl
      obtain ⟨hk,⟨L,o,hf,hn,ho,hd⟩,hr⟩:=hl
      have hL:L∈X.fs:=hs L (by unfold frs;rw[List.filterMap_cons,hf];exact List.mem_cons_self)
      obtain ⟨sl,e⟩:=I.base.slot L o ho (I.ok.frf L hL) hL fun z=>I.ok.exfs L z hL
      exact⟨hk,⟨L,_,hf,hn,e,hd⟩,ih (fun b hb=>hs b (by unfold frs;rw[List.filterMap_cons,hf];exact List.mem_cons_of_mem _ hb)) hr⟩
  exact all X.outer (fun _ hb=>hb) I.ok.funs
theorem Inv.stack (I:Inv X pins σ H s):s.heap.FunFrames X.base X.stack:=by
  rcases I.ok.stk with e | ⟨e,hf⟩
  · rw[e];exact I.funs
  · rw[e]
    obtain ⟨m,hn,_⟩:=I.loc
    refine .cons (by rw[I.ok.kind];decide) hf hn ?_ I.funs
    exact Heap.get?_none_of_le (Nat.le_trans I.ok.bsz I.ok.above)
theorem Inv.stkSub (I:Inv X pins σ H s):∀b∈frs X.stack,b∈X.env.locals::X.fs:=fun b hb=>by
  rcases I.ok.stk with e | ⟨e,hf⟩
  · rw[e] at hb;exact List.mem_cons_of_mem _ hb
  · rw[e] at hb
    unfold frs at hb
    rw[List.filterMap_cons,hf] at hb
    exact hb
theorem Inv.stkFree (I:Inv X pins σ H s):∀b∈frs X.stack,H b=none:=fun b hb=>by
  rcases List.mem_cons.mp (I.stkSub b hb) with e | hb
  · rw[e];exact I.free
  · obtain ⟨_,o,ho,_⟩:=I.ok.funs.mem hb
    exact I.base.free b o ho (I.ok.frf b hb) fun z=>I.ok.exfs b z hb
theorem Inv.step {g':Array GenState}{t':Nat}{d':Drawn}{ch:List Addr} (I:Inv X pins σ H s)
    (hch:∀b∈ch,(b∈X.ex∨X.s₀.heap.objs.size≤b)∧b≠X.env.locals∧(∀x c,X.env.cells.lookup x=some c→c≠b)∧∀p∈X.pn++pins,p.1≠b)
    (keep:∀b o,b≠X.env.locals→b∉X.fs→b∉ch→s.heap.get? b=some o→H b=none→h'.get? b=some o)
    (slot:∀b o,b≠X.env.locals→b∈X.fs→b∉ch→s.heap.get? b=some o→H b=none→∃sl,h'.get? b=some { o with slots:=sl }) (free:∀b o,b∉ch→s.heap.get? b=some o→H b=none→H' b=none)
    (there:∀b o,b∉ch→s.heap.get? b=some o→∃o',h'.get? b=some o')
    (tups:∀b xs,H b=some (.tup xs)→H' b=some (.tup xs)) (frzs:∀b o u,H b=some (.frz o u)→H' b=some (.frz o u)) (tbls:∀b ps,H b=some (.tbl ps)→∃more,H' b=some (.tbl (ps++more)))
    (ns:∀m,s.heap.Ns X.env.locals m→h'.Ns X.env.locals m) (hok:HOk X.prog X.w H' h') (hg:AllBare g') :
    Inv X pins σ H' { s with heap:=h',gens:=g',drawn:=d',toks:=t' }:=by
  have neL:∀b o,X.s₀.heap.get? b=some o→b≠X.env.locals:=fun b o e=>Nat.ne_of_lt (Nat.lt_of_lt_of_le (Heap.lt_size e) I.ok.above)
  have neC:∀b o,X.s₀.heap.get? b=some o→b∉X.ex→b∉ch:=fun b o e hx hb=>by
    rcases (hch b hb).1 with z | z
    · exact hx z
    · exact absurd (Nat.lt_of_lt_of_le (Heap.lt_size e) z) (Nat.lt_irrefl _)
  have cellK:∀x c,X.env.cells.lookup x=some c→∀v,s.heap.IsCell c v→h'.IsCell c v:=fun x c e v ⟨o,ho,hd⟩=>by
    have nch:c∉ch:=fun z=>(hch c z).2.2.1 x c e rfl
    by_cases hc:c∈X.fs
    · obtain ⟨sl,q⟩:=slot c o (I.cne x c e) hc nch ho (I.freeC x c e)
      exact⟨_,q,hd⟩
    · exact⟨o,keep c o (I.cne x c e) hc nch ho (I.freeC x c e),hd⟩
  refine⟨I.ok,I.os,hg,⟨fun b o e n hb hx=>?_,fun b o e n hb hx=>?_,fun b o e n hx=>?_,fun b o e hx=>?_,fun b xs e=>tups b xs (I.base.tups b xs e),fun b o xs e=>frzs b o xs (I.base.frzs b o xs e),fun b ps e=>?_⟩,?_,fun x c e=>?_,?_,fun x c e=>?_,fun p hp=>?_,hok,I.len⟩
  · exact keep b o (neL b o e) hb (neC b o e hx) (I.base.keep b o e n hb hx) (I.base.free b o e n hx)
  · obtain ⟨sl,e1⟩:=I.base.slot b o e n hb hx
    obtain ⟨sl',e2⟩:=slot b _ (neL b o e) hb (neC b o e hx) e1 (I.base.free b o e n hx)
    exact⟨sl',e2⟩
  · obtain ⟨o',e1⟩:=I.base.there b o e hx
    exact free b o' (neC b o e hx) e1 (I.base.free b o e n hx)
  · obtain ⟨o',e1⟩:=I.base.there b o e hx
    exact there b o' (neC b o e hx) e1
  · obtain ⟨m1,e1⟩:=I.base.tbls b ps e
    obtain ⟨m2,e2⟩:=tbls b _ e1
    exact⟨m1++m2,by rw[e2,Array.append_assoc]⟩
  · obtain ⟨m,hn,hl⟩:=I.loc
    refine⟨m,ns m hn,fun i x v e1 e2 e3=>?_⟩
    obtain ⟨u,r,l⟩:=hl i x v e1 e2 e3
    refine⟨u,r,?_⟩
    rcases l with l | ⟨k,c,e,z⟩
    · exact .inl l
    · exact .inr ⟨k,c,e,cellK x c e _ z⟩
  · obtain ⟨v,z⟩:=I.cell x c e
    exact⟨v,cellK x c e v z⟩
  · obtain ⟨m,⟨o,_,_,ho,_⟩,_⟩:=I.loc
    exact free _ o (fun z=>(hch _ z).2.1 rfl) ho I.free
  · obtain ⟨v,o,ho,hd⟩:=I.cell x c e
    exact free c o (fun z=>(hch c z).2.2.1 x c e rfl) ho (I.freeC x c e)
  · obtain ⟨e,n,ne,nf,d⟩:=I.pin p hp
    have nch:p.1∉ch:=fun z=>(hch p.1 z).2.2.2 p hp rfl
    exact⟨keep p.1 p.2 ne nf nch e n,free p.1 p.2 nch e n,ne,nf,d⟩
theorem Inv.un {t':Nat} (I:Inv X pins σ H s) (u:Un X.fs [] H H' s.heap h') (hok:HOk X.prog X.w H' h'):Inv X pins σ H' { s with heap:=h',toks:=t' }:=by
  obtain ⟨m,⟨o,es,ep,ho,r⟩,_⟩:=id I.loc
  obtain ⟨sl,hL⟩:=u.any ho I.free (by simp)
  exact I.step (g':=s.gens) (d':=s.drawn) (ch:=[]) (fun _ z=>nomatch z) (fun b o _ hb _ e n=>u.keep b o e n hb (by simp)) (fun b o _ hb _ e n=>u.slot b o e n hb (by simp)) (fun b o _ e n=>u.free b o e n (by simp)) (fun b o _ e=>u.there b o e (by simp)) u.tups u.frzs u.tbls (fun m' hm=>by
    obtain ⟨o',es',ep',ho',r'⟩:=hm
    rw[ho] at ho';cases ho'
    exact⟨_,es',ep',hL,r'⟩) hok I.bare
theorem Inv.call {g':Array GenState}{t':Nat}{d':Drawn}{ch:List Addr} (I:Inv X pins σ H s) (u:Un (frs X.stack) ch H H' s.heap h') (hok:HOk X.prog X.w H' h') (hg:AllBare g')
    (hch:∀b∈ch,(b∈X.ex∨X.s₀.heap.objs.size≤b)∧b≠X.env.locals∧(∀x c,X.env.cells.lookup x=some c→c≠b)∧∀p∈X.pn++pins,p.1≠b) :
    Inv X pins σ H' { s with heap:=h',gens:=g',drawn:=d',toks:=t' }:=by
  obtain ⟨m,⟨o,es,ep,ho,r⟩,_⟩:=id I.loc
  obtain ⟨sl,hL⟩:=u.any ho I.free fun z=>(hch _ z).2.1 rfl
  exact I.step (ch:=ch) hch (fun b o hL hb hc e n=>u.keep b o e n (fun z=>(List.mem_cons.mp (I.stkSub b z)).elim hL hb) hc) (fun b o _ _ hc e n=>u.any e n hc) (fun b o hc e n=>u.free b o e n hc) (fun b o hc e=>u.there b o e hc) u.tups u.frzs u.tbls (fun m' hm=>by
    obtain ⟨o',es',ep',ho',r'⟩:=hm
    rw[ho] at ho';cases ho'
    exact⟨_,es',ep',hL,r'⟩) hok hg
theorem Inv.turned {t':Nat}{it:Addr} (I:Inv X pins σ H s) (k:∀b o,b≠it→s.heap.get? b=some o→h'.get? b=some o) (hn:H it=none) (hL:it≠X.env.locals)
    (h1:it∈X.ex∨X.s₀.heap.objs.size≤it) (h2:∀x c,X.env.cells.lookup x=some c→c≠it) (h3:∀p∈X.pn++pins,p.1≠it):Inv X pins σ H { s with heap:=h',toks:=t' }:=by
  have nit:∀b u,H b=some u→b≠it:=fun b u e z=>by rw[z,hn] at e;cases e
  refine I.step (g':=s.gens) (d':=s.drawn) (ch:=[it]) (fun b hb=>?_) (fun b o _ _ hc e _=>k b o (fun z=>hc (by simp [z])) e) (fun b o _ _ hc e _=>⟨o.slots,k b o (fun z=>hc (by simp [z])) e⟩) (fun _ _ _ _ n=>n)
    (fun b o hc e=>⟨o,k b o (fun z=>hc (by simp [z])) e⟩) (fun _ _ e=>e) (fun _ _ _ e=>e) (fun b ps e=>⟨#[],by rw[e];simp⟩) (fun m hm=>?_) (fun b u e=>?_) I.bare
  · have e:b=it:=by simpa using hb
    subst e
    exact⟨h1,hL,h2,h3⟩
  · obtain ⟨o,es,ep,ho,r⟩:=hm
    exact⟨o,es,ep,k _ o (Ne.symm hL) ho,r⟩
  · refine (I.hok b u e).stay (fun c v hc q=>k c v ?_ q) (fun _ q=>q) fun _ _ q=>q
    rcases hc with z | z
    · rw[z];exact nit b u e
    · exact nit c _ z
theorem Inv.tok (I:Inv X pins σ H s) (t:Nat):Inv X pins σ H { s with toks:=t }:=I.un (h':=s.heap) (t':=t) Un.refl I.hok
theorem Inv.kept {t':Nat} (I:Inv X pins σ H s) (k:∀b u,s.heap.get? b=some u→h'.get? b=some u):Inv X pins σ H { s with heap:=h',toks:=t' }:=I.un (Un.kept k) (I.hok.kept k)
theorem Inv.laid {a:Addr}{o:HO}{t':Nat} (I:Inv X pins σ H s) (k:∀b u,s.heap.get? b=some u→h'.get? b=some u) (hp:s.heap.objs.size≤a) (new:ObjOk X.prog X.w (upd H a o) h' a o) :
    Inv X pins σ (upd H a o) { s with heap:=h',toks:=t' }:=I.un (Un.laid k hp (I.hok.fresh hp)) (I.hok.laid k hp new)
theorem Inv.write {x e:Addr}{o:HO}{t':Nat} (I:Inv X pins σ H s) (mu:Mut (H x)) (he:e=x∨H e=some (.own x)) (k:∀b u,b≠e→s.heap.get? b=some u→h'.get? b=some u) (heo:∃u,h'.get? e=some u)
    (new:ObjOk X.prog X.w (upd H x o) h' x o):Inv X pins σ (upd H x o) { s with heap:=h',toks:=t' }:=I.un (Un.write mu he k heo) (I.hok.write mu he k heo new)
theorem Inv.weak {σ':List (Option V)} (I:Inv X pins σ H s) (hl:σ'.length=σ.length) (w:∀(i:Nat) v,σ'[i]?=some (some v)→σ[i]?=some (some v)):Inv X pins σ' H s :=
  ⟨I.ok,I.os,I.bare,I.base,let ⟨m,hn,hl'⟩:=I.loc;⟨m,hn,fun i x v e1 e2 e3=>hl' i x v e1 (w i v e2) e3⟩,I.cell,I.free,I.freeC,I.pin,I.hok,hl.trans I.len⟩
theorem Inv.pins_of {pins':List (Addr × Obj)} (I:Inv X pins σ H s) (h:∀p∈pins',s.heap.get? p.1=some p.2∧H p.1=none∧p.1≠X.env.locals∧p.1∉X.fs∧∀v,p.2.data≠.cell v):Inv X pins' σ H s :=
  ⟨I.ok,I.os,I.bare,I.base,I.loc,I.cell,I.free,I.freeC,fun p hp=>(List.mem_append.mp hp).elim (fun z=>I.pin p (List.mem_append_left _ z)) (h p),I.hok,I.len⟩
theorem nodup_ix {N:List Str} (hN:N.Nodup) {i j:Nat}{x:Str} (a:N[i]?=some x) (b:N[j]?=some x):i=j:=by
  obtain ⟨h1,e1⟩:=List.getElem?_eq_some_iff.mp a
  obtain ⟨h2,e2⟩:=List.getElem?_eq_some_iff.mp b
  exact (List.getElem_inj hN).mp (e1.trans e2.symm)
theorem store_ok2 {M:Model}{A:Around}{E:Value→Shared→Prop}{i:Nat}{x:Str}{v:V}{u:Value}{Q:Unit→Shared→Prop} (I:Inv X pins σ H s) (hN:X.N.Nodup) (hi:X.N[i]?=some x) (hx:Loc X.env.scope x) (r:RelV v u)
    (h:∀s',Inv X pins (σ.set i (some v)) H s'→(∃a,Heap.SameBut a s.heap s'.heap∧(a=X.env.locals∨X.env.cells.lookup x=some a))→Q () s') (hf:X.fn x=true∨X.env.scope.names.lookup x=some .local:=by first | exact .inl rfl | exact .inr rfl | assumption):wpAny M A (storeName X.env x u) Q E s:=by
  obtain ⟨m,hn,hl⟩:=id I.loc
  have hcls:(X.env.scope.kind == .class || (X.env.scope.kind == .module && X.env.locals != X.env.globals))=false:=by rw[I.ok.kind];rfl
  have hiσ:i<σ.length:=by rw[I.len];exact (List.getElem?_eq_some_iff.mp hi).1
  have cne:=I.cne
  have tracked:∀{a:Addr}{h':Heap},(∃o,s.heap.get? a=some o∧H a=none)→Heap.SameBut a s.heap h'→HOk X.prog X.w H h':=fun {a h'} ha hs b ob e=>by
    obtain ⟨_,_,hfree⟩:=ha
    refine (I.hok b ob e).stay (fun c w' hc q=>(hs.2 c ?_).trans q) (fun _ q=>q) fun _ _ q=>q
    rintro rfl
    rcases hc with rfl | hc
    · rw[hfree] at e;cases e
    · rw[hfree] at hc;cases hc
  rcases hx with hk | hk
  · refine wpAny_storeName_local hk hn (fun h' hn' hs=>?_) hcls
    obtain ⟨oL,_,_,hoL,_⟩:=id hn
    refine h _ ⟨I.ok,I.os,I.bare,⟨fun b o e n hb hx=>?_,fun b o e n hb hx=>?_,I.base.free,fun b o e hx=>?_,I.base.tups,I.base.frzs,I.base.tbls⟩,⟨_,hn',fun j y v' e1 e2 e3=>?_⟩,fun y c e=>?_,I.free,I.freeC,fun p hp=>?_,tracked ⟨oL,hoL,I.free⟩ hs,by simpa using I.len⟩ ⟨_,hs,.inl rfl⟩
    · exact (hs.2 b (Nat.ne_of_lt (Nat.lt_of_lt_of_le (Heap.lt_size e) I.ok.above))).trans (I.base.keep b o e n hb hx)
    · obtain ⟨sl,e1⟩:=I.base.slot b o e n hb hx
      exact⟨sl,(hs.2 b (Nat.ne_of_lt (Nat.lt_of_lt_of_le (Heap.lt_size e) I.ok.above))).trans e1⟩
    · obtain ⟨o',e1⟩:=I.base.there b o e hx
      exact⟨o',(hs.2 b (Nat.ne_of_lt (Nat.lt_of_lt_of_le (Heap.lt_size e) I.ok.above))).trans e1⟩
    · by_cases hj:j=i
      · subst hj
        rw[hi] at e1;cases e1
        rw[List.getElem?_set_self hiσ] at e2
        cases e2
        exact⟨u,r,.inl ⟨hk,by simp⟩⟩
      · rw[List.getElem?_set_ne (Ne.symm hj)] at e2
        obtain ⟨u',r',q⟩:=hl j y v' e1 e2 e3
        refine⟨u',r',?_⟩
        rcases q with ⟨k,e⟩ | ⟨k,c,e,z⟩
        · refine .inl ⟨k,?_⟩
          have:y≠x:=fun e=>hj (nodup_ix hN e1 (e▸hi))
          simp [this,e]
        · exact .inr ⟨k,c,e,z.sameBut hs (cne y c e)⟩
    · obtain ⟨w',z⟩:=I.cell y c e
      exact⟨w',z.sameBut hs (cne y c e)⟩
    · obtain ⟨e,n,ne,nf,d⟩:=I.pin p hp
      exact⟨(hs.2 p.1 ne).trans e,n,ne,nf,d⟩
  · have hfn:X.fn x=true:=by
      rcases hf with z | z
      · exact z
      · rw[z] at hk;cases hk
    obtain ⟨c,hc⟩:=I.ok.has x (.inl hk)
    obtain ⟨w',z⟩:=I.cell x c hc
    refine wpAny_storeName_cell I.ok.kind hk hc z (fun h' hc' hs=>?_)
    obtain ⟨oc,hoc,hocd⟩:=id z
    refine h { s with heap:=h' } ⟨I.ok,I.os,I.bare,⟨fun b o e n hb hx=>?_,fun b o e n hb hx=>?_,I.base.free,fun b o e hx=>?_,I.base.tups,I.base.frzs,I.base.tbls⟩,⟨m,hn.sameBut hs (Ne.symm (cne x c hc)),fun j y v' e1 e2 e3=>?_⟩,fun y c' e=>?_,I.free,I.freeC,fun p hp=>?_,tracked ⟨oc,hoc,I.freeC x c hc⟩ hs,by simpa using I.len⟩ ⟨c,hs,.inr hc⟩
    · exact (hs.2 b (Nat.ne_of_lt (Nat.lt_of_lt_of_le (Heap.lt_size e) (I.ok.cab x c hfn hc)))).trans (I.base.keep b o e n hb hx)
    · obtain ⟨sl,e1⟩:=I.base.slot b o e n hb hx
      exact⟨sl,(hs.2 b (Nat.ne_of_lt (Nat.lt_of_lt_of_le (Heap.lt_size e) (I.ok.cab x c hfn hc)))).trans e1⟩
    · obtain ⟨o',e1⟩:=I.base.there b o e hx
      exact⟨o',(hs.2 b (Nat.ne_of_lt (Nat.lt_of_lt_of_le (Heap.lt_size e) (I.ok.cab x c hfn hc)))).trans e1⟩
    · by_cases hj:j=i
      · subst hj
        rw[hi] at e1;cases e1
        rw[List.getElem?_set_self hiσ] at e2
        cases e2
        exact⟨u,r,.inr ⟨.inl hk,c,hc,hc'⟩⟩
      · rw[List.getElem?_set_ne (Ne.symm hj)] at e2
        obtain ⟨u',r',q⟩:=hl j y v' e1 e2 e3
        refine⟨u',r',?_⟩
        rcases q with q | ⟨k,c',e,z'⟩
        · exact .inl q
        · refine .inr ⟨k,c',e,z'.sameBut hs ?_⟩
          rintro rfl
          exact hj (nodup_ix hN e1 (I.ok.inj _ _ _ e hc▸hi))
    · by_cases hcc:c'=c
      · subst hcc;exact⟨_,hc'⟩
      · obtain ⟨w2,z2⟩:=I.cell y c' e
        exact⟨w2,z2.sameBut hs hcc⟩
    · obtain ⟨e,n,ne,nf,d⟩:=I.pin p hp
      refine⟨(hs.2 p.1 ?_).trans e,n,ne,nf,d⟩
      intro q
      rw[q,hoc] at e
      have q':oc=p.2:=Option.some.inj e
      exact d w' (by rw[← q'];exact hocd)
theorem store_ok {M:Model}{A:Around}{E:Value→Shared→Prop}{i:Nat}{x:Str}{v:V}{u:Value}{Q:Unit→Shared→Prop} (I:Inv X pins σ H s) (hN:X.N.Nodup) (hi:X.N[i]?=some x) (hx:Loc X.env.scope x) (r:RelV v u)
    (h:∀s',Inv X pins (σ.set i (some v)) H s'→Q () s') (hf:X.fn x=true∨X.env.scope.names.lookup x=some .local:=by first | exact .inl rfl | exact .inr rfl | assumption):wpAny M A (storeName X.env x u) Q E s :=
  store_ok2 I hN hi hx r (fun s' I' _=>h s' I') hf
theorem Inv.call' {s':Shared}{ch:List Addr} (I:Inv X pins σ H s) (ho:s'.os=s.os) (u:Un (frs X.stack) ch H H' s.heap s'.heap) (hok:HOk X.prog X.w H' s'.heap) (hg:AllBare s'.gens)
    (hch:∀b∈ch,(b∈X.ex∨X.s₀.heap.objs.size≤b)∧b≠X.env.locals∧(∀x c,X.env.cells.lookup x=some c→c≠b)∧∀p∈X.pn++pins,p.1≠b):Inv X pins σ H' s':=by
  obtain ⟨h',g',d',t',o'⟩:=s'
  have e:o'=s.os:=ho
  subst e
  exact I.call (g':=g') (t':=t') (d':=d') u hok hg hch
end
abbrev XK:=Value→Option Addr→Hp→Prop
abbrev St:=List (Option V)
abbrev VK:=V→Hp→Prop
abbrev TE:=St→Hp→VK→Prop
abbrev TT:=St→Hp→(Bool→Hp→Prop)→Prop
abbrev TA:=St→Hp→(List V→Hp→Prop)→Prop
structure Ends where
  nx:St→Hp→Prop
  rt:VK
  bk:St→Hp→Prop:=fun _ _=>False
  ct:St→Hp→Prop:=fun _ _=>False
abbrev TS:=Ends→St→Hp→Prop
def EP (X:Cx) (pins:List (Addr × Obj)) (σ:St) (Q:VK) (u:Value) (s':Shared):Prop:=∃v H',Inv X pins σ H' s'∧RelV v u∧Q v H'
def TP (X:Cx) (pins:List (Addr × Obj)) (σ:St) (Q:Bool→Hp→Prop) (b:Bool) (s':Shared):Prop:=∃H',Inv X pins σ H' s'∧Q b H'
def AP (X:Cx) (pins:List (Addr × Obj)) (σ:St) (Q:List V→Hp→Prop) (us:List Value) (s':Shared):Prop:=∃vs H',Inv X pins σ H' s'∧Vals vs us∧Q vs H'
def SP (X:Cx) (pins:List (Addr × Obj)) (D:Ends) (f:Flow) (s':Shared):Prop :=
  match f with
  | .next=>∃σ' H',Inv X pins σ' H' s'∧D.nx σ' H'
  | .brk=>∃σ' H',Inv X pins σ' H' s'∧D.bk σ' H'
  | .cont=>∃σ' H',Inv X pins σ' H' s'∧D.ct σ' H'
  | .ret u=>∃v σ' H',Inv X pins σ' H' s'∧RelV v u∧D.rt v H'
def PE (X:Cx) (e:Expr) (t:TE):Prop :=
  ∀(pins:List (Addr × Obj)) (s:Shared) (σ:St) (H:Hp) (Q:VK),Inv X pins σ H s→t σ H Q→wpAny (model X.prog X.w) X.A (eval e X.env) (EP X pins σ Q) X.xe s
def PT (X:Cx) (e:Expr) (t:TT):Prop :=
  ∀(pins:List (Addr × Obj)) (s:Shared) (σ:St) (H:Hp) (Q:Bool→Hp→Prop),Inv X pins σ H s→t σ H Q→wpAny (model X.prog X.w) X.A (isTrue e X.env (eval e X.env)) (TP X pins σ Q) X.xe s
def PW (X:Cx) (e:Expr) (t:TT):Prop :=
  ∀(whole:Sem Value) (pins:List (Addr × Obj)) (s:Shared) (σ:St) (H:Hp) (Q:Bool→Hp→Prop),Inv X pins σ H s→t σ H Q→wpAny (model X.prog X.w) X.A (isTrue e X.env whole) (TP X pins σ Q) X.xe s
theorem PW.pt {X:Cx}{e:Expr}{t:TT} (h:PW X e t):PT X e t:=h _
def PA (X:Cx) (es:List Expr) (t:TA):Prop :=
  ∀(pos:Pos) (pins:List (Addr × Obj)) (s:Shared) (σ:St) (H:Hp) (Q:List V→Hp→Prop),Inv X pins σ H s→t σ H Q→wpAny (model X.prog X.w) X.A (spliced (backTo pos (starEach es X.env))) (AP X pins σ Q) X.xe s
def PS (X:Cx) (st:Stmt) (t:TS):Prop :=
  ∀(pins:List (Addr × Obj)) (s:Shared) (σ:St) (H:Hp) (D:Ends),Inv X pins σ H s→t D σ H→wpAny (model X.prog X.w) X.A (exec st X.env) (SP X pins D) X.xe s
def PSs (X:Cx) (st:List Stmt) (t:TS):Prop :=
  ∀(pins:List (Addr × Obj)) (s:Shared) (σ:St) (H:Hp) (D:Ends),Inv X pins σ H s→t D σ H→wpAny (model X.prog X.w) X.A (execs st X.env) (SP X pins D) X.xe s
theorem thn {α:Type}{t:Sem α}{Q Q':α→Shared→Prop}{M:Model}{A:Around}{E:Value→Shared→Prop}{s:Shared} (h:wpAny M A t Q E s) (hQ:∀a s,Q a s→Q' a s):wpAny M A t Q' E s:=wpAny_mono h hQ fun _ _ x=>x
end L2
namespace L2
open PySem PySem.Spec PyProof.Rows
section
variable {X:Cx}
theorem bin {a b:Expr}{ta tb:TE} (ha:PE X a ta) (hb:PE X b tb) {pins:List (Addr × Obj)}{s:Shared}{σ:St}{H:Hp}{R:V→V→Hp→Prop} (I:Inv X pins σ H s) (h:ta σ H fun x H1=>tb σ H1 fun y H2=>R x y H2)
    {α:Type}{Q:α→Shared→Prop}{f:Value→Value→Sem α}
    (hf:∀v u s2 x y H2,Inv X pins σ H2 s2→RelV x v→RelV y u→R x y H2→wpAny (model X.prog X.w) X.A (f v u) Q X.xe s2) :
    wpAny (model X.prog X.w) X.A (eval a X.env) (fun v s₁=>wpAny (model X.prog X.w) X.A (eval b X.env) (fun u s₂=>wpAny (model X.prog X.w) X.A (f v u) Q X.xe s₂) X.xe s₁) X.xe s:=by
  refine thn (ha pins s σ H _ I h) fun v s1 ⟨x,H1,I1,r1,q1⟩=>?_
  refine thn (hb pins s1 σ H1 _ I1 q1) fun u s2 ⟨y,H2,I2,r2,q2⟩=>?_
  exact hf v u s2 x y H2 I2 r1 r2 q2
def tVar (i:Nat):TE:=fun σ H Q=>∃v,σ[i]?=some (some v)∧Q v H
def tC (v:V):TE:=fun _ H Q=>Q v H
theorem pe_var {i:Nat}{x:Str}{pos:Pos} (hN:X.N[i]?=some x) (hv:Vis X.env.scope x) (hd:(x == ("__debug__" : Str))=false:=by decide) (hcd:(x == ("__classdict__" : Str))=false:=by decide):PE X (.Name x pos) (tVar i):=by
  intro pins s σ H Q I h
  obtain ⟨v,e,h⟩:=h
  obtain ⟨m,hn,hl⟩:=I.loc
  obtain ⟨u,r,l⟩:=hl i x v hN e hv
  have fin:EP X pins σ Q u s:=⟨v,H,I,r,h⟩
  rcases l with ⟨hk,hm⟩ | ⟨hk,c,hc,hcell⟩
  · exact wpAny_Name (wpAny_loadName_local I.ok.kind hk hn hm fin) hd
  · rcases hk with hk | hk
    · exact wpAny_Name (wpAny_loadName_cell I.ok.kind hk hc hcell fin) hd
    · exact wpAny_Name (wpAny_loadName_free I.ok.kind hk hc hcell fin hcd) hd
theorem pe_int {i j pos}:PE X (.Constant (.int i) j pos) (tC (.int i)):=fun _ _ _ H _ I h=>wpAny_Constant_int ⟨.int i,H,I.tok _,⟨_,rfl⟩,h⟩
theorem pe_bl {b j pos}:PE X (.Constant (.bool b) j pos) (tC (.bl b)):=fun _ _ _ H _ I h=>Constant_bool ⟨.bl b,H,I,rfl,h⟩
theorem pe_str {x j pos}:PE X (.Constant (.str x) j pos) (tC (.str x)):=fun _ _ _ H _ I h=>Calls.Constant_str ⟨.str x,H,I.tok _,⟨_,rfl⟩,h⟩
def Gl (X:Cx) (x:Str):Prop:=X.env.kindOf x=some .globalImplicit
theorem ld_glob {E:Value→Shared→Prop}{pins:List (Addr × Obj)}{s:Shared}{σ:St}{H:Hp}{x:Str}{u:Value}{pos:Pos}{Q:Value→Shared→Prop} (I:Inv X pins σ H s) (hg:Gl X x) (hm:X.mg x=some u) (h:Q u s)
    (hd:(x == ("__debug__" : Str))=false:=by decide):wpAny (model X.prog X.w) X.A (eval (.Name x pos) X.env) Q E s :=
  Calls.Name_function_global I.ok.kind hg (Calls.loadGlobal_global (by rw[I.ok.glob];exact I.mod.glob.keeps I.bk) hm h) hd
theorem ld_blt {E:Value→Shared→Prop}{pins:List (Addr × Obj)}{s:Shared}{σ:St}{H:Hp}{x:Str}{u:Value}{pos:Pos}{Q:Value→Shared→Prop} (I:Inv X pins σ H s) (hg:Gl X x) (hm:X.mg x=none) (hv:bootBuiltins x=some u) (h:Q u s)
    (hn:x≠"__name__":=by decide) (hd:(x == ("__debug__" : Str))=false:=by decide):wpAny (model X.prog X.w) X.A (eval (.Name x pos) X.env) Q E s:=by
  obtain ⟨mb,h1,h2⟩:=I.mod.blt
  exact Calls.Name_function_global I.ok.kind hg (Calls.loadGlobal_builtin (by rw[I.ok.glob];exact I.mod.glob.keeps I.bk) hm (by rw[I.ok.blt];exact h1.keeps I.bk) ((h2 x hn).trans hv) h) hd
theorem pe_glob {x:Str}{v:V}{u:Value}{pos:Pos} (hg:Gl X x) (hm:X.mg x=some u) (r:RelV v u) (hd:(x == ("__debug__" : Str))=false:=by decide):PE X (.Name x pos) (tC v) :=
  fun _ _ _ H _ I h=>ld_glob I hg hm ⟨v,H,I,r,h⟩ hd
theorem pe_bltn {x:Str}{v:V}{u:Value}{pos:Pos} (hg:Gl X x) (hm:X.mg x=none) (hv:bootBuiltins x=some u) (r:RelV v u) (hn:x≠"__name__":=by decide) (hd:(x == ("__debug__" : Str))=false:=by decide):PE X (.Name x pos) (tC v) :=
  fun _ _ _ H _ I h=>ld_blt I hg hm hv ⟨v,H,I,r,h⟩ hn hd
variable {a b:Expr}{ta tb:TE}{pos:Pos}
def PC (X:Cx) (op:CmpOp) (a b:Expr) (t:TE):Prop :=
  ∀(pins:List (Addr × Obj)) (s:Shared) (σ:St) (H:Hp) (Q:VK),Inv X pins σ H s→t σ H Q →
    wpAny (model X.prog X.w) X.A (eval a X.env) (fun v s₁=>wpAny (model X.prog X.w) X.A (eval b X.env) (fun u s₂=>wpAny (model X.prog X.w) X.A (compareOp op v u) (EP X pins σ Q) X.xe s₂) X.xe s₁) X.xe s
theorem nobehind (b:Expr) {op:CmpOp} (h:op≠.In) (h2:op≠.NotIn):behindInMarks op b=false:=by
  have e1:(op == CmpOp.In)=false:=by cases op<;>first | rfl | exact absurd rfl h
  have e2:(op == CmpOp.NotIn)=false:=by cases op<;>first | rfl | exact absurd rfl h2
  cases b<;>simp [behindInMarks,e1,e2]
def tB (t:TE):TT:=fun σ H Q=>t σ H fun x H1=>∃c,x=.bl c∧Q c H1
theorem pt_cmp {op:CmpOp}{t:TE} (h:PC X op a b t) (h1:behindInMarks op b=false:=by first | exact nobehind _ (by decide) (by decide) | rfl):PT X (.Compare a [op] [b] pos) (tB t):=by
  intro pins s σ H Q I hw
  refine wpAny_isTrue_Compare1 (thn (h pins s σ H _ I hw) fun v s1 h1=>thn h1 fun u s2 h2=>thn h2 fun c s3 ⟨x,H1,I1,r1,q1⟩=>?_) h1
  obtain ⟨d,rfl,q⟩:=q1
  cases r1
  exact wpAny_truthy_bool ⟨H1,I1,q⟩
theorem pt_val {e:Expr}{t:TE} (h:PE X e t) (he:∀whole,isTrue e X.env whole=(do let v ← whole;standAt e.pos;holding [v] (truthy v)):=by intro _;rfl):PT X e (tB t):=by
  intro pins s σ H Q I hw
  refine isTrue_plain (thn (h pins s σ H _ I hw) fun v s1 ⟨x,H1,I1,r1,q1⟩=>?_) (he _)
  obtain ⟨d,rfl,q⟩:=q1
  cases r1
  exact wpAny_truthy_bool ⟨H1,I1,q⟩
variable {tA tB':TT}{rest:List Expr}
def tAnd (t u:TT):TT:=fun σ H Q=>t σ H fun c H1=>if c=true then u σ H1 Q else Q false H1
def tOr (t u:TT):TT:=fun σ H Q=>t σ H fun c H1=>if c=true then Q true H1 else u σ H1 Q
def tNot (t:TT):TT:=fun σ H Q=>t σ H fun c H1=>Q (!c) H1
theorem pw_and1 (ha:PT X a tA):PW X (.BoolOp .And [a] pos) tA:=by
  intro wh pins s σ H Q I h
  refine isTrue_and (thn (ha pins s σ H Q I h) fun c s1 e=>?_)
  cases c with
  | true=>exact isTrue_and_nil e
  | false=>exact e
theorem pw_or1 (ha:PT X a tA):PW X (.BoolOp .Or [a] pos) tA:=by
  intro wh pins s σ H Q I h
  refine isTrue_or (thn (ha pins s σ H Q I h) fun c s1 e=>?_)
  cases c with
  | false=>exact isTrue_or_nil e
  | true=>exact e
theorem pw_and (ha:PT X a tA) (hb:PW X (.BoolOp .And (b::rest) pos) tB'):PW X (.BoolOp .And (a::b::rest) pos) (tAnd tA tB'):=by
  intro wh pins s σ H Q I h
  refine isTrue_and (thn (ha pins s σ H _ I h) fun c s1 ⟨H1,I1,q1⟩=>?_)
  cases c with
  | true=>exact hb wh pins s1 σ H1 Q I1 q1
  | false=>exact⟨H1,I1,q1⟩
theorem pw_or (ha:PT X a tA) (hb:PW X (.BoolOp .Or (b::rest) pos) tB'):PW X (.BoolOp .Or (a::b::rest) pos) (tOr tA tB'):=by
  intro wh pins s σ H Q I h
  refine isTrue_or (thn (ha pins s σ H _ I h) fun c s1 ⟨H1,I1,q1⟩=>?_)
  cases c with
  | true=>exact⟨H1,I1,q1⟩
  | false=>exact hb wh pins s1 σ H1 Q I1 q1
theorem pt_not (ha:PT X a tA):PT X (.UnaryOp .Not a pos) (tNot tA):=by
  intro pins s σ H Q I h
  exact isTrue_not (ha pins s σ H (fun c H1=>Q (!c) H1) I h)
def tAndV (ta tb:TE):TE:=fun σ H Q=>ta σ H fun x H1=>∃c,x=.bl c∧if c=true then tb σ H1 Q else Q (.bl false) H1
def tNotV (ta:TE):TE:=fun σ H Q=>ta σ H fun x H1=>∃c,x=.bl c∧Q (.bl (!c)) H1
theorem pe_one {op}{t:TE} (h:PE X a t):PE X (.BoolOp op [a] pos) t:=fun pins s σ H Q I hw=>BoolOp_one (h pins s σ H Q I hw)
theorem pe_and (ha:PE X a ta) (hb:PE X (.BoolOp .And (b::rest) pos) tb):PE X (.BoolOp .And (a::b::rest) pos) (tAndV ta tb):=by
  intro pins s σ H Q I h
  refine BoolOp_and (thn (ha pins s σ H _ I h) fun v s1 ⟨x,H1,I1,r1,q1⟩=>?_)
  obtain ⟨c,rfl,q1⟩:=q1
  cases r1
  refine wpAny_truthy_bool ?_
  cases c with
  | true=>exact hb pins s1 σ H1 Q I1 q1
  | false=>exact⟨.bl false,H1,I1,rfl,q1⟩
theorem pe_not (ha:PE X a ta):PE X (.UnaryOp .Not a pos) (tNotV ta):=by
  intro pins s σ H Q I h
  refine UnaryOp_ (thn (ha pins s σ H _ I h) fun v s1 ⟨x,H1,I1,r1,q1⟩=>?_)
  obtain ⟨c,rfl,q1⟩:=q1
  cases r1
  exact not_of (wpAny_truthy_bool ⟨.bl (!c),H1,I1,rfl,q1⟩)
end
end L2
namespace L2
open PySem PySem.Spec PyProof.Rows
def SqL (K:PySem.W.Frag) (H:Hp) (a:Addr) (xs:List V):Prop :=
  Rd H a (.lst xs) ∨
    ∃(o:Obj) (its:Array Value) (n:Nat),K.lookup a=some o∧o.cls=.type "list"∧o.dict=none∧o.data=.seq its n∧its.size≤sizeLine∧Vals xs its.toList
def SqT (K:PySem.W.Frag) (H:Hp) (a:Addr) (xs:List V):Prop :=
  Rd H a (.tup xs) ∨
    ∃(o:Obj) (its:Array Value) (n:Nat),K.lookup a=some o∧o.cls=.type "tuple"∧o.data=.seq its n∧its.size≤sizeLine∧Vals xs its.toList
def absV:Value→Option V
  | .none=>some .non
  | .bool b=>some (.bl b)
  | .int i _=>some (.int i)
  | .str x _=>some (.str x)
  | .bytes b _=>some (.byt b)
  | .float b _=>some (.flt b)
  | .ref a=>some (.ref a)
  | .type n=>some (.ty n)
  | _=>none
theorem RelV.abs {x:V}{u:Value} (r:RelV x u):absV u=some x:=by
  cases x with
  | non=>cases r;rfl
  | bl _=>cases r;rfl
  | int _=>obtain ⟨t,rfl⟩:=r;rfl
  | str _=>obtain ⟨t,rfl⟩:=r;rfl
  | byt _=>obtain ⟨t,rfl⟩:=r;rfl
  | flt _=>obtain ⟨t,rfl⟩:=r;rfl
  | ref _=>cases r;rfl
  | ty _=>cases r;rfl
theorem RelV.inj {x y:V}{u:Value} (r:RelV x u) (q:RelV y u):x=y:=Option.some.inj (r.abs.symm.trans q.abs)
theorem Vals.inj:∀{xs ys:List V}{us:List Value},Vals xs us→Vals ys us→xs=ys
  | _,_,_,.nil,.nil=>rfl
  | _,_,_,.cons r t,.cons r' t'=>by rw[r.inj r',Vals.inj t t']
section
variable {X:Cx}{pins:List (Addr × Obj)}{σ:St}{H:Hp}{s:Shared}{a:Addr}{xs ys:List V}
theorem SqL.of {K:PySem.W.Frag} (h:H a=some (.lst xs)):SqL K H a xs:=.inl (.inl h)
theorem SqT.of {K:PySem.W.Frag} (h:H a=some (.tup xs)):SqT K H a xs:=.inl (.inl h)
theorem Inv.list (I:Inv X pins σ H s) (h:SqL X.K H a xs):∃its:List Value,Vals xs its∧PlainL s.heap a its.toArray∧xs.length≤sizeLine:=by
  rcases h with h | ⟨o,its,n,hk,hc,hd,hs,hz,r⟩
  · obtain ⟨z,its,n,r,e⟩:=h.ok I.hok
    exact⟨its,r,⟨_,n,e,rfl,rfl,rfl⟩,z⟩
  · refine⟨its.toList,r,⟨o,n,I.kIn a o hk,hc,hd,by simpa using hs⟩,?_⟩
    have e:=r.length
    simp only[Array.length_toList] at e
    omega
theorem Inv.tuple (I:Inv X pins σ H s) (h:SqT X.K H a xs):∃its:List Value,Vals xs its∧IsTup s.heap a its.toArray∧xs.length≤sizeLine:=by
  rcases h with h | ⟨o,its,n,hk,hc,hs,hz,r⟩
  · obtain ⟨z,its,r,p⟩:=h.ok I.hok
    exact⟨its,r,p,z⟩
  · refine⟨its.toList,r,⟨o,I.kIn a o hk,hc,n,by simpa using hs⟩,?_⟩
    have e:=r.length
    simp only[Array.length_toList] at e
    omega
theorem Inv.list_inj (I:Inv X pins σ H s) (h:SqL X.K H a xs) (h':SqL X.K H a ys):xs=ys:=by
  obtain ⟨its,r,⟨o,n,e,_,_,d⟩,_⟩:=I.list h
  obtain ⟨its',r',⟨o',n',e',_,_,d'⟩,_⟩:=I.list h'
  rw[e] at e';cases e'
  rw[d] at d'
  injection d' with d1 _
  have:its=its':=by simpa using congrArg Array.toList d1
  subst this
  exact r.inj r'
theorem Inv.tuple_inj (I:Inv X pins σ H s) (h:SqT X.K H a xs) (h':SqT X.K H a ys):xs=ys:=by
  obtain ⟨its,r,⟨o,e,_,n,d⟩,_⟩:=I.tuple h
  obtain ⟨its',r',⟨o',e',_,n',d'⟩,_⟩:=I.tuple h'
  rw[e] at e';cases e'
  rw[d] at d'
  injection d' with d1 _
  have:its=its':=by simpa using congrArg Array.toList d1
  subst this
  exact r.inj r'
end
abbrev Cx.wish (X:Cx) (E:Value→Shared→Prop):Cx:={ X with xe:=E }
abbrev Cx.nox (X:Cx):Cx:=X.wish fun _ _=>False
theorem Cx.Ok.wish {X:Cx} (ok:X.Ok) (E:Value→Shared→Prop):(X.wish E).Ok :=
  ⟨ok.mod,ok.kind,ok.glob,ok.blt,ok.above,ok.inj,ok.has,ok.cab,ok.hd,ok.frames,ok.stk,ok.exf,ok.bs,ok.bsz,ok.noex,ok.exfs,ok.funs,ok.frf⟩
theorem Cx.Ok.unwish {X:Cx}{E:Value→Shared→Prop} (ok:(X.wish E).Ok):X.Ok :=
  ⟨ok.mod,ok.kind,ok.glob,ok.blt,ok.above,ok.inj,ok.has,ok.cab,ok.hd,ok.frames,ok.stk,ok.exf,ok.bs,ok.bsz,ok.noex,ok.exfs,ok.funs,ok.frf⟩
section
variable {X:Cx}{pins:List (Addr × Obj)}{σ:St}{H:Hp}{s:Shared}{E:Value→Shared→Prop}
theorem Inv.wish (I:Inv X pins σ H s) (E:Value→Shared→Prop):Inv (X.wish E) pins σ H s:=⟨I.ok.wish E,I.os,I.bare,I.base,I.loc,I.cell,I.free,I.freeC,I.pin,I.hok,I.len⟩
theorem Inv.unwish (I:Inv (X.wish E) pins σ H s):Inv X pins σ H s:=⟨I.ok.unwish,I.os,I.bare,I.base,I.loc,I.cell,I.free,I.freeC,I.pin,I.hok,I.len⟩
theorem SP.unwish {D:Ends}{f:Flow}{s':Shared} (h:SP (X.wish E) pins D f s'):SP X pins D f s':=by
  cases f with
  | next=>obtain ⟨σ',H',I,q⟩:=h;exact⟨σ',H',I.unwish,q⟩
  | brk=>obtain ⟨σ',H',I,q⟩:=h;exact⟨σ',H',I.unwish,q⟩
  | cont=>obtain ⟨σ',H',I,q⟩:=h;exact⟨σ',H',I.unwish,q⟩
  | ret u=>obtain ⟨v,σ',H',I,r,q⟩:=h;exact⟨v,σ',H',I.unwish,r,q⟩
theorem PT.nox {e:Expr}{t:TT} (h:PT X.nox e t):PT X e t:=fun pins s σ H Q I hw =>
  wpAny_mono (h pins s σ H Q (I.wish _) hw) (fun _ _ ⟨H',I',q⟩=>⟨H',I'.unwish,q⟩) fun _ _ z=>False.elim z
theorem PSs.nox {st:List Stmt}{t:TS} (h:PSs X.nox st t):PSs X st t:=fun pins s σ H D I hw =>
  wpAny_mono (h pins s σ H D (I.wish _) hw) (fun _ _ q=>q.unwish) fun _ _ z=>False.elim z
end
section
variable {X:Cx}{st:Stmt}{rest:List Stmt}{t u:TS}{e:Expr}{te:TE}{pos:Pos}
def tNext:TS:=fun D σ H=>D.nx σ H
def tSeq (t u:TS):TS:=fun D σ H=>t { D with nx:=u D } σ H
theorem pss_nil:PSs X [] tNext:=fun _ _ σ H _ I h=>wpAny_execs_nil ⟨σ,H,I,h⟩
theorem pss_cons (h1:PS X st t) (h2:PSs X rest u):PSs X (st::rest) (tSeq t u):=by
  intro pins s σ H D I h
  refine wpAny_execs_cons (thn (h1 pins s σ H { D with nx:=u D } I h) fun f s1 q=>?_)
  cases f with
  | next =>
    obtain ⟨σ',H',I',q⟩:=q
    exact h2 pins s1 σ' H' D I' q
  | ret v=>exact q
  | brk=>exact q
  | cont=>exact q
theorem pss_one (h1:PS X st t):PSs X [st] t:=by
  intro pins s σ H D I h
  refine wpAny_execs_cons (thn (h1 pins s σ H D I h) fun f s1 q=>?_)
  cases f with
  | next=>exact wpAny_execs_nil q
  | ret v=>exact q
  | brk=>exact q
  | cont=>exact q
theorem Inv.quiet {pins:List (Addr × Obj)}{σ:St}{H:Hp}{s:Shared} (I:Inv X pins σ H s):interactive X.env=false:=by simp [interactive,I.ok.kind]
def tDrop (te:TE):TS:=fun D σ H=>te σ H fun _ H1=>D.nx σ H1
theorem ps_expr (he:PE X e te) (hs:swapsWith e none pos.line X.env=pure false:=by rfl):PS X (.Expr e pos) (tDrop te):=by
  intro pins s σ H D I h
  exact wpAny_Expr_any (thn (he pins s σ H _ I h) fun v s1 ⟨x,H1,I1,r1,q1⟩=>⟨σ,H1,I1,q1⟩) I.quiet hs
def tRet (te:TE):TS:=fun D σ H=>te σ H D.rt
theorem ps_ret (he:PE X e te):PS X (.Return (some e) pos) (tRet te):=by
  intro pins s σ H D I h
  exact wpAny_Return_some (thn (he pins s σ H _ I h) fun v s1 ⟨x,H1,I1,r1,q1⟩=>⟨x,σ,H1,I1,r1,q1⟩)
def tRetN:TS:=fun D _ H=>D.rt .non H
def tIfS (c:TT) (t u:TS):TS:=fun D σ H=>c σ H fun b H1=>if b=true then t D σ H1 else u D σ H1
theorem ps_if {c:Expr}{a b:List Stmt}{tc:TT} (hc:PT X c tc) (ha:PSs X a t) (hb:PSs X b u):PS X (.If c a b pos) (tIfS tc t u):=by
  intro pins s σ H D I h
  refine wpAny_If (thn (hc pins s σ H _ I h) fun d s1 ⟨H1,I1,q1⟩=>?_)
  cases d with
  | true=>exact ha pins s1 σ H1 D I1 q1
  | false=>exact hb pins s1 σ H1 D I1 q1
end
abbrev TG:=V→St→Hp→(St→Hp→Prop)→Prop
abbrev TGs:=List V→St→Hp→(St→Hp→Prop)→Prop
def PG (X:Cx) (target:Expr) (t:TG):Prop :=
  ∀(pins:List (Addr × Obj)) (s:Shared) (σ:St) (H:Hp) (v:V) (u:Value) (Q:St→Hp→Prop),Inv X pins σ H s→RelV v u→t v σ H Q →
    wpAny (model X.prog X.w) X.A (assign target X.env u) (fun _ s'=>∃σ' H',Inv X pins σ' H' s'∧Q σ' H') X.xe s
def PGs (X:Cx) (ts:List Expr) (t:TGs):Prop :=
  ∀(pins:List (Addr × Obj)) (s:Shared) (σ:St) (H:Hp) (vs:List V) (us:List Value) (Q:St→Hp→Prop),Inv X pins σ H s→Vals vs us→t vs σ H Q →
    wpAny (model X.prog X.w) X.A (assignInOrder ((assignEach ts X.env).map (·.2)) us) (fun _ s'=>∃σ' H',Inv X pins σ' H' s'∧Q σ' H') X.xe s
abbrev TSet:=V→V→V→Hp→(Hp→Prop)→Prop
def PSet (X:Cx) (t:TSet):Prop :=
  ∀(pins:List (Addr × Obj)) (s:Shared) (σ:St) (H:Hp) (o i v:V) (ov iv u:Value) (Q:Hp→Prop),Inv X pins σ H s→RelV o ov→RelV i iv→RelV v u→t o i v H Q →
    wpAny (model X.prog X.w) X.A (setItem ov iv u) (fun _ s'=>∃H',Inv X pins σ H' s'∧Q H') X.xe s
section
variable {X:Cx}{pos:Pos}
def gName (i:Nat):TG:=fun v σ H Q=>Q (σ.set i (some v)) H
theorem pg_name {i:Nat}{x:Str} (hN:X.N.Nodup) (hi:X.N[i]?=some x) (hx:Loc X.env.scope x) (hf:X.fn x=true∨X.env.scope.names.lookup x=some .local:=by first | exact .inl rfl | exact .inr rfl | assumption):PG X (.Name x pos) (gName i):=by
  intro pins s σ H v u Q I r h
  exact wpAny_assign_Name (store_ok I hN hi hx r (fun s' I'=>⟨_,H,I',h⟩) hf)
def gNil:TGs:=fun vs σ H Q=>vs=[]∧Q σ H
def gCons (t:TG) (u:TGs):TGs:=fun vs σ H Q=>∃v r,vs=v::r∧t v σ H fun σ' H'=>u r σ' H' Q
theorem pgs_nil:PGs X [] gNil:=by
  intro pins s σ H vs us Q I r h
  obtain ⟨e,h⟩:=h
  subst e
  cases r
  exact assignInOrder_nil ⟨σ,H,I,h⟩
theorem pgs_cons {e:Expr}{es:List Expr}{t:TG}{u:TGs} (h1:PG X e t) (h2:PGs X es u)
    (hs:(assignEach (e::es) X.env).map (·.2)=assign e X.env::(assignEach es X.env).map (·.2):=by rfl):PGs X (e::es) (gCons t u):=by
  intro pins s σ H vs us Q I r h
  obtain ⟨v,vr,e1,h⟩:=h
  subst e1
  cases r with
  | cons r rr =>
    rw[hs]
    refine assignInOrder_cons (thn (h1 pins s σ H _ _ _ I r h) fun _ s1 ⟨σ1,H1,I1,q1⟩=>?_)
    exact h2 pins s1 σ1 H1 _ _ Q I1 rr q1
def gTup (K:PySem.W.Frag) (n:Nat) (t:TGs):TG:=fun v σ H Q=>∃a xs,v=.ref a∧SqT K H a xs∧xs.length=n∧t xs σ H Q
theorem pg_tup {es:List Expr}{k:Nat}{t:TGs}{n:Nat} (hc:X.calm=true) (h:PGs X es t)
    (hn:(assignEach es X.env).length=n:=by rfl) (hst:(assignEach es X.env).findIdx? (·.1)=none:=by rfl):PG X (.Tuple es k pos) (gTup X.K n t):=by
  intro pins s σ H v u Q I r hw
  obtain ⟨a,xs,e1,hq,hl,hw⟩:=hw
  subst e1
  cases r
  obtain ⟨its,rv,ht,hz⟩:=I.tuple hq
  refine assign_Tuple_tuple (I.ok.hd hc) ht (by simp [hn,← hl,rv.length]) hst fun h' hx=>?_
  have I1:Inv X pins σ H { s with heap:=h' }:=I.kept (t':=s.toks) fun b o e=>hx b o (Nat.ne_of_lt (Heap.lt_size e)) e
  exact h pins _ σ H xs _ Q I1 (by simpa using rv) hw
def gSub (to ti:TE) (t:TSet):TG:=fun v σ H Q=>to σ H fun o H1=>ti σ H1 fun i H2=>t o i v H2 fun H3=>Q σ H3
theorem pg_sub {o i:Expr}{to ti:TE}{t:TSet} (ho:PE X o to) (hi:PE X i ti) (hs:PSet X t)
    (ha:∀v,assign (.Subscript o i pos) X.env v=(do
      let ov ← holding [v] (eval o X.env)
      let iv ← holding [v,ov] (eval i X.env)
      standAt pos
      holding [v,ov,iv] (setItem ov iv v)
      release [v,ov,iv] []):=by intro _;rfl):PG X (.Subscript o i pos) (gSub to ti t):=by
  intro pins s σ H v u Q I r h
  rw[ha]
  refine wpAny_bind (wpAny_holding (thn (ho pins s σ H _ I h) fun ov s1 ⟨x,H1,I1,r1,q1⟩=>?_))
  refine wpAny_bind (wpAny_holding (thn (hi pins s1 σ H1 _ I1 q1) fun iv s2 ⟨y,H2,I2,r2,q2⟩=>?_))
  refine wpAny_bind (wpAny_standAt (wpAny_bind (wpAny_holding (thn (hs pins s2 σ H2 x y v ov iv u _ I2 r1 r2 r q2) fun _ s3 ⟨H3,I3,q3⟩=>?_))))
  exact wpAny_release ⟨σ,H3,I3,q3⟩
def tAsg (te:TE) (g:TG):TS:=fun D σ H=>te σ H fun x H1=>g x σ H1 D.nx
theorem ps_asg {tg e:Expr}{te:TE}{g:TG} (he:PE X e te) (hg:PG X tg g) (hs:swapsWithSole [tg] e pos.line X.env=pure false:=by rfl) (hw:swappedStores [tg] e X.env=pure none:=by rfl)
    (h1:(assignEach [tg] X.env).map (·.2)=[assign tg X.env]:=by rfl):PS X (.Assign [tg] e pos) (tAsg te g):=by
  intro pins s σ H D I h
  refine wpAny_Assign_stores (thn (he pins s σ H _ I h) fun v s1 ⟨x,H1,I1,r1,q1⟩=>?_) hs hw
  rw[h1]
  exact thn (hg pins s1 σ H1 x v _ I1 r1 q1) fun _ s2 q=>q
theorem ps_set {i:Nat}{x:Str}{e:Expr}{te:TE}{pos':Pos} (hN:X.N.Nodup) (hi:X.N[i]?=some x) (hx:Loc X.env.scope x) (he:PE X e te) (hs:swapsWith e (some (.Name x pos')) pos.line X.env=pure false:=by rfl) (hf:X.fn x=true∨X.env.scope.names.lookup x=some .local:=by first | exact .inl rfl | exact .inr rfl | assumption) :
    PS X (.Assign [.Name x pos'] e pos) (tAsg te (gName i)):=by
  intro pins s σ H D I h
  refine wpAny_Assign_Name (thn (he pins s σ H _ I h) fun v s1 ⟨y,H1,I1,r1,q1⟩=>?_) hs
  exact store_ok I1 hN hi hx r1 (fun s2 I2=>⟨_,H1,I2,q1⟩) hf
end
section
variable {X:Cx}{pos:Pos}
def tWhile (c:TT) (tb:TS):TS:=fun D σ H=>∃W:Nat→St→Hp→Prop,(∃m,W m σ H)∧∀m σ H,W m σ H →
  c σ H fun b H1=>if b=true then ∃N:St→Hp→Prop,(∀σ' H',N σ' H'→∃m',m' < m∧W m' σ' H')∧tb { D with nx:=N,ct:=N,bk:=D.nx } σ H1 else D.nx σ H1
theorem ps_while {c:Expr}{body:List Stmt}{tc:TT}{tb:TS} (hp:PassesOwn (model X.prog X.w) X.A X.env X.xe) (hc:PT X c tc) (hb:PSs X body tb):PS X (.While c body [] pos) (tWhile tc tb):=by
  intro pins s σ H D I h
  obtain ⟨W,⟨m0,w0⟩,turn⟩:=h
  refine wpAny_While (codeAny_whileLoop (fun n s'=>∃σ' H',Inv X pins σ' H' s'∧W n σ' H') ?_ m0 ⟨σ,H,I,w0⟩)
  rintro n s1 ⟨σ1,H1,I1,w1⟩
  refine wpAny_passesOwn hp (thn (hc pins s1 σ1 H1 _ I1 (turn n σ1 H1 w1)) fun b s2 ⟨H2,I2,q2⟩=>?_)
  cases b with
  | true =>
    obtain ⟨N,hN,q2⟩:=q2
    rw[if_pos rfl]
    refine wpAny_passesOwn hp (thn (hb pins s2 σ1 H2 _ I2 q2) fun f s3 q3=>?_)
    cases f with
    | next =>
      obtain ⟨σ3,H3,I3,n3⟩:=q3
      obtain ⟨m',hm,w3⟩:=hN σ3 H3 n3
      exact⟨m',hm,σ3,H3,I3,w3⟩
    | cont =>
      obtain ⟨σ3,H3,I3,n3⟩:=q3
      obtain ⟨m',hm,w3⟩:=hN σ3 H3 n3
      exact⟨m',hm,σ3,H3,I3,w3⟩
    | brk=>exact q3
    | ret v=>exact q3
  | false =>
    rw[if_neg Bool.false_ne_true]
    exact wpAny_execs_nil ⟨σ1,H2,I2,q2⟩
end
structure It where
  go:Nat→Hp→Prop
  yld:Nat→Hp→V→Hp→Prop
  stop:Nat→Hp→Prop
def FpOk (X:Cx) (pins:List (Addr × Obj)) (H:Hp) (b:Addr):Prop :=
  H b=none∧b≠X.env.locals∧b∉X.fs∧(b∈X.ex∨X.s₀.heap.objs.size≤b)∧(∀x c,X.env.cells.lookup x=some c→c≠b)∧∀p∈X.pn++pins,p.1≠b
theorem Inv.fpOk {X:Cx}{pins:List (Addr × Obj)}{σ:St}{H H':Hp}{s:Shared}{b:Addr} (I:Inv X pins σ H s) (hb:s.heap.objs.size≤b) (hn:H' b=none):FpOk X pins H' b:=by
  refine⟨hn,Nat.ne_of_gt (Nat.lt_of_lt_of_le I.lt hb),I.nofs hb,.inr (Nat.le_trans I.sz hb),fun x c e z=>?_,fun p hp z=>?_⟩
  · obtain ⟨v,q⟩:=I.cell x c e
    exact absurd (Nat.lt_of_lt_of_le q.lt (by rw[z];exact hb)) (Nat.lt_irrefl _)
  · exact absurd (Nat.lt_of_lt_of_le (Heap.lt_size (I.pin p hp).1) (by rw[z];exact hb)) (Nat.lt_irrefl _)
structure Turn (P:Program) (w:World) (K:PySem.W.Frag) (tg:Expr) (J:It) (fp:List Addr) (it:Addr) (tn:Nat→Heap→Prop):Prop where
  mem:it∈fp
  obj:∀i h,tn i h→∀b∈fp,∃o,h.get? b=some o∧∀v,o.data≠.cell v
  keep:∀i h h',tn i h→(∀b∈fp,∀o,h.get? b=some o→h'.get? b=some o)→tn i h'
  item:∀(X:Cx),X.prog=P→X.w=w→X.K=K→X.calm=true→∀(i:Nat) (pins:List (Addr × Obj)) (s:Shared) (σ:St) (H:Hp) (E:Value→Shared→Prop),Inv X pins σ H s→(∀b∈fp,FpOk X pins H b)→tn i s.heap→J.go i H →
    wpAny (model P w) X.A (pyNext (.ref it)) (fun r s1=>∃u,r=some u ∧
      wpAny (model P w) X.A (letOwnedTupleGo tg (.ref it) u) (fun _ s2=>∃x H',Inv X pins σ H' s2∧RelV x u∧J.yld i H x H'∧tn (i+1) s2.heap∧∀b∈fp,H' b=none) E s1) E s
  done:∀(X:Cx),X.prog=P→X.w=w→X.K=K→X.calm=true→∀(i:Nat) (pins:List (Addr × Obj)) (s:Shared) (σ:St) (H:Hp) (E:Value→Shared→Prop),Inv X pins σ H s→(∀b∈fp,FpOk X pins H b)→tn i s.heap→J.stop i H →
    wpAny (model P w) X.A (pyNext (.ref it)) (fun r s1=>r=none∧Inv X pins σ H s1) E s
  self:∀(A:Around) (i:Nat) (s:Shared) (Q:Value→Shared→Prop) (E:Value→Shared→Prop),tn i s.heap→Q (.ref it) s→wpAny (model P w) A (pyIter (.ref it)) Q E s
abbrev TI:=St→Hp→(It→Hp→Prop)→Prop
def PIE (X:Cx) (pins:List (Addr × Obj)) (σ:St) (tg:Expr) (R:It→Hp→Prop) (itv:Value) (s2:Shared):Prop :=
  ∃(it:Addr) (fp:List Addr) (tn:Nat→Heap→Prop) (J:It) (H':Hp),itv=.ref it∧Inv X pins σ H' s2∧Turn X.prog X.w X.K tg J fp it tn∧tn 0 s2.heap∧(∀b∈fp,FpOk X pins H' b)∧R J H'
def PI (X:Cx) (tg iter:Expr) (wi:TI):Prop :=
  ∀(pins:List (Addr × Obj)) (s:Shared) (σ:St) (H:Hp) (R:It→Hp→Prop),Inv X pins σ H s→wi σ H R →
    wpAny (model X.prog X.w) X.A (eval iter X.env) (fun v s1=>wpAny (model X.prog X.w) X.A (pyIter v) (PIE X pins σ tg R) X.xe s1) X.xe s
theorem go_of {M:Model}{A:Around}{E:Value→Shared→Prop}{s:Shared}{tg:Expr}{it:Addr}{u:Value}{o:Obj}{n:String}{vs:Array Value}{Q:Unit→Shared→Prop} (ho:s.heap.get? it=some o) (hc:o.cls=.type n) (hd:o.data=.fields vs)
    (hn:["enumerate","zip","dict_itemiterator","dict_reverseitemiterator","odict_iterator","itertools.zip_longest","itertools.pairwise"].contains n=false) (hQ:Q () s):wpAny M A (letOwnedTupleGo tg (.ref it) u) Q E s:=by
  unfold letOwnedTupleGo
  cases tg<;>first
    | exact wpAny_pure hQ
    | (cases u<;>first
        | exact wpAny_pure hQ
        | (refine wpAny_bind (wpAny_load ho ?_)
           rw[hc,hd]
           show wpAny M A (if (["enumerate","zip","dict_itemiterator","dict_reverseitemiterator","odict_iterator","itertools.zip_longest","itertools.pairwise"].contains n && vs[0]? == some (rawInt _))=true then _ else _) Q E s
           rw[if_neg (by intro h;rw[hn,Bool.false_and] at h;cases h)]
           exact wpAny_pure hQ))
def Itl (K:PySem.W.Frag) (a:Addr):It :=
  ⟨fun i H=>∃xs x,SqL K H a xs∧xs[i]?=some x,fun i H x H'=>H'=H∧∀xs,SqL K H a xs→xs[i]?=some x,fun i H=>∃xs,SqL K H a xs∧xs.length≤i⟩
def Itt (K:PySem.W.Frag) (a:Addr):It :=
  ⟨fun i H=>∃xs x,SqT K H a xs∧xs[i]?=some x,fun i H x H'=>H'=H∧∀xs,SqT K H a xs→xs[i]?=some x,fun i H=>∃xs,SqT K H a xs∧xs.length≤i⟩
def Itr (lo:Int) (n:Nat):It:=⟨fun i _=>i<n,fun i H x H'=>H'=H∧x=.int (lo+i),fun i _=>n≤i⟩
theorem turn_list {P:Program}{w:World}{K:PySem.W.Frag}{tg:Expr} (a it:Addr):Turn P w K tg (Itl K a) [it] it (fun i h=>h.IsListIter it a i) where
  mem:=by simp
  obj:=fun i h st b hb=>by
    have e:b=it:=by simpa using hb
    subst e
    obtain ⟨o,e,c,d⟩:=st
    exact⟨o,e,fun v z=>by rw[d] at z;cases z⟩
  keep:=fun i h h' st k=>st.at fun o e=>k it (by simp) o e
  item:=by
    intro X hP hw hK hc i pins s σ H E I hf st hg
    subst hP hw hK
    obtain ⟨xs,x,hq,hx⟩:=hg
    obtain ⟨its,rv,p,hz⟩:=I.list hq
    obtain ⟨u,hu,ru⟩:=rv.get hx
    obtain ⟨f0,f1,f2,f3,f4,f5⟩:=hf it (by simp)
    refine wpAny_pyNext_list_item st p.isList (x:=u) (by simpa using hu) fun h' st' sb=>?_
    have I1:Inv X pins σ H { s with heap:=h' }:=I.turned (t':=s.toks) (fun b o hb e=>(sb.2 b hb).trans e) f0 f1 f3 f4 f5
    obtain ⟨o,e,c,d⟩:=id st'
    exact⟨u,rfl,go_of (s:={ s with heap:=h' }) e c d (by decide) ⟨x,H,I1,ru,⟨rfl,fun ys hy=>by rw[I.list_inj hy hq];exact hx⟩,st',fun b hb=>(hf b hb).1⟩⟩
  done:=by
    intro X hP hw hK hc i pins s σ H E I hf st hg
    subst hP hw hK
    obtain ⟨xs,hq,hx⟩:=hg
    obtain ⟨its,rv,p,hz⟩:=I.list hq
    obtain ⟨f0,f1,f2,f3,f4,f5⟩:=hf it (by simp)
    have hl:=rv.length
    exact wpAny_pyNext_list_end (I.ok.hd hc) st p.isList (by simp;omega) fun h' eb=>⟨rfl,I.turned (t':=s.toks) (fun b o hb e=>eb b o hb e) f0 f1 f3 f4 f5⟩
  self:=fun _ _ _ _ _ st h=>wpAny_pyIter_listiter st h
theorem turn_tuple {P:Program}{w:World}{K:PySem.W.Frag}{tg:Expr} (a it:Addr):Turn P w K tg (Itt K a) [it] it (fun i h=>h.IsTupleIter it a i) where
  mem:=by simp
  obj:=fun i h st b hb=>by
    have e:b=it:=by simpa using hb
    subst e
    obtain ⟨o,e,c,d⟩:=st
    exact⟨o,e,fun v z=>by rw[d] at z;cases z⟩
  keep:=fun i h h' st k=>st.at fun o e=>k it (by simp) o e
  item:=by
    intro X hP hw hK hc i pins s σ H E I hf st hg
    subst hP hw hK
    obtain ⟨xs,x,hq,hx⟩:=hg
    obtain ⟨its,rv,p,hz⟩:=I.tuple hq
    obtain ⟨u,hu,ru⟩:=rv.get hx
    obtain ⟨f0,f1,f2,f3,f4,f5⟩:=hf it (by simp)
    refine wpAny_pyNext_tuple_item st (show s.heap.IsTuple a its.toArray from p) (x:=u) (by simpa using hu) fun h' st' sb=>?_
    have I1:Inv X pins σ H { s with heap:=h' }:=I.turned (t':=s.toks) (fun b o hb e=>(sb.2 b hb).trans e) f0 f1 f3 f4 f5
    obtain ⟨o,e,c,d⟩:=id st'
    exact⟨u,rfl,go_of (s:={ s with heap:=h' }) e c d (by decide) ⟨x,H,I1,ru,⟨rfl,fun ys hy=>by rw[I.tuple_inj hy hq];exact hx⟩,st',fun b hb=>(hf b hb).1⟩⟩
  done:=by
    intro X hP hw hK hc i pins s σ H E I hf st hg
    subst hP hw hK
    obtain ⟨xs,hq,hx⟩:=hg
    obtain ⟨its,rv,p,hz⟩:=I.tuple hq
    obtain ⟨f0,f1,f2,f3,f4,f5⟩:=hf it (by simp)
    have hl:=rv.length
    exact wpAny_pyNext_tuple_end (I.ok.hd hc) st (show s.heap.IsTuple a its.toArray from p) (by simp;omega) fun h' eb=>⟨rfl,I.turned (t':=s.toks) (fun b o hb e=>eb b o hb e) f0 f1 f3 f4 f5⟩
  self:=fun _ _ _ _ _ st h=>wpAny_pyIter_tupleiter st h
theorem turn_range {P:Program}{w:World}{K:PySem.W.Frag}{tg:Expr} (it:Addr) (lo:Int) (n:Nat):Turn P w K tg (Itr lo n) [it] it (fun i h=>IsRangeIter h it (lo+(i:Nat)*1) ((n:Int) - (i:Nat)) 1) where
  mem:=by simp
  obj:=fun i h st b hb=>by
    have e:b=it:=by simpa using hb
    subst e
    exact⟨_,st,fun v z=>by
      have z':Data.fields _=Data.cell v:=z
      cases z'⟩
  keep:=fun i h h' st k=>k it (by simp) _ st
  item:=by
    intro X hP hw hK hc i pins s σ H E I hf st hg
    subst hP hw hK
    obtain ⟨f0,f1,f2,f3,f4,f5⟩:=hf it (by simp)
    have W:=Walks.range (prog:=X.prog) (w:=X.w) (I.ok.hd hc) it lo 1 n
    refine W.item i s _ _ hg st fun v h' tk hv st' kk=>?_
    obtain ⟨t,rfl⟩:=hv
    have I1:Inv X pins σ H { s with heap:=h',toks:=tk }:=I.turned (fun b o hb e=>kk b o (by simpa using hb) e) f0 f1 f3 f4 f5
    refine⟨_,rfl,go_of (s:={ s with heap:=h',toks:=tk }) (n:="range_iterator") st' rfl rfl (by decide) ⟨.int (lo+i),H,I1,⟨t,?_⟩,⟨rfl,rfl⟩,st',fun b hb=>(hf b hb).1⟩⟩
    rw[Int.mul_one]
  done:=by
    intro X hP hw hK hc i pins s σ H E I hf st hg
    subst hP hw hK
    obtain ⟨f0,f1,f2,f3,f4,f5⟩:=hf it (by simp)
    exact wpAny_pyNext_range_end (I.ok.hd hc) st (by have:n≤i:=hg;omega) fun h' eb=>⟨rfl,I.turned (t':=s.toks) (fun b o hb e=>eb b o hb e) f0 f1 f3 f4 f5⟩
  self:=fun _ _ _ _ _ st h=>wpAny_pyIter_rangeiter st h
end L2
namespace L2
open PySem PySem.Spec PyProof.Rows
section
variable {X:Cx}{tg:Expr}
def iList (K:PySem.W.Frag) (tl:TE):TI:=fun σ H R=>tl σ H fun x H1=>∃a,x=.ref a∧(∃xs,SqL K H1 a xs)∧R (Itl K a) H1
def iTup (K:PySem.W.Frag) (tl:TE):TI:=fun σ H R=>tl σ H fun x H1=>∃a,x=.ref a∧(∃xs,SqT K H1 a xs)∧R (Itt K a) H1
theorem pi_list {l:Expr}{tl:TE} (hl:PE X l tl):PI X tg l (iList X.K tl):=by
  intro pins s σ H R I h
  refine thn (hl pins s σ H _ I h) fun v s1 ⟨x,H1,I1,r1,q1⟩=>?_
  obtain ⟨a,e,⟨xs,hq⟩,q⟩:=q1
  subst e
  cases r1
  obtain ⟨its,rv,p,hz⟩:=I1.list hq
  refine wpAny_pyIter_list p.isList ?_
  refine⟨s1.heap.objs.size,[s1.heap.objs.size],_,_,H1,rfl,I1.kept (t':=s1.toks) fun b o e=>Heap.get?_push_of_some _ e,turn_list a _,⟨_,Heap.get?_push_size _ rfl,rfl,rfl⟩,fun b hb=>?_,q⟩
  have e:b=s1.heap.objs.size:=by simpa using hb
  subst e
  exact I1.fpOk (Nat.le_refl _) (I1.hok.fresh (Nat.le_refl _))
theorem pi_tup {l:Expr}{tl:TE} (hl:PE X l tl):PI X tg l (iTup X.K tl):=by
  intro pins s σ H R I h
  refine thn (hl pins s σ H _ I h) fun v s1 ⟨x,H1,I1,r1,q1⟩=>?_
  obtain ⟨a,e,⟨xs,hq⟩,q⟩:=q1
  subst e
  cases r1
  obtain ⟨its,rv,p,hz⟩:=I1.tuple hq
  refine wpAny_pyIter_tuple (show s1.heap.IsTuple a its.toArray from p) ?_
  refine⟨s1.heap.objs.size,[s1.heap.objs.size],_,_,H1,rfl,I1.kept (t':=s1.toks) fun b o e=>Heap.get?_push_of_some _ e,turn_tuple a _,⟨_,Heap.get?_push_size _ rfl,rfl,rfl⟩,fun b hb=>?_,q⟩
  have e:b=s1.heap.objs.size:=by simpa using hb
  subst e
  exact I1.fpOk (Nat.le_refl _) (I1.hok.fresh (Nat.le_refl _))
theorem range_it {pins:List (Addr × Obj)}{σ:St}{H:Hp}{s:Shared}{R:It→Hp→Prop}{E:Value→Shared→Prop}{lo hi:Int}{t u v:Tok}{tk:Nat} (I:Inv X pins σ H s) (h1 : -(2 ^ 62)≤lo) (h2:lo<2 ^ 62) (h3 : -(2 ^ 62)≤hi) (h4:hi<2 ^ 62)
    (q:R (Itr lo (hi - lo).toNat) H):wpAny (model X.prog X.w) X.A (pyIter (.ref s.heap.objs.size)) (PIE X pins σ tg R) E { s with heap:=s.heap.push { cls:=.type "range",data:=.fields #[.int lo t,.int hi u,.int 1 v] },toks:=tk }:=by
  refine wpAny_pyIter_range (IsRange.new ..) (small_one h1 h2 h3 h4) ?_
  have I1:Inv X pins σ H { s with heap:=s.heap.push { cls:=.type "range",data:=.fields #[.int lo t,.int hi u,.int 1 v] },toks:=tk }:=I.kept fun b o e=>Heap.get?_push_of_some _ e
  refine⟨(s.heap.push { cls:=.type "range",data:=.fields #[.int lo t,.int hi u,.int 1 v] }).objs.size,[(s.heap.push { cls:=.type "range",data:=.fields #[.int lo t,.int hi u,.int 1 v] }).objs.size],_,_,H,rfl,
    I1.kept (t':=tk) fun b o e=>Heap.get?_push_of_some _ e,turn_range _ lo (hi - lo).toNat,?_,fun b hb=>?_,q⟩
  · have e1:lo+((0:Nat):Int)*1=lo:=by simp
    have e2:(((hi - lo).toNat:Nat):Int) - ((0:Nat):Int)=Builtin.Range.rangeSize lo hi 1:=by rw[rangeSize_one];split<;>omega
    show IsRangeIter _ _ (lo+((0:Nat):Int)*1) ((((hi - lo).toNat:Nat):Int) - ((0:Nat):Int)) 1
    rw[e1,e2]
    exact Heap.get?_push_size _ rfl
  · have e:b=(s.heap.push { cls:=.type "range",data:=.fields #[.int lo t,.int hi u,.int 1 v] }).objs.size:=by simpa using hb
    subst e
    exact I1.fpOk (Nat.le_refl _) (I1.hok.fresh (Nat.le_refl _))
def iRng1 (ta:TA):TI:=fun σ H R=>ta σ H fun vs H1=>∃j:Int,vs=[.int j]∧-(2 ^ 62)≤j∧j<2 ^ 62∧R (Itr 0 j.toNat) H1
theorem pi_range1 {a:Expr}{ta:TA}{p pos:Pos} (hg:Gl X "range") (hm:X.mg "range" = none) (ha:PA X [a] ta) (hs:starEach [a] X.env=[(false,eval a X.env)]:=by rfl):PI X tg (.Call (.Name "range" p) [a] [] pos) (iRng1 ta):=by
  intro pins s σ H R I h
  refine Call_ (ld_blt I hg hm boot_range (PyProof.Rows.callWith_type1 (thn (ha pos pins s σ H _ I h) fun us s1 ⟨vs,H1,I1,r1,q1⟩=>?_) hs rfl))
  obtain ⟨j,e,q1,q2,q⟩:=q1
  subst e
  cases r1 with
  | cons r rr =>
    cases rr
    obtain ⟨t,rfl⟩:=r
    exact call_range_1 (range_it I1 (by omega) (by omega) q1 q2 (by simpa using q))
def tFor (wi:TI) (g:TG) (tb:TS):TS:=fun D σ H=>wi σ H fun J H1=>∃W:Nat→Nat→St→Hp→Prop,(∃m,W 0 m σ H1)∧∀i m σ H,W i m σ H →
  (J.stop i H∧D.nx σ H)∨(J.go i H∧∃N:St→Hp→Prop,(∀σ' H',N σ' H'→∃m',m' < m∧W (i+1) m' σ' H')∧∀x H',J.yld i H x H'→g x σ H' fun σ2 H2=>tb { D with nx:=N,ct:=N,bk:=D.nx } σ2 H2)
def pinsAt (fp:List Addr) (h:Heap):List (Addr × Obj):=fp.filterMap fun b=>(h.get? b).map fun o=>(b,o)
theorem mem_pinsAt {fp:List Addr}{h:Heap}{b:Addr}{o:Obj} (hb:b∈fp) (e:h.get? b=some o):(b,o)∈pinsAt fp h:=List.mem_filterMap.mpr ⟨b,hb,by rw[e];rfl⟩
theorem of_pinsAt {fp:List Addr}{h:Heap}{p:Addr × Obj} (hp:p∈pinsAt fp h):p.1∈fp∧h.get? p.1=some p.2:=by
  obtain ⟨b,hb,e⟩:=List.mem_filterMap.mp hp
  cases q:h.get? b with
  | none=>rw[q] at e;cases e
  | some o =>
    rw[q] at e
    have e':(b,o)=p:=Option.some.inj e
    subst e'
    exact⟨hb,q⟩
theorem Inv.pinned {pins:List (Addr × Obj)}{σ:St}{H:Hp}{s:Shared}{fp:List Addr} (I:Inv X pins σ H s) (hf:∀b∈fp,FpOk X pins H b) (ho:∀b∈fp,∃o,s.heap.get? b=some o∧∀v,o.data≠.cell v):Inv X (pins++pinsAt fp s.heap) σ H s :=
  I.pins_of fun p hp=>(List.mem_append.mp hp).elim (fun z=>I.pin p (List.mem_append_right _ z)) fun z=>by
    obtain ⟨hb,e⟩:=of_pinsAt z
    obtain ⟨f0,f1,f2,_⟩:=hf p.1 hb
    obtain ⟨o,e',d⟩:=ho p.1 hb
    rw[e] at e';cases e'
    exact⟨e,f0,f1,f2,d⟩
theorem Inv.unpinned {pins pl:List (Addr × Obj)}{σ:St}{H:Hp}{s:Shared} (I:Inv X (pins++pl) σ H s):Inv X pins σ H s:=I.pins_of fun p hp=>I.pin p (List.mem_append_right _ (List.mem_append_left _ hp))
theorem ps_for {iter:Expr}{body:List Stmt}{wi:TI}{g:TG}{tb:TS}{pos:Pos} (hp:PassesOwn (model X.prog X.w) X.A X.env X.xe) (hc:X.calm=true) (hi:PI X tg iter wi) (hg:PG X tg g) (hb:PSs X body tb)
    (hs:∀x,foldedSetIterable iter X.env x=pure x:=by intro _;rfl):PS X (.For tg iter body [] pos) (tFor wi g tb):=by
  intro pins s σ H D I h
  refine wpAny_For (thn (hi pins s σ H _ I h) fun v s1 h1=>thn h1 fun itv s2 h2=>?_) hs
  obtain ⟨it,fp,tn,J,H2,e,I2,T,st2,f2,W,⟨m0,w0⟩,turn⟩:=h2
  subst e
  have stat:∀{H':Hp},(∀b∈fp,H' b=none)→∀b∈fp,FpOk X pins H' b:=fun hn b hb=>⟨hn b hb,(f2 b hb).2⟩
  refine codeAny_forLoop_any (fun n s'=>∃i σ' H',Inv X pins σ' H' s'∧tn i s'.heap∧(∀b∈fp,H' b=none)∧W i n σ' H') ?_ m0 ⟨0,σ,H2,I2,st2,fun b hb=>(f2 b hb).1,w0⟩
  rintro n s3 ⟨i,σ3,H3,I3,st3,fr3,w3⟩
  rcases turn i n σ3 H3 w3 with ⟨stop,qn⟩ | ⟨go,N,hN,step⟩
  · refine wpAny_passesOwn hp (thn (T.done X rfl rfl rfl hc i pins s3 σ3 H3 X.xe I3 (stat fr3) st3 stop) fun r s4 ⟨hr,I4⟩=>?_)
    subst hr
    exact wpAny_execs_nil ⟨σ3,H3,I4,qn⟩
  · refine wpAny_passesOwn hp (thn (T.item X rfl rfl rfl hc i pins s3 σ3 H3 X.xe I3 (stat fr3) st3 go) fun r s4 ⟨u,hr,h4⟩=>?_)
    subst hr
    refine wpAny_passesOwn hp (thn h4 fun _ s5 ⟨x,H5,I5,r5,y5,st5,fr5⟩=>?_)
    have I5':=I5.pinned (stat fr5) (T.obj _ _ st5)
    refine wpAny_passesOwn hp (thn (hg _ s5 σ3 H5 x u _ I5' r5 (step x H5 y5)) fun _ s6 ⟨σ6,H6,I6,q6⟩=>?_)
    refine wpAny_passesOwn hp (thn (hb _ s6 σ6 H6 _ I6 q6) fun f s7 q7=>?_)
    have again:∀{σ7:St}{H7:Hp},Inv X (pins++pinsAt fp s5.heap) σ7 H7 s7→N σ7 H7→∃m,m<n∧∃i σ' H',Inv X pins σ' H' s7∧tn i s7.heap∧(∀b∈fp,H' b=none)∧W i m σ' H':=fun {σ7 H7} I7 n7=>by
      obtain ⟨m',hm,w7⟩:=hN σ7 H7 n7
      refine⟨m',hm,i+1,σ7,H7,I7.unpinned,T.keep _ _ _ st5 fun b hb o e=>(I7.pin (b,o) (List.mem_append_right _ (List.mem_append_right _ (mem_pinsAt hb e)))).1,fun b hb=>?_,w7⟩
      obtain ⟨o,e,d⟩:=T.obj _ _ st5 b hb
      exact (I7.pin (b,o) (List.mem_append_right _ (List.mem_append_right _ (mem_pinsAt hb e)))).2.1
    cases f with
    | next=>obtain ⟨σ7,H7,I7,n7⟩:=q7;exact again I7 n7
    | cont=>obtain ⟨σ7,H7,I7,n7⟩:=q7;exact again I7 n7
    | brk=>obtain ⟨σ7,H7,I7,q7⟩:=q7;exact⟨σ7,H7,I7.unpinned,q7⟩
    | ret v=>obtain ⟨x7,σ7,H7,I7,r7,q7⟩:=q7;exact⟨x7,σ7,H7,I7.unpinned,r7,q7⟩
end
end L2
namespace L2
open PySem PySem.Spec PyProof.Rows
abbrev R2:=V→V→Hp→VK→Prop
def OpR (X:Cx) (f:Value→Value→Sem Value) (r:R2):Prop :=
  ∀(pins:List (Addr × Obj)) (s:Shared) (σ:St) (H:Hp) (x y:V) (v u:Value) (Q:VK),Inv X pins σ H s→RelV x v→RelV y u→r x y H Q →
    wpAny (model X.prog X.w) X.A (f v u) (EP X pins σ Q) X.xe s
def UnR (X:Cx) (f:Value→Sem Value) (r:V→Hp→VK→Prop):Prop :=
  ∀(pins:List (Addr × Obj)) (s:Shared) (σ:St) (H:Hp) (x:V) (v:Value) (Q:VK),Inv X pins σ H s→RelV x v→r x H Q →
    wpAny (model X.prog X.w) X.A (f v) (EP X pins σ Q) X.xe s
def CallR (X:Cx) (f:Value) (r:List V→Hp→VK→Prop):Prop :=
  ∀(pins:List (Addr × Obj)) (s:Shared) (σ:St) (H:Hp) (xs:List V) (us:List Value) (Q:VK),Inv X pins σ H s→Vals xs us→r xs H Q →
    wpAny (model X.prog X.w) X.A (call f us) (EP X pins σ Q) X.xe s
def tOp (r:R2) (ta tb:TE):TE:=fun σ H Q=>ta σ H fun x H1=>tb σ H1 fun y H2=>r x y H2 Q
def tUn (r:V→Hp→VK→Prop) (ta:TE):TE:=fun σ H Q=>ta σ H fun x H1=>r x H1 Q
def rI (C:Int→Int→Prop) (g:Int→Int→V):R2:=fun x y H Q=>∃i j,x=.int i∧y=.int j∧C i j∧Q (g i j) H
def rI0 (g:Int→Int→V):R2:=fun x y H Q=>∃i j,x=.int i∧y=.int j∧Q (g i j) H
def rU (g:Int→V):V→Hp→VK→Prop:=fun x H Q=>∃i,x=.int i∧Q (g i) H
section
variable {X:Cx}{a b c:Expr}{ta tb tc:TE}{pos:Pos}
theorem binT (ha:PE X a ta) (hb:PE X b tb) {pins:List (Addr × Obj)}{s:Shared}{σ:St}{H:Hp}{R:V→V→Hp→Prop} (I:Inv X pins σ H s)
    (h:ta σ H fun x H1=>tb σ H1 fun y H2=>R x y H2) {Q:Value→Shared→Prop}{f:Value→Value→Sem Value}
    (hf:∀v u s2 x y H2,Inv X pins σ H2 s2→RelV x v→RelV y u→R x y H2→wpAny (model X.prog X.w) X.A (f v u) Q X.xe s2) :
    wpAny (model X.prog X.w) X.A (eval a X.env) (fun v s₁=>wpAny (model X.prog X.w) X.A (eval b X.env) (fun u s₂=>wpAny (model X.prog X.w) X.A (f v u) Q X.xe s₂) X.xe s₁) X.xe s:=by
  refine thn (ha pins s σ H _ I h) fun v s1 ⟨x,H1,I1,r1,q1⟩=>?_
  refine thn (hb pins s1 σ H1 _ I1 q1) fun u s2 ⟨y,H2,I2,r2,q2⟩=>?_
  exact hf v u s2 x y H2 I2 r1 r2 q2
theorem pe_op {op:Operator}{r:R2} (ho:OpR X (binaryOp op) r) (ha:PE X a ta) (hb:PE X b tb):PE X (.BinOp a op b pos) (tOp r ta tb):=by
  intro pins s σ H Q I h
  exact wpAny_BinOp (binT ha hb I h fun v u s2 x y H2 I2 rx ry q=>ho pins s2 σ H2 x y v u Q I2 rx ry q)
theorem pe_un {op:UnaryOp}{r:V→Hp→VK→Prop} (ho:UnR X (unaryOp op) r) (ha:PE X a ta):PE X (.UnaryOp op a pos) (tUn r ta):=by
  intro pins s σ H Q I h
  exact UnaryOp_ (thn (ha pins s σ H _ I h) fun v s1 ⟨x,H1,I1,r1,q1⟩=>ho pins s1 σ H1 x v Q I1 r1 q1)
theorem opI {f:Value→Value→Sem Value}{C:Int→Int→Prop}{g:Int→Int→Int}
    (rule:∀(i j:Int) (t u:Tok) (s:Shared) (Q:Value→Shared→Prop) (E:Value→Shared→Prop),C i j→Q (.int (g i j) s.toks) { s with toks:=s.toks+1 }→wpAny (model X.prog X.w) X.A (f (.int i t) (.int j u)) Q E s) :
    OpR X f (rI C fun i j=>.int (g i j)):=by
  intro pins s σ H x y v u Q I rx ry h
  obtain ⟨i,j,rfl,rfl,hc,q⟩:=h
  obtain ⟨t,rfl⟩:=rx
  obtain ⟨t',rfl⟩:=ry
  exact rule i j t t' s _ _ hc ⟨.int (g i j),H,I.tok _,⟨_,rfl⟩,q⟩
theorem opI0 {f:Value→Value→Sem Value}{g:Int→Int→Int}
    (rule:∀(i j:Int) (t u:Tok) (s:Shared) (Q:Value→Shared→Prop) (E:Value→Shared→Prop),Q (.int (g i j) s.toks) { s with toks:=s.toks+1 }→wpAny (model X.prog X.w) X.A (f (.int i t) (.int j u)) Q E s) :
    OpR X f (rI0 fun i j=>.int (g i j)):=by
  intro pins s σ H x y v u Q I rx ry h
  obtain ⟨i,j,rfl,rfl,q⟩:=h
  obtain ⟨t,rfl⟩:=rx
  obtain ⟨t',rfl⟩:=ry
  exact rule i j t t' s _ _ ⟨.int (g i j),H,I.tok _,⟨_,rfl⟩,q⟩
theorem opB0 {f:Value→Value→Sem Value}{g:Int→Int→Bool}
    (rule:∀(i j:Int) (t u:Tok) (s:Shared) (Q:Value→Shared→Prop) (E:Value→Shared→Prop),Q (.bool (g i j)) s→wpAny (model X.prog X.w) X.A (f (.int i t) (.int j u)) Q E s) :
    OpR X f (rI0 fun i j=>.bl (g i j)):=by
  intro pins s σ H x y v u Q I rx ry h
  obtain ⟨i,j,rfl,rfl,q⟩:=h
  obtain ⟨t,rfl⟩:=rx
  obtain ⟨t',rfl⟩:=ry
  exact rule i j t t' s _ _ ⟨.bl (g i j),H,I,rfl,q⟩
def CPow (i j:Int):Prop:=0≤j∧j≤1000000∧i.natAbs<2 ^ 64
theorem two_pow_nn (k:Nat):(0:Int)≤2 ^ k:=by
  rw[two_pow_cast]
  exact Int.natCast_nonneg _
theorem op_add:OpR X (binaryOp .Add) (rI0 fun i j=>.int (i+j)):=opI0 fun _ _ _ _ _ _ _ q=>add_int q
theorem op_sub:OpR X (binaryOp .Sub) (rI0 fun i j=>.int (i - j)):=opI0 fun _ _ _ _ _ _ _ q=>sub_int q
theorem op_mod:OpR X (binaryOp .Mod) (rI (fun _ j=>0<j) fun i j=>.int (i % j)):=opI fun i j _ _ _ _ _ hc q=>by
  have h1:(0:Int)<j:=hc
  exact mod_int' (by omega) (by rw[Int.fmod_eq_emod_of_nonneg i (by omega)];exact q)
theorem op_pow:OpR X (binaryOp .Pow) (rI CPow fun i j=>.int (i ^ j.toNat)):=opI fun _ _ _ _ _ _ _ hc q=>pow_int_small hc.1 hc.2.1 hc.2.2 q
theorem op_shr:OpR X (binaryOp .RShift) (rI (fun _ j=>0≤j) fun i j=>.int (i / 2 ^ j.toNat)):=opI fun i j _ _ _ _ _ hc q =>
  rshift_int hc (by rw[Int.fdiv_eq_ediv_of_nonneg i (two_pow_nn _)];exact q)
theorem op_and:OpR X (binaryOp .BitAnd) (rI0 fun i j=>.int (Builtin.bitAnd i j)):=opI0 fun _ _ _ _ _ _ _ q=>and_int q
theorem unI {f:Value→Sem Value}{g:Int→Int}
    (rule:∀(i:Int) (t:Tok) (s:Shared) (Q:Value→Shared→Prop) (E:Value→Shared→Prop),Q (.int (g i) s.toks) { s with toks:=s.toks+1 }→wpAny (model X.prog X.w) X.A (f (.int i t)) Q E s) :
    UnR X f (rU fun i=>.int (g i)):=by
  intro pins s σ H x v Q I rx h
  obtain ⟨i,rfl,q⟩:=h
  obtain ⟨t,rfl⟩:=rx
  exact rule i t s _ _ ⟨.int (g i),H,I.tok _,⟨_,rfl⟩,q⟩
theorem un_neg:UnR X (unaryOp .USub) (rU fun i=>.int (-i)):=unI fun _ _ _ _ _ q=>neg_int q
end
def scal:V→V→Bool
  | .non,.non=>true | .non,.int _=>true | .int _,.non=>true | .non,.bl _=>true | .bl _,.non=>true | .non,.str _=>true | .str _,.non=>true
  | .int _,.int _=>true | .bl _,.bl _=>true | .str _,.str _=>true | .byt _,.byt _=>true
  | .int _,.str _=>true | .str _,.int _=>true | .bl _,.str _=>true | .str _,.bl _=>true
  | _,_=>false
def rEq:R2:=fun x y H Q=>scal x y=true∧Q (.bl (decide (x=y))) H
def rNe:R2:=fun x y H Q=>scal x y=true∧Q (.bl (!decide (x=y))) H
theorem dec_int {i j:Int}:decide (V.int i=V.int j)=(i == j):=by
  rw[Bool.eq_iff_iff]
  simp
theorem dec_bl {i j:Bool}:decide (V.bl i=V.bl j)=(i == j):=by
  rw[Bool.eq_iff_iff]
  simp
theorem dec_str {i j:Str}:decide (V.str i=V.str j)=(i == j):=by
  rw[Bool.eq_iff_iff]
  simp
theorem dec_byt {i j:Array UInt8}:decide (V.byt i=V.byt j)=(i.toList == j.toList):=by
  rw[Bool.eq_iff_iff]
  cases i
  cases j
  simp
section
variable {X:Cx}{a b c:Expr}{ta tb tc:TE}{pos:Pos}
theorem fin_bl {pins:List (Addr × Obj)}{σ:St}{H:Hp}{s:Shared}{Q:VK}{k k':Bool} (I:Inv X pins σ H s) (q:Q (.bl k) H) (e:k=k'):EP X pins σ Q (.bool k') s:=by
  subst e
  exact⟨.bl k,H,I,rfl,q⟩
theorem op_eq:OpR X (compareOp .Eq) rEq:=by
  intro pins s σ H x y v u Q I rx ry h
  obtain ⟨hs,q⟩:=h
  cases x with
  | non =>
    cases rx
    cases y with
    | non=>cases ry;exact PySem.EqNone.eq_none_none (fin_bl I q (by simp))
    | bl j=>cases ry;exact PySem.EqNone.eq_none_bool (fin_bl I q (by simp))
    | int j=>obtain ⟨t',rfl⟩:=ry;exact PySem.EqNone.eq_none_int (fin_bl I q (by simp))
    | str j=>obtain ⟨t',rfl⟩:=ry;exact PySem.EqNone.eq_none_str (fin_bl I q (by simp))
    | _=>exact absurd (show false=true from hs) Bool.false_ne_true
  | bl i =>
    cases rx
    cases y with
    | non=>cases ry;exact PySem.EqNone.eq_bool_none (fin_bl I q (by simp))
    | bl j=>cases ry;exact eq_bool (fin_bl I q dec_bl)
    | str j=>obtain ⟨t',rfl⟩:=ry;exact PySem.EqMixed.eq_bool_str (fin_bl I q (by simp))
    | _=>exact absurd (show false=true from hs) Bool.false_ne_true
  | int i =>
    obtain ⟨t,rfl⟩:=rx
    cases y with
    | non=>cases ry;exact PySem.EqNone.eq_int_none (fin_bl I q (by simp))
    | int j=>obtain ⟨t',rfl⟩:=ry;exact eq_int (fin_bl I q dec_int)
    | str j=>obtain ⟨t',rfl⟩:=ry;exact PySem.EqMixed.eq_int_str (fin_bl I q (by simp))
    | _=>exact absurd (show false=true from hs) Bool.false_ne_true
  | str i =>
    obtain ⟨t,rfl⟩:=rx
    cases y with
    | non=>cases ry;exact PySem.EqNone.eq_str_none (fin_bl I q (by simp))
    | bl j=>cases ry;exact PySem.EqMixed.eq_str_bool (fin_bl I q (by simp))
    | int j=>obtain ⟨t',rfl⟩:=ry;exact PySem.EqMixed.eq_str_int (fin_bl I q (by simp))
    | str j=>obtain ⟨t',rfl⟩:=ry;exact eq_str (fin_bl I q dec_str)
    | _=>exact absurd (show false=true from hs) Bool.false_ne_true
  | byt i =>
    obtain ⟨t,rfl⟩:=rx
    cases y with
    | byt j=>obtain ⟨t',rfl⟩:=ry;exact PySem.W.eq_bytes (fin_bl I q dec_byt)
    | _=>exact absurd (show false=true from hs) Bool.false_ne_true
  | _=>cases y<;>exact absurd (show false=true from hs) Bool.false_ne_true
theorem op_ne:OpR X (compareOp .NotEq) rNe:=by
  intro pins s σ H x y v u Q I rx ry h
  obtain ⟨hs,q⟩:=h
  cases x with
  | non =>
    cases rx
    cases y with
    | non=>cases ry;exact PySem.EqNone.ne_none_none (fin_bl I q (by simp))
    | bl j=>cases ry;exact PySem.EqNone.ne_none_bool (fin_bl I q (by simp))
    | int j=>obtain ⟨t',rfl⟩:=ry;exact PySem.EqNone.ne_none_int (fin_bl I q (by simp))
    | str j=>obtain ⟨t',rfl⟩:=ry;exact PySem.EqNone.ne_none_str (fin_bl I q (by simp))
    | _=>exact absurd (show false=true from hs) Bool.false_ne_true
  | bl i =>
    cases rx
    cases y with
    | non=>cases ry;exact PySem.EqNone.ne_bool_none (fin_bl I q (by simp))
    | bl j=>cases ry;exact ne_bool (fin_bl I q (congrArg not dec_bl))
    | str j=>obtain ⟨t',rfl⟩:=ry;exact PySem.EqMixed.ne_bool_str (fin_bl I q (by simp))
    | _=>exact absurd (show false=true from hs) Bool.false_ne_true
  | int i =>
    obtain ⟨t,rfl⟩:=rx
    cases y with
    | non=>cases ry;exact PySem.EqNone.ne_int_none (fin_bl I q (by simp))
    | int j=>obtain ⟨t',rfl⟩:=ry;exact ne_int (fin_bl I q (congrArg not dec_int))
    | str j=>obtain ⟨t',rfl⟩:=ry;exact PySem.EqMixed.ne_int_str (fin_bl I q (by simp))
    | _=>exact absurd (show false=true from hs) Bool.false_ne_true
  | str i =>
    obtain ⟨t,rfl⟩:=rx
    cases y with
    | non=>cases ry;exact PySem.EqNone.ne_str_none (fin_bl I q (by simp))
    | bl j=>cases ry;exact PySem.EqMixed.ne_str_bool (fin_bl I q (by simp))
    | int j=>obtain ⟨t',rfl⟩:=ry;exact PySem.EqMixed.ne_str_int (fin_bl I q (by simp))
    | str j=>obtain ⟨t',rfl⟩:=ry;exact ne_str (fin_bl I q (congrArg not dec_str))
    | _=>exact absurd (show false=true from hs) Bool.false_ne_true
  | byt i =>
    obtain ⟨t,rfl⟩:=rx
    cases y with
    | byt j=>obtain ⟨t',rfl⟩:=ry;exact PySem.W.ne_bytes (fin_bl I q (congrArg not dec_byt))
    | _=>exact absurd (show false=true from hs) Bool.false_ne_true
  | _=>cases y<;>exact absurd (show false=true from hs) Bool.false_ne_true
theorem op_lt:OpR X (compareOp .Lt) (rI0 fun i j=>.bl (decide (i<j))):=opB0 fun _ _ _ _ _ _ _ q=>lt_int q
theorem op_le:OpR X (compareOp .LtE) (rI0 fun i j=>.bl (decide (i≤j))):=opB0 fun _ _ _ _ _ _ _ q=>le_int q
theorem op_gt:OpR X (compareOp .Gt) (rI0 fun i j=>.bl (decide (j<i))):=opB0 fun _ _ _ _ _ _ _ q=>gt_int q
theorem nomark (b:Expr) {op:CmpOp} (h:op≠.In:=by decide) (h2:op≠.NotIn:=by decide):behindInMarks op b=false:=by
  have e1:(op == CmpOp.In)=false:=by cases op<;>first | rfl | exact absurd rfl h
  have e2:(op == CmpOp.NotIn)=false:=by cases op<;>first | rfl | exact absurd rfl h2
  cases b<;>simp [behindInMarks,e1,e2]
theorem pe_cmpR {op:CmpOp}{r:R2} (ho:OpR X (compareOp op) r) (ha:PE X a ta) (hb:PE X b tb) (hm:behindInMarks op b=false):PE X (.Compare a [op] [b] pos) (tOp r ta tb):=by
  intro pins s σ H Q I h
  exact wpAny_Compare1 (binT ha hb I h fun v u s2 x y H2 I2 rx ry q=>ho pins s2 σ H2 x y v u Q I2 rx ry q) hm
def tTest (t:TE):TT:=fun σ H Q=>t σ H fun x H'=>∃k,x=.bl k∧Q k H'
theorem pt_cmpR {op:CmpOp}{r:R2} (ho:OpR X (compareOp op) r) (ha:PE X a ta) (hb:PE X b tb) (hm:behindInMarks op b=false):PT X (.Compare a [op] [b] pos) (tTest (tOp r ta tb)):=by
  intro pins s σ H Q I h
  refine wpAny_isTrue_Compare1 (thn (ha pins s σ H _ I h) fun v s1 ⟨x,H1,I1,r1,q1⟩=>thn (hb pins s1 σ H1 _ I1 q1) fun u s2 ⟨y,H2,I2,r2,q2⟩ =>
    thn (ho pins s2 σ H2 x y v u _ I2 r1 r2 q2) fun c s3 ⟨z,H3,I3,r3,k,e,q3⟩=>?_) hm
  subst e
  cases r3
  exact wpAny_truthy_bool ⟨H3,I3,q3⟩
def tChain (r r':R2) (ta tb tc:TE):TE:=fun σ H Q=>ta σ H fun x H1=>tb σ H1 fun y H2=>r x y H2 fun z H3=>∃k,z=.bl k ∧
  (if k=true then tc σ H3 fun w' H4=>r' y w' H4 Q else Q (.bl false) H3)
theorem pe_chain {op op':CmpOp}{r r':R2} (ho:OpR X (compareOp op) r) (ho':OpR X (compareOp op') r') (ha:PE X a ta) (hb:PE X b tb) (hc:PE X c tc)
    (hm:lastMarks [op,op'] [b,c]=false:=by with_unfolding_all rfl):PE X (.Compare a [op,op'] [b,c] pos) (tChain r r' ta tb tc):=by
  intro pins s σ H Q I h
  refine Compare_chain (thn (ha pins s σ H _ I h) fun v s1 ⟨x,H1,I1,r1,q1⟩=>chain_link (thn (hb pins s1 σ H1 _ I1 q1) fun u s2 ⟨y,H2,I2,r2,q2⟩ =>
    thn (ho pins s2 σ H2 x y v u _ I2 r1 r2 q2) fun d s3 ⟨z,H3,I3,r3,k,e,q3⟩=>?_)) hm
  subst e
  cases r3
  refine wpAny_truthy_bool ?_
  cases k with
  | false=>exact ite_ff ⟨.bl false,H3,I3,rfl,q3⟩
  | true=>exact ite_tt (chain_last (thn (hc pins s3 σ H3 _ I3 q3) fun w' s4 ⟨z',H4,I4,r4,q4⟩=>ho' pins s4 σ H4 y z' u w' Q I4 r2 r4 q4))
theorem pt_chain {op op':CmpOp}{r r':R2} (ho:OpR X (compareOp op) r) (ho':OpR X (compareOp op') r') (ha:PE X a ta) (hb:PE X b tb) (hc:PE X c tc)
    (hm:lastMarks [op,op'] [b,c]=false:=by with_unfolding_all rfl):PT X (.Compare a [op,op'] [b,c] pos) (tTest (tChain r r' ta tb tc)):=by
  intro pins s σ H Q I h
  refine isTrue_chain (thn (ha pins s σ H _ I h) fun v s1 ⟨x,H1,I1,r1,q1⟩=>test_link (thn (hb pins s1 σ H1 _ I1 q1) fun u s2 ⟨y,H2,I2,r2,q2⟩ =>
    thn (ho pins s2 σ H2 x y v u _ I2 r1 r2 q2) fun d s3 ⟨z,H3,I3,r3,k,e,q3⟩=>?_)) hm
  subst e
  cases r3
  refine wpAny_truthy_bool ?_
  cases k with
  | false =>
    obtain ⟨k',e',q'⟩:=q3
    cases e'
    exact ite_ff ⟨H3,I3,q'⟩
  | true =>
    refine ite_tt (test_last (thn (hc pins s3 σ H3 _ I3 q3) fun w' s4 ⟨z',H4,I4,r4,q4⟩=>thn (ho' pins s4 σ H4 y z' u w' _ I4 r2 r4 q4) fun d' s5 ⟨z2,H5,I5,r5,k2,e2,q5⟩=>?_))
    subst e2
    cases r5
    exact wpAny_truthy_bool ⟨H5,I5,q5⟩
theorem line63:(sizeLine:Nat)<2 ^ 63:=by rw[sizeLine_eq];decide
theorem vals1 {x:V}{us:List Value} (r:Vals [x] us):∃u,us=[u]∧RelV x u:=by
  cases r with
  | cons r1 r2=>cases r2;exact⟨_,rfl,r1⟩
theorem vals2 {x y:V}{us:List Value} (r:Vals [x,y] us):∃u w',us=[u,w']∧RelV x u∧RelV y w':=by
  cases r with
  | cons r1 r2 =>
    cases r2 with
    | cons r3 r4=>cases r4;exact⟨_,_,rfl,r1,r3⟩
theorem call_max2 (hc:X.calm=true):CallR X (.builtin "max") (fun xs H Q=>∃i j,xs=[.int i,.int j]∧Q (.int (if j>i then j else i)) H):=by
  intro pins s σ H xs us Q I r h
  obtain ⟨i,j,rfl,q⟩:=h
  obtain ⟨u,w',rfl,⟨t,rfl⟩,⟨t',rfl⟩⟩:=vals2 r
  refine max_two_ints (I.ok.hd hc) fun h' tk k=>⟨_,H,I.kept k,?_,q⟩
  by_cases hj:j>i
  · rw[if_pos hj,if_pos hj];exact⟨_,rfl⟩
  · rw[if_neg hj,if_neg hj];exact⟨_,rfl⟩
theorem call_int1:CallR X (.type "int") (fun xs H Q=>(∃i,xs=[.int i]∧Q (.int i) H)∨∃k,xs=[.bl k]∧Q (.int (if k then 1 else 0)) H):=by
  intro pins s σ H xs us Q I r h
  rcases h with ⟨i,rfl,q⟩ | ⟨k,rfl,q⟩
  · obtain ⟨u,rfl,t,rfl⟩:=vals1 r
    exact call_int_int ⟨.int i,H,I,⟨_,rfl⟩,q⟩
  · obtain ⟨u,rfl,r1⟩:=vals1 r
    cases r1
    exact call_int_bool ⟨.int (if k then 1 else 0),H,I.tok _,⟨_,rfl⟩,q⟩
end
end L2
namespace L2
open PySem PySem.Spec PyProof.Rows
structure ObjM (h:Heap) (x dx C:Addr) (mA:Str→Option Value):Prop where
  obj:h.get? x=some (PySem.W.instObj C dx)
  ns:h.Ns1 dx mA
  ne:dx≠x
theorem lookIn_ns {h:Heap}{dx:Addr}{mA:Str→Option Value} (n:h.Ns1 dx mA):∃od,h.get? dx=some od∧∀name,PySem.W.lookIn name od=some (mA name):=by
  obtain ⟨o,es,ep,ho,hd,hk,_,hm⟩:=n
  refine⟨o,ho,fun name=>?_⟩
  have e:=hm name
  unfold nsFind findBy at e
  rw[← Array.find?_toList] at e
  unfold PySem.W.lookIn
  rw[hd]
  dsimp only
  split
  · rename_i y q
    rw[q] at e
    exact congrArg some e
  · rename_i q
    rw[q] at e
    have a:es.toList.any (·.refKey)=false:=by
      rw[List.any_eq_false]
      intro y hy
      obtain ⟨z,t,hkey⟩:=hk y (Array.mem_toList_iff.mp hy)
      simp [DictEntry.refKey,hkey]
    have a':¬ es.toList.any (·.refKey)=true:=by rw[a];exact Bool.false_ne_true
    rw[if_neg a']
    exact congrArg some e
theorem ObjM.look {h:Heap}{x dx C:Addr}{mA:Str→Option Value} (I:ObjM h x dx C mA):∃od,PySem.W.InstAt h x (PySem.W.instObj C dx) C (some od)∧∀name,PySem.W.lookIn name od=some (mA name) :=
  let ⟨od,ho,hl⟩:=lookIn_ns I.ns
  ⟨od,⟨I.obj,rfl,rfl,ho⟩,hl⟩
section
variable {prog:Program}{w:World}{A:Around}{E:Value→Shared→Prop}{s:Shared}{K:PySem.W.Frag}{x dx C f:Addr}{mA:Str→Option Value}{name:Str}{v:Value}
end
section
variable {P:Program}{w:World}{H H':Hp}{h h':Heap}{a C dx:Addr}{fs fs':List (Str × V)}
theorem ins_get (hok:HOk P w H h) (e:H a=some (.ins C dx fs)):∃mA,ObjM h a dx C mA∧(∀f,RelO (fs.lookup f) (mA f))∧PySem.Within mA (fs.map (·.1))∧fs.length≤1000∧H dx=some (.own a):=by
  obtain ⟨d,z,ne,ob,mA,n,r,q⟩:=(show ObjOk P w H h a (.ins C dx fs) from hok a _ e)
  exact⟨mA,⟨ob,n,ne⟩,r,q,z,d⟩
end
structure Cls (K:PySem.W.Frag) (C:Addr):Prop where
  pg:PySem.W.plainGet K C Str.empty=true
  hd:PySem.W.hasDictIn K C=true
  po:PySem.W.plainOver K C=true
  sa:PySem.W.findIn K (.ref C) "__setattr__" = some (some (.builtin "object.__setattr__"))
theorem Cls.get {K:PySem.W.Frag}{C:Addr} (c:Cls K C) (f:Str):PySem.W.plainGet K C f=true:=c.pg
section
variable {X:Cx}{pins:List (Addr × Obj)}{σ:St}{H:Hp}{s:Shared}{a C dx:Addr}{fs:List (Str × V)}{f:Str}{v:V}{A:Around}{E:Value→Shared→Prop}
end
section
variable {X:Cx}{o e value:Expr}{f:Str}{pos pos' tpos:Pos}{ta tv:TE}
end
section
variable {X:Cx}{pins:List (Addr × Obj)}{σ:St}{H:Hp}{s:Shared}{A:Around}{E:Value→Shared→Prop}{Q:Value→Shared→Prop}{c:Value}{b:Bool}
inductive TyOf (K:PySem.W.Frag) (H:Hp):V→Value→Prop where
  | non:TyOf K H .non (.type "NoneType")
  | bl (x:Bool):TyOf K H (.bl x) (.type "bool")
  | int (i:Int):TyOf K H (.int i) (.type "int")
  | str (x:Str):TyOf K H (.str x) (.type "str")
  | flt (x:UInt64):TyOf K H (.flt x) (.type "float")
  | lst {a:Addr}{xs:List V} (e:H a=some (.lst xs)):TyOf K H (.ref a) (.type "list")
  | frz {a:Addr}{o:Obj}{xs:List V} (e:H a=some (.frz o (.lst xs))):TyOf K H (.ref a) (.type "list")
  | tup {a:Addr}{xs:List V} (e:H a=some (.tup xs)):TyOf K H (.ref a) (.type "tuple")
  | dK {a:Addr}{kvs:List (Key × V)} (e:H a=some (.dK kvs)):TyOf K H (.ref a) (.type "dict")
  | dT {a:Addr}{kvs:List (List Key × V)} (e:H a=some (.dT kvs)):TyOf K H (.ref a) (.type "dict")
  | ins {a C dx:Addr}{fs:List (Str × V)} (e:H a=some (.ins C dx fs)) (cl:Cls K C) (ha:PySem.W.findIn K (.ref C) "__class__" = some (some (.builtin "object.__class__")))
      (hn:PySem.W.specialIn K (.builtin "object.__class__") "__get__" = some (some (.builtin "getset_descriptor.__get__"))) (htk:PySem.W.takesIn K (.builtin "object.__class__")=some true)
      (hm:PySem.W.mroIn K C (.type "object")=some true):TyOf K H (.ref a) (.ref C)
theorem isinst_ok {x:V}{u t:Value} (I:Inv X pins σ H s) (rx:RelV x u) (ty:TyOf X.K H x t) (e:PySem.W.kitOne X.K t c=some b) (h:∀tk,Q (.bool b) { s with toks:=tk }) :
    wpAny (model X.prog X.w) A (call (.builtin "isinstance") [u,c]) Q E s:=by
  cases ty with
  | non=>cases (show u=Value.none from rx);exact PySem.W.kia_one PySem.W.kitx_none I.kIn True.intro e (fun z=>nomatch z) h
  | bl y=>cases (show u=Value.bool y from rx);exact PySem.W.kia_one PySem.W.kitx_bool I.kIn True.intro e (fun z=>nomatch z) h
  | int i=>obtain ⟨t,q⟩:=(show ∃t,u=Value.int i t from rx);cases q;exact PySem.W.kia_one PySem.W.kitx_int I.kIn True.intro e (fun z=>nomatch z) h
  | str y=>obtain ⟨t,q⟩:=(show ∃t,u=Value.str y t from rx);cases q;exact PySem.W.kia_one PySem.W.kitx_str I.kIn True.intro e (fun z=>nomatch z) h
  | flt y=>obtain ⟨t,q⟩:=(show ∃t,u=Value.float y t from rx);cases q;exact PySem.W.kia_one PySem.W.kitx_float I.kIn True.intro e (fun z=>nomatch z) h
  | @lst a xs ea =>
    cases (show u=Value.ref a from rx)
    obtain ⟨_,_,n,_,h1⟩:=(show ObjOk X.prog X.w H s.heap a (.lst xs) from I.hok a _ ea)
    exact PySem.W.kia_one PySem.W.kitx_list I.kIn ⟨_,h1,rfl⟩ e (fun z=>nomatch z) h
  | @frz a ob xs ea =>
    cases (show u=Value.ref a from rx)
    obtain ⟨_,_,_,n,_,h1⟩:=(show ObjOk X.prog X.w H s.heap a (.frz ob (.lst xs)) from I.hok a _ ea)
    exact PySem.W.kia_one PySem.W.kitx_list I.kIn ⟨_,h1,rfl⟩ e (fun z=>nomatch z) h
  | @tup a xs ea =>
    cases (show u=Value.ref a from rx)
    obtain ⟨_,_,_,p⟩:=(show ObjOk X.prog X.w H s.heap a (.tup xs) from I.hok a _ ea)
    obtain ⟨o,h1,h2,_⟩:=p
    exact PySem.W.kia_one PySem.W.kitx_tuple I.kIn ⟨o,h1,h2⟩ e (fun z=>nomatch z) h
  | @dK a kvs ea =>
    cases (show u=Value.ref a from rx)
    obtain ⟨_,_,vs,_,p⟩:=(show ObjOk X.prog X.w H s.heap a (.dK kvs) from I.hok a _ ea)
    obtain ⟨o,es,ep,h1,h2,_⟩:=p
    exact PySem.W.kia_one PySem.W.kitx_dict I.kIn ⟨o,h1,h2.1⟩ e (fun z=>nomatch z) h
  | @dT a kvs ea =>
    cases (show u=Value.ref a from rx)
    obtain ⟨_,_,xs,_,o,es,ep,h1,h2,_⟩:=(show ObjOk X.prog X.w H s.heap a (.dT kvs) from I.hok a _ ea)
    exact PySem.W.kia_one PySem.W.kitx_dict I.kIn ⟨o,h1,h2.1⟩ e (fun z=>nomatch z) h
  | @ins a C dx fs ea cl ha hn htk hm =>
    cases (show u=Value.ref a from rx)
    obtain ⟨mA,O,_⟩:=ins_get I.hok ea
    obtain ⟨od,J,_⟩:=O.look
    exact PySem.W.kia_one (PySem.W.kitx_own (cl.get _) cl.hd ha hn htk hm) I.kIn J e (fun z=>nomatch z) h
end
end L2
namespace L2
open PySem PySem.Spec PyProof.Rows
structure Room (k:Nat) (A:Around):Prop where
  hd:A.handled=none
  dp:A.depth+3*k+5<recursionLimit
  un:A.units+16*k+200<cLine
theorem Room.mono {j k:Nat}{A:Around} (r:Room k A) (h:j≤k):Room j A:=⟨r.hd,by have:=r.dp;omega,by have:=r.un;omega⟩
theorem Room.deeper {k:Nat}{A:Around} (r:Room (k+1) A) (env:Env):Room k (A.deeper env) :=
  ⟨r.hd,by have:=r.dp;show A.depth+1+3*k+5<_;omega,by have:=r.un;show A.units+3+16*k+200<_;omega⟩
theorem Room.depth {k:Nat}{A:Around} (r:Room k A):A.depth<recursionLimit:=by have:=r.dp;omega
theorem Room.units {k:Nat}{A:Around} (r:Room k A):A.units+64<cLine:=by have:=r.un;omega
def tNil:TA:=fun _ H Q=>Q [] H
def tCons (ta:TE) (tr:TA):TA:=fun σ H Q=>ta σ H fun x H1=>tr σ H1 fun xs H2=>Q (x::xs) H2
section
variable {X:Cx}{e:Expr}{es:List Expr}{te:TE}{t:TA}{pos:Pos}
theorem pa_nil:PA X [] tNil:=fun _ _ _ _ H Q I h=>Calls.spliced_nil ⟨[],H,I,.nil,h⟩
theorem pa_cons (ha:PE X e te) (hr:PA X es t) (hs:starEach (e::es) X.env=(false,eval e X.env)::starEach es X.env:=by rfl):PA X (e::es) (tCons te t):=by
  intro pos pins s σ H Q I h
  rw[hs]
  show wpAny _ _ (spliced ((false,eval e X.env)::backTo pos (starEach es X.env))) _ _ s
  refine Calls.spliced_cons (thn (ha pins s σ H _ I h) fun u s1 ⟨x,H1,I1,r1,q1⟩=>?_)
  exact thn (hr pos pins s1 σ H1 _ I1 q1) fun us s2 ⟨xs,H2,I2,r2,q2⟩=>⟨x::xs,H2,I2,.cons r1 r2,q2⟩
def tTup (t:TA):TE:=fun σ H Q=>t σ H fun xs H1=>xs.length≤sizeLine∧∀p,H1 p=none→Q (.ref p) (upd H1 p (.tup xs))
def tLst (t:TA):TE:=fun σ H Q=>t σ H fun xs H1=>xs.length≤sizeLine∧∀p,H1 p=none→Q (.ref p) (upd H1 p (.lst xs))
theorem pe_tup {x1} (h:PA X es t):PE X (.Tuple es x1 pos) (tTup t):=by
  intro pins s σ H Q I hq
  refine wpAny_Tuple_spliced (thn (h pos pins s σ H _ I hq) fun us s1 ⟨xs,H1,I1,r,z,q⟩=>⟨by rw[← r.length];exact z,?_⟩)
  have hf:H1 s1.heap.objs.size=none:=I1.hok.fresh (Nat.le_refl _)
  refine⟨.ref s1.heap.objs.size,upd H1 s1.heap.objs.size (.tup xs),I1.laid (t':=s1.toks) (fun b u e=>Heap.get?_push_of_some _ e) (Nat.le_refl _) ?_,rfl,q _ hf⟩
  exact⟨z,us,r,⟨_,Heap.get?_push_size _ rfl,rfl,_,rfl⟩⟩
theorem pe_lst (h:PA X es t):PE X (.List es pos) (tLst t):=by
  intro pins s σ H Q I hq
  refine wpAny_List_spliced (thn (h pos pins s σ H _ I hq) fun us s1 ⟨xs,H1,I1,r,z,q⟩=>⟨by rw[← r.length];exact z,?_⟩)
  have hf:H1 s1.heap.objs.size=none:=I1.hok.fresh (Nat.le_refl _)
  refine⟨.ref s1.heap.objs.size,upd H1 s1.heap.objs.size (.lst xs),I1.laid (t':=s1.toks) (fun b u e=>Heap.get?_push_of_some _ e) (Nat.le_refl _) ?_,rfl,q _ hf⟩
  exact⟨z,us,0,r,Heap.get?_push_size _ rfl⟩
end
abbrev Sp:=List V→Hp→VK→XK→Prop
abbrev CXT:=List Env→Hp→Shared→XK→Value→Shared→Prop
structure Env0 (P:Program) (w:World) (K:PySem.W.Frag) (mg:Str→Option Value) (base:Heap) (A:Around) (outer:List Env) (s:Shared) (H:Hp):Prop where
  frames:A.frames=some outer
  mod:Mod K mg base
  bs:∀b o,base.get? b=some o→s.heap.get? b=some o∧H b=none
  bsz:base.objs.size≤s.heap.objs.size
  funs:s.heap.FunFrames base outer
  frf:∀b∈frs outer,H b=none
  hok:HOk P w H s.heap
  bare:AllBare s.gens
def CE (outer:List Env) (P:Program) (w:World) (H:Hp) (s:Shared) (Q:VK) (u:Value) (s':Shared):Prop :=
  ∃v H',s'.os=s.os∧AllBare s'.gens∧Un (frs outer) [] H H' s.heap s'.heap∧HOk P w H' s'.heap∧RelV v u∧Q v H'
def CR (CX:CXT) (outer:List Env) (P:Program) (w:World) (H:Hp) (s:Shared) (Q:VK) (E:XK) (r:Result) (s':Shared):Prop :=
  match r with
  | .ok (.ret u)=>CE outer P w H s Q u s'
  | .ok _=>False
  | .error e=>CX outer H s E e s'
structure FnOk (P:Program) (w:World) (K:PySem.W.Frag) (mg:Str→Option Value) (base:Heap) (CX:CXT) (k:Nat) (f:Addr) (fd:FuncData) (ps:List Str) (sp:Sp):Prop where
  len:∀vs H Q E,sp vs H Q E→vs.length=ps.length
  run:∀(A:Around) (outer:List Env) (s:Shared) (H:Hp) (args:Args) (us:List Value) (vs:List V) (Q:VK) (E:XK),Room k A→Env0 P w K mg base A outer s H→BindsTo s fd args (ps.zip us)→Vals vs us→sp vs H Q E →
    codeAny (model P w) A (.call (.ref f) args) (CR CX outer P w H s Q E) s
theorem FnOk.imp {P:Program}{w:World}{K:PySem.W.Frag}{mg:Str→Option Value}{base:Heap}{CX:CXT}{k:Nat}{f:Addr}{fd:FuncData}{ps:List Str}{sp sp':Sp} (F:FnOk P w K mg base CX k f fd ps sp)
    (h:∀vs H Q E,sp' vs H Q E→sp vs H Q E):FnOk P w K mg base CX k f fd ps sp' :=
  ⟨fun vs H Q E q=>F.len vs H Q E (h _ _ _ _ q),fun A outer s H args us vs Q E hr he hb hv hs=>F.run A outer s H args us vs Q E hr he hb hv (h _ _ _ _ hs)⟩
section
variable {X:Cx}{pins:List (Addr × Obj)}{σ:St}{H:Hp}{s s':Shared}
theorem Inv.env0 (I:Inv X pins σ H s):Env0 X.prog X.w X.K X.mg X.base X.A X.stack s H :=
  ⟨I.ok.frames,I.ok.mod,I.bs,Nat.le_trans I.ok.bsz I.sz,I.stack,I.stkFree,I.hok,I.bare⟩
theorem Inv.after {Q:VK}{u:Value} (I:Inv X pins σ H s) (h:CE X.stack X.prog X.w H s Q u s'):EP X pins σ Q u s':=by
  obtain ⟨v,H',os,bare,un,hok,r,q⟩:=h
  obtain ⟨hh,g,d,t,os'⟩:=s'
  obtain rfl:os'=s.os:=os
  exact⟨v,H',I.call (h':=hh) (g':=g) (d':=d) (t':=t) (ch:=[]) un hok bare (fun b z=>absurd z (by simp)),r,q⟩
end
def tCall (sp:Sp) (dvs:List V) (E:XK) (t:TA):TE:=fun σ H Q=>t σ H fun vs H1=>sp (vs++dvs) H1 Q E
def Binds (K:PySem.W.Frag) (fd:FuncData) (ps:List Str) (ds:List Value):Prop :=
  ∀(s:Shared) (us:List Value),K.In s.heap→(us++ds).length=ps.length→BindsTo s fd ⟨us,[]⟩ (ps.zip (us++ds))
theorem Binds.all {K:PySem.W.Frag}{fd:FuncData}{ps:List Str} (h:∀us:List Value,us.length=ps.length→bindArgs fd ⟨us,[]⟩=pure (ps.zip us)):Binds K fd ps []:=fun s us _ hl=>by
  rw[List.append_nil] at hl ⊢
  exact .of_eq (h us hl)
def Passes (CX:CXT) (X:Cx) (E:XK):Prop:=∀(pins:List (Addr × Obj)) (σ:St) (H:Hp) (s:Shared) (e:Value) (s':Shared),Inv X pins σ H s→CX X.stack H s E e s'→X.xe e s'
section
variable {X:Cx}{CX:CXT}{k:Nat}{f C:Addr}{fd:FuncData}{ps:List Str}{sp:Sp}{dvs:List V}{ds:List Value}{E:XK}{x m:Str}{p pos apos:Pos}{e o:Expr}{es:List Expr}{ta:TE}{t:TA}
theorem run_fn {pins:List (Addr × Obj)}{σ:St}{H:Hp}{s:Shared}{Q:VK}{us:List Value}{vs:List V} (F:FnOk X.prog X.w X.K X.mg X.base CX k f fd ps sp) (hr:Room k X.A) (hb:Binds X.K fd ps ds) (hd:Vals dvs ds) (hx:Passes CX X E)
    (I:Inv X pins σ H s) (r:Vals vs us) (h:sp (vs++dvs) H Q E):wpAny (model X.prog X.w) X.A (call (.ref f) us) (EP X pins σ Q) X.xe s:=by
  have r2:Vals (vs++dvs) (us++ds):=r.append hd
  have hl:(us++ds).length=ps.length:=by rw[← r2.length];exact F.len _ _ _ _ h
  refine wpAny_call (codeAny_mono (F.run X.A X.stack s H ⟨us,[]⟩ (us++ds) (vs++dvs) Q E hr I.env0 (hb s us I.kIn hl) r2 h) fun r s' hq=>?_)
  cases r with
  | error e=>exact hx pins σ H s e s' I hq
  | ok fl =>
    cases fl with
    | ret u=>exact I.after hq
    | next=>exact False.elim hq
    | brk=>exact False.elim hq
    | cont=>exact False.elim hq
theorem pe_call (F:FnOk X.prog X.w X.K X.mg X.base CX k f fd ps sp) (hr:Room k X.A) (hg:Gl X x) (hm:X.mg x=some (.ref f)) (hk:PySem.W.keepIn X.K (.ref f)=true) (hb:Binds X.K fd ps ds) (hd:Vals dvs ds) (hx:Passes CX X E)
    (ha:PA X (e::es) t) (hdb:(x == ("__debug__" : Str))=false:=by decide) (he:starEach (e::es) X.env=(false,eval e X.env)::starEach es X.env:=by rfl) (hpl:(backTo pos (starEach es X.env)).any (·.1)=false:=by rfl) :
    PE X (.Call (.Name x p) (e::es) [] pos) (tCall sp dvs E t):=by
  intro pins s σ H Q I h
  refine wpAny_Call_Name_kw (ld_glob I hg hm ?_ hdb)
  refine PySem.W.callWith_K (h₀:=X.base) I.ok.mod.kin hk (thn (ha pos pins s σ H _ I h) fun us s1 ⟨vs,H1,I1,r,q⟩=>⟨I1.kIn,?_⟩) he hpl
  exact run_fn F hr hb hd hx I1 r q
end
section
variable {X:Cx}{CX:CXT}{k:Nat}{f C:Addr}{fd:FuncData}{ps ks:List Str}{sp:Sp}{E:XK}{x m:Str}{p pos apos kpos:Pos}{e o:Expr}{es:List Expr}{kws:List Keyword}{te ta:TE}{t tk:TA}{nm:Option Str}
variable {g:List Value→List Value→List Value}{gV:List V→List V→List V}
end
structure FnScope (N P:List Str) (sc:Scope):Prop where
  kind:sc.kind=.function
  co:sc.isCoroutine=false
  gen:sc.isGenerator=false
  nd:N.Nodup
  pre:N.take P.length=P
  par:∀x∈P,sc.names.lookup x=some .local∨sc.names.lookup x=some .cell
  nofree:∀y∈sc.names,y.2≠.free
theorem bindL_out {kindOf:Str→Option NameKind}{x:Str}:∀{binds:List (Str × Value)}{m:Str→Option Value},(∀v,(x,v)∉binds)→bindL kindOf binds m x=m x
  | [],_,_=>rfl
  | (n,v)::r,m,h=>by
    unfold bindL
    rw[bindL_out fun w hw=>h w (List.mem_cons_of_mem _ hw)]
    split
    · have:x≠n:=by rintro rfl;exact h v List.mem_cons_self
      simp [this]
    · rfl
theorem bindC_out {kindOf:Str→Option NameKind}{x:Str}:∀{binds:List (Str × Value)}{m:Str→Option Value},(∀v,(x,v)∉binds)→bindC kindOf binds m x=m x
  | [],_,_=>rfl
  | (n,v)::r,m,h=>by
    unfold bindC
    rw[bindC_out fun w hw=>h w (List.mem_cons_of_mem _ hw)]
    split
    · rfl
    · have:x≠n:=by rintro rfl;exact h v List.mem_cons_self
      simp [this]
theorem bindL_get {kindOf:Str→Option NameKind}{x:Str}{v:Value}:∀{P:List Str}{vs:List Value}{i:Nat}{m:Str→Option Value},P.Nodup→P[i]?=some x→vs[i]?=some v→kindOf x=some .local →
    bindL kindOf (P.zip vs) m x=some v
  | [],_,_,_,_,h,_,_=>by simp at h
  | _::_,[],_,_,_,_,h,_=>by simp at h
  | p::P,w::vs,0,m,nd,h1,h2,hk=>by
    simp at h1 h2;subst h1;subst h2
    show bindL kindOf ((p,w)::P.zip vs) m p=_
    unfold bindL
    rw[bindL_out fun v hv=>(List.nodup_cons.mp nd).1 (List.of_mem_zip hv).1,if_pos hk]
    simp
  | p::P,w::vs,i+1,m,nd,h1,h2,hk=>by
    show bindL kindOf ((p,w)::P.zip vs) m x=_
    unfold bindL
    exact bindL_get (i:=i) (List.nodup_cons.mp nd).2 (by simpa using h1) (by simpa using h2) hk
theorem bindC_get {kindOf:Str→Option NameKind}{x:Str}{v:Value}:∀{P:List Str}{vs:List Value}{i:Nat}{m:Str→Option Value},P.Nodup→P[i]?=some x→vs[i]?=some v→kindOf x≠some .local →
    bindC kindOf (P.zip vs) m x=some v
  | [],_,_,_,_,h,_,_=>by simp at h
  | _::_,[],_,_,_,_,h,_=>by simp at h
  | p::P,w::vs,0,m,nd,h1,h2,hk=>by
    simp at h1 h2;subst h1;subst h2
    show bindC kindOf ((p,w)::P.zip vs) m p=_
    unfold bindC
    rw[bindC_out fun v hv=>(List.nodup_cons.mp nd).1 (List.of_mem_zip hv).1,if_neg hk]
    simp
  | p::P,w::vs,i+1,m,nd,h1,h2,hk=>by
    show bindC kindOf ((p,w)::P.zip vs) m x=_
    unfold bindC
    exact bindC_get (i:=i) (List.nodup_cons.mp nd).2 (by simpa using h1) (by simpa using h2) hk
def start (N:List Str) (vs:List V):St:=vs.map some++List.replicate (N.length - vs.length) none
def cxOf (CX:CXT) (P:Program) (w:World) (K:PySem.W.Frag) (mg:Str→Option Value) (base:Heap) (N:List Str) (qual:Str) (scope:Scope) (f:Addr) (cd:Value) (A:Around) (outer:List Env) (s:Shared) (H:Hp) (E:XK):Cx where
  prog:=P
  w:=w
  K:=K
  mg:=mg
  base:=base
  A:=A.deeper (envOfC qual scope s.heap.objs.size f cd)
  N:=N
  s₀:=s
  H₀:=H
  env:=envOfC qual scope s.heap.objs.size f cd
  outer:=outer
  stack:=envOfC qual scope s.heap.objs.size f cd::outer
  ex:=[]
  calm:=true
  fn:=fun _=>true
  pn:=[]
  xe:=fun e s'=>wpAny (model P w) (A.deeper (envOfC qual scope s.heap.objs.size f cd)) (leaving (envOfC qual scope s.heap.objs.size f cd) e) (fun _ s''=>CX outer H s E e s'') (fun e' s''=>CX outer H s E e' s'') s'
theorem cell_has {sc:Scope}{n:Nat}{x:Str} (h:sc.names.lookup x=some .cell):∃c,(cellsFrom n sc.names []).lookup x=some c:=by
  have q:=PySem.W.cellsFrom_some sc.names n [] (.inl h)
  exact Option.isSome_iff_exists.mp q
theorem inv_start {CX:CXT}{P:Program}{w:World}{K:PySem.W.Frag}{mg:Str→Option Value}{base:Heap}{N ps:List Str}{qual:Str}{scope:Scope}{f:Addr}{cd:Value}{A:Around}{outer:List Env}{s s1:Shared}{H:Hp}{E:XK}{us:List Value}{vs:List V}
    (S:FnScope N ps scope) (hd:A.handled=none) (e0:Env0 P w K mg base A outer s H) (hl:vs.length=ps.length) (r:Vals vs us)
    (x:InCallC s s.heap.objs.size (bindL (envOfC qual scope s.heap.objs.size f cd).kindOf (ps.zip us) fun _=>none) (cellsFrom (s.heap.objs.size+1) scope.names []) (bindC (envOfC qual scope s.heap.objs.size f cd).kindOf (ps.zip us) fun _=>none) s1) :
    Inv (cxOf CX P w K mg base N qual scope f cd A outer s H E) [] (start N vs) H s1:=by
  have hpl:ps.length≤N.length:=by have:=congrArg List.length S.pre;rw[List.length_take] at this;omega
  obtain ⟨h1,tk,rfl,hk⟩:=x.done
  have noA:∀b:Addr,b∉(cxOf CX P w K mg base N qual scope f cd A outer s H E).ex:=fun b z=>absurd (show b∈([]:List Addr) from z) (by simp)
  refine⟨⟨e0.mod,S.kind,rfl,rfl,Nat.le_refl _,fun y z c h1 h2=>?_,fun y hy=>?_,fun y c _ h=>?_,fun _=>hd,Around.frames_deeper e0.frames,.inr ⟨rfl,rfl⟩,fun b z=>absurd z (noA b),e0.bs,e0.bsz,fun b _ _=>noA b,fun b z=>absurd z (noA b),e0.funs,e0.frf⟩,
    rfl,e0.bare,Un.kept hk,⟨_,x.toInCall.ns,fun i y v h1 h2 h3=>?_⟩,fun y c h=>⟨_,x.cell y c h⟩,e0.hok.fresh (Nat.le_refl _),fun y c h=>?_,fun p hp=>absurd (show p∈([]:List (Addr × Obj)) from hp) (by simp),e0.hok.kept hk,?_⟩
  · exact name_of_addr x.apart (PySem.mem_of_lookup h1) (PySem.mem_of_lookup h2)
  · have hy:scope.names.lookup y=some .cell∨scope.names.lookup y=some .free:=hy
    rcases hy with hy | hy
    · exact cell_has hy
    · exact absurd rfl (S.nofree _ (PySem.mem_of_lookup hy))
  · exact Nat.le_of_lt (x.above y c (PySem.mem_of_lookup h))
  · have hi:i<vs.length:=by
      unfold start at h2
      by_cases hi:i<vs.length
      · exact hi
      · rw[List.getElem?_append_right (by simpa using hi)] at h2
        rw[List.getElem?_replicate] at h2
        split at h2<;>cases h2
    have ha:vs[i]?=some v:=by
      unfold start at h2
      rw[List.getElem?_append_left (by simpa using hi),List.getElem?_map] at h2
      cases e:vs[i]? with
      | none=>rw[e] at h2;cases h2
      | some a=>rw[e] at h2;cases h2;rfl
    obtain ⟨u,hu,rv⟩:=r.get ha
    have hp:ps[i]?=some y:=by
      rw[← S.pre,List.getElem?_take_of_lt (by omega)];exact h1
    have ndP:ps.Nodup:=by rw[← S.pre];exact S.nd.sublist (List.take_sublist _ _)
    refine⟨u,rv,?_⟩
    rcases S.par y (List.mem_of_getElem? hp) with k | k
    · exact .inl ⟨k,bindL_get ndP hp hu k⟩
    · obtain ⟨c,e⟩:=cell_has (n:=s.heap.objs.size+1) k
      refine .inr ⟨.inl k,c,e,?_⟩
      have q:=x.cell y c e
      rw[bindC_get ndP hp hu (by show scope.names.lookup y≠_;rw[k];decide)] at q
      exact q
  · exact e0.hok.fresh (Nat.le_of_lt (x.above y c (PySem.mem_of_lookup h)))
  · unfold start
    show _=N.length
    rw[List.length_append,List.length_map,List.length_replicate]
    omega
theorem fn_of {CX:CXT}{P:Program}{w:World}{K:PySem.W.Frag}{mg:Str→Option Value}{base:Heap}{k:Nat}{f:Addr}{name qual:Str}{params:Arguments}{body:List Stmt}{scope:Scope}{dV kV doc pm cdv ct oc:Value}{an od:Option Addr}
    {osl:Array (Option Value)}{N ps:List Str}{sp:Sp} (lk:K.lookup f=some ⟨oc,od,.func (PySem.W.fnOf name qual params body scope dV kV doc pm an cdv ct),osl⟩) (hcd:PySem.W.codeIn K cdv qual=true) (S:FnScope N ps scope)
    (len:∀vs H Q E,sp vs H Q E→vs.length=ps.length)
    (hbody:∀(A:Around) (outer:List Env) (s:Shared) (H:Hp) (vs:List V) (Q:VK) (E:XK),Room k (A.deeper (envOfC qual scope s.heap.objs.size f cdv))→sp vs H Q E →
      ∃t,PSs (cxOf CX P w K mg base N qual scope f cdv A outer s H E) body t∧t { nx:=fun _ H'=>Q .non H',rt:=Q } (start N vs) H) :
    FnOk P w K mg base CX (k+1) f (PySem.W.fnOf name qual params body scope dV kV doc pm an cdv ct) ps sp:=by
  refine⟨len,fun A outer s H args us vs Q E hr e0 hb r hsp=>?_⟩
  have hl:=len _ _ _ _ hsp
  have KX:K.In s.heap:=e0.mod.kin.keeps fun b o e=>(e0.bs b o e).1
  have lim:s.heap.NoLimit:=e0.mod.nolimit.keeps fun b o e=>(e0.bs b o e).1
  have hkind:∀y∈ps.zip us,scope.names.lookup y.1=some .local∨(scope.names.lookup y.1=some .cell∧((cellsFrom (s.heap.objs.size+1) scope.names []).lookup y.1).isSome=true):=fun ⟨n,v⟩ hy=>by
    rcases S.par n (List.of_mem_zip hy).1 with q | q
    · exact .inl q
    · exact .inr ⟨q,PySem.W.cellsFrom_some _ _ _ (.inl q)⟩
  refine codeAny_call_function hr.depth (KX _ _ lk) rfl S.co S.gen rfl (PySem.W.codeRec_of KX hcd) (hb _ _ _ _ ?_)
  refine wpAny_newFunctionEnv_cells S.kind hkind fun env he s1 x=>?_
  subst he
  refine⟨lim.keeps x.toInCall.keep,codeAny_func ?_⟩
  obtain ⟨t,ht,hq⟩:=hbody A outer s H vs Q E (hr.deeper _) hsp
  have I:Inv (cxOf CX P w K mg base N qual scope f cdv A outer s H E) [] (start N vs) H s1:=inv_start S hr.hd e0 hl r x
  refine wpAny_mono (ht [] s1 (start N vs) H _ I hq) (fun fl s' hs=>?_) fun e s' hs=>hs
  have fin:∀{σ':St}{H':Hp}{v:V}{u:Value},Inv (cxOf CX P w K mg base N qual scope f cdv A outer s H E) [] σ' H' s'→RelV v u→Q v H'→CE outer P w H s Q u s' :=
    fun {σ' H' v u} J rv q=>⟨v,H',J.os,J.bare,J.base,J.hok,rv,q⟩
  cases fl with
  | ret u =>
    obtain ⟨v,σ',H',J,rv,q⟩:=hs
    exact fin J rv q
  | next =>
    obtain ⟨σ',H',J,q⟩:=hs
    exact fin (v:=V.non) (u:=Value.none) J rfl q
  | brk =>
    obtain ⟨_,_,_,q⟩:=hs
    exact False.elim q
  | cont =>
    obtain ⟨_,_,_,q⟩:=hs
    exact False.elim q
end L2
namespace L2
open PySem PySem.Spec PyProof.Rows
section
variable {X:Cx}{x:Str}{p pos:Pos}{e:Expr}{es:List Expr}{t:TA}{id T:String}{r:List V→Hp→VK→Prop}
def tCB (r:List V→Hp→VK→Prop) (t:TA):TE:=fun σ H Q=>t σ H fun vs H1=>r vs H1 Q
theorem pe_callB (hc:CallR X (.builtin id) r) (hg:Gl X x) (hm:X.mg x=none) (hv:bootBuiltins x=some (.builtin id)) (ha:PA X (e::es) t) (hn:x≠"__name__":=by decide) (hdb:(x == ("__debug__" : Str))=false:=by decide)
    (he:starEach (e::es) X.env=(false,eval e X.env)::starEach es X.env:=by rfl) (hpl:(backTo pos (starEach es X.env)).any (·.1)=false:=by rfl):PE X (.Call (.Name x p) (e::es) [] pos) (tCB r t):=by
  intro pins s σ H Q I h
  refine wpAny_Call_Name_kw (ld_blt I hg hm hv ?_ hn hdb)
  exact PyProof.Rows.callWith_builtin1 (thn (ha pos pins s σ H _ I h) fun us s1 ⟨vs,H1,I1,r1,q1⟩=>hc pins s1 σ H1 vs us Q I1 r1 q1) he hpl
theorem pe_callTy (hc:CallR X (.type T) r) (hg:Gl X x) (hm:X.mg x=none) (hv:bootBuiltins x=some (.type T)) (ha:PA X (e::es) t) (hn:x≠"__name__":=by decide) (hdb:(x == ("__debug__" : Str))=false:=by decide)
    (he:starEach (e::es) X.env=(false,eval e X.env)::starEach es X.env:=by rfl) (hpl:(backTo pos (starEach es X.env)).any (·.1)=false:=by rfl):PE X (.Call (.Name x p) (e::es) [] pos) (tCB r t):=by
  intro pins s σ H Q I h
  refine wpAny_Call_Name_kw (ld_blt I hg hm hv ?_ hn hdb)
  exact PyProof.Rows.callWith_type1 (thn (ha pos pins s σ H _ I h) fun us s1 ⟨vs,H1,I1,r1,q1⟩=>hc pins s1 σ H1 vs us Q I1 r1 q1) he hpl
end
end L2
namespace HT
open PySem PyProof.Rows
section
open PySem.SeqAt
open PySem.AutoSeq1 (wpAny_loadPart')
open PySem.MeetsSeq PySem.MeetsSeq2 PySem.MeetsSeq3
end
section
variable {prog:Program}{w:World}{A:Around}{E:Value→Shared→Prop}{s:Shared}
def sIx (n d:Nat):Option Int→Nat
  | none=>d
  | some v=>if v<0 then (v+(n:Int)).toNat else min v.toNat n
theorem sIx_none (n d:Nat):sIx n d none=d:=rfl
theorem sIx_nat (n d k:Nat):sIx n d (some (k:Int))=min k n:=by
  show (if (k:Int)<0 then ((k:Int)+(n:Int)).toNat else min (k:Int).toNat n)=min k n
  rw[if_neg (by omega),Int.toNat_natCast]
end
end HT
namespace L2
open PySem PySem.Spec PyProof.Rows
abbrev TO:=St→Hp→(Option Int→Hp→Prop)→Prop
def PO (X:Cx) (e:Option Expr) (t:TO):Prop :=
  ∀(pins:List (Addr × Obj)) (s:Shared) (σ:St) (H:Hp) (Q:Option Int→Hp→Prop),Inv X pins σ H s→t σ H Q →
    wpAny (model X.prog X.w) X.A (evalPart e X.env) (fun u s'=>∃o H',Inv X pins σ H' s'∧IsPart u o∧Q o H') X.xe s
def tNoPart:TO:=fun _ H Q=>Q none H
def tPart (t:TE):TO:=fun σ H Q=>t σ H fun x H1=>∃i,x=.int i∧Q (some i) H1
section
variable {X:Cx}{e:Expr}{te:TE}{lo hi:Option Expr}{tl th:TO}{pos p2:Pos}
theorem po_none:PO X none tNoPart:=by
  intro pins s σ H Q I h
  rw[evalPart_none]
  exact wpAny_pure ⟨none,H,I,.none,h⟩
theorem po_some (h:PE X e te):PO X (some e) (tPart te):=by
  intro pins s σ H Q I hw
  rw[evalPart_some]
  refine thn (h pins s σ H _ I hw) fun u s1 ⟨x,H1,I1,r1,q1⟩=>?_
  obtain ⟨i,rfl,q⟩:=q1
  obtain ⟨t,rfl⟩:=r1
  exact⟨some i,H1,I1,.int i t,q⟩
def SlR (X:Cx) (r:V→Option Int→Option Int→Hp→VK→Prop):Prop :=
  ∀(pins:List (Addr × Obj)) (s:Shared) (σ:St) (H:Hp) (x:V) (v vl vu:Value) (lo hi:Option Int) (sl:Addr) (Q:VK),Inv X pins σ H s→RelV x v→s.heap.IsSliceOf sl vl vu .none→IsPart vl lo→IsPart vu hi→r x lo hi H Q →
    ∃T id,typeLookup (.type T) "__getitem__" = pure (some (.builtin id))∧s.TypeIs v T∧wpAny (model X.prog X.w) X.A (getItem v (.ref sl)) (EP X pins σ Q) X.xe s
def tSl (r:V→Option Int→Option Int→Hp→VK→Prop) (te:TE) (tl th:TO):TE:=fun σ H Q=>te σ H fun x H1=>tl σ H1 fun l H2=>th σ H2 fun u H3=>r x l u H3 Q
theorem pe_slice {r:V→Option Int→Option Int→Hp→VK→Prop} (hr:SlR X r) (he:PE X e te) (hl:PO X lo tl) (hu:PO X hi th):PE X (.Subscript e (.Slice lo hi none p2) pos) (tSl r te tl th):=by
  intro pins s σ H Q I h
  refine Subscript_ (thn (he pins s σ H _ I h) fun v s1 ⟨x,H1,I1,r1,q1⟩=>?_)
  refine wpAny_Slice (thn (hl pins s1 σ H1 _ I1 q1) fun vl s2 ⟨l,H2,I2,pl,q2⟩=>thn (hu pins s2 σ H2 _ I2 q2) fun vu s3 ⟨u,H3,I3,pu,q3⟩=>?_)
  rw[evalPart_none]
  refine wpAny_pure ?_
  have I4:Inv X pins σ H3 { s3 with heap:=s3.heap.push { cls:=.type "slice",data:=.fields #[vl,vu,.none] } }:=I3.kept (t':=s3.toks) fun b ob q=>Heap.get?_push_of_some _ q
  obtain ⟨T,id,hT,ht,hg⟩:=hr pins { s3 with heap:=s3.heap.push { cls:=.type "slice",data:=.fields #[vl,vu,.none] } } σ H3 x v vl vu l u s3.heap.objs.size Q I4 r1 (Heap.IsSliceOf.new ..) pl pu q3
  show wpAny (model X.prog X.w) X.A (subscriptTail e (.Slice lo hi none p2) v (.ref s3.heap.objs.size)) (EP X pins σ Q) X.xe { s3 with heap:=s3.heap.push { cls:=.type "slice",data:=.fields #[vl,vu,.none] } }
  exact tail_any (ops:=[.ref s3.heap.objs.size,v]) ht hT hg (by with_unfolding_all rfl)
def cutV (xs:List V) (lo hi:Option Int):List V:=(xs.drop (HT.sIx xs.length 0 lo)).take (HT.sIx xs.length xs.length hi - HT.sIx xs.length 0 lo)
theorem cutV_length (xs:List V) (lo hi:Option Int):(cutV xs lo hi).length≤xs.length:=by
  unfold cutV
  rw[List.length_take,List.length_drop]
  omega
end
end L2
namespace L2
open PySem PySem.Spec PyProof.Rows
def ixN (n:Nat) (i:Int):Option Nat:=if 0≤i then (if i<n then some i.toNat else none) else if -(n:Int)≤i then some (i+n).toNat else none
def atI {α:Type} (xs:List α) (i:Int):Option α:=(ixN xs.length i).bind fun j=>xs[j]?
theorem ixN_seq {n:Nat}{i:Int}{j:Nat} (h:ixN n i=some j):seqIndex? i n=some j∧j<n∧-(n:Int)≤i∧i<n:=by
  unfold ixN at h
  by_cases h0:0≤i
  · rw[if_pos h0] at h
    by_cases h1:i<n
    · rw[if_pos h1] at h
      have e:i.toNat=j:=Option.some.inj h
      exact⟨by rw[seqIndex_of h0 h1,e],by omega,by omega,h1⟩
    · rw[if_neg h1] at h;cases h
  · rw[if_neg h0] at h
    by_cases h1 : -(n:Int)≤i
    · rw[if_pos h1] at h
      have e:(i+n).toNat=j:=Option.some.inj h
      exact⟨by rw[seqIndex_neg (by omega) h1,e],by omega,h1,by omega⟩
    · rw[if_neg h1] at h;cases h
theorem atI_get {α:Type}{xs:List α}{i:Int}{v:α} (h:atI xs i=some v):∃j,seqIndex? i xs.length=some j∧xs[j]?=some v∧j<xs.length∧-(xs.length:Int)≤i∧i<xs.length:=by
  unfold atI at h
  cases e:ixN xs.length i with
  | none=>rw[e] at h;cases h
  | some j =>
    rw[e] at h
    obtain ⟨h1,h2,h3,h4⟩:=ixN_seq e
    exact⟨j,h1,h,h2,h3,h4⟩
def PlainIx (b:Expr):Prop:=∀o i,subscripted b false o i=operate [o,i] (getItem o i)
def IxR (X:Cx) (r:R2):Prop :=
  ∀(value slice:Expr) (pins:List (Addr × Obj)) (s:Shared) (σ:St) (H:Hp) (x y:V) (v u:Value) (Q:VK),Inv X pins σ H s→RelV x v→RelV y u→r x y H Q →
    subscripted slice false v u=operate [v,u] (getItem v u)→wpAny (model X.prog X.w) X.A (subscriptTail value slice v u) (EP X pins σ Q) X.xe s
def MtR (X:Cx) (id:String) (r:V→List V→Hp→VK→Prop):Prop :=
  ∀(pins:List (Addr × Obj)) (s:Shared) (σ:St) (H:Hp) (x:V) (xs:List V) (v:Value) (us:List Value) (Q:VK),Inv X pins σ H s→RelV x v→Vals xs us→r x xs H Q →
    wpAny (model X.prog X.w) X.A (call (.builtin id) (v::us)) (EP X pins σ Q) X.xe s
section
variable {X:Cx}{a b:Expr}{ta tb:TE}{pos:Pos}
theorem pe_ix {r:R2} (hr:IxR X r) (ha:PE X a ta) (hb:PE X b tb) (hs:PlainIx b):PE X (.Subscript a b pos) (tOp r ta tb):=by
  intro pins s σ H Q I h
  exact Subscript_ (binT ha hb I h fun v u s2 x y H2 I2 rx ry q=>hr a b pins s2 σ H2 x y v u Q I2 rx ry q (hs _ _))
def rIxL (K:PySem.W.Frag):R2:=fun x y H Q=>∃p xs i v,x=.ref p∧y=.int i∧SqL K H p xs∧atI xs i=some v∧Q v H
def rIxT (K:PySem.W.Frag):R2:=fun x y H Q=>∃p xs i v,x=.ref p∧y=.int i∧SqT K H p xs∧atI xs i=some v∧Q v H
theorem ix_list:IxR X (rIxL X.K):=by
  intro value slice pins s σ H x y v u Q I rx ry h hs
  obtain ⟨p,xs,i,z,rfl,rfl,hq,he,q⟩:=h
  cases rx
  obtain ⟨t,rfl⟩:=ry
  obtain ⟨its,r,pl,hz⟩:=I.list hq
  obtain ⟨j,h1,h2,h3,h4,h5⟩:=atI_get he
  obtain ⟨w,ew,rw'⟩:=r.get h2
  have hl:=r.length
  have hn:=line63
  have fin:EP X pins σ Q w s:=⟨z,H,I,rw',q⟩
  by_cases h0:0≤i
  · have hj:i.toNat=j:=by
      rw[seqIndex_of h0 h5] at h1
      exact Option.some.inj h1
    exact item_listR pl.isList h0 (by omega) (by rw[hj];simpa using ew) fin hs
  · have hj:(i+(its.toArray.size:Int)).toNat=j:=by
      rw[seqIndex_neg (by omega) h4] at h1
      rw[List.size_toArray,← hl]
      exact Option.some.inj h1
    exact subscriptTail_builtinR (x:=w) pl.isList.typeIs slot_list_getitem.lookup
      (wpAny_getItem_list_neg (Q:=fun r s'=>r=w∧EP X pins σ Q r s') pl.isList (by omega) (by rw[List.size_toArray]<;>omega) (by omega) (by rw[hj];simpa using ew) ⟨rfl,fin⟩) hs
theorem ix_tup:IxR X (rIxT X.K):=by
  intro value slice pins s σ H x y v u Q I rx ry h hs
  obtain ⟨p,xs,i,z,rfl,rfl,hq,he,q⟩:=h
  cases rx
  obtain ⟨t,rfl⟩:=ry
  obtain ⟨its,r,pl,hz⟩:=I.tuple hq
  obtain ⟨j,h1,h2,h3,h4,h5⟩:=atI_get he
  obtain ⟨w,ew,rw'⟩:=r.get h2
  have hl:=r.length
  have hn:=line63
  have fin:EP X pins σ Q w s:=⟨z,H,I,rw',q⟩
  exact subscriptTail_builtinR (x:=w) pl.typeIs slot_tuple_getitem.lookup
    (getItem_tuple (j:=j) (Q:=fun r s'=>r=w∧EP X pins σ Q r s') pl (by omega) (by omega) (by rw[List.size_toArray,← hl];exact h1) (by simpa using ew) ⟨rfl,fin⟩) hs
theorem mapSeq_set (its:List Value) (n j:Nat) (u:Value):Obj.mapSeq (·.setIfInBounds j u) { cls:=.type "list",data:=.seq its.toArray n }={ cls:=.type "list",data:=.seq (its.set j u).toArray n }:=by
  simp [Obj.mapSeq]
theorem Inv.lst {pins:List (Addr × Obj)}{σ:St}{H:Hp}{s:Shared}{p:Addr}{xs:List V} (I:Inv X pins σ H s) (h:H p=some (.lst xs)) :
    ∃(its:List Value) (n:Nat),Vals xs its∧s.heap.get? p=some { cls:=.type "list",data:=.seq its.toArray n }∧xs.length≤sizeLine:=by
  obtain ⟨z,its,n,r,e⟩:=I.hok p _ h
  exact⟨its,n,r,e,z⟩
theorem Inv.lstUpd {pins:List (Addr × Obj)}{σ:St}{H:Hp}{s:Shared}{p:Addr}{xs ys:List V}{its its':List Value}{n n':Nat}{f:Obj→Obj} (I:Inv X pins σ H s) (h:H p=some (.lst xs))
    (ho:s.heap.get? p=some { cls:=.type "list",data:=.seq its.toArray n }) (hf:f { cls:=.type "list",data:=.seq its.toArray n }={ cls:=.type "list",data:=.seq its'.toArray n' }) (r:Vals ys its') (hz:ys.length≤sizeLine) (t:Nat) :
    Inv X pins σ (upd H p (.lst ys)) { s with heap:=s.heap.update p f,toks:=t }:=by
  have e:(s.heap.update p f).get? p=some { cls:=.type "list",data:=.seq its'.toArray n' }:=by
    rw[Heap.get?_update_self f ho (by rw[hf]<;>rfl),hf]
  refine I.write (x:=p) (e:=p) (by rw[h];trivial) (.inl rfl) (fun b u hb q=>(Heap.get?_update_other _ _ (Ne.symm hb)).trans q) ⟨_,e⟩ ?_
  exact⟨hz,its',n',r,e⟩
def rSetL:V→V→V→Hp→(Hp→Prop)→Prop:=fun o i v H Q=>∃p xs k j,o=.ref p∧i=.int k∧H p=some (.lst xs)∧ixN xs.length k=some j∧Q (upd H p (.lst (xs.set j v)))
theorem set_list:PSet X rSetL:=by
  intro pins s σ H o i v ov iv u Q I ro ri rv h
  obtain ⟨p,xs,k,j,rfl,rfl,hp,hj,q⟩:=h
  cases ro
  obtain ⟨t,rfl⟩:=ri
  obtain ⟨its,n,r,ho,hz⟩:=I.lst hp
  obtain ⟨h1,h2,h3,h4⟩:=ixN_seq hj
  have hl:=r.length
  have hn:=line63
  have I':Inv X pins σ (upd H p (.lst (xs.set j v))) { s with heap:=s.heap.update p (Obj.mapSeq (·.setIfInBounds j u)) } :=
    I.lstUpd hp ho (mapSeq_set its n j u) (r.set rv j) (by rw[List.length_set];exact hz) s.toks
  by_cases h0:0≤k
  · have hk:k.toNat=j:=by
      rw[seqIndex_of h0 h4] at h1
      exact Option.some.inj h1
    exact PySem.W.ki_setAt ho h0 (by omega) (by rw[List.size_toArray,← hl];exact h4) (by rw[hk];exact⟨_,I',q⟩)
  · have hk:(k+(its.toArray.size:Int)).toNat=j:=by
      rw[seqIndex_neg (by omega) h3] at h1
      rw[List.size_toArray,← hl]
      exact Option.some.inj h1
    exact PySem.W.ki_setBack ho (by omega) (by rw[List.size_toArray,← hl];exact h3) (by omega) (by rw[hk];exact⟨_,I',q⟩)
theorem slice_bounds (lo hi:Option Int) (n:Nat):(sliceBounds lo hi none n).1=((HT.sIx n 0 lo:Nat):Int)∧(sliceBounds lo hi none n).2.1=((HT.sIx n n hi:Nat):Int)∧(sliceBounds lo hi none n).2.2=1:=by
  refine⟨?_,?_,rfl⟩
  · cases lo with
    | none=>simp [sliceBounds,HT.sIx]
    | some i =>
      simp only[sliceBounds,HT.sIx,Option.getD_none,show (1:Int)>0 by decide,if_true]
      by_cases h:i<0
      · simp only[h,if_true]<;>omega
      · simp only[h,if_false]<;>omega
  · cases hi with
    | none=>simp [sliceBounds,HT.sIx]
    | some i =>
      simp only[sliceBounds,HT.sIx,Option.getD_none,show (1:Int)>0 by decide,if_true]
      by_cases h:i<0
      · simp only[h,if_true]<;>omega
      · simp only[h,if_false]<;>omega
theorem slicePick_cut (its:List Value) (lo hi:Option Int):slicePick its.toArray lo hi none=((its.drop (HT.sIx its.length 0 lo)).take (HT.sIx its.length its.length hi - HT.sIx its.length 0 lo)).toArray:=by
  obtain ⟨h1,h2,h3⟩:=slice_bounds lo hi its.toArray.size
  unfold slicePick
  rw[h1,h2,h3]
  simp only[sliceRange_one,pick_run,List.size_toArray]<;>rfl
def rSlL (K:PySem.W.Frag):V→Option Int→Option Int→Hp→VK→Prop:=fun x lo hi H Q=>∃a xs,x=.ref a∧SqL K H a xs∧∀p,H p=none→Q (.ref p) (upd H p (.lst (cutV xs lo hi)))
theorem sl_list:SlR X (rSlL X.K):=by
  intro pins s σ H x v vl vu lo hi sl Q I rx hs pl pu h
  obtain ⟨a,xs,rfl,hx,q⟩:=h
  cases rx
  obtain ⟨its,r,ht,hz⟩:=I.list hx
  have hlen:=r.length
  refine⟨"list",_,slot_list_getitem.lookup,ht.isList.typeIs,?_⟩
  refine wpAny_getItem_list_slice ht.isList hs pl pu .none (by simp) ?_ (by rw[List.size_toArray]<;>omega)
  rw[slicePick_cut,← hlen]
  refine⟨.ref s.heap.objs.size,_,I.laid (t':=s.toks) (o:=.lst (cutV xs lo hi)) (fun b ob q=>Heap.get?_push_of_some _ q) (Nat.le_refl _) ?_,rfl,q _ (I.hok.fresh (Nat.le_refl _))⟩
  exact⟨Nat.le_trans (cutV_length xs lo hi) hz,_,0,(r.drop (HT.sIx xs.length 0 lo)).take (HT.sIx xs.length xs.length hi - HT.sIx xs.length 0 lo),Heap.get?_push_size _ rfl⟩
def flatV:V→Bool
  | .non=>true
  | .bl _=>true
  | .int _=>true
  | .str _=>true
  | _=>false
def eqV:V→V→Bool
  | .non,.non=>true
  | .bl a,.bl b=>a == b
  | .bl a,.int b=>(if a then 1 else 0) == b
  | .int a,.bl b=>a == (if b then 1 else 0)
  | .int a,.int b=>a == b
  | .str a,.str b=>a == b
  | _,_=>false
theorem eqAt_V {A:Around}{s:Shared}{y x:V}{u v:Value} (ry:RelV y u) (rx:RelV x v) (fy:flatV y=true) (fx:flatV x=true):SeqAt.EqAt A s u v (eqV y x):=by
  cases y with
  | non =>
    cases ry
    cases x with
    | non=>cases rx;exact SeqAt.EqAt.same _
    | bl b=>cases rx;exact SeqAt.EqAt.none_bool b
    | int b=>obtain ⟨t,rfl⟩:=rx;exact SeqAt.EqAt.none_int b t
    | str b=>obtain ⟨t,rfl⟩:=rx;exact SeqAt.EqAt.none_str b t
    | _=>exact absurd (show false=true from fx) Bool.false_ne_true
  | bl a =>
    cases ry
    cases x with
    | non=>cases rx;exact SeqAt.EqAt.bool_none a
    | bl b=>cases rx;exact SeqAt.EqAt.bool_bool a b
    | int b=>obtain ⟨t,rfl⟩:=rx;exact SeqAt.EqAt.bool_int a b t
    | str b=>obtain ⟨t,rfl⟩:=rx;exact SeqAt.EqAt.bool_str a b t
    | _=>exact absurd (show false=true from fx) Bool.false_ne_true
  | int a =>
    obtain ⟨t',rfl⟩:=ry
    cases x with
    | non=>cases rx;exact SeqAt.EqAt.int_none a t'
    | bl b=>cases rx;exact SeqAt.EqAt.int_bool a t' b
    | int b=>obtain ⟨t,rfl⟩:=rx;exact SeqAt.EqAt.int_int a t' b t
    | str b=>obtain ⟨t,rfl⟩:=rx;exact SeqAt.EqAt.int_str a t' b t
    | _=>exact absurd (show false=true from fx) Bool.false_ne_true
  | str a =>
    obtain ⟨t',rfl⟩:=ry
    cases x with
    | non=>cases rx;exact SeqAt.EqAt.str_none a t'
    | bl b=>cases rx;exact SeqAt.EqAt.str_bool a t' b
    | int b=>obtain ⟨t,rfl⟩:=rx;exact SeqAt.EqAt.str_int a t' b t
    | str b=>obtain ⟨t,rfl⟩:=rx;exact SeqAt.EqAt.str_str a t' b t
    | _=>exact absurd (show false=true from fx) Bool.false_ne_true
  | _=>exact absurd (show false=true from fy) Bool.false_ne_true
def eqU (x:V) (u:Value):Bool:=match u with
  | .none=>eqV .non x
  | .bool b=>eqV (.bl b) x
  | .int i _=>eqV (.int i) x
  | .str z _=>eqV (.str z) x
  | _=>false
theorem eqU_of {x y:V}{u:Value} (r:RelV y u) (f:flatV y=true):eqU x u=eqV y x:=by
  cases y with
  | non=>cases r;rfl
  | bl b=>cases r;rfl
  | int i=>obtain ⟨t,rfl⟩:=r;rfl
  | str z=>obtain ⟨t,rfl⟩:=r;rfl
  | _=>exact absurd (show false=true from f) Bool.false_ne_true
theorem any_eqU {x:V}:∀{xs:List V}{us:List Value},Vals xs us→xs.all flatV=true→us.any (eqU x)=xs.any fun y=>eqV y x
  | _,_,.nil,_=>rfl
  | y::xs,u::us,.cons r t,f=>by
    rw[List.all_cons,Bool.and_eq_true] at f
    rw[List.any_cons,List.any_cons,eqU_of r f.1,any_eqU t f.2]
theorem mem_eqAt {A:Around}{s:Shared}{x:V}{v:Value} (rx:RelV x v) (fx:flatV x=true):∀{xs:List V}{us:List Value},Vals xs us→xs.all flatV=true→∀u∈us,SeqAt.EqAt A s u v (eqU x u)
  | _,_,.nil,_=>fun u hu=>by cases hu
  | y::xs,u::us,.cons r t,f=>fun u' hu=>by
    rw[List.all_cons,Bool.and_eq_true] at f
    rcases List.mem_cons.mp hu with rfl | hu
    · rw[eqU_of r f.1];exact eqAt_V r rx f.1 fx
    · exact mem_eqAt rx fx t f.2 u' hu
def inV (x:V) (xs:List V):Bool:=xs.any fun y=>eqV y x
def rIn (K:PySem.W.Frag) (neg:Bool):R2:=fun x y H Q=>∃p xs,y=.ref p∧(SqL K H p xs∨SqT K H p xs)∧flatV x=true∧xs.all flatV=true∧Q (.bl (if neg then !inV x xs else inV x xs)) H
theorem op_in_seq:OpR X (compareOp .In) (rIn X.K false):=by
  intro pins s σ H x y v u Q I rx ry h
  obtain ⟨p,xs,rfl,hq,fx,fs,q⟩:=h
  cases ry
  rcases hq with hq | hq
  · obtain ⟨its,r,pl,hz⟩:=I.list hq
    refine SeqAt.in_listAt (eqU x) pl.isList (fun w hw=>mem_eqAt rx fx r fs w (by simpa using hw)) ⟨.bl _,H,I,rfl,?_⟩
    rw[show its.toArray.any (eqU x)=its.any (eqU x) by simp,any_eqU r fs]
    exact q
  · obtain ⟨its,r,pl,hz⟩:=I.tuple hq
    refine SeqAt.in_tupleAt (eqU x) pl (fun w hw=>mem_eqAt rx fx r fs w (by simpa using hw)) ⟨.bl _,H,I,rfl,?_⟩
    rw[show its.toArray.any (eqU x)=its.any (eqU x) by simp,any_eqU r fs]
    exact q
theorem op_notIn_seq:OpR X (compareOp .NotIn) (rIn X.K true):=by
  intro pins s σ H x y v u Q I rx ry h
  obtain ⟨p,xs,rfl,hq,fx,fs,q⟩:=h
  cases ry
  rcases hq with hq | hq
  · obtain ⟨its,r,pl,hz⟩:=I.list hq
    refine SeqAt.notIn_listAt (eqU x) pl.isList (fun w hw=>mem_eqAt rx fx r fs w (by simpa using hw)) ⟨.bl _,H,I,rfl,?_⟩
    rw[show its.toArray.any (eqU x)=its.any (eqU x) by simp,any_eqU r fs]
    exact q
  · obtain ⟨its,r,pl,hz⟩:=I.tuple hq
    refine SeqAt.notIn_tupleAt (eqU x) pl (fun w hw=>mem_eqAt rx fx r fs w (by simpa using hw)) ⟨.bl _,H,I,rfl,?_⟩
    rw[show its.toArray.any (eqU x)=its.any (eqU x) by simp,any_eqU r fs]
    exact q
theorem call_len_seq:CallR X (.builtin "len") (fun xs H Q=>∃p ys,xs=[.ref p]∧(SqL X.K H p ys∨SqT X.K H p ys)∧Q (.int ys.length) H):=by
  intro pins s σ H xs us Q I r h
  obtain ⟨p,ys,rfl,hq,q⟩:=h
  obtain ⟨u,rfl,rx⟩:=vals1 r
  cases rx
  have hn:=line63
  rcases hq with hq | hq
  · obtain ⟨its,r',pl,hz⟩:=I.list hq
    have hlen:=r'.length
    exact Calls.call_len_list pl.isList (by simp only[List.size_toArray]<;>omega) ⟨.int ys.length,H,I.tok _,⟨s.toks+1,by rw[List.size_toArray,hlen]⟩,q⟩
  · obtain ⟨its,r',pl,hz⟩:=I.tuple hq
    have hlen:=r'.length
    exact len_tuple pl (by simp only[List.size_toArray]<;>omega) ⟨.int ys.length,H,I.tok _,⟨s.toks+1,by rw[List.size_toArray,hlen]⟩,q⟩
theorem call_list_of:CallR X (.type "list") (fun xs H Q=>∃p ys,xs=[.ref p]∧(SqL X.K H p ys∨SqT X.K H p ys)∧∀l,H l=none→Q (.ref l) (upd H l (.lst ys))):=by
  intro pins s σ H xs us Q I r h
  obtain ⟨p,ys,rfl,hq,q⟩:=h
  obtain ⟨u,rfl,rx⟩:=vals1 r
  cases rx
  have fin:∀(its:List Value),Vals ys its→ys.length≤sizeLine→∀(h':Heap) (c':Nat),(∀b o',s.heap.get? b=some o'→h'.get? b=some o') →
      h'.get? s.heap.objs.size=some { cls:=.type "list",dict:=none,data:=.seq its.toArray c',slots:=#[] }→EP X pins σ Q (.ref s.heap.objs.size) { s with heap:=h' }:=fun its r' hz h' c' kp e =>
    ⟨.ref s.heap.objs.size,_,I.laid (t':=s.toks) kp (Nat.le_refl _) (show ObjOk X.prog X.w _ h' _ (.lst ys) from ⟨hz,its,c',r',e⟩),rfl,q _ (I.hok.fresh (Nat.le_refl _))⟩
  rcases hq with hq | hq
  · obtain ⟨its,r',pl,hz⟩:=I.list hq
    have hlen:=r'.length
    obtain ⟨o,ho,hc,n,hd⟩:=pl.isList
    exact call_list_seq p (.inl rfl) ho hc hd (fun h' c' kp e=>fin its r' hz h' c' kp e) (by simp only[List.size_toArray]<;>omega)
  · obtain ⟨its,r',pl,hz⟩:=I.tuple hq
    have hlen:=r'.length
    obtain ⟨o,ho,hc,n,hd⟩:=pl
    exact call_list_seq p (.inr rfl) ho hc hd (fun h' c' kp e=>fin its r' hz h' c' kp e) (by simp only[List.size_toArray]<;>omega)
def tyV (K:PySem.W.Frag) (T:String) (x:V) (H:Hp):Prop:=match x with
  | .str _=>T = "str"
  | .int _=>T = "int"
  | .ref p=>(T = "list"∧∃xs,SqL K H p xs)∨(T = "tuple"∧∃o,K.lookup p=some o∧o.cls=.type "tuple"∧o.dict=none) ∨
      (T = "dict"∧((∃kvs,H p=some (.dK kvs))∨∃kvs,H p=some (.dT kvs)))∨(T = "set"∧∃S n,H p=some (.set S n))
  | _=>False
theorem tyV_is {pins:List (Addr × Obj)}{σ:St}{H:Hp}{s:Shared}{T:String}{x:V}{v:Value} (I:Inv X pins σ H s) (r:RelV x v) (ty:tyV X.K T x H) :
    s.TypeIs v T∧∀a,v=.ref a→∃ob,s.heap.get? a=some ob∧ob.dict=none:=by
  cases x with
  | str z =>
    obtain ⟨t,rfl⟩:=r
    cases (show T = "str" from ty)
    exact⟨typeIs_str s z t,fun _ e=>nomatch e⟩
  | int i =>
    obtain ⟨t,rfl⟩:=r
    cases (show T = "int" from ty)
    exact⟨typeIs_int s i t,fun _ e=>nomatch e⟩
  | ref p =>
    cases r
    rcases ty with ⟨rfl,xs,hq⟩ | ⟨rfl,o,hk,hc,hd⟩ | ⟨rfl,hk⟩ | ⟨rfl,S,n,hk⟩
    · obtain ⟨its,_,pl,_⟩:=I.list hq
      refine⟨pl.isList.typeIs,fun a e=>?_⟩
      cases e
      obtain ⟨o,n,e,c,hd,_⟩:=pl
      exact⟨o,e,hd⟩
    · refine⟨⟨o,I.kIn p o hk,hc⟩,fun a e=>?_⟩
      cases e
      exact⟨o,I.kIn _ o hk,hd⟩
    · have z:∃o,s.heap.get? p=some o∧o.ExactDict:=by
        rcases hk with ⟨kvs,hk⟩ | ⟨kvs,hk⟩
        · obtain ⟨_,_,_,_,o,_,_,e,ex,_⟩:=I.hok p _ hk
          exact⟨o,e,ex⟩
        · obtain ⟨_,_,_,_,o,_,_,e,ex,_⟩:=I.hok p _ hk
          exact⟨o,e,ex⟩
      obtain ⟨o,e,ex⟩:=z
      refine⟨⟨o,e,ex.1⟩,fun a e2=>?_⟩
      cases e2
      exact⟨o,e,ex.2.1⟩
    · obtain ⟨o,_,_,_,e,ex,_⟩:=I.hok p _ hk
      refine⟨⟨o,e,ex.1⟩,fun a e2=>?_⟩
      cases e2
      exact⟨o,e,ex.2.1⟩
  | _=>exact False.elim ty
def tBM0 (K:PySem.W.Frag) (T:String) (r:V→List V→Hp→VK→Prop) (to:TE):TE:=fun σ H Q=>to σ H fun x H1=>tyV K T x H1∧r x [] H1 Q
def tBM (K:PySem.W.Frag) (T:String) (r:V→List V→Hp→VK→Prop) (to:TE) (t:TA):TE:=fun σ H Q=>to σ H fun x H1=>tyV K T x H1∧t σ H1 fun xs H2=>r x xs H2 Q
variable {o e:Expr}{es:List Expr}{to:TE}{t:TA}{name:Str}{apos cpos:Pos}{T id:String}{r:V→List V→Hp→VK→Prop}
theorem pe_bm0 (pa:PlainAttrs T) (slot:Slot T name id) (hty:typeOf (.builtin id)=pure (.type "method_descriptor")) (hm:MtR X id r) (ho:PE X o to)
    (hbase:attributeBase o name X.env (eval o X.env)=eval o X.env:=by rfl) (hline:(apos.endLine == cpos.line)=true:=by rfl):PE X (.Call (.Attribute o name apos) [] [] cpos) (tBM0 X.K T r to):=by
  intro pins s σ H Q I h
  refine wpAny_Call_method0_late hbase hline (thn (ho pins s σ H _ I h) fun v s1 ⟨x,H1,I1,r1,ty,q1⟩=>?_)
  obtain ⟨h1,h2⟩:=tyV_is I1 r1 ty
  exact⟨T,id,pa,slot,hty,h1,h2,Calls.callWith_builtin rfl (PySem.evalArgs_none (hm pins s1 σ H1 x [] v [] Q I1 r1 .nil q1))⟩
theorem pe_bm (pa:PlainAttrs T) (slot:Slot T name id) (hty:typeOf (.builtin id)=pure (.type "method_descriptor")) (hm:MtR X id r) (ho:PE X o to) (ha:PA X (e::es) t)
    (hbase:attributeBase o name X.env (eval o X.env)=eval o X.env:=by rfl)
    (hfew:((backTo cpos (starEach (e::es) X.env)).all (fun x=>!x.1) && (backToKw cpos (keywordEach [] X.env)).all (fun x=>x.1.isSome)
      && decide ((e::es).length+([]:List Keyword).length+(if ([]:List Keyword).isEmpty then 0 else 1)<30))=true:=by rfl)
    (hline:(apos.endLine == cpos.line)=true:=by rfl) (hs:starEach (e::es) X.env=(false,eval e X.env)::starEach es X.env:=by rfl) (hplain:(backTo cpos (starEach es X.env)).any (·.1)=false:=by rfl) :
    PE X (.Call (.Attribute o name apos) (e::es) [] cpos) (tBM X.K T r to t):=by
  intro pins s σ H Q I h
  refine wpAny_Call_method_late hbase hfew hline rfl (thn (ho pins s σ H _ I h) fun v s1 ⟨x,H1,I1,r1,ty,q1⟩=>?_)
  obtain ⟨h1,h2⟩:=tyV_is I1 r1 ty
  refine⟨T,id,pa,slot,hty,h1,h2,?_⟩
  have hA:=ha cpos pins s1 σ H1 _ I1 q1
  rw[hs] at hA ⊢
  refine Calls.callWith_builtin (by show (false || (backTo cpos (starEach es X.env)).any (·.1))=false;rw[hplain]<;>rfl) (Calls.evalArgs_plain ?_)
  exact thn hA fun us s2 ⟨vs,H2,I2,r2,q2⟩=>hm pins s2 σ H2 x vs v us Q I2 r1 r2 q2
/- xs.append(e),list.index on a module's tuple .. are MtR facts of 06m -/
end
end L2
namespace L2
open PySem PySem.Spec PyProof.Rows
def MtM (X:Cx) (id:String) (r:V→List V→Hp→VK→Prop):Prop :=
  ∀(pins:List (Addr × Obj)) (s:Shared) (σ:St) (H:Hp) (x:V) (xs:List V) (v:Value) (us:List Value) (Q:VK),Inv X pins σ H s→RelV x v→Vals xs us→r x xs H Q →
    wpAny (model X.prog X.w) X.A (call (.builtin id) (v::us)) (EP X pins σ Q) X.xe s
theorem Vals.one:∀{x:V}{us:List Value},Vals [x] us→∃u,us=[u]∧RelV x u
  | _,_,.cons r .nil=>⟨_,rfl,r⟩
theorem Vals.zero:∀{us:List Value},Vals [] us→us=[]
  | _,.nil=>rfl
theorem Vals.dropLast {xs:List V}{us:List Value} (h:Vals xs us):Vals xs.dropLast us.dropLast:=by
  induction h with
  | nil=>exact .nil
  | cons r t ih =>
    cases t with
    | nil=>exact .nil
    | cons q t'=>exact .cons r ih
theorem Vals.eraseIdx:∀{xs:List V}{us:List Value} (i:Nat),Vals xs us→Vals (xs.eraseIdx i) (us.eraseIdx i)
  | _,_,_,.nil=>.nil
  | _,_,0,.cons _ t=>t
  | _,_,i+1,.cons r t=>.cons r (Vals.eraseIdx i t)
theorem Vals.reverse {xs:List V}{us:List Value} (h:Vals xs us):Vals xs.reverse us.reverse:=by
  induction h with
  | nil=>exact .nil
  | cons r t ih=>rw[List.reverse_cons,List.reverse_cons];exact Vals.append ih (.cons r .nil)
theorem Vals.rep {xs:List V}{us:List Value} (h:Vals xs us):∀k:Nat,Vals (List.replicate k xs).flatten (List.replicate k us).flatten
  | 0=>.nil
  | k+1=>by
    rw[List.replicate_succ,List.replicate_succ,List.flatten_cons,List.flatten_cons]
    exact Vals.append h (Vals.rep h k)
theorem erase_last {α:Type} (l:List α):l.eraseIdx (l.length - 1)=l.dropLast:=by
  induction l with
  | nil=>rfl
  | cons a r ih =>
    cases r with
    | nil=>rfl
    | cons b r =>
      have e:(a::b::r).length - 1=((b::r).length - 1)+1:=by
        have h1:(a::b::r).length=r.length+2:=rfl
        have h2:(b::r).length=r.length+1:=rfl
        omega
      rw[e,List.eraseIdx_cons_succ,ih]
      all_goals rfl
theorem foldl_rep (its:List Value):∀(k:Nat) (acc:List Value),
    List.foldl (fun x1 x2=>x1++x2) acc.toArray (List.replicate k its.toArray)=(acc++(List.replicate k its).flatten).toArray
  | 0,acc=>by simp
  | k+1,acc=>by
    have e:acc.toArray++its.toArray=(acc++its).toArray:=by simp
    have e2:(acc++its)++(List.replicate k its).flatten=acc++(List.replicate (k+1) its).flatten:=by
      rw[List.replicate_succ,List.flatten_cons,List.append_assoc]
    rw[← e2,← foldl_rep its k (acc++its),← e,List.replicate_succ,List.foldl_cons]
section
variable {X:Cx}{pins:List (Addr × Obj)}{σ:St}{H:Hp}{s:Shared}{l b:Addr}{xs ys zs:List V}
theorem Inv.lset {its its':List Value}{n:Nat}{f:Array Value→Array Value}{t':Nat} (I:Inv X pins σ H s) (hH:H l=some (.lst xs))
    (e:s.heap.get? l=some { cls:=.type "list",data:=.seq its.toArray n }) (hf:f its.toArray=its'.toArray) (hv:Vals ys its') (hz:ys.length≤sizeLine) :
    Inv X pins σ (upd H l (.lst ys)) { s with heap:=s.heap.update l (Obj.mapSeq f),toks:=t' }:=by
  have q:=PySem.IsL.update e f
  rw[hf] at q
  refine I.write (x:=l) (e:=l) (by rw[hH];exact trivial) (.inl rfl) (fun b' u hb hu=>(Heap.get?_update_other s.heap (Obj.mapSeq f) (Ne.symm hb)).trans hu) ⟨_,q⟩ ?_
  exact⟨hz,its',_,hv,q⟩
theorem Inv.lnew {its:List Value}{t':Nat} (I:Inv X pins σ H s) (hv:Vals ys its) (hz:ys.length≤sizeLine) :
    Inv X pins σ (upd H s.heap.objs.size (.lst ys)) { s with heap:=s.heap.push { cls:=.type "list",data:=.seq its.toArray },toks:=t' } :=
  I.laid (fun _ _ q=>Heap.get?_push_of_some _ q) (Nat.le_refl _) ⟨hz,its,0,hv,Heap.get?_push_size _ rfl⟩
theorem Inv.fresh (I:Inv X pins σ H s):H s.heap.objs.size=none:=I.hok.fresh (Nat.le_refl _)
theorem Inv.lstM (I:Inv X pins σ H s) (hH:H l=some (.lst xs)):xs.length≤sizeLine∧∃(its:List Value) (n:Nat),Vals xs its∧xs.length=its.length∧s.heap.get? l=some { cls:=.type "list",data:=.seq its.toArray n }:=by
  obtain ⟨z,its,n,r,e⟩:=I.hok l _ hH
  exact⟨z,its,n,r,r.length,e⟩
theorem notLongL {n:Nat} (h:n≤sizeLine):Builtin.List.listTooLong n=false:=by
  unfold Builtin.List.listTooLong
  exact decide_eq_false (by omega)
end
section
variable {X:Cx}
def rAppend:V→List V→Hp→VK→Prop:=fun x vs H Q=>∃l xs y,x=.ref l∧vs=[y]∧H l=some (.lst xs)∧xs.length<sizeLine∧Q .non (upd H l (.lst (xs++[y])))
theorem mt_append:MtM X "list.append" rAppend:=by
  intro pins s σ H x vs v us Q I rx rv h
  obtain ⟨l,xs,y,rfl,rfl,hH,hz,q⟩:=h
  cases rx
  obtain ⟨u,rfl,ru⟩:=rv.one
  obtain ⟨z,its,n,r,hl,e⟩:=I.lstM hH
  refine call_meets F.slot_list_append ⟨_,e,rfl⟩ F.entry_list_append (F.args_list_append_2 _ _) (PySem.list_append l its.toArray n u (by rw[List.size_toArray];omega)) ⟨e,?_⟩
  refine⟨.non,_,I.lset (its':=its++[u]) hH e (by simp) (r.append (.cons ru .nil)) ?_,rfl,q⟩
  rw[List.length_append,List.length_singleton]
  omega
def rExtend:V→List V→Hp→VK→Prop:=fun x vs H Q=>∃l b xs zs,x=.ref l∧vs=[.ref b]∧H l=some (.lst xs)∧H b=some (.lst zs)∧xs.length+zs.length≤sizeLine∧Q .non (upd H l (.lst (xs++zs)))
theorem mt_extend:MtM X "list.extend" rExtend:=by
  intro pins s σ H x vs v us Q I rx rv h
  obtain ⟨l,b,xs,zs,rfl,rfl,hH,hB,hz,q⟩:=h
  cases rx
  obtain ⟨u,rfl,ru⟩:=rv.one
  cases ru
  obtain ⟨z,its,n,r,hl,e⟩:=I.lstM hH
  obtain ⟨z2,its2,n2,r2,hl2,e2⟩:=I.lstM hB
  have hsz:its.toArray.size+its2.toArray.size≤sizeLine:=by rw[List.size_toArray,List.size_toArray];omega
  have hlong:¬ (!its.toArray.isEmpty && Builtin.List.listTooLong (its.toArray.size+its2.toArray.size))=true:=by
    rw[notLongL hsz,Bool.and_false]
    exact Bool.false_ne_true
  refine call_meets F.slot_list_extend ⟨_,e,rfl⟩ F.entry_list_extend (F.args_list_extend_2 _ _)
    (AutoSeq1.list_extend_list_list_0 l its.toArray n b its2.toArray n2 hlong (by rw[List.size_toArray];omega) (by omega)) ⟨e,e2,?_⟩
  refine⟨.non,_,I.lset (its':=its++its2) hH e (by simp) (r.append r2) ?_,rfl,q⟩
  rw[List.length_append]
  omega
def rPop:V→List V→Hp→VK→Prop:=fun x vs H Q=>∃l xs y,x=.ref l∧vs=[]∧H l=some (.lst xs)∧xs[xs.length - 1]?=some y∧Q y (upd H l (.lst xs.dropLast))
theorem mt_pop:MtM X "list.pop" rPop:=by
  intro pins s σ H x vs v us Q I rx rv h
  obtain ⟨l,xs,y,rfl,rfl,hH,hy,q⟩:=h
  cases rx
  have hus:=rv.zero
  subst hus
  obtain ⟨z,its,n,r,hl,e⟩:=I.lstM hH
  obtain ⟨u,hu,ru⟩:=r.get hy
  have hy':its.toArray[its.toArray.size - 1]?=some u:=by
    show its.toArray[its.length - 1]?=some u
    rw[← Array.getElem?_toList,← hl]
    exact hu
  refine call_meets F.slot_list_pop ⟨_,e,rfl⟩ F.entry_list_pop (F.args_list_pop_1 _) (MeetsSeq.list_pop_last l its.toArray n u hy' (by rw[List.size_toArray];omega)) ⟨e,?_⟩
  refine⟨y,_,I.lset (its':=its.dropLast) hH e ?_ r.dropLast ?_,ru,q⟩
  · show its.toArray.eraseIdxIfInBounds (its.toArray.size - 1)=its.dropLast.toArray
    rw[List.size_toArray,List.eraseIdxIfInBounds_toArray,erase_last]
  · rw[List.length_dropLast]
    omega
def rClear:V→List V→Hp→VK→Prop:=fun x vs H Q=>∃l xs,x=.ref l∧vs=[]∧H l=some (.lst xs)∧Q .non (upd H l (.lst []))
theorem mt_clear:MtM X "list.clear" rClear:=by
  intro pins s σ H x vs v us Q I rx rv h
  obtain ⟨l,xs,rfl,rfl,hH,q⟩:=h
  cases rx
  have hus:=rv.zero
  subst hus
  obtain ⟨z,its,n,r,hl,e⟩:=I.lstM hH
  refine call_meets F.slot_list_clear ⟨_,e,rfl⟩ F.entry_list_clear (F.args_list_clear_1 _) (AutoSeq1.list_clear_list_0 l its.toArray n (by rw[List.size_toArray];omega)) ⟨e,?_⟩
  exact⟨.non,_,I.lset (its':=[]) (ys:=[]) hH e rfl .nil (Nat.zero_le _),rfl,q⟩
def rCat:R2:=fun x y H Q=>∃l b xs zs,x=.ref l∧y=.ref b∧H l=some (.lst xs)∧H b=some (.lst zs)∧xs.length+zs.length≤sizeLine∧∀p,H p=none→Q (.ref p) (upd H p (.lst (xs++zs)))
theorem op_cat:OpR X (binaryOp .Add) rCat:=by
  intro pins s σ H x y v u Q I rx ry h
  obtain ⟨l,b,xs,zs,rfl,rfl,hH,hB,hz,q⟩:=h
  cases rx
  cases ry
  obtain ⟨z,its,n,r,hl,e⟩:=I.lstM hH
  obtain ⟨z2,its2,n2,r2,hl2,e2⟩:=I.lstM hB
  refine PySem.P.add_list e e2 ?_ (by rw[List.size_toArray,List.size_toArray];omega)
  have ea:its.toArray++its2.toArray=(its++its2).toArray:=by simp
  rw[ea]
  exact⟨.ref _,_,I.lnew (t':=s.toks) (r.append r2) (by rw[List.length_append];omega),rfl,q _ I.fresh⟩
def rRep:R2:=fun x y H Q=>∃l k xs,x=.ref l∧y=.int k∧H l=some (.lst xs)∧-(2 ^ 63)≤k∧k<2 ^ 63∧xs.length*k.toNat≤sizeLine ∧
  ∀p,H p=none→Q (.ref p) (upd H p (.lst (List.replicate k.toNat xs).flatten))
theorem len_rep {α:Type} (xs:List α) (k:Nat):(List.replicate k xs).flatten.length=k*xs.length:=by
  induction k with
  | zero=>simp
  | succ k ih=>rw[List.replicate_succ,List.flatten_cons,List.length_append,ih,Nat.succ_mul,Nat.add_comm]
theorem op_rep:OpR X (binaryOp .Mult) rRep:=by
  intro pins s σ H x y v u Q I rx ry h
  obtain ⟨l,k,xs,rfl,rfl,hH,h1,h2,hz,q⟩:=h
  cases rx
  obtain ⟨t,rfl⟩:=ry
  obtain ⟨z,its,n,r,hl,e⟩:=I.lstM hH
  have hlen:its.toArray.size*k.toNat≤sizeLine:=by rw[List.size_toArray,← hl];exact hz
  have hcap:¬ its.toArray.size*k.toNat>(2 ^ 63 - 1) / 8:=by
    have:(sizeLine:Nat)≤(2 ^ 63 - 1) / 8:=by decide
    omega
  have hfit:¬ (!Builtin.List.listFitsIndex k)=true:=by
    rw[fitsIndex_both h1 h2]
    exact Bool.false_ne_true
  have hlong:¬ Builtin.List.listTooLong (its.toArray.size*k.toNat)=true:=by
    rw[notLongL hlen]
    exact Bool.false_ne_true
  have hnew:List.foldl (fun x1 x2=>x1++x2) #[] (List.replicate (if its.toArray.isEmpty=true then 0 else k.toNat) its.toArray)=(List.replicate k.toNat its).flatten.toArray:=by
    have f0:∀m:Nat,List.foldl (fun x1 x2=>x1++x2) #[] (List.replicate m its.toArray)=(List.replicate m its).flatten.toArray:=fun m=>by
      have:=foldl_rep its m []
      rw[List.nil_append] at this
      exact this
    rw[f0]
    cases its with
    | nil=>simp
    | cons a r'=>rw[if_neg (by simp)]
  refine wpAny_binaryOp_repeat_ref (T:="list") (U:="int") (by decide) ⟨_,e,rfl⟩ (fun s'=>typeIs_int s' k t) noFill_list_mul F.fills_int_mul F.slot_int_rmul repeat_list F.slot_int_index.lookup
    (call_meets F.slot_int_rmul (typeIs_int s k t) F.entry_int_rmul (F.args_int_rmul_2 _ _) (int___rmul___int_list k t l its.toArray n)
      ⟨e,rfl,⟨_,e,rfl⟩,call_meets F.slot_list_mul ⟨_,e,rfl⟩ F.entry_list_mul (F.args_list_mul_2 _ _) (AutoListH.list___mul___list_int_3 l its.toArray n k t hfit hcap hlong) ⟨e,?_⟩⟩)
  rw[hnew]
  exact⟨.ref _,_,I.lnew (t':=s.toks) (r.rep k.toNat) (by rw[len_rep,Nat.mul_comm];exact hz),rfl,q _ I.fresh⟩
end
section
variable {prog:Program}{w:World}{A:Around}{E:Value→Shared→Prop}{s:Shared}
end
section
variable {X:Cx}
end
end L2
namespace Att
open PySem PySem.W PySem.Calls PyProof.Rows
theorem ints_of_wellAll {P:Params}{h:Heap}:∀(ns:List Int) (vs:List Value),WellAll P h vs (ns.map WData.int)→IntsAre vs ns:=by
  intro ns
  induction ns with
  | nil =>
    intro vs w
    rw[List.map_nil] at w
    cases w
    exact .nil
  | cons n ns ih =>
    intro vs w
    rw[List.map_cons] at w
    cases w with
    | cons a b =>
      cases a
      exact .cons _ _ (ih _ b)
theorem script_of {l:OpenLaw}{n:Nat} (hn:l.most=some n) {P:Params}{h:Heap}{args:List WData}{vals:List Value}
    (hpre:l.row.toRowW.claim.pre args=true) (hwl:WellAll P h vals args) :
    ∃a vs ns,vals=[Value.ref a]∧args=[WData.list (ns.map WData.int)]∧h.get? a=some { cls:=.type "list",data:=.seq vs.toArray }∧IntsAre vs ns∧ns.length≤n:=by
  have hsh:WShape.hasAll [] args [.list .int]=true:=(pre_splitW hpre).1
  have hc:l.pre.holds [] { args:=args }=true:=(pre_splitW hpre).2
  obtain ⟨d,r,rfl,h1,h2⟩:=hasAllW_cons hsh
  obtain rfl:=hasAllW_nil h2
  obtain ⟨xs,rfl,h3⟩:=hasW_list h1
  obtain ⟨ns,rfl⟩:=items_int h3
  have hlen:ns.length≤n:=by
    unfold OpenLaw.pre at hc
    have h4:(WTm.not (.lt (.lit (.int (n:Int))) (.len (.arg 0)))).holds [] { args:=[.list (ns.map .int)] }=true:=by
      have h4:=(holds_andW hc).1
      rw[hn] at h4
      exact h4
    have h5:=condW_of h4 (w_not (w_lt w_lit (w_len_list (w_arg rfl))))
    rw[List.length_map] at h5
    refine Nat.le_of_not_lt fun q=>?_
    have q':(n:Int)<((ns.length:Nat):Int):=by omega
    first
      | (rw[decide_eq_true q'] at h5;exact absurd h5 (by decide))
      | (simp at h5;omega)
  cases hwl with
  | cons w1 w2 =>
    cases w2
    cases w1 with
    | list ho hall=>exact⟨_,_,ns,rfl,rfl,ho,ints_of_wellAll ns _ hall,hlen⟩
theorem post_true (l:OpenLaw) (args:List WData):l.row.toRowW.claim.post args (.bool true) args=true :=
  postW_of (r:=l.row.toRowW) (X:=(true == true))
    (show WShape.has [] (.bool true) .bool=true by first | rfl | decide | simp [WShape.has,WShape.arms,WShape.armsAll])
    (show (WTm.eq .res (.lit (.bool true))).value [] { args:=args,res:=some (.bool true),after:=args }=some (.bool (true == true)) from w_eq_bool (w_res rfl) w_lit) rfl
theorem attach_call {l:OpenLaw}{n:Nat}{q:Program}{loose:List Str}{XP:(Str→Option Value)→Heap→Prop}{YP:World→Heap→Prop}{d:DefRec}
    (hn:l.most=some n) (hdf:d.params.defaults=[])
    (call:∀(w:World) (s₀ s₁:Shared) (mg mb:Str→Option Value) (fa:Addr) (o:Obj) (pm cd doc:Value) (a:Addr) (vs:List Value) (ns:List Int),
      Ground q loose [] XP w s₀ mg mb s₁.heap→YP w s₁.heap →
      s₁.heap.get? fa=some o→o.data=.func (docDef d.name d.params d.body d.scope pm cd doc)→s₁.heap.CodeRec cd d.name→mg d.name=some (.ref fa) →
      s₁.heap.get? a=some { cls:=.type "list",data:=.seq vs.toArray }→IntsAre vs ns→ns.length≤n→s₁.gens=#[] →
      codeAny (model l.prog w) callerA (.call (.ref fa) ⟨[.ref a],[]⟩) (fun r s'=>r=.ok (.ret (.bool true))∧OldK s₁.heap s'.heap∧s'.os=s₁.os∧AllBare s'.gens) s₁) :
    WalkO q loose XP YP l.row.toRowW d [] (fun f vs=>PySem.call f vs):=by
  intro w s₀ s₁ mg mb G Y fa o pm cd doc dV kV ho hd hcd hD hmg hg args vals as hpre hlay hrd hwl hlo
  obtain rfl:dV=.none:=Dflts.none hD hdf
  obtain rfl:kV=.none:=Dflts.noKw hD
  obtain ⟨a,vs,ns,rfl,rfl,hobj,hints,hlen⟩:=script_of hn hpre hwl
  refine enter_call (codeAny_mono (call w s₀ s₁ mg mb fa o pm cd doc a vs ns G Y ho (fd_plain hd) hcd hmg hobj hints hlen hg) fun r s' hq=>?_)
  obtain ⟨rfl,h2,h3,h4⟩:=hq
  exact⟨.inl ⟨.bool true,.bool true,[],rfl,fun _=>rfl,.bool true,post_true l _,fun _=>⟨List.Pairwise.nil,fun _ hm=>(nomatch hm)⟩⟩,h2,h3,h4⟩
section
variable {prog:Program}{w:World}{A:Around}{E:Value→Shared→Prop}{s:Shared}{K:Frag}
def ledger (h:Heap) (L d:Addr):List (Addr × Obj):=(List.range h.objs.size).filterMap fun a=>if a=L∨a=d then none else (h.get? a).map fun o=>(a,o)
end
end Att
namespace L2
open PySem PySem.Spec PyProof.Rows
theorem vals_ints:∀{vs:List Value}{ns:List Int},IntsAre vs ns→Vals (ns.map V.int) vs
  | _,_,.nil=>.nil
  | _,_,.cons n t h=>.cons ⟨t,rfl⟩ (vals_ints h)
def Only (H:Hp):Prop:=∀b,H b=none∨∃o xs,H b=some (.frz o (.lst xs))
theorem law_call {P:Program}{w:World}{K:PySem.W.Frag}{mg mb:Str→Option Value}{CX:CXT}{k:Nat}{fa a:Addr}{fd:FuncData}{x:Str}{sp:Sp}{s₁:Shared}{vs:List Value}{ns:List Int}
    (KX:K.In s₁.heap) (hns:s₁.heap.Ns mainGlobals mg) (hb:s₁.heap.Ns builtinsNs mb) (hbb:∀x:Str,x≠"__name__"→mb x=bootBuiltins x) (hlim:s₁.heap.NoLimit) (hg:s₁.gens=#[])
    (ha:s₁.heap.get? a=some { cls:=.type "list",data:=.seq vs.toArray }) (hi:IntsAre vs ns) (hl:ns.length≤sizeLine) (hr:Room k callerA)
    (F:∀base:Heap,K.In base→base.Ns mainGlobals mg→FnOk P w K mg base CX k fa fd [x] sp) (hbind:∀(s:Shared) (u:Value),BindsTo s fd ⟨[u],[]⟩ [(x,u)])
    (hsp:∀H:Hp,Only H→SqL K H a (ns.map V.int)→sp [.ref a] H (fun v _=>v=.bl true) fun _ _ _=>False)
    (hCX:∀H e s',CX [] H s₁ (fun _ _ _=>False) e s'→False) :
    codeAny (model P w) callerA (.call (.ref fa) ⟨[.ref a],[]⟩) (fun r s'=>r=.ok (.ret (.bool true))∧OldK s₁.heap s'.heap∧s'.os=s₁.os∧AllBare s'.gens) s₁:=by
  have rv:=vals_ints hi
  have lenV:=hi.length
  have core:∀H:Hp,Only H→SqL K H a (ns.map V.int)→HOk P w H s₁.heap→(∀b,H b≠none→b=a)→(H a≠none→K.lookup a=none) →
      codeAny (model P w) callerA (.call (.ref fa) ⟨[.ref a],[]⟩) (fun r s'=>r=.ok (.ret (.bool true))∧OldK s₁.heap s'.heap∧s'.os=s₁.os∧AllBare s'.gens) s₁:=by
    intro H hO hS hok hA hK
    have base_of:∀{b:Addr}{o:Obj},s₁.heap.get? b=some o→H b=none→(hidT s₁.heap H).get? b=some o:=fun e n=>hidT_get e n
    have noA:∀{b:Addr}{o:Obj}{es:Array DictEntry}{ep:Nat},s₁.heap.get? b=some o→o.data=.dict es ep→H b=none:=fun {b o es ep} e d=>by
      cases q:H b with
      | none=>rfl
      | some u =>
        have e':b=a:=hA b (by rw[q];simp)
        subst e'
        rw[ha] at e;cases e
        have d':Data.seq vs.toArray _=Data.dict es ep:=d
        cases d'
    have nsK:∀{b:Addr}{m:Str→Option Value},s₁.heap.Ns b m→(hidT s₁.heap H).Ns b m:=fun {b m} ⟨o,es,ep,e,d,r⟩=>⟨o,es,ep,base_of e (noA e d),d,r⟩
    have hKb:K.In (hidT s₁.heap H):=fun b o e=>base_of (KX b o e) (by
      cases q:H b with
      | none=>rfl
      | some u =>
        have e':b=a:=hA b (by rw[q];simp)
        subst e'
        rw[hK (by rw[q];simp)] at e;cases e)
    have hM:Mod K mg (hidT s₁.heap H):=⟨hKb,nsK hns,⟨mb,nsK hb,hbb⟩,let ⟨mc,h1,h2⟩:=hlim;⟨mc,nsK h1,h2⟩⟩
    have e0:Env0 P w K mg (hidT s₁.heap H) callerA [] s₁ H:=⟨rfl,hM,fun b o e=>of_hidT e,Nat.le_of_eq (hidT_size _ _),trivial,fun b hb=>absurd (show b∈([]:List Addr) from hb) (by simp),hok,.of_eq hg⟩
    refine codeAny_mono ((F _ hKb (nsK hns)).run callerA [] s₁ H ⟨[.ref a],[]⟩ [.ref a] [.ref a] _ _ hr e0 (hbind s₁ (.ref a)) (.cons rfl .nil) (hsp H hO hS)) fun r s' h=>?_
    cases r with
    | error e=>exact (hCX H e s' h).elim
    | ok fl =>
      cases fl with
      | next=>exact False.elim h
      | brk=>exact False.elim h
      | cont=>exact False.elim h
      | ret u =>
        obtain ⟨v,H',os,bare,un,hok',r',q⟩:=h
        have q':v=.bl true:=q
        subst q'
        obtain rfl:u=Value.bool true:=r'
        refine⟨rfl,OldK.of_keep fun b o e=>?_,os,bare⟩
        cases q:H b with
        | none=>exact un.keep b o e q (by intro z;exact absurd (show b∈([]:List Addr) from z) (by simp)) (by simp)
        | some u =>
          rcases hO b with z | ⟨ob,xs,z⟩
          · rw[q] at z;cases z
          · have z2:=un.frzs b ob _ z
            obtain ⟨e1,_⟩:=hok b _ z
            obtain ⟨e2,_⟩:=hok' b _ z2
            rw[e] at e1;cases e1
            exact e2
  cases hk:K.lookup a with
  | some o =>
    have e:=KX a o hk
    rw[ha] at e
    cases e
    refine core (fun _=>none) (fun _=>.inl rfl) (.inr ⟨_,vs.toArray,_,hk,rfl,rfl,rfl,by rw[List.size_toArray,lenV];exact hl,by simpa using rv⟩) (fun b u z=>by have z':(none:Option HO)=some u:=z;cases z') (fun b z=>absurd rfl z) fun z=>absurd rfl z
  | none =>
    refine core (fun b=>if b=a then some (.frz { cls:=.type "list",data:=.seq vs.toArray } (.lst (ns.map V.int))) else none) (fun b=>?_) (.inl (.inr ⟨{ cls:=.type "list",data:=.seq vs.toArray },if_pos rfl⟩)) (fun b u z=>?_) (fun b z=>?_) fun _=>hk
    · by_cases hb:b=a
      · exact .inr ⟨_,_,if_pos hb⟩
      · exact .inl (if_neg hb)
    · by_cases hb:b=a
      · have z':=(if_pos hb).symm.trans z
        cases z'
        subst hb
        exact⟨ha,by rw[List.length_map];exact hl,vs,_,rv,ha⟩
      · have z':=(if_neg hb).symm.trans z
        cases z'
    · by_cases hb:b=a
      · exact hb
      · exact absurd (if_neg hb) z
end L2
namespace L2
open PySem PySem.Spec PyProof.Rows
theorem walk_of {l:PySem.W.OpenLaw}{n k:Nat}{q:Program}{loose:List Str}{XP:(Str→Option Value)→Heap→Prop}{YP:World→Heap→Prop}{d:DefRec}{K:Params→PySem.W.Frag}{CX:World→CXT}{sp:World→Sp}{x:Str}
    (hn:l.most=some n) (hn2:n≤sizeLine) (hdf:d.params.defaults=[]) (hr:Room k callerA)
    (hY:∀(w:World) (h:Heap),YP w h→(K w.params).In h)
    (F:∀(w:World) (mg:Str→Option Value) (fa:Addr) (h:Heap),(K w.params).In h→h.Ns mainGlobals mg→mg d.name=some (.ref fa) →
      ∃fd:FuncData,(∀(s:Shared) (u:Value),BindsTo s fd ⟨[u],[]⟩ [(x,u)]) ∧
        ∀base:Heap,(K w.params).In base→base.Ns mainGlobals mg→FnOk l.prog w (K w.params) mg base (CX w) k fa fd [x] (sp w))
    (hsp:∀(w:World) (H:Hp) (a:Addr) (ns:List Int),ns.length≤n→Only H→SqL (K w.params) H a (ns.map V.int)→sp w [.ref a] H (fun v _=>v=.bl true) fun _ _ _=>False)
    (hCX:∀(w:World) (H:Hp) (s:Shared) (e:Value) (s':Shared),CX w [] H s (fun _ _ _=>False) e s'→False) :
    PySem.W.WalkO q loose XP YP l.row.toRowW d [] (fun f vs=>PySem.call f vs):=by
  refine Att.attach_call hn hdf fun w s₀ s₁ mg mb fa o pm cd doc a vs ns G Y ho hd hcd hmg hobj hints hlen hg=>?_
  have KX:=hY w _ Y
  obtain ⟨fd,hb,hF⟩:=F w mg fa _ KX G.T.g hmg
  exact law_call KX G.T.g G.T.b G.T.builtins G.T.nolimit hg hobj hints (Nat.le_trans hlen hn2) hr hF hb (fun H hO hS=>hsp w H a ns hlen hO hS) fun H e s'=>hCX w H s₁ e s'
end L2
/- THE LAST THEOREM (shape; LID, My.* are yours):
   My.Adr: a structure of the addresses that your layer names (classes,functions);My.Txt K t: a structure (Prop) of the equations over K;
   My.txt_mk:{K}{implicit addresses ..} (e1:nsIn K mainGlobals "law" = some (some (.ref f))) (e2:K.lookup f=some ⟨oc,od,.func (fnOf "law" "law" params body scope dV kV doc pm an cdv ct),sl⟩) (e3:codeIn K cdv "law" = true) .. : ∃t,My.Txt K t
set_option maxRecDepth 100000 in
set_option maxHeartbeats 0 in
theorem PySem.Challenge.cw_LID_holds : PySem.Challenge.rw_LID.Holds := by
  w_on;o_law;k_head;(case hw=>w_witness2)
  k_fill
  refine L2.walk_of (l:=PySem.Challenge.rw_LID) (n:=63) (k:=40) (x:="script") (CX:=fun w=>..) (sp:=fun _=>My.sp_law) rfl (by decide) rfl ⟨rfl,by decide,by decide⟩ (fun w h Y=>PySem.W.kIn_of Y) ?F ?S ?C
  case F =>
    intro w mg fa h KX G hmg
    have T:∃t,My.Txt (L2.KOf KX) t:=by
      dsimp only[L2.KOf]                          -- K must stand as «<heap const> w.params» for k_is
      refine' My.txt_mk ?e1 ?e2 ?e3 ..
      (case e1=>PySem.W.k_is)                    -- in the order: a name -> its address -> its object -> its parts
      (case e2=>PySem.W.k_is)
      ..
    obtain ⟨t,T⟩:=T
    have e0:=hmg.symm.trans (PySem.W.mg_of KX G T.law)
    cases e0                                       -- fa is the law's own address
    exact⟨_,fun s u=>.of_eq rfl,fun base kb nb=>My.law_fn T kb nb⟩     -- if «.of_eq rfl» comes too early: refine' ⟨_,?b,fun base kb nb=>My.law_fn T kb nb⟩;exact fun s u=>.of_eq rfl
  case S=>exact fun w H a ns hl hO hS=>..
  case C=>exact ..
(the tactic k_is has no namespace: write k_is) -/
namespace L2
open PySem PySem.Spec PyProof.Rows
def defArgs (s:Stmt):Arguments:=match s with
  | .FunctionDef _ a _ _ _ _ _ _ _ _=>a
  | _=>{ posonlyargs:=[],args:=[],vararg:=none,kwonlyargs:=[],kw_defaults:=[],kwarg:=none,defaults:=[] }
def defBody (s:Stmt):List Stmt:=match s with
  | .FunctionDef _ _ b _ _ _ _ _ _ _=>b
  | _=>[]
def defScope (s:Stmt):Scope:=match s with
  | .FunctionDef _ _ _ _ _ _ sc _ _ _=>sc
  | _=>{ kind:=.function,names:=[],isGenerator:=false,isCoroutine:=false }
abbrev CX0:CXT:=fun _ _ _ _ _ _=>False
abbrev E0:XK:=fun _ _ _=>False
theorem pass0 {X:Cx}:Passes CX0 X E0:=fun _ _ _ _ _ _ _ h=>h.elim
structure Fun (K:PySem.W.Frag) (x qual:Str) (st:Stmt) (f:Addr) (fd:FuncData):Prop where
  ex:∃(oc:Value) (od:Option Addr) (kV doc pm:Value) (an:Option Addr) (cdv ct:Value) (osl:Array (Option Value)),
    fd=PySem.W.fnOf x qual (defArgs st) (defBody st) (defScope st) .none kV doc pm an cdv ct∧K.lookup f=some ⟨oc,od,.func fd,osl⟩∧PySem.W.codeIn K cdv qual=true
  kp:PySem.W.keepIn K (.ref f)=true
section
variable {P:Program}{w:World}{K:PySem.W.Frag}{mg:Str→Option Value}{base:Heap}
theorem Fun.ok {x qual:Str}{st:Stmt}{f:Addr}{fd:FuncData}{N ps:List Str}{k:Nat}{sp:Sp} (F:Fun K x qual st f fd) (S:FnScope N ps (defScope st)) (len:∀vs H Q E,sp vs H Q E→vs.length=ps.length)
    (hbody:∀(cdv:Value) (A:Around) (outer:List Env) (s:Shared) (H:Hp) (vs:List V) (Q:VK) (E:XK),Room k (A.deeper (envOfC qual (defScope st) s.heap.objs.size f cdv))→sp vs H Q E →
      ∃t,PSs (cxOf CX0 P w K mg base N qual (defScope st) f cdv A outer s H E).nox (defBody st) t∧t { nx:=fun _ H'=>Q .non H',rt:=Q } (start N vs) H):FnOk P w K mg base CX0 (k+1) f fd ps sp:=by
  obtain ⟨oc,od,kV,doc,pm,an,cdv,ct,osl,rfl,lk,hcd⟩:=F.ex
  refine fn_of lk hcd S len fun A outer s H vs Q E hr hsp=>?_
  obtain ⟨t,h,q⟩:=hbody cdv A outer s H vs Q E hr hsp
  exact⟨t,h.nox,q⟩
theorem Fun.binds {x qual:Str}{st:Stmt}{f:Addr}{fd:FuncData}{ps:List Str} (F:Fun K x qual st f fd)
    (h:∀(kV doc pm:Value) (an:Option Addr) (cdv ct:Value) (us:List Value),us.length=ps.length→bindArgs (PySem.W.fnOf x qual (defArgs st) (defBody st) (defScope st) .none kV doc pm an cdv ct) ⟨us,[]⟩=pure (ps.zip us)):Binds K fd ps []:=by
  obtain ⟨oc,od,kV,doc,pm,an,cdv,ct,osl,rfl,lk,hcd⟩:=F.ex
  exact .all (h kV doc pm an cdv ct)
theorem fun_mk {x qual:Str}{st:Stmt}{f:Addr}{oc:Value}{od an:Option Addr}{osl:Array (Option Value)}{kV doc pm cdv ct:Value} (l:K.lookup f=some ⟨oc,od,.func (PySem.W.fnOf x qual (defArgs st) (defBody st) (defScope st) .none kV doc pm an cdv ct),osl⟩)
    (c:PySem.W.codeIn K cdv qual=true) (k:PySem.W.keepIn K (.ref f)=true):Fun K x qual st f (PySem.W.fnOf x qual (defArgs st) (defBody st) (defScope st) .none kV doc pm an cdv ct):=⟨⟨oc,od,kV,doc,pm,an,cdv,ct,osl,rfl,l,c⟩,k⟩
end
theorem small1000 {n:Nat} (h:n≤1000):n<sizeLine:=Nat.lt_of_le_of_lt h (by decide)
section
variable {X:Cx}
theorem pv (i:Nat) {x:Str}{pos:Pos} (hN:X.N[i]?=some x:=by rfl) (hv:Vis X.env.scope x:=by first | exact Or.inl rfl | exact Or.inr (Or.inl rfl) | exact Or.inr (Or.inr rfl)) (hd:(x == ("__debug__" : Str))=false:=by decide)
    (hcd:(x == ("__classdict__" : Str))=false:=by decide):PE X (.Name x pos) (tVar i):=pe_var hN hv hd hcd
end
def Same (H H':Hp):Prop:=∀b o,H b=some o→H' b=some o
theorem Same.refl (H:Hp):Same H H:=fun _ _ h=>h
theorem Same.trans {H H1 H2:Hp} (a:Same H H1) (b:Same H1 H2):Same H H2:=fun c o h=>b c o (a c o h)
theorem Same.free {H H':Hp} (e:Same H H') {l:Addr} (h:H' l=Option.none):H l=Option.none:=by
  cases q:H l with
  | none=>rfl
  | some o =>
    rw[e l o q] at h
    cases h
theorem Same.seq {K:PySem.W.Frag}{H H':Hp}{a:Addr}{xs:List V} (e:Same H H') (h:SqL K H a xs):SqL K H' a xs:=by
  rcases h with (h | ⟨o,h⟩) | h
  · exact .inl (.inl (e _ _ h))
  · exact .inl (.inr ⟨o,e _ _ h⟩)
  · exact .inr h
end L2
set_option Elab.async false
set_option linter.all false
set_option maxRecDepth 100000
set_option maxHeartbeats 4000000
namespace L2
open PySem PySem.Spec PyProof.Rows
def clFrom (env:Env):List (Str × NameKind)→List (Str × Addr)→List (Str × Addr)
  | [],acc=>acc
  | (n,k)::r,acc=>clFrom env r (if k == .free then (n,(env.cells.lookup n).getD 0)::acc else acc)
theorem closureFor_eq {scope:Scope}{env:Env} (h:∀n,(n,NameKind.free)∈scope.names→∃c,env.cells.lookup n=some c):closureFor scope env=pure (clFrom env scope.names []):=by
  have go:∀(names:List (Str × NameKind)) (acc:List (Str × Addr)),(∀n,(n,NameKind.free)∈names→∃c,env.cells.lookup n=some c) →
      (forIn names acc (fun (x:Str × NameKind) (cs:List (Str × Addr))=>match x with
        | (name,kind)=>if (kind == .free)=true then (do let c ← cellOf env name;pure (ForInStep.yield ((name,c)::cs))) else pure (ForInStep.yield cs)):Sem (List (Str × Addr)))=pure (clFrom env names acc):=by
    intro names
    induction names with
    | nil=>intro acc _;rfl
    | cons x r ih =>
      intro acc hn
      obtain ⟨n,k⟩:=x
      rw[List.forIn_cons]
      have hr:∀m,(m,NameKind.free)∈r→∃c,env.cells.lookup m=some c:=fun m hm=>hn m (List.mem_cons_of_mem _ hm)
      by_cases hk:k=.free
      · subst hk
        obtain ⟨c,hc⟩:=hn n List.mem_cons_self
        have e:cellOf env n=pure c:=by unfold cellOf;rw[hc]
        have e2:clFrom env ((n,NameKind.free)::r) acc=clFrom env r ((n,c)::acc):=by
          show clFrom env r (if (NameKind.free == NameKind.free)=true then (n,(env.cells.lookup n).getD 0)::acc else acc)=_
          rw[if_pos (by decide),hc];rfl
        rw[e2,← ih _ hr]
        show (do let __do_lift ← (if (NameKind.free == NameKind.free)=true then (do let c ← cellOf env n;pure (ForInStep.yield ((n,c)::acc))) else pure (ForInStep.yield acc):Sem (ForInStep (List (Str × Addr))));_)=_
        rw[if_pos (by decide),e]
        rfl
      · have hb:(k == NameKind.free)=false:=by simpa using hk
        have e2:clFrom env ((n,k)::r) acc=clFrom env r acc:=by
          show clFrom env r (if (k == NameKind.free)=true then (n,(env.cells.lookup n).getD 0)::acc else acc)=_
          rw[hb];rfl
        rw[e2,← ih _ hr]
        show (do let __do_lift ← (if (k == NameKind.free)=true then (do let c ← cellOf env n;pure (ForInStep.yield ((n,c)::acc))) else pure (ForInStep.yield acc):Sem (ForInStep (List (Str × Addr))));_)=_
        rw[hb]
        rfl
  have e:=go scope.names [] h
  unfold closureFor
  exact congrArg (fun (m:Sem (List (Str × Addr)))=>m >>= fun r=>pure r) e
theorem clFrom_mem {env:Env}:∀{names:List (Str × NameKind)}{acc:List (Str × Addr)}{n:Str}{c:Addr},(n,c)∈clFrom env names acc→(n,c)∈acc∨((n,NameKind.free)∈names∧c=(env.cells.lookup n).getD 0)
  | [],acc,n,c,h=>.inl h
  | (m,k)::r,acc,n,c,h=>by
    rcases clFrom_mem (names:=r) h with h | ⟨h,e⟩
    · by_cases hk:k=.free
      · subst hk
        rw[if_pos (by decide)] at h
        rcases List.mem_cons.mp h with e | h
        · cases e;exact .inr ⟨List.mem_cons_self,rfl⟩
        · exact .inl h
      · have hb:(k == NameKind.free)=false:=by simpa using hk
        rw[hb] at h
        exact .inl h
    · exact .inr ⟨List.mem_cons_of_mem _ h,e⟩
theorem lookup_of_mem {α:Type}:∀{l:List (Str × α)}{n:Str}{c:α},(n,c)∈l→∃d,l.lookup n=some d
  | [],_,_,h=>nomatch h
  | (k,v)::r,n,c,h=>by
    rw[List.lookup_cons]
    cases hb:n == k with
    | true=>exact⟨v,rfl⟩
    | false =>
      rcases List.mem_cons.mp h with e | h
      · cases e;simp at hb
      · exact lookup_of_mem h
theorem clFrom_acc {env:Env}:∀{names:List (Str × NameKind)}{acc:List (Str × Addr)}{n:Str}{c:Addr},(n,c)∈acc→(n,c)∈clFrom env names acc
  | [],acc,n,c,h=>h
  | (m,k)::r,acc,n,c,h=>by
    refine clFrom_acc (names:=r) ?_
    split
    · exact List.mem_cons_of_mem _ h
    · exact h
theorem clFrom_has {env:Env}:∀{names:List (Str × NameKind)}{acc:List (Str × Addr)}{n:Str},(n,NameKind.free)∈names→(n,(env.cells.lookup n).getD 0)∈clFrom env names acc
  | [],acc,n,h=>nomatch h
  | (m,k)::r,acc,n,h=>by
    rcases List.mem_cons.mp h with e | h
    · cases e
      refine clFrom_acc (names:=r) ?_
      rw[if_pos (by decide)]
      exact List.mem_cons_self
    · exact clFrom_has (names:=r) h
theorem cellsFrom_mem:∀{names:List (Str × NameKind)}{n:Nat}{acc:List (Str × Addr)}{x:Str}{c:Addr},(x,c)∈cellsFrom n names acc→(x,c)∈acc∨((x,NameKind.cell)∈names∧n≤c)
  | [],n,acc,x,c,h=>.inl h
  | (m,k)::r,n,acc,x,c,h=>by
    unfold cellsFrom at h
    by_cases hk:k=.cell
    · subst hk
      rw[if_pos (by decide)] at h
      rcases cellsFrom_mem (names:=r) h with h | ⟨h,e⟩
      · rcases List.mem_cons.mp h with e | h
        · cases e;exact .inr ⟨List.mem_cons_self,Nat.le_refl _⟩
        · exact .inl h
      · exact .inr ⟨List.mem_cons_of_mem _ h,by omega⟩
    · have hb:(k == NameKind.cell)=false:=by simpa using hk
      rw[hb] at h
      rcases cellsFrom_mem (names:=r) h with h | ⟨h,e⟩
      · exact .inl h
      · exact .inr ⟨List.mem_cons_of_mem _ h,e⟩
theorem cellsFrom_acc:∀{names:List (Str × NameKind)}{n:Nat}{acc:List (Str × Addr)}{x:Str}{c:Addr},(x,c)∈acc→(x,c)∈cellsFrom n names acc
  | [],n,acc,x,c,h=>h
  | (m,k)::r,n,acc,x,c,h=>by
    unfold cellsFrom
    split
    · exact cellsFrom_acc (names:=r) (List.mem_cons_of_mem _ h)
    · exact cellsFrom_acc (names:=r) h
theorem cellsFrom_has:∀{names:List (Str × NameKind)}{n:Nat}{acc:List (Str × Addr)}{x:Str},(x,NameKind.cell)∈names→∃c,(x,c)∈cellsFrom n names acc
  | [],n,acc,x,h=>nomatch h
  | (m,k)::r,n,acc,x,h=>by
    unfold cellsFrom
    rcases List.mem_cons.mp h with e | h
    · cases e
      rw[if_pos (by decide)]
      exact⟨n,cellsFrom_acc (names:=r) List.mem_cons_self⟩
    · split
      · exact cellsFrom_has (names:=r) h
      · exact cellsFrom_has (names:=r) h
theorem pushCells_cell:∀{names:List (Str × NameKind)}{h:Heap}{acc:List (Str × Addr)}{x:Str}{c:Addr},(x,c)∈cellsFrom h.objs.size names acc→(x,c)∈acc∨(pushCells h names).IsCell c none
  | [],h,acc,x,c,m=>.inl m
  | (n,k)::r,h,acc,x,c,m=>by
    unfold cellsFrom at m
    unfold pushCells
    split at m
    · rename_i hk
      rw[if_pos hk]
      have m':(x,c)∈cellsFrom (h.push { cls:=.type "cell",data:=.cell none }).objs.size r ((n,h.objs.size)::acc):=by rw[Heap.size_push];exact m
      rcases pushCells_cell (names:=r) m' with z | z
      · rcases List.mem_cons.mp z with e | z
        · cases e
          exact .inr ⟨_,pushCells_keeps _ _ _ _ (Heap.get?_push_size _ rfl),rfl⟩
        · exact .inl z
      · exact .inr z
    · rename_i hk
      rw[if_neg hk]
      exact pushCells_cell (names:=r) m
theorem cellsFrom_inj:∀{names:List (Str × NameKind)}{n:Nat}{acc:List (Str × Addr)},(∀x c,(x,c)∈acc→c<n)→(∀x y c,(x,c)∈acc→(y,c)∈acc→x=y) →
    ∀x y c,(x,c)∈cellsFrom n names acc→(y,c)∈cellsFrom n names acc→x=y
  | [],n,acc,lt,inj,x,y,c,h,h'=>inj x y c h h'
  | (m,k)::r,n,acc,lt,inj,x,y,c,h,h'=>by
    unfold cellsFrom at h h'
    split at h
    · rename_i hk
      rw[if_pos hk] at h'
      refine cellsFrom_inj (names:=r) (n:=n+1) (acc:=(m,n)::acc) (fun x c hm=>?_) (fun x y c hm hm'=>?_) x y c h h'
      · rcases List.mem_cons.mp hm with e | hm
        · cases e;exact Nat.lt_succ_self _
        · exact Nat.lt_succ_of_lt (lt _ _ hm)
      · rcases List.mem_cons.mp hm with e | hm<;>rcases List.mem_cons.mp hm' with e' | hm'
        · cases e;cases e';rfl
        · cases e;exact absurd (lt _ _ hm') (Nat.lt_irrefl _)
        · cases e';exact absurd (lt _ _ hm) (Nat.lt_irrefl _)
        · exact inj _ _ _ hm hm'
    · rename_i hk
      rw[if_neg hk] at h'
      exact cellsFrom_inj (names:=r) lt inj x y c h h'
theorem lookup_relabel {env:Env}:∀{names:List (Str × NameKind)}{x:Str},
    (names.map fun (n,k)=>if (k == NameKind.free && env.scope.kind == .function && env.kindOf n == some .cell) then (n,NameKind.cell) else (n,k)).lookup x =
      (names.lookup x).map fun k=>if (k == NameKind.free && env.scope.kind == .function && env.kindOf x == some .cell)=true then NameKind.cell else k
  | [],x=>rfl
  | (n,k)::r,x=>by
    have ih:=@lookup_relabel env r x
    show List.lookup x ((if (k == NameKind.free && env.scope.kind == .function && env.kindOf n == some .cell)=true then (n,NameKind.cell) else (n,k))::_)=_
    have e:(if (k == NameKind.free && env.scope.kind == .function && env.kindOf n == some .cell)=true then (n,NameKind.cell) else (n,k))=(n,if (k == NameKind.free && env.scope.kind == .function && env.kindOf n == some .cell)=true then NameKind.cell else k):=by split<;>rfl
    rw[e,List.lookup_cons,List.lookup_cons]
    cases hx:x == n with
    | true =>
      have hx':=beq_iff_eq.mp hx
      subst hx'
      rfl
    | false=>exact ih
structure CompScope (X:Cx) (scope:Scope) (tn cap:List Str) (idx:List Nat):Prop where
  kind:scope.kind=.function
  nd:(scope.names.map (·.1)).Nodup
  tnd:(tn++cap).Nodup
  ct:∀y∈cap,scope.names.lookup y=some .free
  ci:idx.map (fun i=>X.N[i]?)=cap.map some
  fr:∀y∈scope.names,y.2=.free→X.env.scope.names.lookup y.1=some .cell∨X.env.scope.names.lookup y.1=some .free
theorem lookup_nd {α:Type}:∀{l:List (Str × α)}{n:Str}{c:α},(l.map (·.1)).Nodup→(n,c)∈l→l.lookup n=some c
  | [],_,_,_,h=>nomatch h
  | (k,v)::r,n,c,nd,h=>by
    obtain ⟨h1,h2⟩:=List.nodup_cons.mp nd
    rw[List.lookup_cons]
    rcases List.mem_cons.mp h with e | hm
    · cases e;simp
    · have hne:n≠k:=fun e=>h1 (List.mem_map.mpr ⟨_,hm,e⟩)
      have hb:(n == k)=false:=beq_eq_false_iff_ne.mpr hne
      rw[hb]
      exact lookup_nd h2 hm
def caps (σ:St) (idx:List Nat):St:=idx.map fun i=>(σ[i]?).getD none
def cbase (k:Nat) (idx:List Nat) (σ:St):St:=List.replicate k none++caps σ idx
def cxC (X:Cx) (N':List Str) (scope:Scope) (cs:List (Str × Addr)) (C:Addr) (fp:List Addr) (s₀:Shared) (H₀:Hp):Cx where
  prog:=X.prog
  w:=X.w
  K:=X.K
  mg:=X.mg
  base:=X.base
  A:=X.A
  N:=N'
  s₀:=s₀
  H₀:=H₀
  env:=compEnvC scope cs C X.env
  outer:=X.stack
  stack:=X.stack
  ex:=fp
  fn:=fun x=>scope.names.lookup x == some .local || scope.names.lookup x == some .cell
  calm:=X.calm
  pn:=[]
  xe:=fun _ _=>False
theorem wpAny_newEnv_comp {M:Model}{A:Around}{E:Value→Shared→Prop}{s:Shared}{scope:Scope}{globals:Addr}{cl:List (Str × Addr)}{qual:Str}{env0:Env}{Q:Env→Shared→Prop}
    (hQ:Q { scope:=scope,locals:=s.heap.objs.size,globals:=globals,cells:=cellsFrom (s.heap.objs.size+1) scope.names cl,qual:=qual,func:=none,code:=env0.code,frame:=env0.frame,builtins:=env0.builtins }
      { s with heap:=pushCells (s.heap.push { cls:=.type "dict",data:=.dict #[] }) scope.names }) :
    wpAny M A (newFunctionEnv scope globals cl [] qual none .none (some env0)) Q E s:=by
  simp only[newFunctionEnv,Option.isSome_some,if_true]
  refine wpAny_bind (wpAny_alloc ?_)
  refine wpAny_bind (wpAny_layCells _ (fun name kind cells=>by cases hkc:kind == NameKind.cell<;>simp [hkc]) _ _ _ _ ?_)
  rw[show ({ s with heap:=s.heap.push { cls:=.type "dict",data:=.dict #[] } }:Shared).heap.objs.size=s.heap.objs.size+1 from Heap.size_push ..]
  exact wpAny_bind (wpAny_pure (wpAny_pure hQ))
section
variable {prog:Program}{w:World}{A:Around}{R:Result→Shared→Prop}{s:Shared}
theorem compLoop_any {elt target iter:Expr}{ifs:List Expr}{scope:Scope}{pos:Pos}{it acc:Value}{env:Env} (I:Nat→Shared→Prop)
    (turn:∀n s,I n s→wpAny (model prog w) A (pyNext it) (fun r s₁=>match r with
      | none=>R (.ok .next) s₁
      | some v=>wpAny (model prog w) A (letOwnedTupleGo target it v) (fun _ s₁'=>wpAny (model prog w) A (assign target env v) (fun _ s₂ =>
          wpAny (model prog w) A (forIn ifs true fun c r=>if r=true then do let ok ← isTrue c env (eval c env);pure (ForInStep.yield ok) else pure (ForInStep.yield r)) (fun ok s₃ =>
            if ok=true then wpAny (model prog w) A (eval elt env) (fun x s₄ =>
              wpAny (model prog w) A (call (.builtin "list.append") [acc,x]) (fun _ s₅=>∃m,m<n∧I m s₅) (fun _ _=>False) s₄) (fun _ _=>False) s₃
            else ∃m,m<n∧I m s₃) (fun _ _=>False) s₂) (fun _ _=>False) s₁') (fun _ _=>False) s₁) (fun _ _=>False) s)
    (n:Nat) (h:I n s) :
    codeAny (model prog w) A (.compLoop (.ListComp elt [⟨target,iter,ifs,0⟩] scope pos) 0 it acc env) R s:=by
  refine codeAny_loop rfl I (fun n s hI=>?_) n h
  show wpAny _ A ((compTurn (.ListComp elt [⟨target,iter,ifs,0⟩] scope pos) 0 it acc env).onRaise (fun x=>do noteFrame x env;theTreesLotGoes x)) _ _ s
  refine wpAny_noted ?_
  rw[compTurn_list]
  refine wpAny_bind (wpAny_standAt (wpAny_bind (wpAny_mono (turn n s hI) (fun r s₁ h₁=>?_) fun _ _ h'=>h'.elim)))
  cases r with
  | none=>exact wpAny_pure h₁
  | some v =>
    refine wpAny_bind (wpAny_mono h₁ (fun _ s₁' h₁'=>?_) fun _ _ h'=>h'.elim)
    refine wpAny_bind (wpAny_mono h₁' (fun _ s₂ h₂=>wpAny_bind (wpAny_mono h₂ (fun ok s₃ h₃=>?_) fun _ _ h'=>h'.elim)) fun _ _ h'=>h'.elim)
    cases ok with
    | false=>exact wpAny_pure ⟨rfl,h₃⟩
    | true =>
      exact wpAny_bind (wpAny_bind (wpAny_mono h₃ (fun x s₄ h₄=>wpAny_bind (wpAny_mono h₄ (fun _ s₅ h₅=>wpAny_pure (wpAny_pure ⟨rfl,h₅⟩)) fun _ _ h'=>h'.elim)) fun _ _ h'=>h'.elim))
end
section
variable {X:Cx}{pins:List (Addr × Obj)}{σ:St}{H:Hp}{s2:Shared}{scope:Scope}{tn cap:List Str}{idx:List Nat}{fp:List Addr}
abbrev cObjL:Obj:={ cls:=.type "list",data:=.seq ([]:List Value).toArray }
abbrev cObjF:Obj:={ cls:=.type "dict",data:=.dict #[] }
abbrev cHeap (h:Heap) (scope:Scope):Heap:=pushCells ((h.push cObjL).push cObjF) scope.names
abbrev cCells (X:Cx) (h:Heap) (scope:Scope):List (Str × Addr):=cellsFrom (h.objs.size+1+1) scope.names (clFrom X.env scope.names [])
theorem caps_get {σ:St}{idx:List Nat}{j:Nat}{v:V} (h:(caps σ idx)[j]?=some (some v)):∃i,idx[j]?=some i∧σ[i]?=some (some v):=by
  unfold caps at h
  rw[List.getElem?_map] at h
  cases e:idx[j]? with
  | none=>rw[e] at h;cases h
  | some i =>
    rw[e] at h
    have h':(σ[i]?).getD none=some v:=Option.some.inj h
    refine⟨i,rfl,?_⟩
    cases q:σ[i]? with
    | none=>rw[q] at h';cases h'
    | some o=>rw[q] at h';have h'':o=some v:=h';rw[h'']
theorem comp_start (I:Inv X pins σ H s2) (S:CompScope X scope tn cap idx) (hf:∀b∈fp,FpOk X pins H b) (hfl:∀b∈fp,b<s2.heap.objs.size) :
    Inv (cxC X (tn++cap) scope (cCells X s2.heap scope) (s2.heap.objs.size+1) fp s2 H) [(s2.heap.objs.size,cObjL)] (cbase tn.length idx σ) H { s2 with heap:=cHeap s2.heap scope }:=by
  have old:∀b o,s2.heap.get? b=some o→(cHeap s2.heap scope).get? b=some o:=fun b o e=>pushCells_keeps _ _ _ _ (Heap.get?_push_of_some _ (Heap.get?_push_of_some _ e))
  have hsz:((s2.heap.push cObjL).push cObjF).objs.size=s2.heap.objs.size+1+1:=by rw[Heap.size_push,Heap.size_push]
  have hacc:(cHeap s2.heap scope).get? s2.heap.objs.size=some cObjL:=pushCells_keeps _ _ _ _ (Heap.get?_push_of_some _ (Heap.get?_push_size _ rfl))
  have hns:(cHeap s2.heap scope).Ns (s2.heap.objs.size+1) (fun _=>none):=by
    have e:=(Heap.Ns.new (s2.heap.push cObjL) (.type "dict")).keeps (pushCells_keeps scope.names _)
    rw[Heap.size_push] at e
    exact e
  have clm:∀x c,(x,c)∈clFrom X.env scope.names []→X.env.cells.lookup x=some c∧(x,NameKind.free)∈scope.names:=fun x c h=>by
    rcases clFrom_mem h with z | ⟨z,e⟩
    · nomatch z
    · obtain ⟨d,hd⟩:=I.ok.has x (S.fr _ z rfl)
      rw[hd] at e
      have e':c=d:=e
      subst e'
      exact⟨hd,z⟩
  have csm:∀x c,(x,c)∈cCells X s2.heap scope→(X.env.cells.lookup x=some c∧(x,NameKind.free)∈scope.names)∨((x,NameKind.cell)∈scope.names∧s2.heap.objs.size+1+1≤c):=fun x c h=>by
    rcases cellsFrom_mem h with z | z
    · exact .inl (clm x c z)
    · exact .inr z
  have clt:∀x c,X.env.cells.lookup x=some c→c<s2.heap.objs.size:=fun x c h=>by
    obtain ⟨v,q⟩:=I.cell x c h
    exact q.lt
  have freeK:∀x,(x,NameKind.free)∈scope.names→scope.names.lookup x=some .free:=fun x h=>lookup_nd S.nd h
  have cellK:∀x,(x,NameKind.cell)∈scope.names→scope.names.lookup x=some .cell:=fun x h=>lookup_nd S.nd h
  refine⟨⟨I.ok.mod,S.kind,I.ok.glob,I.ok.blt,Nat.le_succ _,fun x y c h1 h2=>?_,fun x hx=>?_,fun x c hfn h=>?_,I.ok.hd,I.ok.frames,.inl rfl,fun b hb=>⟨?_,fun x c h=>?_⟩,I.bs,Nat.le_trans I.ok.bsz I.sz,fun b o e hb=>?_,fun b hb z=>?_,I.stack,I.stkFree⟩,
    rfl,I.bare,Un.kept old,⟨_,hns,fun i x v e1 e2 e3=>?_⟩,fun x c h=>?_,I.hok.fresh (Nat.le_succ _),fun x c h=>?_,fun p hp=>?_,I.hok.kept old,?_⟩
  · exact cellsFrom_inj (fun x c h=>Nat.lt_succ_of_lt (Nat.lt_succ_of_lt (clt x c (clm x c h).1))) (fun x y c h h'=>I.ok.inj x y c (clm x c h).1 (clm y c h').1) x y c (PySem.mem_of_lookup h1) (PySem.mem_of_lookup h2)
  · have hx:(relabel scope X.env).names.lookup x=some .cell∨(relabel scope X.env).names.lookup x=some .free:=hx
    have e:=@lookup_relabel X.env scope.names x
    have hk:∃k,scope.names.lookup x=some k∧(k=.cell∨k=.free):=by
      cases q:scope.names.lookup x with
      | none =>
        rw[q] at e
        rcases hx with z | z
        · have z':=e.symm.trans z;cases z'
        · have z':=e.symm.trans z;cases z'
      | some k =>
        rw[q] at e
        refine⟨k,rfl,?_⟩
        cases k with
        | cell=>exact .inl rfl
        | free=>exact .inr rfl
        | _ =>
          exfalso
          rcases hx with z | z
          · have z':=e.symm.trans z;cases z'
          · have z':=e.symm.trans z;cases z'
    obtain ⟨k,hk,hk2⟩:=hk
    have hm:=PySem.mem_of_lookup hk
    rcases hk2 with rfl | rfl
    · obtain ⟨c,hc⟩:=cellsFrom_has (n:=s2.heap.objs.size+1+1) (acc:=clFrom X.env scope.names []) hm
      exact lookup_of_mem hc
    · exact lookup_of_mem (cellsFrom_acc (clFrom_has (env:=X.env) (acc:=[]) hm))
  · rcases csm x c (PySem.mem_of_lookup h) with ⟨_,z⟩ | ⟨_,z⟩
    · have hfn:(scope.names.lookup x == some .local || scope.names.lookup x == some .cell)=true:=hfn
      rw[freeK x z] at hfn
      exact absurd hfn (by decide)
    · show s2.heap.objs.size≤c
      omega
  · -- b is not the block's frame
    intro z
    have z':b=s2.heap.objs.size+1:=z
    exact absurd (hfl b hb) (by rw[z'];exact Nat.not_lt.mpr (Nat.le_succ _))
  · rcases csm x c (PySem.mem_of_lookup h) with ⟨z,_⟩ | ⟨_,z⟩
    · exact (hf b hb).2.2.2.2.1 x c z
    · intro e
      exact absurd (hfl b hb) (by rw[← e];exact Nat.not_lt.mpr (Nat.le_trans (Nat.le_trans (Nat.le_succ _) (Nat.le_succ _)) z))
  · rcases (hf b hb).2.2.2.1 with z | z
    · exact I.ok.noex b o e z
    · exact absurd (Nat.lt_of_lt_of_le (Heap.lt_size e) (Nat.le_trans I.ok.bsz z)) (Nat.lt_irrefl _)
  · obtain ⟨_,f1,f2,_⟩:=hf b hb
    rcases List.mem_cons.mp (I.stkSub b z) with e | e
    · exact f1 e
    · exact f2 e
  · -- the names
    have e1:(tn++cap)[i]?=some x:=e1
    have e2:(cbase tn.length idx σ)[i]?=some (some v):=e2
    unfold cbase at e2
    by_cases hi:i<tn.length
    · rw[List.getElem?_append_left (by rw[List.length_replicate];exact hi),List.getElem?_replicate,if_pos hi] at e2
      cases e2
    · rw[List.getElem?_append_right (by rw[List.length_replicate];omega),List.length_replicate] at e2
      rw[List.getElem?_append_right (by omega)] at e1
      obtain ⟨i0,h1,h2⟩:=caps_get e2
      have hN:X.N[i0]?=some x:=by
        have q:=congrArg (fun l=>l[i - tn.length]?) S.ci
        simp only[List.getElem?_map,h1,e1,Option.map_some] at q
        exact Option.some.inj q
      have hfr:=S.ct x (List.mem_of_getElem? e1)
      have hmem:=PySem.mem_of_lookup hfr
      have hk:=S.fr _ hmem rfl
      obtain ⟨m,hn,hl⟩:=I.loc
      obtain ⟨u,r,l⟩:=hl i0 x v hN h2 (hk.elim (fun z=>.inr (.inl z)) fun z=>.inr (.inr z))
      refine⟨u,r,.inr ⟨?_,?_⟩⟩
      · show (relabel scope X.env).names.lookup x=some .cell∨(relabel scope X.env).names.lookup x=some .free
        have e:=@lookup_relabel X.env scope.names x
        rw[hfr] at e
        have e':(relabel scope X.env).names.lookup x=some (if (NameKind.free == NameKind.free && X.env.scope.kind == .function && X.env.kindOf x == some .cell)=true then NameKind.cell else NameKind.free):=e
        rw[e']
        split
        · exact .inl rfl
        · exact .inr rfl
      · rcases l with ⟨hk',_⟩ | ⟨_,c,hc,z⟩
        · exfalso
          have hk':X.env.scope.names.lookup x=some .local:=hk'
          rcases hk with q | q
          · have q:X.env.scope.names.lookup x=some .cell:=q
            rw[q] at hk';cases hk'
          · have q:X.env.scope.names.lookup x=some .free:=q
            rw[q] at hk';cases hk'
        · obtain ⟨d,hd⟩:=lookup_of_mem (cellsFrom_acc (names:=scope.names) (n:=s2.heap.objs.size+1+1) (clFrom_has (env:=X.env) (acc:=[]) hmem))
          refine⟨c,?_,z.keeps old⟩
          rcases csm x d (PySem.mem_of_lookup hd) with ⟨q,_⟩ | ⟨q,_⟩
          · rw[hc] at q;cases q;exact hd
          · have:=cellK x q;rw[hfr] at this;cases this
  · have hm:(x,c)∈cellsFrom ((s2.heap.push cObjL).push cObjF).objs.size scope.names (clFrom X.env scope.names []):=by rw[hsz];exact PySem.mem_of_lookup h
    rcases pushCells_cell hm with z | z
    · obtain ⟨v,q⟩:=I.cell x c (clm x c z).1
      exact⟨v,q.keeps old⟩
    · exact⟨_,z⟩
  · rcases csm x c (PySem.mem_of_lookup h) with ⟨z,_⟩ | ⟨_,z⟩
    · exact I.freeC x c z
    · exact I.hok.fresh (by omega)
  · have hp':p∈[(s2.heap.objs.size,cObjL)]:=hp
    obtain rfl:=List.mem_singleton.mp hp'
    refine⟨hacc,I.hok.fresh (Nat.le_refl _),Nat.ne_of_lt (Nat.lt_succ_self _),fun z=>?_,fun v z=>?_⟩
    · rcases List.mem_cons.mp (I.stkSub _ z) with e | e
      · exact absurd I.lt (by rw[← e];exact Nat.lt_irrefl _)
      · exact I.nofs (Nat.le_refl _) e
    · have z':Data.seq _ _=Data.cell v:=z
      cases z'
  · show (cbase tn.length idx σ).length=(tn++cap).length
    have:=congrArg List.length S.ci
    unfold cbase caps
    simp only[List.length_append,List.length_replicate,List.length_map] at this ⊢
    omega
theorem comp_back {N':List Str}{cs:List (Str × Addr)}{C D:Addr}{pins':List (Addr × Obj)}{σ':St}{H8:Hp}{s8:Shared}{vs:List V}{its:List Value}{n:Nat} (I:Inv X pins σ H s2) (hf:∀b∈fp,FpOk X pins H b)
    (J:Inv (cxC X N' scope cs C fp s2 H) pins' σ' H8 s8) (hD:s2.heap.objs.size≤D) (hD8:H8 D=none) (hget:s8.heap.get? D=some { cls:=.type "list",data:=.seq its.toArray n }) (r:Vals vs its) (hz:vs.length≤sizeLine) :
    Inv X pins σ (upd H8 D (.lst vs)) s8:=by
  have u:=J.base
  have hb:∀b o,s2.heap.get? b=some o→b≠D:=fun b o e=>Nat.ne_of_lt (Nat.lt_of_lt_of_le (Heap.lt_size e) hD)
  refine I.call' (ch:=fp) J.os ⟨u.keep,u.slot,fun b o e n hx=>?_,u.there,fun b xs e=>?_,fun b o xs e=>?_,fun b ps e=>?_⟩ (fun b o e=>?_) J.bare fun b hbf=>?_
  · rw[upd_ne (hb b o e)];exact u.free b o e n hx
  · have q:=u.tups b xs e
    rw[upd_ne (ne_of_none q hD8)];exact q
  · have q:=u.frzs b o xs e
    rw[upd_ne (ne_of_none q hD8)];exact q
  · obtain ⟨m,q⟩:=u.tbls b ps e
    exact⟨m,by rw[upd_ne (ne_of_none q hD8)];exact q⟩
  · by_cases e1:b=D
    · subst e1
      rw[upd_same] at e
      cases e
      exact⟨hz,its,n,r,hget⟩
    · rw[upd_ne e1] at e
      exact (J.hok b o e).stay (fun _ _ _ q=>q) (fun c q=>by rw[upd_ne (ne_of_none q hD8)];exact q) fun c xs q=>by rw[upd_ne (ne_of_none q hD8)];exact q
  · obtain ⟨_,f1,_,f3,f4,f5⟩:=hf b hbf
    exact⟨f3,f1,f4,f5⟩
def PTs (X:Cx) (ifs:List Expr) (tt:TT):Prop :=
  ∀(pins:List (Addr × Obj)) (s:Shared) (σ:St) (H:Hp) (Q:Bool→Hp→Prop),Inv X pins σ H s→tt σ H Q →
    wpAny (model X.prog X.w) X.A (forIn ifs true fun c r=>if r=true then do let ok ← isTrue c X.env (eval c X.env);pure (ForInStep.yield ok) else pure (ForInStep.yield r)) (TP X pins σ Q) X.xe s
def tYes:TT:=fun _ H Q=>Q true H
theorem pts_nil:PTs X [] tYes:=fun _ _ _ H _ I h=>wpAny_tests_nil ⟨H,I,h⟩
theorem pts_one {c:Expr}{tc:TT} (h:PT X c tc):PTs X [c] tc:=fun pins s σ H Q I q=>wpAny_tests_one (h pins s σ H Q I q)
def tComp (wi:TI) (g:TG) (tt:TT) (te:TE) (k:Nat) (idx:List Nat):TE:=fun σ H Q=>wi σ H fun J H1 =>
  ∃W:Nat→Nat→List V→Hp→Prop,(∃m,W 0 m [] H1)∧∀i m vs H,W i m vs H →
    (J.stop i H∧vs.length≤sizeLine∧∀p,H p=none→Q (.ref p) (upd H p (.lst vs))) ∨
    (J.go i H∧vs.length≤sizeLine∧∃N:List V→Hp→Prop,(∀vs' H',N vs' H'→∃m',m' < m∧W (i+1) m' vs' H')∧∀x H',J.yld i H x H'→g x (cbase k idx σ) H' fun σ2 H2=>tt σ2 H2 fun b H3 =>
      if b=true then te σ2 H3 fun v H4=>N (vs++[v]) H4 else N vs H3)
def GSet (k:Nat) (g:TG):Prop:=∀x σ H Q,g x σ H Q→g x σ H fun σ2 H2=>Q σ2 H2∧σ2.length=σ.length∧∀j,k≤j→σ2[j]?=σ[j]?
theorem GSet.name {i k:Nat} (h:i<k):GSet k (gName i):=fun x σ H Q q=>⟨q,by simp,fun j hj=>by rw[List.getElem?_set_ne (by omega)]⟩
theorem cbase_low {k j:Nat}{idx:List Nat}{σ:St}{v:V} (h:(cbase k idx σ)[j]?=some (some v)):k≤j:=by
  by_cases hj:j<k
  · unfold cbase at h
    rw[List.getElem?_append_left (by rw[List.length_replicate];exact hj),List.getElem?_replicate,if_pos hj] at h
    cases h
  · omega
theorem comp_block {elt target iter:Expr}{ifs:List Expr}{pos:Pos}{g:TG}{tt:TT}{te:TE}{E:Value→Shared→Prop}{it:Addr}{tnn:Nat→Heap→Prop}{J:It}{Q:VK}{RR:Value→Addr→Result→Shared→Prop}
    (hcalm:X.calm=true) (S:CompScope X scope tn cap idx) (hgs:GSet tn.length g)
    (hg:∀cs C fp s₀ H₀,PG (cxC X (tn++cap) scope cs C fp s₀ H₀) target g) (ht:∀cs C fp s₀ H₀,PTs (cxC X (tn++cap) scope cs C fp s₀ H₀) ifs tt)
    (he:∀cs C fp s₀ H₀,PE (cxC X (tn++cap) scope cs C fp s₀ H₀) elt te)
    (I:Inv X pins σ H s2) (T:Turn X.prog X.w X.K target J fp it tnn) (st2:tnn 0 s2.heap) (f2:∀b∈fp,FpOk X pins H b)
    (hW:∃W:Nat→Nat→List V→Hp→Prop,(∃m,W 0 m [] H)∧∀i m vs H,W i m vs H →
      (J.stop i H∧vs.length≤sizeLine∧∀p,H p=none→Q (.ref p) (upd H p (.lst vs))) ∨
      (J.go i H∧vs.length≤sizeLine∧∃N:List V→Hp→Prop,(∀vs' H',N vs' H'→∃m',m' < m∧W (i+1) m' vs' H')∧∀x H',J.yld i H x H'→g x (cbase tn.length idx σ) H' fun σ2 H2=>tt σ2 H2 fun b H3 =>
        if b=true then te σ2 H3 fun v H4=>N (vs++[v]) H4 else N vs H3))
    (hRR:∀(s8:Shared) (H8:Hp) (C D:Addr) (m:Str→Option Value),Inv X pins σ H8 s8→s8.heap.Ns C m→H8 C=none→s2.heap.objs.size≤C→Q (.ref D) H8→RR (.ref D) C (.ok .next) s8) :
    wpAny (model X.prog X.w) X.A (newList []) (fun acc s₃=>wpAny (model X.prog X.w) X.A (newFunctionEnv scope X.env.globals (clFrom X.env scope.names []) [] X.env.qual none .none (some X.env)) (fun cenv s₄ =>
      codeAny (model X.prog X.w) X.A (.compStart (.ListComp elt [⟨target,iter,ifs,0⟩] scope pos) 0 (.ref it) acc { cenv with scope:=relabel scope X.env }) (RR acc cenv.locals) s₄) E s₃) E s2:=by
  obtain ⟨W,⟨m0,w0⟩,turn⟩:=hW
  have hfl:∀b∈fp,b<s2.heap.objs.size:=fun b hb=>by
    obtain ⟨o,e,_⟩:=T.obj _ _ st2 b hb
    exact Heap.lt_size e
  have I4:=comp_start I S f2 hfl
  refine wpAny_newObj_type (wpAny_newEnv_comp ?_)
  have e1:({ s2 with heap:=s2.heap.push cObjL }:Shared).heap.objs.size=s2.heap.objs.size+1:=Heap.size_push ..
  rw[e1]
  generalize hX':cxC X (tn++cap) scope (cCells X s2.heap scope) (s2.heap.objs.size+1) fp s2 H=X' at I4
  have hA:X'.A=X.A:=by subst hX';rfl
  have hprog:X'.prog=X.prog:=by subst hX';rfl
  have hw:X'.w=X.w:=by subst hX';rfl
  have hK:X'.K=X.K:=by subst hX';rfl
  have hcal:X'.calm=true:=by subst hX';exact hcalm
  have hxe:X'.xe=fun _ _=>False:=by subst hX';rfl
  have hloc:X'.env.locals=s2.heap.objs.size+1:=by subst hX';rfl
  have hpn:X'.pn=[]:=by subst hX';rfl
  have hex:X'.ex=fp:=by subst hX';rfl
  have hs0:X'.s₀=s2:=by subst hX';rfl
  have hg':PG X' target g:=by subst hX';exact hg _ _ _ _ _
  have ht':PTs X' ifs tt:=by subst hX';exact ht _ _ _ _ _
  have he':PE X' elt te:=by subst hX';exact he _ _ _ _ _
  have henv:X'.env={ scope:=relabel scope X.env,locals:=s2.heap.objs.size+1,globals:=X.env.globals,cells:=cCells X s2.heap scope,qual:=X.env.qual,func:=none,code:=X.env.code,frame:=X.env.frame,builtins:=X.env.builtins }:=by subst hX';rfl
  let lo:List Value→Nat→Obj:=fun its n=>{ cls:=.type "list",data:=.seq its.toArray n }
  have stat:∀{H':Hp}{pl:List (Addr × Obj)},(∀b∈fp,H' b=none)→(∀p∈pl,p.1∉fp)→∀b∈fp,FpOk X' pl H' b:=fun {H' pl} hn hp b hb=>by
    have q:=I4.ok.exf b (by rw[hex];exact hb)
    have q2:=I4.ok.exfs b (by rw[hex];exact hb)
    refine⟨hn b hb,q.1,q2,.inl (by rw[hex];exact hb),q.2,fun p hp' z=>?_⟩
    rw[hpn] at hp'
    exact hp p hp' (by rw[z];exact hb)
  have Dfp:s2.heap.objs.size∉fp:=fun z=>Nat.lt_irrefl _ (hfl _ z)
  have D1:∀(o:Obj),∀p∈[((s2.heap.objs.size:Addr),o)],p.1∉fp:=fun o p hp=>by
    obtain rfl:=List.mem_singleton.mp hp
    exact Dfp
  have loop:∀s3:Shared,s3={ s2 with heap:=cHeap s2.heap scope } →
      codeAny (model X.prog X.w) X.A (.compLoop (.ListComp elt [⟨target,iter,ifs,0⟩] scope pos) 0 (.ref it) (.ref s2.heap.objs.size) X'.env) (RR (.ref s2.heap.objs.size) (s2.heap.objs.size+1)) s3:=by
    intro s3 hs3
    subst hs3
    refine compLoop_any (fun n s'=>∃i vs its nn σ' H',Inv X' [(s2.heap.objs.size,lo its nn)] σ' H' s'∧(∀(j:Nat) v,(cbase tn.length idx σ)[j]?=some (some v)→σ'[j]?=some (some v))∧σ'.length=(cbase tn.length idx σ).length∧tnn i s'.heap∧(∀b∈fp,H' b=none)∧Vals vs its∧W i n vs H') ?_ m0
      ⟨0,[],[],0,_,H,I4,fun _ _ z=>z,rfl,T.keep _ _ _ st2 (fun b hb o e=>pushCells_keeps _ _ _ _ (Heap.get?_push_of_some _ (Heap.get?_push_of_some _ e))),fun b hb=>(f2 b hb).1,.nil,w0⟩
    rintro n s' ⟨i,vs,its,nn,σ',H',I',hσ,hσl,st',fr',rv,w'⟩
    have I5:Inv X' [(s2.heap.objs.size,lo its nn)] (cbase tn.length idx σ) H' s':=I'.weak hσl.symm hσ
    rcases turn i n vs H' w' with ⟨stop,hz,q⟩ | ⟨go,hz,N,hN,step⟩
    · -- it ends
      have td:=T.done X' hprog hw hK hcal i _ s' _ H' (fun _ _=>False) I5 (stat fr' (D1 _)) st' stop
      rw[hA] at td
      refine thn td fun r s8 ⟨hr,I8⟩=>?_
      subst hr
      obtain ⟨hp1,hp2,_⟩:=I8.pin (s2.heap.objs.size,lo its nn) (by rw[hpn];exact List.mem_singleton.mpr rfl)
      have J8:Inv X pins σ (upd H' s2.heap.objs.size (.lst vs)) s8:=by
        subst hX'
        exact comp_back I f2 I8 (Nat.le_refl _) hp2 hp1 rv hz
      obtain ⟨m,hm,_⟩:=I8.loc
      rw[hloc] at hm
      have hCf:H' (s2.heap.objs.size+1)=none:=by have:=I8.free;rw[hloc] at this;exact this
      refine hRR s8 _ _ _ m J8 hm ?_ (Nat.le_succ _) (q _ hp2)
      rw[upd_ne (Nat.ne_of_gt (Nat.lt_succ_self _))]
      exact hCf
    · -- a turn
      have ti:=T.item X' hprog hw hK hcal i _ s' _ H' (fun _ _=>False) I5 (stat fr' (D1 _)) st' go
      rw[hA] at ti
      refine thn ti fun r s5 ⟨u,hr,h5⟩=>?_
      subst hr
      refine thn h5 fun _ s6 ⟨x,H6,I6,r6,y6,st6,fr6⟩=>?_
      have I6':=I6.pinned (stat fr6 (D1 _)) (T.obj _ _ st6)
      have ag:=hg' _ s6 _ H6 x u _ I6' r6 (hgs _ _ _ _ (step x H6 y6))
      rw[hprog,hw,hA,hxe] at ag
      refine thn ag fun _ s7 ⟨σ7,H7,I7,q7,hl7,hj7⟩=>?_
      have at7:=ht' _ s7 σ7 H7 _ I7 q7
      rw[hprog,hw,hA,hxe] at at7
      refine thn at7 fun b s8 ⟨H8,I8,q8⟩=>?_
      have again:∀{s9:Shared}{H9:Hp}{vs9:List V}{its9:List Value}{n9:Nat},Inv X' ([(s2.heap.objs.size,lo its9 n9)]++pinsAt fp s6.heap) σ7 H9 s9→Vals vs9 its9→N vs9 H9 →
          ∃m,m<n∧∃i vs its nn σ' H',Inv X' [(s2.heap.objs.size,lo its nn)] σ' H' s9∧(∀(j:Nat) v,(cbase tn.length idx σ)[j]?=some (some v)→σ'[j]?=some (some v))∧σ'.length=(cbase tn.length idx σ).length∧tnn i s9.heap∧(∀b∈fp,H' b=none)∧Vals vs its∧W i m vs H':=by
        intro s9 H9 vs9 its9 n9 I9 r9 n9'
        obtain ⟨m',hm',w9⟩:=hN _ _ n9'
        refine⟨m',hm',i+1,vs9,its9,n9,σ7,H9,I9.unpinned,fun j v e=>by rw[hj7 j (cbase_low e)];exact e,hl7,T.keep _ _ _ st6 fun b hb o e=>(I9.pin (b,o) (List.mem_append_right _ (List.mem_append_right _ (mem_pinsAt hb e)))).1,fun b hb=>?_,r9,w9⟩
        obtain ⟨o,e,d⟩:=T.obj _ _ st6 b hb
        exact (I9.pin (b,o) (List.mem_append_right _ (List.mem_append_right _ (mem_pinsAt hb e)))).2.1
      cases b with
      | false =>
        exact again I8 rv q8
      | true =>
        have ae:=he' _ s8 σ7 H8 _ I8 q8
        rw[hprog,hw,hA,hxe] at ae
        refine thn ae fun xv s9 ⟨v9,H9,I9,r9,q9⟩=>?_
        obtain ⟨hp1,hp2,hp3,hp4,_⟩:=I9.pin (s2.heap.objs.size,lo its nn) (List.mem_append_right _ (List.mem_append_left _ (List.mem_singleton.mpr rfl)))
        have rvl:=rv.length
        refine append_at (hsz:=by rw[List.size_toArray];omega) hp1 fun h' hs' ho'=>?_
        have nfp:∀p∈pinsAt fp s6.heap,p.1≠s2.heap.objs.size:=fun p hp z=>Dfp (by rw[← z];exact (of_pinsAt hp).1)
        have I10:Inv X' (pinsAt fp s6.heap) σ7 H9 s9:=I9.pins_of fun p hp=>I9.pin p (List.mem_append_right _ (List.mem_append_right _ hp))
        have I11:Inv X' (pinsAt fp s6.heap) σ7 H9 { s9 with heap:=h' }:=I10.turned (t':=s9.toks) (it:=s2.heap.objs.size) (fun b o hb e=>hs'.extBut b o hb e) hp2 hp3 (.inr (by rw[hs0];exact Nat.le_refl _))
          (fun x c e z=>by
            obtain ⟨v,o,q1,q2⟩:=I9.cell x c e
            rw[z,hp1] at q1
            cases q1
            cases q2) (fun p hp=>by rw[hpn] at hp;exact nfp p hp)
        have eo:({ cls:=.type "list",data:=.seq (its.toArray.push xv) (nn+1) }:Obj)=lo (its++[xv]) (nn+1):=by
          show ({ cls:=.type "list",data:=.seq (its.toArray.push xv) (nn+1) }:Obj)={ cls:=.type "list",data:=.seq (its++[xv]).toArray (nn+1) }
          rw[List.push_toArray]
        refine again (vs9:=vs++[v9]) (its9:=its++[xv]) (n9:=nn+1) (I11.pins_of fun p hp=>?_) (rv.append (.cons r9 .nil)) q9
        rcases List.mem_append.mp hp with hp | hp
        · obtain rfl:=List.mem_singleton.mp hp
          refine⟨ho'.trans (congrArg some eo),hp2,hp3,hp4,fun v z=>?_⟩
          have z':Data.seq _ _=Data.cell v:=z
          cases z'
        · exact I11.pin p (List.mem_append_right _ hp)
  refine codeAny_compStart_list ?_ ?_
  · have:=loop _ rfl
    rw[henv] at this
    exact this
  · refine T.self _ 0 _ _ _ (T.keep _ _ _ st2 (fun b hb o e=>pushCells_keeps _ _ _ _ (Heap.get?_push_of_some _ (Heap.get?_push_of_some _ e)))) ?_
    have:=loop _ rfl
    rw[henv] at this
    exact this
theorem clos_eq (I:Inv X pins σ H s2) (S:CompScope X scope tn cap idx):closureFor scope X.env=pure (clFrom X.env scope.names []) :=
  closureFor_eq fun n hm=>I.ok.has n (S.fr _ hm rfl)
theorem names_ok (S:CompScope X scope tn cap idx):∀x∈scope.names,x.2=.local→scope.names.lookup x.1=some .local:=fun x hx e=>by
  obtain ⟨n,k⟩:=x
  have e':k=NameKind.local:=e
  subst e'
  exact lookup_nd S.nd hx
theorem pe_comp {elt target iter:Expr}{ifs:List Expr}{pos:Pos}{wi:TI}{g:TG}{tt:TT}{te:TE} (hcalm:X.calm=true) (S:CompScope X scope tn cap idx) (hi:PI X target iter wi) (hgs:GSet tn.length g)
    (hg:∀cs C fp s₀ H₀,PG (cxC X (tn++cap) scope cs C fp s₀ H₀) target g) (ht:∀cs C fp s₀ H₀,PTs (cxC X (tn++cap) scope cs C fp s₀ H₀) ifs tt)
    (he:∀cs C fp s₀ H₀,PE (cxC X (tn++cap) scope cs C fp s₀ H₀) elt te) (hs:∀x,foldedSetIterable iter X.env x=pure x:=by intro _;rfl) :
    PE X (.ListComp elt [⟨target,iter,ifs,0⟩] scope pos) (tComp wi g tt te tn.length idx):=by
  intro pins s σ H Q I h
  rw[eval_ListComp]
  refine wpAny_comprehension_free (use:=none) rfl hs (clos_eq I S) S.kind (names_ok S) (thn (hi pins s σ H _ I h) fun v s1 h1=>thn h1 fun itv s2 h2=>?_)
  obtain ⟨it,fp,tnn,J,H2,e,I2,T,st2,f2,hW⟩:=h2
  subst e
  refine comp_block hcalm S hgs hg ht he I2 T st2 f2 hW fun s8 H8 C D m I8 hm hC hsz q=>?_
  refine⟨m,hm,fun h' hs'=>⟨.ref D,H8,?_,rfl,q⟩⟩
  exact I8.turned (t':=s8.toks) (it:=C) (fun b o hb e=>hs'.extBut b o hb e) hC (fun z=>absurd I2.lt (by rw[← z];exact Nat.not_lt.mpr hsz)) (.inr (Nat.le_trans I2.sz hsz))
    (fun x c e z=>by
      obtain ⟨v,q⟩:=I2.cell x c e
      exact absurd q.lt (by rw[z];exact Nat.not_lt.mpr hsz)) (fun p hp z=>absurd (Heap.lt_size (I2.pin p hp).1) (by rw[z];exact Nat.not_lt.mpr hsz))
theorem ps_setC {elt target iter:Expr}{ifs:List Expr}{pos spos py:Pos}{wi:TI}{g:TG}{tt:TT}{te:TE}{i:Nat}{y:Str} (hcalm:X.calm=true) (S:CompScope X scope tn cap idx) (hN:X.N.Nodup) (hy:X.N[i]?=some y) (hx:Loc X.env.scope y)
    (hi:PI X target iter wi) (hgs:GSet tn.length g)
    (hg:∀cs C fp s₀ H₀,PG (cxC X (tn++cap) scope cs C fp s₀ H₀) target g) (ht:∀cs C fp s₀ H₀,PTs (cxC X (tn++cap) scope cs C fp s₀ H₀) ifs tt)
    (he:∀cs C fp s₀ H₀,PE (cxC X (tn++cap) scope cs C fp s₀ H₀) elt te)
    (hsw:swapsWith (.ListComp elt [⟨target,iter,ifs,0⟩] scope pos) (some (.Name y py)) spos.line X.env=pure true:=by rfl) (hs:∀x,foldedSetIterable iter X.env x=pure x:=by intro _;rfl)
    (hf:X.fn y=true∨X.env.scope.names.lookup y=some .local:=by first | exact .inl rfl | exact .inr rfl | assumption) :
    PS X (.Assign [.Name y py] (.ListComp elt [⟨target,iter,ifs,0⟩] scope pos) spos) (tAsg (tComp wi g tt te tn.length idx) (gName i)):=by
  intro pins s σ H D I h
  rw[exec_Assign_Name_used _ _ _ _ hsw]
  refine wpAny_bind (wpAny_standAt (wpAny_bind ?_))
  show wpAny _ X.A (do let _ ← comprehension (.ListComp elt [⟨target,iter,ifs,0⟩] scope pos) scope X.env _ (newList []) false (eval iter X.env) (some (assign (.Name y py) X.env))) _ _ s
  refine wpAny_bind (wpAny_mono (wpAny_comprehension_free (use:=some (assign (.Name y py) X.env)) (Q:=fun _ s'=>SP X pins D .next s') rfl hs (clos_eq I S) S.kind (names_ok S)
    (thn (hi pins s σ H _ I h) fun v s1 h1=>thn h1 fun itv s2 h2=>?_)) (fun _ s' hq=>wpAny_pure (wpAny_pure hq)) fun _ _ e=>e)
  obtain ⟨it,fp,tnn,J,H2,e,I2,T,st2,f2,hW⟩:=h2
  subst e
  refine comp_block (Q:=fun x H1=>gName i x σ H1 D.nx) hcalm S hgs hg ht he I2 T st2 f2 hW fun s8 H8 C DD m I8 hm hC hsz q=>?_
  show wpAny _ X.A (assign (.Name y py) X.env (.ref DD)) _ _ _
  have CL:C≠X.env.locals:=fun z=>absurd I2.lt (by rw[← z];exact Nat.not_lt.mpr hsz)
  have CC:∀x c,X.env.cells.lookup x=some c→c≠C:=fun x c e z=>by
    obtain ⟨v,q⟩:=I2.cell x c e
    exact absurd q.lt (by rw[z];exact Nat.not_lt.mpr hsz)
  refine wpAny_assign_Name (store_ok2 (v:=.ref DD) I8 hN hy hx rfl (fun s9 I9 ⟨a,hsb,ha⟩=>?_) hf)
  have aC:C≠a:=fun z=>by
    rcases ha with e | e
    · exact CL (z.trans e)
    · exact CC _ _ e z.symm
  refine⟨m,hm.sameBut hsb aC,fun h' hs'=>⟨_,H8,?_,q⟩⟩
  exact I9.turned (t':=s9.toks) (it:=C) (fun b o hb e=>hs'.extBut b o hb e) hC CL (.inr (Nat.le_trans I2.sz hsz)) CC (fun p hp z=>absurd (Heap.lt_size (I2.pin p hp).1) (by rw[z];exact Nat.not_lt.mpr hsz))
end
theorem PE.imp {X:Cx}{e:Expr}{t t':TE} (h:PE X e t) (q:∀σ H Q,t' σ H Q→t σ H Q):PE X e t':=fun pins s σ H Q I z=>h pins s σ H Q I (q σ H Q z)
theorem PS.imp {X:Cx}{e:Stmt}{t t':TS} (h:PS X e t) (q:∀D σ H,t' D σ H→t D σ H):PS X e t':=fun pins s σ H D I z=>h pins s σ H D I (q D σ H z)
def CompGo (J:It) (g:TG) (te:TE) (k:Nat) (idx:List Nat) (σ:St) (H1:Hp) (Q:VK):Prop :=
  ∃W:Nat→Nat→List V→Hp→Prop,(∃m,W 0 m [] H1)∧∀i m vs H,W i m vs H →
    (J.stop i H∧vs.length≤sizeLine∧∀p,H p=none→Q (.ref p) (upd H p (.lst vs))) ∨
    (J.go i H∧vs.length≤sizeLine∧∃N:List V→Hp→Prop,(∀vs' H',N vs' H'→∃m',m' < m∧W (i+1) m' vs' H')∧∀x H',J.yld i H x H'→g x (cbase k idx σ) H' fun σ2 H2=>te σ2 H2 fun v H4=>N (vs++[v]) H4)
def tComp0 (wi:TI) (g:TG) (te:TE) (k:Nat) (idx:List Nat):TE:=fun σ H Q=>wi σ H fun J H1=>CompGo J g te k idx σ H1 Q
theorem tComp0_eq {wi:TI}{g:TG}{te:TE}{k:Nat}{idx:List Nat}:tComp0 wi g te k idx=tComp wi g tYes te k idx:=by
  have e:∀(A B:Prop),(if true=true then A else B)=A:=fun A B=>if_pos rfl
  unfold tComp0 CompGo tComp tYes
  simp only[if_true]
section
variable {X:Cx}{scope:Scope}{tn cap:List Str}{idx:List Nat}
theorem pe_comp0 {elt target iter:Expr}{pos:Pos}{wi:TI}{g:TG}{te:TE} (S:CompScope X scope tn cap idx) (hi:PI X target iter wi) (hgs:GSet tn.length g)
    (hg:∀cs C fp s₀ H₀,PG (cxC X (tn++cap) scope cs C fp s₀ H₀) target g)
    (he:∀cs C fp s₀ H₀,PE (cxC X (tn++cap) scope cs C fp s₀ H₀) elt te) (hcalm:X.calm=true:=by rfl) (hs:∀x,foldedSetIterable iter X.env x=pure x:=by intro _;rfl) :
    PE X (.ListComp elt [⟨target,iter,[],0⟩] scope pos) (tComp0 wi g te tn.length idx):=by
  rw[tComp0_eq]
  exact pe_comp hcalm S hi hgs hg (fun _ _ _ _ _=>pts_nil) he hs
theorem ps_setC0 {elt target iter:Expr}{pos spos py:Pos}{wi:TI}{g:TG}{te:TE}{i:Nat}{y:Str} (S:CompScope X scope tn cap idx) (hN:X.N.Nodup) (hy:X.N[i]?=some y) (hx:Loc X.env.scope y)
    (hi:PI X target iter wi) (hgs:GSet tn.length g)
    (hg:∀cs C fp s₀ H₀,PG (cxC X (tn++cap) scope cs C fp s₀ H₀) target g)
    (he:∀cs C fp s₀ H₀,PE (cxC X (tn++cap) scope cs C fp s₀ H₀) elt te) (hcalm:X.calm=true:=by rfl)
    (hsw:swapsWith (.ListComp elt [⟨target,iter,[],0⟩] scope pos) (some (.Name y py)) spos.line X.env=pure true:=by rfl) (hs:∀x,foldedSetIterable iter X.env x=pure x:=by intro _;rfl)
    (hf:X.fn y=true∨X.env.scope.names.lookup y=some .local:=by first | exact .inl rfl | exact .inr rfl | assumption) :
    PS X (.Assign [.Name y py] (.ListComp elt [⟨target,iter,[],0⟩] scope pos) spos) (tAsg (tComp0 wi g te tn.length idx) (gName i)):=by
  rw[tComp0_eq]
  exact ps_setC hcalm S hN hy hx hi hgs hg (fun _ _ _ _ _=>pts_nil) he hsw hs hf
end
end L2
set_option Elab.async false
set_option linter.all false
set_option maxRecDepth 100000
set_option maxHeartbeats 4000000
namespace L2
open PySem PySem.Spec PyProof.Rows
inductive D where
  | non | bl (b:Bool) | int (i:Int) | str (x:Str) | lst (ds:List D) | tup (ds:List D)
mutual
def Rf (H:Hp):D→V→List Addr→Prop
  | .non,v,fp=>v=.non∧fp=[]
  | .bl b,v,fp=>v=.bl b∧fp=[]
  | .int i,v,fp=>v=.int i∧fp=[]
  | .str x,v,fp=>v=.str x∧fp=[]
  | .lst ds,v,fp=>∃a xs fq,v=.ref a∧H a=some (.lst xs)∧fp=a::fq∧Rfs H ds xs fq
  | .tup ds,v,fp=>∃a xs,v=.ref a∧H a=some (.tup xs)∧Rfs H ds xs fp
def Rfs (H:Hp):List D→List V→List Addr→Prop
  | [],xs,fp=>xs=[]∧fp=[]
  | d::ds,xs,fp=>∃x r f1 f2,xs=x::r∧fp=f1++f2∧Rf H d x f1∧Rfs H ds r f2
end
def Rp (H:Hp) (d:D) (v:V):Prop:=∃fp,Rf H d v fp
mutual
theorem Rf.mono {H H':Hp}:∀{d:D}{v:V}{fp:List Addr},Rf H d v fp→(∀a∈fp,∀o,H a=some o→H' a=some o)→(∀a xs,H a=some (.tup xs)→H' a=some (.tup xs))→Rf H' d v fp
  | .non,_,_,h,_,_=>h
  | .bl _,_,_,h,_,_=>h
  | .int _,_,_,h,_,_=>h
  | .str _,_,_,h,_,_=>h
  | .lst ds,v,fp,h,k,t=>by
    obtain ⟨a,xs,fq,e1,e2,e3,h⟩:=h
    subst e3
    exact⟨a,xs,fq,e1,k a List.mem_cons_self _ e2,rfl,Rfs.mono h (fun b hb=>k b (List.mem_cons_of_mem _ hb)) t⟩
  | .tup ds,v,fp,h,k,t=>by
    obtain ⟨a,xs,e1,e2,h⟩:=h
    exact⟨a,xs,e1,t a xs e2,Rfs.mono h k t⟩
theorem Rfs.mono {H H':Hp}:∀{ds:List D}{vs:List V}{fp:List Addr},Rfs H ds vs fp→(∀a∈fp,∀o,H a=some o→H' a=some o)→(∀a xs,H a=some (.tup xs)→H' a=some (.tup xs))→Rfs H' ds vs fp
  | [],_,_,h,_,_=>h
  | d::ds,vs,fp,h,k,t=>by
    obtain ⟨x,r,f1,f2,e1,e2,h1,h2⟩:=h
    subst e2
    exact⟨x,r,f1,f2,e1,rfl,Rf.mono h1 (fun b hb=>k b (List.mem_append_left _ hb)) t,Rfs.mono h2 (fun b hb=>k b (List.mem_append_right _ hb)) t⟩
end
mutual
theorem Rf.dom {H:Hp}:∀{d:D}{v:V}{fp:List Addr},Rf H d v fp→∀a∈fp,∃xs,H a=some (.lst xs)
  | .non,_,_,h,a,ha=>by obtain ⟨_,rfl⟩:=h;nomatch ha
  | .bl _,_,_,h,a,ha=>by obtain ⟨_,rfl⟩:=h;nomatch ha
  | .int _,_,_,h,a,ha=>by obtain ⟨_,rfl⟩:=h;nomatch ha
  | .str _,_,_,h,a,ha=>by obtain ⟨_,rfl⟩:=h;nomatch ha
  | .lst ds,v,fp,h,b,hb=>by
    obtain ⟨a,xs,fq,e1,e2,e3,h⟩:=h
    subst e3
    rcases List.mem_cons.mp hb with e | hb
    · subst e;exact⟨xs,e2⟩
    · exact Rfs.dom h b hb
  | .tup ds,v,fp,h,b,hb=>by
    obtain ⟨a,xs,e1,e2,h⟩:=h
    exact Rfs.dom h b hb
theorem Rfs.dom {H:Hp}:∀{ds:List D}{vs:List V}{fp:List Addr},Rfs H ds vs fp→∀a∈fp,∃xs,H a=some (.lst xs)
  | [],_,_,h,a,ha=>by obtain ⟨_,rfl⟩:=h;nomatch ha
  | d::ds,vs,fp,h,b,hb=>by
    obtain ⟨x,r,f1,f2,e1,e2,h1,h2⟩:=h
    subst e2
    rcases List.mem_append.mp hb with hb | hb
    · exact Rf.dom h1 b hb
    · exact Rfs.dom h2 b hb
end
theorem Rfs.length {H:Hp}:∀{ds:List D}{vs:List V}{fp:List Addr},Rfs H ds vs fp→vs.length=ds.length
  | [],_,_,h=>by obtain ⟨rfl,_⟩:=h;rfl
  | d::ds,vs,fp,h=>by
    obtain ⟨x,r,f1,f2,e1,e2,h1,h2⟩:=h
    subst e1
    rw[List.length_cons,List.length_cons,Rfs.length h2]
theorem Rfs.get {H:Hp}:∀{ds:List D}{vs:List V}{fp:List Addr}{i:Nat}{d:D},Rfs H ds vs fp→ds[i]?=some d→∃v f,vs[i]?=some v∧Rf H d v f∧(∀a∈f,a∈fp)
  | [],_,_,_,_,_,e=>by simp at e
  | d::ds,vs,fp,0,d',h,e=>by
    obtain ⟨x,r,f1,f2,rfl,rfl,h1,h2⟩:=h
    simp at e;subst e
    exact⟨x,f1,rfl,h1,fun a ha=>List.mem_append_left _ ha⟩
  | d::ds,vs,fp,i+1,d',h,e=>by
    obtain ⟨x,r,f1,f2,rfl,rfl,h1,h2⟩:=h
    obtain ⟨v,f,e1,h3,k⟩:=Rfs.get (i:=i) h2 (by simpa using e)
    exact⟨v,f,by simpa using e1,h3,fun a ha=>List.mem_append_right _ (k a ha)⟩
abbrev dI (xs:List Int):D:=.lst (xs.map D.int)
abbrev dT (t:List (List Int)):D:=.lst (t.map dI)
inductive Rows (H:Hp):List (List Int)→List Addr→Prop where
  | nil:Rows H [] []
  | cons {xs:List Int}{t:List (List Int)}{a:Addr}{as:List Addr}:H a=some (.lst (xs.map V.int))→Rows H t as→Rows H (xs::t) (a::as)
theorem Rows.length {H:Hp}{t:List (List Int)}{as:List Addr} (h:Rows H t as):as.length=t.length:=by
  induction h with
  | nil=>rfl
  | cons _ _ ih=>rw[List.length_cons,List.length_cons,ih]
end L2
set_option Elab.async false
set_option linter.all false
set_option maxRecDepth 100000
set_option maxHeartbeats 4000000
namespace L2
open PySem PySem.Spec PyProof.Rows
section
variable {X:Cx}
theorem call_isinst:CallR X (.builtin "isinstance") (fun xs H Q=>∃x n t b,xs=[x,.ty n]∧TyOf X.K H x t∧PySem.W.kitOne X.K t (.type n)=some b∧Q (.bl b) H):=by
  intro pins s σ H xs us Q I r h
  obtain ⟨x,n,t,b,rfl,ty,e,q⟩:=h
  obtain ⟨u,w',rfl,rx,rn⟩:=vals2 r
  obtain rfl:w'=Value.type n:=rn
  exact isinst_ok I rx ty e fun tk=>⟨.bl b,H,I.tok _,rfl,q⟩
theorem ints_are:∀{xs:List Int}{us:List Value},Vals (xs.map V.int) us→IntsAre us xs
  | [],us,r=>by cases r;exact .nil
  | x::xs,us,r=>by
    cases r with
    | cons r rr =>
      obtain ⟨t,rfl⟩:=r
      exact .cons _ _ (ints_are rr)
theorem call_sum (hc:X.calm=true):CallR X (.builtin "sum") (fun xs H Q=>∃(a:Addr) (ns:List Int),xs=[.ref a]∧SqL X.K H a (ns.map V.int)∧Q (.int ns.sum) H):=by
  intro pins s σ H xs us Q I r h
  obtain ⟨a,ns,rfl,hS,q⟩:=h
  obtain ⟨u,rfl,ru⟩:=vals1 r
  obtain rfl:u=Value.ref a:=ru
  obtain ⟨its,rv,pl,hz⟩:=I.list hS
  have hi:=ints_are rv
  obtain ⟨xs',e⟩:=hi.allInts.items
  have hl:s.heap.IsList a (intItems xs'):=by rw[← e];exact pl.isList
  refine sum_intListG (I.ok.hd hc) hl fun h' tk t' hk=>⟨.int ns.sum,H,I.kept hk,⟨t',?_⟩,q⟩
  have e2:numsOf its.toArray.toList=ns:=hi.numsOf
  rw[e,nums_intItems] at e2
  rw[preSum_eq,List.take_of_length_le (by simp),e2]
end
def Itz (K:PySem.W.Frag) (a b:Addr):It :=
  ⟨fun i H=>∃xs ys x y,SqL K H a xs∧SqL K H b ys∧xs[i]?=some x∧ys[i]?=some y,
   fun i H v H'=>∃p x y,v=.ref p∧H p=none∧H'=upd H p (.tup [x,y])∧(∀xs,SqL K H a xs→xs[i]?=some x)∧∀ys,SqL K H b ys→ys[i]?=some y,
   fun i H=>∃xs ys,SqL K H a xs∧SqL K H b ys∧(xs.length≤i∨ys.length≤i)⟩
def ZipSt (a b z TI TO i1 i2:Addr) (i:Nat) (h:Heap):Prop :=
  IsZip h z TI TO .none∧IsPair h TI (.ref i1) (.ref i2)∧(∃u v,IsPair h TO u v)∧h.IsListIter i1 a i∧h.IsListIter i2 b i
theorem cls_ne {h:Heap}{a b:Addr}{o u:Obj}{c d:String} (e1:h.get? a=some o) (e2:h.get? b=some u) (c1:o.cls=.type c) (c2:u.cls=.type d) (n:c≠d):a≠b:=fun z=>by
  subst z;rw[e1] at e2;cases e2;rw[c1] at c2;cases c2;exact n rfl
theorem zip_apart {h:Heap}{a b z TI TO i1 i2:Addr}{i:Nat}{xs ys:Array Value} (st:ZipSt a b z TI TO i1 i2 i h) (h1:h.IsList a xs) (h2:h.IsList b ys) (d1:TI≠TO) (d2:i1≠i2):ZipApart z TI TO i1 i2 a b:=by
  obtain ⟨sz,sI,⟨u,v,sO⟩,⟨o1,e1,c1,_⟩,⟨o2,e2,c2,_⟩⟩:=st
  obtain ⟨oa,ea,ca,_⟩:=h1
  obtain ⟨ob,eb,cb,_⟩:=h2
  exact⟨cls_ne sI sz rfl rfl (by decide),cls_ne sO sz rfl rfl (by decide),cls_ne e1 sz c1 rfl (by decide),cls_ne e2 sz c2 rfl (by decide),d1,cls_ne sI e1 rfl c1 (by decide),cls_ne sI e2 rfl c2 (by decide),cls_ne sO e1 rfl c1 (by decide),cls_ne sO e2 rfl c2 (by decide),d2,
    cls_ne ea sz ca rfl (by decide),cls_ne ea sO ca rfl (by decide),cls_ne ea e1 ca c1 (by decide),cls_ne ea e2 ca c2 (by decide),cls_ne eb sz cb rfl (by decide),cls_ne eb sO cb rfl (by decide),cls_ne eb e1 cb c1 (by decide),cls_ne eb e2 cb c2 (by decide)⟩
theorem Inv.turnedL {X:Cx}{pins:List (Addr × Obj)}{σ:St}{H H':Hp}{s:Shared}{h':Heap}{fp:List Addr}{t':Nat} (I:Inv X pins σ H s) (hf:∀b∈fp,FpOk X pins H b) (k:∀b o,b∉fp→s.heap.get? b=some o→h'.get? b=some o)
    (free:∀b o,s.heap.get? b=some o→H b=none→H' b=none) (sm:Same H H') (hok:HOk X.prog X.w H' h'):Inv X pins σ H' { s with heap:=h',toks:=t' }:=by
  have nL:X.env.locals∉fp:=fun z=>(hf _ z).2.1 rfl
  refine I.step (g':=s.gens) (d':=s.drawn) (ch:=fp) (fun b hb=>?_) (fun b o _ _ hc e _=>k b o hc e) (fun b o _ _ hc e _=>⟨o.slots,k b o hc e⟩) (fun b o _ e n=>free b o e n) (fun b o hc e=>⟨o,k b o hc e⟩)
    (fun b xs e=>sm b _ e) (fun b o u e=>sm b _ e) (fun b ps e=>⟨#[],by rw[sm b _ e];simp⟩) (fun m hm=>?_) hok I.bare
  · obtain ⟨_,f1,_,f3,f4,f5⟩:=hf b hb
    exact⟨f3,f1,f4,f5⟩
  · obtain ⟨o,es,ep,ho,r⟩:=hm
    exact⟨o,es,ep,k _ o nL ho,r⟩
theorem turn_zip {P:Program}{w:World}{K:PySem.W.Frag}{elts:List Expr}{x1:Nat}{pos:Pos} (a b z TI TO i1 i2:Addr) (d1:TI≠TO) (d2:i1≠i2):Turn P w K (.Tuple elts x1 pos) (Itz K a b) [z,TI,TO,i1,i2] z (ZipSt a b z TI TO i1 i2) where
  mem:=by simp
  obj:=fun i h st c hc=>by
    obtain ⟨sz,sI,⟨u,v,sO⟩,⟨o1,e1,c1,q1⟩,⟨o2,e2,c2,q2⟩⟩:=st
    simp only[List.mem_cons,List.not_mem_nil,or_false] at hc
    rcases hc with rfl | rfl | rfl | rfl | rfl
    · exact⟨_,sz,fun v z=>by cases z⟩
    · exact⟨_,sI,fun v z=>by cases z⟩
    · exact⟨_,sO,fun v z=>by cases z⟩
    · exact⟨_,e1,fun v z=>by rw[q1] at z;cases z⟩
    · exact⟨_,e2,fun v z=>by rw[q2] at z;cases z⟩
  keep:=fun i h h' st k=>by
    obtain ⟨sz,sI,⟨u,v,sO⟩,s1,s2⟩:=st
    exact⟨k _ (by simp) _ sz,k _ (by simp) _ sI,⟨u,v,k _ (by simp) _ sO⟩,s1.at fun o e=>k _ (by simp) o e,s2.at fun o e=>k _ (by simp) o e⟩
  item:=by
    intro X hP hw hK hc i pins s σ H E I hf st hg
    subst hP hw hK
    obtain ⟨xs,ys,x,y,hq1,hq2,hx,hy⟩:=hg
    obtain ⟨its1,rv1,p1,hz1⟩:=I.list hq1
    obtain ⟨its2,rv2,p2,hz2⟩:=I.list hq2
    obtain ⟨u,hu,ru⟩:=rv1.get hx
    obtain ⟨v,hv,rv⟩:=rv2.get hy
    have Dp:=zip_apart st p1.isList p2.isList d1 d2
    obtain ⟨sz,sI,⟨ua,ub,sO⟩,s1,s2⟩:=st
    refine wpAny_pyNext_zip_item Dp sz sI sO s1 s2 p1.isList p2.isList (x:=u) (y:=v) (by simpa using hu) (by simpa using hv) fun h1 z1 O1 t1 t2 pr hsz kk=>?_
    refine⟨.ref s.heap.objs.size,rfl,wpAny_letOwnedTupleGo_zip z1 fun h2 z2 sb=>?_⟩
    have zlt:z<s.heap.objs.size:=Heap.lt_size sz
    have pz:s.heap.objs.size≠z:=Nat.ne_of_gt zlt
    have hn:H s.heap.objs.size=none:=I.hok.fresh (Nat.le_refl _)
    have k2:∀c o,c∉[z,TI,TO,i1,i2]→s.heap.get? c=some o→h2.get? c=some o:=fun c o hc e=>by
      simp only[List.mem_cons,List.not_mem_nil,or_false,not_or] at hc
      exact sb.extBut c o hc.1 (kk c o hc.1 hc.2.2.1 hc.2.2.2.1 hc.2.2.2.2 e)
    have sm:Same H (upd H s.heap.objs.size (.tup [x,y])):=fun c o e=>by rw[upd_ne (ne_of_none e hn)];exact e
    refine⟨.ref s.heap.objs.size,upd H s.heap.objs.size (.tup [x,y]),?_,rfl,⟨s.heap.objs.size,x,y,rfl,hn,rfl,fun zs hz=>by rw[I.list_inj hz hq1];exact hx,fun zs hz=>by rw[I.list_inj hz hq2];exact hy⟩,
      ⟨z2,sb.extBut _ _ Dp.TIz (kk _ _ Dp.TIz Dp.TITO Dp.TIi1 Dp.TIi2 sI),⟨u,v,sb.extBut _ _ Dp.TOz O1⟩,t1.at fun o e=>sb.extBut _ _ Dp.i1z e,t2.at fun o e=>sb.extBut _ _ Dp.i2z e⟩,fun c hc=>?_⟩
    · refine I.turnedL (t':=s.toks) hf k2 (fun c o e n=>by rw[upd_ne (Nat.ne_of_lt (Heap.lt_size e))];exact n) sm fun c o e=>?_
      by_cases ec:c=s.heap.objs.size
      · subst ec
        rw[upd_same] at e
        cases e
        exact⟨by simp only[List.length_cons,List.length_nil];rw[sizeLine_eq];decide,[u,v],.cons ru (.cons rv .nil),⟨_,sb.extBut _ _ pz pr,rfl,0,rfl⟩⟩
      · rw[upd_ne ec] at e
        refine (I.hok c o e).stay (fun d w' hd q=>k2 d w' (fun hm=>?_) q) (fun d q=>sm d _ q) fun d ds q=>sm d _ q
        have hdn:=(hf d hm).1
        rcases hd with rfl | hd
        · rw[hdn] at e;cases e
        · rw[hdn] at hd;cases hd
    · have:=(hf c hc).1
      by_cases ec:c=s.heap.objs.size
      · exfalso
        subst ec
        obtain ⟨_,e1,_⟩:=s1
        obtain ⟨_,e2,_⟩:=s2
        simp only[List.mem_cons,List.not_mem_nil,or_false] at hc
        rcases hc with q | q | q | q | q
        · exact pz q
        · exact absurd (Heap.lt_size sI) (by rw[← q];exact Nat.lt_irrefl _)
        · exact absurd (Heap.lt_size sO) (by rw[← q];exact Nat.lt_irrefl _)
        · exact absurd (Heap.lt_size e1) (by rw[← q];exact Nat.lt_irrefl _)
        · exact absurd (Heap.lt_size e2) (by rw[← q];exact Nat.lt_irrefl _)
      · rw[upd_ne ec];exact this
  done:=by
    intro X hP hw hK hc i pins s σ H E I hf st hg
    subst hP hw hK
    obtain ⟨xs,ys,hq1,hq2,hle⟩:=hg
    obtain ⟨its1,rv1,p1,hz1⟩:=I.list hq1
    obtain ⟨its2,rv2,p2,hz2⟩:=I.list hq2
    have l1:=rv1.length
    have l2:=rv2.length
    have Dp:=zip_apart st p1.isList p2.isList d1 d2
    obtain ⟨sz,sI,⟨ua,ub,sO⟩,s1,s2⟩:=st
    refine wpAny_pyNext_zip_end (I.ok.hd hc) Dp sz sI sO s1 s2 p1.isList p2.isList (hle.elim (fun q=>.inl (by simp;omega)) fun q=>.inr (by simp;omega)) fun h1 kk=>⟨rfl,?_⟩
    have k2:∀c o,c∉[z,TI,TO,i1,i2]→s.heap.get? c=some o→h1.get? c=some o:=fun c o hc e=>by
      simp only[List.mem_cons,List.not_mem_nil,or_false,not_or] at hc
      exact kk c o hc.1 hc.2.2.1 hc.2.2.2.1 hc.2.2.2.2 e
    refine I.turnedL (t':=s.toks) hf k2 (fun _ _ _ n=>n) (Same.refl H) fun c o e=>?_
    refine (I.hok c o e).stay (fun d w' hd q=>k2 d w' (fun hm=>?_) q) (fun d q=>q) fun d ds q=>q
    have hdn:=(hf d hm).1
    rcases hd with rfl | hd
    · rw[hdn] at e;cases e
    · rw[hdn] at hd;cases hd
  self:=fun _ _ _ _ _ st h=>wpAny_pyIter_zip st.1 h
section
variable {X:Cx}
def iZip (K:PySem.W.Frag) (ta:TA):TI:=fun σ H R=>ta σ H fun vs H1=>∃a b,vs=[.ref a,.ref b]∧(∃xs,SqL K H1 a xs)∧(∃ys,SqL K H1 b ys)∧R (Itz K a b) H1
theorem pi_zip {elts:List Expr}{x1:Nat}{tp:Pos}{a b:Expr}{ta:TA}{p pos:Pos} (hg:Gl X "zip") (hm:X.mg "zip" = none) (ha:PA X [a,b] ta) (hs:starEach [a,b] X.env=[(false,eval a X.env),(false,eval b X.env)]:=by rfl) (hs2:starEach [b] X.env=[(false,eval b X.env)]:=by rfl) :
    PI X (.Tuple elts x1 tp) (.Call (.Name "zip" p) [a,b] [] pos) (iZip X.K ta):=by
  intro pins s σ H R I h
  refine Call_ (ld_blt I hg hm boot_zip (PyProof.Rows.callWith_type1 (thn (ha pos pins s σ H _ I h) fun us s1 ⟨vs,H1,I1,r1,q1⟩=>?_) (by rw[hs,hs2]) (by rw[hs2];rfl)))
  obtain ⟨l1,l2,rfl,⟨xs,hx⟩,⟨ys,hy⟩,q⟩:=q1
  obtain ⟨u1,u2,rfl,r2,r3⟩:=vals2 r1
  obtain rfl:u1=Value.ref l1:=r2
  obtain rfl:u2=Value.ref l2:=r3
  obtain ⟨its1,rv1,p1,hz1⟩:=I1.list hx
  obtain ⟨its2,rv2,p2,hz2⟩:=I1.list hy
  refine call_zip_2 p1.isList p2.isList fun h' sz sI sO t1 t2 hsz kk=>?_
  have I2:Inv X pins σ H1 { s1 with heap:=h' }:=I1.kept (t':=s1.toks) kk
  refine wpAny_pyIter_zip sz ⟨_,_,ZipSt l1 l2 (s1.heap.objs.size+4) (s1.heap.objs.size+2) (s1.heap.objs.size+3) s1.heap.objs.size (s1.heap.objs.size+1),Itz X.K l1 l2,H1,rfl,I2,turn_zip _ _ _ _ _ _ _ (Nat.ne_of_lt (Nat.lt_succ_self _)) (Nat.ne_of_lt (Nat.lt_succ_self _)),⟨sz,sI,⟨_,_,sO⟩,t1,t2⟩,fun c hc=>?_,q⟩
  simp only[List.mem_cons,List.not_mem_nil,or_false] at hc
  have hge:s1.heap.objs.size≤c:=by rcases hc with rfl | rfl | rfl | rfl | rfl<;>first | exact Nat.le_add_right _ _ | exact Nat.le_refl _
  obtain ⟨g0,g1,g2,g3,g4,g5⟩:=I1.fpOk (H':=H1) hge (I1.hok.fresh hge)
  exact⟨g0,g1,g2,g3,g4,g5⟩
end
mutual
def D.plain:D→Bool
  | .non=>true | .bl _=>false | .int _=>true | .str _=>true
  | .lst ds=>D.plains ds | .tup ds=>D.plains ds
def D.plains:List D→Bool
  | []=>true
  | d::ds=>D.plain d && D.plains ds
end
mutual
def D.depth:D→Nat
  | .lst ds=>D.depths ds+1 | .tup ds=>D.depths ds+1
  | _=>0
def D.depths:List D→Nat
  | []=>0
  | d::ds=>max (D.depth d) (D.depths ds)
end
mutual
def D.eqb:D→D→Bool
  | .non,.non=>true
  | .int i,.int j=>i == j
  | .str i,.str j=>i == j
  | .lst a,.lst b=>D.eqbs a b
  | .tup a,.tup b=>D.eqbs a b
  | _,_=>false
def D.eqbs:List D→List D→Bool
  | [],[]=>true
  | a::as,b::bs=>D.eqb a b && D.eqbs as bs
  | _,_=>false
end
theorem D.eqbs_iff:∀{a b:List D},D.eqbs a b=(decide (a.length=b.length) && (List.range a.length).all fun i=>match a[i]?,b[i]? with | some x,some y=>D.eqb x y | _,_=>false)
  | [],[]=>rfl
  | [],b::bs=>by simp [D.eqbs]
  | a::as,[]=>by simp [D.eqbs]
  | a::as,b::bs=>by
    rw[D.eqbs,D.eqbs_iff (a:=as) (b:=bs),List.length_cons,List.range_succ_eq_map,List.all_cons,List.all_map]
    by_cases h:as.length=bs.length
    · simp [h,Function.comp_def]
    · simp [h]
end L2
set_option Elab.async false
set_option linter.all false
set_option maxRecDepth 100000
set_option maxHeartbeats 4000000
namespace L2
open PySem PySem.Spec PyProof.Rows
open PySem.SeqAt
theorem D.plains_get:∀{ds:List D}{i:Nat}{d:D},D.plains ds=true→ds[i]?=some d→d.plain=true
  | [],i,d,_,e=>by simp at e
  | c::ds,0,d,h,e=>by
    simp at e;subst e
    rw[D.plains,Bool.and_eq_true] at h
    exact h.1
  | c::ds,i+1,d,h,e=>by
    rw[D.plains,Bool.and_eq_true] at h
    exact D.plains_get (i:=i) h.2 (by simpa using e)
theorem D.depths_get:∀{ds:List D}{i:Nat}{d:D},ds[i]?=some d→d.depth≤D.depths ds
  | [],i,d,e=>by simp at e
  | c::ds,0,d,e=>by
    simp at e;subst e
    rw[D.depths]
    exact Nat.le_max_left _ _
  | c::ds,i+1,d,e=>by
    rw[D.depths]
    exact Nat.le_trans (D.depths_get (i:=i) (by simpa using e)) (Nat.le_max_right _ _)
theorem D.eqbs_all {a b:List D} (hl:a.length=b.length) (f:Nat→Bool) (h:∀i x y,a[i]?=some x→b[i]?=some y→f i=D.eqb x y):D.eqbs a b=(List.range a.length).all f:=by
  rw[D.eqbs_iff,decide_eq_true hl,Bool.true_and,Bool.eq_iff_iff]
  simp only[List.all_eq_true,List.mem_range]
  constructor
  · intro q i hi
    have:=q i hi
    rw[List.getElem?_eq_getElem hi,List.getElem?_eq_getElem (show i<b.length by omega)] at this
    rw[h i _ _ (List.getElem?_eq_getElem hi) (List.getElem?_eq_getElem (show i<b.length by omega))]
    exact this
  · intro q i hi
    have:=q i hi
    rw[h i _ _ (List.getElem?_eq_getElem hi) (List.getElem?_eq_getElem (show i<b.length by omega))] at this
    rw[List.getElem?_eq_getElem hi,List.getElem?_eq_getElem (show i<b.length by omega)]
    exact this
theorem D.eqbs_len {a b:List D} (hl:a.length≠b.length):D.eqbs a b=false:=by
  rw[D.eqbs_iff,decide_eq_false hl,Bool.false_and]
theorem eqb_one {H:Hp}:∀(n:Nat) (d e:D) (v:V),d.depth≤n→Rp H d v→Rp H e v→d.plain=true→D.eqb d e=true:=by
  intro n
  induction n with
  | zero =>
    intro d e v hn hd he hp
    obtain ⟨f,hd⟩:=hd
    obtain ⟨g,he⟩:=he
    cases d with
    | non=>obtain ⟨rfl,_⟩:=hd;cases e with
      | non=>rfl
      | lst ds=>obtain ⟨_,_,_,z,_⟩:=he;cases z
      | tup ds=>obtain ⟨_,_,z,_⟩:=he;cases z
      | _=>obtain ⟨z,_⟩:=he;cases z
    | bl b=>cases hp
    | int i=>obtain ⟨rfl,_⟩:=hd;cases e with
      | int j=>obtain ⟨z,_⟩:=he;cases z;simp [D.eqb]
      | lst ds=>obtain ⟨_,_,_,z,_⟩:=he;cases z
      | tup ds=>obtain ⟨_,_,z,_⟩:=he;cases z
      | _=>obtain ⟨z,_⟩:=he;cases z
    | str i=>obtain ⟨rfl,_⟩:=hd;cases e with
      | str j=>obtain ⟨z,_⟩:=he;cases z;simp [D.eqb]
      | lst ds=>obtain ⟨_,_,_,z,_⟩:=he;cases z
      | tup ds=>obtain ⟨_,_,z,_⟩:=he;cases z
      | _=>obtain ⟨z,_⟩:=he;cases z
    | lst ds=>rw[D.depth] at hn;omega
    | tup ds=>rw[D.depth] at hn;omega
  | succ n ih =>
    intro d e v hn hd he hp
    have go:∀(ds es:List D) (xs:List V) (f g:List Addr),D.depths ds≤n→Rfs H ds xs f→Rfs H es xs g→D.plains ds=true→D.eqbs ds es=true:=by
      intro ds es xs f g hn h1 h2 hp
      have l1:=h1.length
      have l2:=h2.length
      rw[D.eqbs_all (by omega) (fun _=>true) (fun i x y e1 e2=>?_)]
      · simp
      · obtain ⟨v1,f1,q1,r1,_⟩:=h1.get e1
        obtain ⟨v2,f2,q2,r2,_⟩:=h2.get e2
        rw[q1] at q2;cases q2
        exact (ih x y v1 (Nat.le_trans (D.depths_get e1) hn) ⟨_,r1⟩ ⟨_,r2⟩ (D.plains_get hp e1)).symm
    obtain ⟨f,hd⟩:=hd
    obtain ⟨g,he⟩:=he
    cases d with
    | non=>obtain ⟨rfl,_⟩:=hd;cases e with
      | non=>rfl
      | lst ds=>obtain ⟨_,_,_,z,_⟩:=he;cases z
      | tup ds=>obtain ⟨_,_,z,_⟩:=he;cases z
      | _=>obtain ⟨z,_⟩:=he;cases z
    | bl b=>cases hp
    | int i=>obtain ⟨rfl,_⟩:=hd;cases e with
      | int j=>obtain ⟨z,_⟩:=he;cases z;simp [D.eqb]
      | lst ds=>obtain ⟨_,_,_,z,_⟩:=he;cases z
      | tup ds=>obtain ⟨_,_,z,_⟩:=he;cases z
      | _=>obtain ⟨z,_⟩:=he;cases z
    | str i=>obtain ⟨rfl,_⟩:=hd;cases e with
      | str j=>obtain ⟨z,_⟩:=he;cases z;simp [D.eqb]
      | lst ds=>obtain ⟨_,_,_,z,_⟩:=he;cases z
      | tup ds=>obtain ⟨_,_,z,_⟩:=he;cases z
      | _=>obtain ⟨z,_⟩:=he;cases z
    | lst ds =>
      obtain ⟨a,xs,fq,rfl,e1,rfl,hd⟩:=hd
      cases e with
      | lst es =>
        obtain ⟨b,ys,gq,z,e2,rfl,he⟩:=he
        cases z
        rw[e1] at e2;cases e2
        rw[D.eqb]
        exact go ds es xs fq gq (by rw[D.depth] at hn;omega) hd he hp
      | tup es =>
        obtain ⟨b,ys,z,e2,he⟩:=he
        cases z
        rw[e1] at e2;cases e2
      | _=>obtain ⟨z,_⟩:=he;cases z
    | tup ds =>
      obtain ⟨a,xs,rfl,e1,hd⟩:=hd
      cases e with
      | tup es =>
        obtain ⟨b,ys,z,e2,he⟩:=he
        cases z
        rw[e1] at e2;cases e2
        rw[D.eqb]
        exact go ds es xs f g (by rw[D.depth] at hn;omega) hd he hp
      | lst es =>
        obtain ⟨b,ys,gq,z,e2,rfl,he⟩:=he
        cases z
        rw[e1] at e2;cases e2
      | _=>obtain ⟨z,_⟩:=he;cases z
theorem eqAt_D {X:Cx}{pins:List (Addr × Obj)}{σ:St}{H:Hp}{s:Shared} (I:Inv X pins σ H s):∀(n:Nat) (d e:D) (x y:V) (u w:Value) (A:Around),d.depth≤n→Rp H d x→Rp H e y→RelV x u→RelV y w→d.plain=true→e.plain=true→A.units+n<cLine →
    EqAt A s u w (D.eqb d e):=by
  intro n
  induction n with
  | zero =>
    intro d e x y u w A hn hd he rx ry pd pe hu
    obtain ⟨f,hd⟩:=hd
    obtain ⟨g,he⟩:=he
    have hu':A.units<cLine:=by omega
    cases d with
    | non =>
      obtain ⟨rfl,_⟩:=hd;obtain rfl:u=.none:=rx
      cases e with
      | non=>obtain ⟨rfl,_⟩:=he;obtain rfl:w=.none:=ry;exact EqAt.same _
      | bl b=>cases pe
      | int j=>obtain ⟨rfl,_⟩:=he;obtain ⟨t,rfl⟩:=ry;exact EqAt.none_int _ _
      | str j=>obtain ⟨rfl,_⟩:=he;obtain ⟨t,rfl⟩:=ry;exact EqAt.none_str _ _
      | lst es=>obtain ⟨b,ys,gq,rfl,e2,_,he⟩:=he;obtain rfl:w=.ref b:=ry;obtain ⟨_,_,pl,_⟩:=I.list (SqL.of e2);exact EqAt.none_list pl.isList hu'
      | tup es=>obtain ⟨b,ys,rfl,e2,he⟩:=he;obtain rfl:w=.ref b:=ry;obtain ⟨_,_,pl,_⟩:=I.tuple (SqT.of e2);exact EqAt.none_tuple pl hu'
    | bl b=>cases pd
    | int i =>
      obtain ⟨rfl,_⟩:=hd;obtain ⟨t0,rfl⟩:=rx
      cases e with
      | non=>obtain ⟨rfl,_⟩:=he;obtain rfl:w=.none:=ry;exact EqAt.int_none _ _
      | bl b=>cases pe
      | int j=>obtain ⟨rfl,_⟩:=he;obtain ⟨t,rfl⟩:=ry;exact EqAt.int_int _ _ _ _
      | str j=>obtain ⟨rfl,_⟩:=he;obtain ⟨t,rfl⟩:=ry;exact EqAt.int_str _ _ _ _
      | lst es=>obtain ⟨b,ys,gq,rfl,e2,_,he⟩:=he;obtain rfl:w=.ref b:=ry;obtain ⟨_,_,pl,_⟩:=I.list (SqL.of e2);exact EqAt.int_list _ _ pl.isList hu'
      | tup es=>obtain ⟨b,ys,rfl,e2,he⟩:=he;obtain rfl:w=.ref b:=ry;obtain ⟨_,_,pl,_⟩:=I.tuple (SqT.of e2);exact EqAt.int_tuple _ _ pl hu'
    | str i =>
      obtain ⟨rfl,_⟩:=hd;obtain ⟨t0,rfl⟩:=rx
      cases e with
      | non=>obtain ⟨rfl,_⟩:=he;obtain rfl:w=.none:=ry;exact EqAt.str_none _ _
      | bl b=>cases pe
      | int j=>obtain ⟨rfl,_⟩:=he;obtain ⟨t,rfl⟩:=ry;exact EqAt.str_int _ _ _ _
      | str j=>obtain ⟨rfl,_⟩:=he;obtain ⟨t,rfl⟩:=ry;exact EqAt.str_str _ _ _ _
      | lst es=>obtain ⟨b,ys,gq,rfl,e2,_,he⟩:=he;obtain rfl:w=.ref b:=ry;obtain ⟨_,_,pl,_⟩:=I.list (SqL.of e2);exact EqAt.str_list _ _ pl.isList hu'
      | tup es=>obtain ⟨b,ys,rfl,e2,he⟩:=he;obtain rfl:w=.ref b:=ry;obtain ⟨_,_,pl,_⟩:=I.tuple (SqT.of e2);exact EqAt.str_tuple _ _ pl hu'
    | lst ds=>rw[D.depth] at hn;omega
    | tup ds=>rw[D.depth] at hn;omega
  | succ n ih =>
    intro d e x y u w A hn hd he rx ry pd pe hu
    have hu':A.units<cLine:=by omega
    have ud:A.in1.units+n<cLine:=by show A.units+1+n<cLine;omega
    cases d with
    | non=>exact ih _ _ x y u w A (by simp [D.depth]) hd he rx ry pd pe (by omega)
    | bl b=>cases pd
    | int i=>exact ih _ _ x y u w A (by simp [D.depth]) hd he rx ry pd pe (by omega)
    | str i=>exact ih _ _ x y u w A (by simp [D.depth]) hd he rx ry pd pe (by omega)
    | lst ds =>
      have hd0:=hd
      have he0:=he
      obtain ⟨f,a,xs,fq,rfl,e1,rfl,hd⟩:=hd
      obtain rfl:u=.ref a:=rx
      obtain ⟨its,rv,pl,hz⟩:=I.list (SqL.of e1)
      obtain ⟨g,he⟩:=he
      cases e with
      | non=>obtain ⟨rfl,_⟩:=he;obtain rfl:w=.none:=ry;exact EqAt.list_none pl.isList hu'
      | bl b=>cases pe
      | int j=>obtain ⟨rfl,_⟩:=he;obtain ⟨t,rfl⟩:=ry;exact EqAt.list_int _ _ pl.isList hu'
      | str j=>obtain ⟨rfl,_⟩:=he;obtain ⟨t,rfl⟩:=ry;exact EqAt.list_str _ _ pl.isList hu'
      | tup es=>obtain ⟨b,ys,rfl,e2,he⟩:=he;obtain rfl:w=.ref b:=ry;obtain ⟨_,_,pl2,_⟩:=I.tuple (SqT.of e2);exact EqAt.list_tuple pl.isList pl2 hu'
      | lst es =>
        obtain ⟨b,ys,gq,rfl,e2,rfl,he⟩:=he
        obtain rfl:w=.ref b:=ry
        by_cases hab:a=b
        · subst hab
          rw[eqb_one _ _ _ _ (Nat.le_refl _) hd0 he0 pd]
          exact EqAt.same _
        · obtain ⟨its2,rv2,pl2,hz2⟩:=I.list (SqL.of e2)
          refine EqAt.of_refs hab ?_
          have l1:=rv.length
          have l2:=rv2.length
          have m1:=hd.length
          have m2:=he.length
          by_cases hl:ds.length=es.length
          · have key:=RcAt.lists (A:=A) (e:=fun i=>match ds[i]?,es[i]? with | some x,some y=>D.eqb x y | _,_=>false) pl.isList pl2.isList (by simp;omega) hu' (fun j h1 h2=>by
              have j1:j<ds.length:=by simp at h1;omega
              have j2:j<es.length:=by omega
              simp only[List.getElem?_eq_getElem j1,List.getElem?_eq_getElem j2]
              obtain ⟨v1,f1,q1,r1,_⟩:=hd.get (List.getElem?_eq_getElem j1)
              obtain ⟨v2,f2,q2,r2,_⟩:=he.get (List.getElem?_eq_getElem j2)
              obtain ⟨u1,p1,t1⟩:=rv.get q1
              obtain ⟨u2,p2,t2⟩:=rv2.get q2
              have i1:its.toArray[j]=u1:=by
                have:=List.getElem?_eq_some_iff.mp p1
                obtain ⟨_,z⟩:=this
                simpa using z
              have i2:its2.toArray[j]=u2:=by
                have:=List.getElem?_eq_some_iff.mp p2
                obtain ⟨_,z⟩:=this
                simpa using z
              rw[i1,i2]
              exact ih _ _ v1 v2 u1 u2 A.in1 (by have:=D.depths_get (List.getElem?_eq_getElem j1);rw[D.depth] at hn;omega) ⟨_,r1⟩ ⟨_,r2⟩ t1 t2 (D.plains_get pd (List.getElem?_eq_getElem j1)) (D.plains_get pe (List.getElem?_eq_getElem j2)) ud)
            have e3:D.eqb (.lst ds) (.lst es)=(List.range its.toArray.size).all fun i=>match ds[i]?,es[i]? with | some x,some y=>D.eqb x y | _,_=>false:=by
              rw[D.eqb,D.eqbs_iff,decide_eq_true hl,Bool.true_and]
              rw[show its.toArray.size=ds.length by simp;omega]
              all_goals rfl
            rw[e3]
            exact key
          · rw[D.eqb,D.eqbs_len hl]
            exact RcAt.lists_lengths pl.isList pl2.isList (by simp;omega) hu'
    | tup ds =>
      have hd0:=hd
      have he0:=he
      obtain ⟨f,a,xs,rfl,e1,hd⟩:=hd
      obtain rfl:u=.ref a:=rx
      obtain ⟨its,rv,pl,hz⟩:=I.tuple (SqT.of e1)
      obtain ⟨g,he⟩:=he
      cases e with
      | non=>obtain ⟨rfl,_⟩:=he;obtain rfl:w=.none:=ry;exact EqAt.tuple_none pl hu'
      | bl b=>cases pe
      | int j=>obtain ⟨rfl,_⟩:=he;obtain ⟨t,rfl⟩:=ry;exact EqAt.tuple_int _ _ pl hu'
      | str j=>obtain ⟨rfl,_⟩:=he;obtain ⟨t,rfl⟩:=ry;exact EqAt.tuple_str _ _ pl hu'
      | lst es=>obtain ⟨b,ys,gq,rfl,e2,_,he⟩:=he;obtain rfl:w=.ref b:=ry;obtain ⟨_,_,pl2,_⟩:=I.list (SqL.of e2);exact EqAt.tuple_list pl pl2.isList hu'
      | tup es =>
        obtain ⟨b,ys,rfl,e2,he⟩:=he
        obtain rfl:w=.ref b:=ry
        by_cases hab:a=b
        · subst hab
          rw[eqb_one _ _ _ _ (Nat.le_refl _) hd0 he0 pd]
          exact EqAt.same _
        · obtain ⟨its2,rv2,pl2,hz2⟩:=I.tuple (SqT.of e2)
          refine EqAt.of_refs hab ?_
          have l1:=rv.length
          have l2:=rv2.length
          have m1:=hd.length
          have m2:=he.length
          have key:=RcAt.tuples (A:=A) (e:=fun i=>match ds[i]?,es[i]? with | some x,some y=>D.eqb x y | _,_=>false) pl pl2 hu' (fun j h1 h2=>by
              have j1:j<ds.length:=by simp at h1;omega
              have j2:j<es.length:=by simp at h2;omega
              simp only[List.getElem?_eq_getElem j1,List.getElem?_eq_getElem j2]
              obtain ⟨v1,f1,q1,r1,_⟩:=hd.get (List.getElem?_eq_getElem j1)
              obtain ⟨v2,f2,q2,r2,_⟩:=he.get (List.getElem?_eq_getElem j2)
              obtain ⟨u1,p1,t1⟩:=rv.get q1
              obtain ⟨u2,p2,t2⟩:=rv2.get q2
              have i1:its.toArray[j]=u1:=by
                have:=List.getElem?_eq_some_iff.mp p1
                obtain ⟨_,z⟩:=this
                simpa using z
              have i2:its2.toArray[j]=u2:=by
                have:=List.getElem?_eq_some_iff.mp p2
                obtain ⟨_,z⟩:=this
                simpa using z
              rw[i1,i2]
              exact ih _ _ v1 v2 u1 u2 A.in1 (by have:=D.depths_get (List.getElem?_eq_getElem j1);rw[D.depth] at hn;omega) ⟨_,r1⟩ ⟨_,r2⟩ t1 t2 (D.plains_get pd (List.getElem?_eq_getElem j1)) (D.plains_get pe (List.getElem?_eq_getElem j2)) ud)
          have e3:D.eqb (.tup ds) (.tup es)=((List.range (min its.toArray.size its2.toArray.size)).all (fun i=>match ds[i]?,es[i]? with | some x,some y=>D.eqb x y | _,_=>false) && its.toArray.size == its2.toArray.size):=by
            rw[D.eqb]
            have z1:its.toArray.size=ds.length:=by simp;omega
            have z2:its2.toArray.size=es.length:=by simp;omega
            rw[z1,z2]
            by_cases hl:ds.length=es.length
            · rw[D.eqbs_iff,decide_eq_true hl,Bool.true_and,hl,Nat.min_self,beq_self_eq_true,Bool.and_true]
              all_goals rfl
            · rw[D.eqbs_len hl]
              have:(ds.length == es.length)=false:=beq_eq_false_iff_ne.mpr hl
              rw[this,Bool.and_false]
          rw[e3]
          exact key
def eqAtI (ds es:List D) (i:Nat):Bool:=match ds[i]?,es[i]? with | some x,some y=>D.eqb x y | _,_=>false
theorem items_eq {X:Cx}{pins:List (Addr × Obj)}{σ:St}{H:Hp}{s:Shared} (I:Inv X pins σ H s) {A:Around}{ds es:List D}{xs ys:List V}{f g:List Addr}{its its2:List Value} (hd:Rfs H ds xs f) (he:Rfs H es ys g) (rv:Vals xs its) (rv2:Vals ys its2)
    (pd:D.plains ds=true) (pe:D.plains es=true) (hu:A.units+1+D.depths ds<cLine):∀j (h1:j<its.toArray.size) (h2:j<its2.toArray.size),EqAt A.in1 s its.toArray[j] its2.toArray[j] (eqAtI ds es j):=by
  intro j h1 h2
  have l1:=rv.length
  have l2:=rv2.length
  have m1:=hd.length
  have m2:=he.length
  have j1:j<ds.length:=by simp at h1;omega
  have j2:j<es.length:=by simp at h2;omega
  unfold eqAtI
  simp only[List.getElem?_eq_getElem j1,List.getElem?_eq_getElem j2]
  obtain ⟨v1,f1,q1,r1,_⟩:=hd.get (List.getElem?_eq_getElem j1)
  obtain ⟨v2,f2,q2,r2,_⟩:=he.get (List.getElem?_eq_getElem j2)
  obtain ⟨u1,p1,t1⟩:=rv.get q1
  obtain ⟨u2,p2,t2⟩:=rv2.get q2
  have i1:its.toArray[j]=u1:=by
    obtain ⟨_,z⟩:=List.getElem?_eq_some_iff.mp p1
    simpa using z
  have i2:its2.toArray[j]=u2:=by
    obtain ⟨_,z⟩:=List.getElem?_eq_some_iff.mp p2
    simpa using z
  rw[i1,i2]
  exact eqAt_D I _ _ _ v1 v2 u1 u2 A.in1 (D.depths_get (List.getElem?_eq_getElem j1)) ⟨_,r1⟩ ⟨_,r2⟩ t1 t2 (D.plains_get pd (List.getElem?_eq_getElem j1)) (D.plains_get pe (List.getElem?_eq_getElem j2)) hu
theorem eqbs_range {ds es:List D} (hl:ds.length=es.length):D.eqbs ds es=(List.range ds.length).all (eqAtI ds es):=by
  rw[D.eqbs_iff,decide_eq_true hl,Bool.true_and]
  rfl
section
variable {X:Cx}
def rEqD (neg:Bool):R2:=fun x y H Q=>∃ds es,Rp H (.lst ds) x∧Rp H (.lst es) y∧D.plains ds=true∧D.plains es=true∧D.depths ds≤60∧Q (.bl (if neg then !D.eqbs ds es else D.eqbs ds es)) H
theorem op_eqL (hu:X.A.units+64<cLine):OpR X (compareOp .Eq) (rEqD false):=by
  intro pins s σ H x y v u Q I rx ry h
  obtain ⟨ds,es,⟨f,a,xs,fq,rfl,e1,rfl,hd⟩,⟨g,b,ys,gq,rfl,e2,rfl,he⟩,pd,pe,hdp,q⟩:=h
  obtain rfl:v=.ref a:=rx
  obtain rfl:u=.ref b:=ry
  obtain ⟨its,rv,pl,hz⟩:=I.list (SqL.of e1)
  obtain ⟨its2,rv2,pl2,hz2⟩:=I.list (SqL.of e2)
  have l1:=rv.length
  have l2:=rv2.length
  have m1:=hd.length
  have m2:=he.length
  by_cases hl:ds.length=es.length
  · refine eq_listAt pl.isList pl2.isList (by simp;omega) (by omega) (items_eq I hd he rv rv2 pd pe (by omega)) (fin_bl I q ?_)
    rw[eqbs_range hl,show its.toArray.size=ds.length by simp;omega]
    all_goals rfl
  · refine eq_list_lengthsAt pl.isList pl2.isList (by simp;omega) (by omega) (fin_bl I q ?_)
    rw[D.eqbs_len hl]
    all_goals rfl
theorem op_neL (hu:X.A.units+64<cLine):OpR X (compareOp .NotEq) (rEqD true):=by
  intro pins s σ H x y v u Q I rx ry h
  obtain ⟨ds,es,⟨f,a,xs,fq,rfl,e1,rfl,hd⟩,⟨g,b,ys,gq,rfl,e2,rfl,he⟩,pd,pe,hdp,q⟩:=h
  obtain rfl:v=.ref a:=rx
  obtain rfl:u=.ref b:=ry
  obtain ⟨its,rv,pl,hz⟩:=I.list (SqL.of e1)
  obtain ⟨its2,rv2,pl2,hz2⟩:=I.list (SqL.of e2)
  have l1:=rv.length
  have l2:=rv2.length
  have m1:=hd.length
  have m2:=he.length
  by_cases hl:ds.length=es.length
  · refine RcNeAt.lists pl.isList pl2.isList (by simp;omega) (by omega) (items_eq I hd he rv rv2 pd pe (by omega)) _ _ _ _ (fin_bl I q ?_)
    rw[eqbs_range hl,show its.toArray.size=ds.length by simp;omega]
    all_goals rfl
  · refine RcNeAt.lists_lengths pl.isList pl2.isList (by simp;omega) (by omega) _ _ _ _ (fin_bl I q ?_)
    rw[D.eqbs_len hl]
    all_goals rfl
end
theorem D.plains_ints:∀(xs:List Int),D.plains (xs.map D.int)=true
  | []=>rfl
  | x::xs=>by rw[List.map_cons,D.plains,D.plains_ints xs];rfl
theorem D.plains_rows:∀(t:List (List Int)),D.plains (t.map dI)=true
  | []=>rfl
  | x::xs=>by rw[List.map_cons,D.plains,D.plains_rows xs,D.plain,D.plains_ints];rfl
theorem D.depths_ints:∀(xs:List Int),D.depths (xs.map D.int)=0
  | []=>rfl
  | x::xs=>by rw[List.map_cons,D.depths,D.depths_ints xs];rfl
theorem D.depths_rows:∀(t:List (List Int)),D.depths (t.map dI)≤1
  | []=>by rw[List.map_nil,D.depths];omega
  | x::xs=>by
    have:=D.depths_rows xs
    rw[List.map_cons,D.depths,D.depth,D.depths_ints]
    exact Nat.max_le.mpr ⟨Nat.le_refl _,this⟩
theorem D.eqbs_ints:∀(xs ys:List Int),D.eqbs (xs.map D.int) (ys.map D.int)=decide (xs=ys)
  | [],[]=>rfl
  | [],y::ys=>rfl
  | x::xs,[]=>rfl
  | x::xs,y::ys=>by
    rw[List.map_cons,List.map_cons,D.eqbs,D.eqbs_ints xs ys,D.eqb]
    by_cases h:x=y
    · subst h;simp
    · have:(x == y)=false:=beq_eq_false_iff_ne.mpr h
      simp [this,h]
theorem D.eqbs_rows:∀(xs ys:List (List Int)),D.eqbs (xs.map dI) (ys.map dI)=decide (xs=ys)
  | [],[]=>rfl
  | [],y::ys=>rfl
  | x::xs,[]=>rfl
  | x::xs,y::ys=>by
    rw[List.map_cons,List.map_cons,D.eqbs,D.eqbs_rows xs ys,D.eqb,D.eqbs_ints]
    by_cases h:x=y
    · subst h;simp
    · simp [h]
def CMulB (i j:Int):Prop:=∃m n:Nat,i.natAbs<2 ^ m∧j.natAbs<2 ^ n∧m+n≤100000000
def CDivB (i j:Int):Prop:=0<j∧∃m:Nat,j.natAbs<2 ^ m∧m≤9000
section
variable {X:Cx}
theorem op_mulB:OpR X (binaryOp .Mult) (rI CMulB fun i j=>.int (i*j)):=opI fun i j _ _ _ _ _ hc q=>by
  obtain ⟨m,n,h1,h2,h3⟩:=hc
  exact mul_int q (mulOk_of_bits (intBits_le h1) (intBits_le h2) (by omega))
theorem op_fdivB:OpR X (binaryOp .FloorDiv) (rI CDivB fun i j=>.int (i / j)):=opI fun i j _ _ _ _ _ hc q=>by
  obtain ⟨h0,m,h1,h2⟩:=hc
  have hj:j.natAbs≠0:=by omega
  refine floordiv_int (by omega) ?_ (.inl (PyProof.noPylong_of_log2 (Nat.lt_of_lt_of_le ((Nat.log2_lt hj).mpr h1) h2)))
  rw[Int.fdiv_eq_ediv_of_nonneg i (by omega)]
  exact q
end
def relabelS (scope sc0:Scope):Scope:={ scope with names:=scope.names.map fun (n,k)=>if (k == .free && sc0.kind == .function && sc0.names.lookup n == some .cell) then (n,.cell) else (n,k) }
def nodupB:List Str→Bool
  | []=>true
  | x::xs=>!xs.contains x && nodupB xs
theorem nodupB_iff:∀{l:List Str},nodupB l=true→l.Nodup
  | [],_=>List.nodup_nil
  | x::xs,h=>by
    rw[nodupB,Bool.and_eq_true,Bool.not_eq_true'] at h
    refine List.nodup_cons.mpr ⟨fun z=>?_,nodupB_iff h.2⟩
    have:=List.contains_iff_mem.mpr z
    rw[this] at h
    exact absurd h.1 (by decide)
def compOk (sc0 scope:Scope) (tn cap:List Str):Bool :=
  decide (scope.kind=.function) && nodupB (scope.names.map (·.1)) && nodupB (tn++cap) && cap.all (fun y=>decide (scope.names.lookup y=some .free)) &&
    scope.names.all fun y=>!decide (y.2=.free) || (decide (sc0.names.lookup y.1=some .cell) || decide (sc0.names.lookup y.1=some .free))
theorem CompScope.of {X:Cx}{sc0 scope:Scope}{tn cap:List Str}{idx:List Nat} (h:compOk sc0 scope tn cap=true) (e:X.env.scope=sc0) (ci:idx.map (fun i=>X.N[i]?)=cap.map some):CompScope X scope tn cap idx:=by
  unfold compOk at h
  simp only[Bool.and_eq_true,decide_eq_true_eq,List.all_eq_true,Bool.or_eq_true,Bool.not_eq_true',decide_eq_false_iff_not] at h
  obtain ⟨⟨⟨⟨h1,h2⟩,h3⟩,h4⟩,h5⟩:=h
  refine⟨h1,nodupB_iff h2,nodupB_iff h3,h4,ci,fun y hy hf=>?_⟩
  rw[e]
  rcases h5 y hy with z | z
  · exact absurd hf z
  · exact z
structure FnAt (K:PySem.W.Frag) (mg:Str→Option Value) (x:Str) (st:Stmt) (ps:List Str) (f:Addr) (fd:FuncData):Prop where
  fn:Fun K x x st f fd
  mg:mg x=some (.ref f)
  bd:Binds K fd ps []
theorem Same.new {H:Hp}{p:Addr}{o:HO} (h:H p=none):Same H (upd H p o):=fun b u e=>by rw[upd_ne (ne_of_none e h)];exact e
end L2
set_option Elab.async false
set_option linter.all false
set_option maxRecDepth 100000
set_option maxHeartbeats 4000000
namespace L2
open PySem PySem.Spec PyProof.Rows
theorem small {n:Nat} (h:n≤100000):n≤sizeLine:=Nat.le_trans h (by rw[sizeLine_eq];decide)
section
variable {X:Cx}{K:PySem.W.Frag}
theorem ix_listK (h:X.K=K):IxR X (rIxL K):=by subst h;exact ix_list
theorem ix_tupK (h:X.K=K):IxR X (rIxT K):=by subst h;exact ix_tup
theorem pi_listK {tg l:Expr}{tl:TE} (h:X.K=K) (hl:PE X l tl):PI X tg l (iList K tl):=by subst h;exact pi_list hl
theorem pi_tupK {tg l:Expr}{tl:TE} (h:X.K=K) (hl:PE X l tl):PI X tg l (iTup K tl):=by subst h;exact pi_tup hl
theorem pi_zipK {elts:List Expr}{x1:Nat}{tp:Pos}{a b:Expr}{ta:TA}{p pos:Pos} (h:X.K=K) (hg:Gl X "zip") (hm:X.mg "zip" = none) (ha:PA X [a,b] ta) (hs:starEach [a,b] X.env=[(false,eval a X.env),(false,eval b X.env)]:=by rfl) (hs2:starEach [b] X.env=[(false,eval b X.env)]:=by rfl) :
    PI X (.Tuple elts x1 tp) (.Call (.Name "zip" p) [a,b] [] pos) (iZip K ta):=by subst h;exact pi_zip hg hm ha hs hs2
theorem call_lenK (h:X.K=K):CallR X (.builtin "len") (fun xs H Q=>∃p ys,xs=[.ref p]∧(SqL K H p ys∨SqT K H p ys)∧Q (.int ys.length) H):=by subst h;exact call_len_seq
theorem call_isinstK (h:X.K=K):CallR X (.builtin "isinstance") (fun xs H Q=>∃x n t b,xs=[x,.ty n]∧TyOf K H x t∧PySem.W.kitOne K t (.type n)=some b∧Q (.bl b) H):=by subst h;exact call_isinst
theorem call_sumK (h:X.K=K) (hc:X.calm=true):CallR X (.builtin "sum") (fun xs H Q=>∃(a:Addr) (ns:List Int),xs=[.ref a]∧SqL K H a (ns.map V.int)∧Q (.int ns.sum) H):=by subst h;exact call_sum hc
theorem call_listK (h:X.K=K):CallR X (.type "list") (fun xs H Q=>∃p ys,xs=[.ref p]∧(SqL K H p ys∨SqT K H p ys)∧∀l,H l=none→Q (.ref l) (upd H l (.lst ys))):=by subst h;exact call_list_of
theorem sl_listK (h:X.K=K):SlR X (rSlL K):=by subst h;exact sl_list
theorem op_inK (h:X.K=K):OpR X (compareOp .In) (rIn K false):=by subst h;exact op_in_seq
theorem op_notInK (h:X.K=K):OpR X (compareOp .NotIn) (rIn K true):=by subst h;exact op_notIn_seq
theorem pg_tupK {es:List Expr}{k:Nat}{t:TGs}{n:Nat}{pos:Pos} (h:X.K=K) (hc:X.calm=true) (ht:PGs X es t)
    (hn:(assignEach es X.env).length=n:=by rfl) (hst:(assignEach es X.env).findIdx? (·.1)=none:=by rfl):PG X (.Tuple es k pos) (gTup K n t):=by subst h;exact pg_tup hc ht hn hst
end
theorem Rows.take {H:Hp}{t:List (List Int)}{as:List Addr} (h:Rows H t as):∀n:Nat,Rows H (t.take n) (as.take n):=by
  induction h with
  | nil=>intro n;rw[List.take_nil,List.take_nil];exact .nil
  | cons e _ ih =>
    intro n
    cases n with
    | zero=>exact .nil
    | succ n=>exact .cons e (ih n)
theorem kit_same {K:PySem.W.Frag}{n:String}:PySem.W.kitOne K (.type n) (.type n)=some true:=by unfold PySem.W.kitOne;rw[if_pos (beq_self_eq_true _)]
end L2
set_option Elab.async false
set_option linter.all false
set_option maxRecDepth 100000
set_option maxHeartbeats 4000000
namespace L2
open PySem PySem.Spec PyProof.Rows
section
variable {X:Cx}{x:Str}{p pos:Pos}{e:Expr}{es:List Expr}{kws:List Keyword}{t tk:TA}{id:String}{ks:List Str}{r:List V→List V→Hp→VK→Prop}
end
section
variable {X:Cx}{K:PySem.W.Frag}
end
theorem lri_no_len:typeLookup (.type "list_reverseiterator") "__len__" = pure none:=by rw[typeLookup_type,builtinLookup_eq_fast];kernel_rfl
theorem lri_hint:typeLookup (.type "list_reverseiterator") "__length_hint__" = pure (some (.builtin "list_reverseiterator.__length_hint__")):=by rw[typeLookup_type,builtinLookup_eq_fast];kernel_rfl
theorem sub_lri_self:isSubtype (.type "list_reverseiterator") (.type "list_reverseiterator")=pure true:=by rw[isSubtype_type];kernel_rfl
section
variable {prog:Program}{w:World}{A:Around}{E:Value→Shared→Prop}{s:Shared}
theorem wpAny_hint_rev {it l:Addr}{i:Int}{Q:Bool→Shared→Prop} (hit:s.heap.IsRevIter it l i) (h:Q false s):wpAny (model prog w) A (Builtin.List.listLengthHint (.ref it)) Q E s:=by
  unfold Builtin.List.listLengthHint
  refine wpAny_bind (wpAny_specialOf hit.typeIs lri_no_len ?_)
  show wpAny _ A (specialOf (Value.ref it) (Str.ofString "__length_hint__") >>= _) _ _ _
  refine wpAny_bind (wpAny_specialOf hit.typeIs lri_hint ?_)
  generalize hid:("list_reverseiterator.__length_hint__" : String)=id0
  wp_delta
  rw[show splitId id0=some ("list_reverseiterator","__length_hint__") from by subst hid;decide +kernel]
  subst hid
  refine wpAny_bind (wpAny_isInstance (T:="list_reverseiterator") (b:=true) hit.typeIs sub_lri_self ?_)
  refine wpAny_ite_split (fun hab=>absurd hab (by decide)) (fun _=>?_)
  refine wpAny_ite_split (fun _=>?_) (fun hab=>absurd (by decide +kernel) hab)
  refine wpAny_ite_split (fun hab=>absurd hab (by decide)) (fun _=>?_)
  exact wpAny_pure h
theorem wpAny_extend_rev {R:Result→Shared→Prop}{it l:Addr}{items:Array Value} (hh:A.handled=none) (hit:s.heap.IsRevIter it l ((items.size:Int) - 1)) (hl:s.heap.IsList l items) (hlen:items.size≤sizeLine) (S:Addr) (res:Value) (c₀:Nat)
    (hS:s.heap.get? S=some { cls:=.type "list",data:=.seq #[] c₀ }) (hSl:S≠l)
    (hR:∀h' tk acc' c',(∀b o,b≠S→b≠it→s.heap.get? b=some o→h'.get? b=some o)→h'.get? S=some { cls:=.type "list",dict:=none,data:=.seq acc' c',slots:=#[] } →
      ItemsOf (fun i v=>items[items.size - 1 - i]?=some v) acc' items.size→R (.ok (.ret res)) { s with heap:=h',toks:=tk }) :
    wpAny (model prog w) A.in1 (Builtin.List.listExtendWith (.ref S) (.ref it) res)
      (fun fin s'=>match fin with | .done f=>R (.ok f) s' | .again c'=>c'.quiet=true∧codeAny (model prog w) A c' R s') (fun e s'=>R (.error e) s') s:=by
  obtain ⟨oi,hoi,hci,hdi⟩:=id hit
  have hSI:S≠it:=cls_ne hS hoi rfl hci (by decide)
  obtain ⟨ol,hol,hcl,_⟩:=id hl
  have hlI:l≠it:=cls_ne hol hoi hcl hci (by decide)
  have hSf:S∉[it,l]:=fun hm=>by
    rcases List.mem_cons.mp hm with e | hm
    · exact hSI e
    · exact hSl (List.mem_singleton.mp hm)
  have W:=(Walks.listRev (prog:=prog) (w:=w) (A:=A.in1) hh it l hlI items).toS
  unfold Builtin.List.listExtendWith
  refine wpAny_bind (wpAny_typeOf (T:="list_reverseiterator") hit.typeIs ?_)
  have h1:Builtin.List.listSameRef (.ref S) (.ref it)=false:=by simp [Builtin.List.listSameRef,hSI]
  have h2:(Value.type "list_reverseiterator" == Value.type "list")=false:=by decide
  have h3:(Value.type "list_reverseiterator" == Value.type "tuple")=false:=by decide
  simp only[h1,h2,h3,Bool.or_false,Bool.false_eq_true,if_false]
  refine wpAny_bind (wpAny_pyIter_revIter hit ?_)
  refine wpAny_bind (wpAny_holding (wpAny_hint_rev hit ?_))
  refine wpAny_ite_split (fun hab=>absurd hab (by decide)) (fun _=>?_)
  refine wpAny_pure ⟨plainId_quiet F.plain_extend_loop _,?_⟩
  refine codeAny_extend_loopS W hlen S hSf res items.size 0 _ #[] c₀ rfl (Nat.zero_le _) ⟨Nat.zero_le _,by simpa using hit,hl⟩ hS (ItemsOf.nil _) fun s' acc' c' hm hS' hacc=>?_
  rw[Moved.eq_with hm]
  refine hR s'.heap s'.toks acc' c' (fun b o hb hb2 e=>hm.heap b o (fun hmem=>?_) e) hS' hacc
  rcases List.mem_cons.mp hmem with e' | hmem
  · exact hb e'
  · exact hb2 (List.mem_singleton.mp hmem)
theorem wpAny_list_init_rev {R:Result→Shared→Prop}{it l:Addr}{items:Array Value} (hh:A.handled=none) (hit:s.heap.IsRevIter it l ((items.size:Int) - 1)) (hl:s.heap.IsList l items) (hlen:items.size≤sizeLine) (S:Addr)
    (hS:s.heap.get? S=some { cls:=.type "list",data:=.seq #[] }) (hSl:S≠l)
    (hR:∀h' tk acc' c',(∀b o,b≠S→b≠it→s.heap.get? b=some o→h'.get? b=some o)→h'.get? S=some { cls:=.type "list",dict:=none,data:=.seq acc' c',slots:=#[] } →
      ItemsOf (fun i v=>items[items.size - 1 - i]?=some v) acc' items.size→R (.ok (.ret .none)) { s with heap:=h',toks:=tk }) :
    wpAny (model prog w) A.in1 (Builtin.«list.__init__» ⟨[.ref S,.ref it],[]⟩)
      (fun fin s'=>match fin with | .done f=>R (.ok f) s' | .again c'=>c'.quiet=true∧codeAny (model prog w) A c' R s') (fun e s'=>R (.error e) s') s:=by
  obtain ⟨oi,hoi,hci,hdi⟩:=id hit
  have hSI:S≠it:=cls_ne hS hoi rfl hci (by decide)
  show wpAny _ _ (do let old ← Builtin.List.listItems (.ref S);Builtin.List.listUpdate (.ref S) (fun _=>#[]);letGo old.toList.reverse;Builtin.List.listExtendWith (.ref S) (.ref it) .none) _ _ s
  refine wpAny_bind ?_
  unfold Builtin.List.listItems
  refine wpAny_bind (wpAny_seqItems hS rfl (wpAny_pure ?_))
  show wpAny _ _ (updateSeq S (fun _=>#[]) >>= fun _=>letGo (#[]:Array Value).toList.reverse >>= fun _=>Builtin.List.listExtendWith (.ref S) (.ref it) .none) _ _ s
  refine wpAny_bind (wpAny_updateSeq hS rfl ?_)
  have hS₂:=Heap.get?_update_self (Obj.mapSeq (fun _=>(#[]:Array Value))) hS rfl
  have oth:∀b o,b≠S→s.heap.get? b=some o→(s.heap.update S (Obj.mapSeq (fun _=>(#[]:Array Value)))).get? b=some o :=
    fun b o hb e=>(Heap.get?_update_other _ _ (Ne.symm hb)).trans e
  refine wpAny_bind (wpAny_letGo ?_)
  refine wpAny_extend_rev hh (hit.at fun o e=>oth it o (Ne.symm hSI) e) (hl.at fun o e=>oth l o (Ne.symm hSl) e) hlen S .none _ hS₂ hSl fun h' tk acc' c' hk hS' hacc=>?_
  exact hR h' tk acc' c' (fun b o hb hb2 e=>hk b o hb hb2 (oth b o hb e)) hS' hacc
theorem call_list_rev {Q:Value→Shared→Prop}{it l:Addr}{items:Array Value} (hh:A.handled=none) (hit:s.heap.IsRevIter it l ((items.size:Int) - 1)) (hl:s.heap.IsList l items) (hlen:items.size≤sizeLine)
    (hQ:∀h' tk acc' c',(∀b o,b≠it→s.heap.get? b=some o→h'.get? b=some o) →
      h'.get? s.heap.objs.size=some { cls:=.type "list",dict:=none,data:=.seq acc' c',slots:=#[] }→ItemsOf (fun i v=>items[items.size - 1 - i]?=some v) acc' items.size→Q (.ref s.heap.objs.size) { s with heap:=h',toks:=tk }) :
    wpAny (model prog w) A (call (.type "list") [.ref it]) Q E s:=by
  refine callType_codes (Q₁:=fun obj s₁=>obj=.ref s.heap.objs.size∧s₁={ s with heap:=s.heap.push { cls:=.type "list",data:=.seq #[] } }) F.called_list (F.typeCall_list_1 _) F.entry_list_init
    (code_list_new _ ⟨rfl,rfl⟩) fun obj s₁ h₁=>?_
  obtain ⟨rfl,rfl⟩:=h₁
  have hS:(s.heap.push { cls:=.type "list",data:=.seq #[] }).get? s.heap.objs.size=some { cls:=.type "list",data:=.seq #[] }:=Heap.get?_push_size _ rfl
  obtain ⟨ol,hol,_⟩:=id hl
  refine⟨⟨_,hS,rfl⟩,F.args_list_init_2 _ _,wpAny_list_init_rev (A:=A.in1) hh (hit.at fun o e=>Heap.get?_push_of_some _ e) (hl.at fun o e=>Heap.get?_push_of_some _ e) hlen _ hS (Nat.ne_of_gt (Heap.lt_size hol)) fun h' tk acc' c' hk hS' hacc=>?_⟩
  exact⟨rfl,hQ h' tk acc' c' (fun b o hb e=>hk b o (Nat.ne_of_lt (Heap.lt_size e)) hb (Heap.get?_push_of_some _ e)) hS' hacc⟩
end
section
variable {X:Cx}{K:PySem.W.Frag}{e:Expr}{te:TE}{p p2 pos pos2:Pos}
def tListRev (K:PySem.W.Frag) (te:TE):TE:=fun σ H Q=>te σ H fun x H1=>∃a xs,x=.ref a∧SqL K H1 a xs∧∀l,H1 l=none→Q (.ref l) (upd H1 l (.lst xs.reverse))
theorem pe_listRevK (hK:X.K=K) (hc:X.calm=true) (hg:Gl X "list") (hm:X.mg "list" = none) (hg2:Gl X "reversed") (hm2:X.mg "reversed" = none) (he:PE X e te)
    (hs:starEach [Expr.Call (.Name "reversed" p2) [e] [] pos2] X.env=[(false,eval (.Call (.Name "reversed" p2) [e] [] pos2) X.env)]:=by rfl) (hs2:starEach [e] X.env=[(false,eval e X.env)]:=by rfl) :
    PE X (.Call (.Name "list" p) [.Call (.Name "reversed" p2) [e] [] pos2] [] pos) (tListRev K te):=by
  subst hK
  intro pins s σ H Q I h
  refine wpAny_Call_Name_kw (ld_blt I hg hm boot_list ?_)
  refine PyProof.Rows.callWith_type1 ?_ hs rfl
  rw[hs]
  refine Calls.spliced_cons ?_
  refine wpAny_Call_Name_kw (ld_blt I hg2 hm2 boot_reversed ?_)
  refine PyProof.Rows.callWith_type1 ?_ hs2 rfl
  rw[hs2]
  refine Calls.spliced_cons (thn (he pins s σ H _ I h) fun v s1 ⟨x,H1,I1,r1,a,xs,ex,hS,q⟩=>?_)
  subst ex
  obtain rfl:v=Value.ref a:=r1
  obtain ⟨its,rv,pl,hz⟩:=I1.list hS
  have hlv:=rv.length
  refine Calls.spliced_nil (PySem.call_reversed_list pl.isList (Calls.spliced_nil ?_))
  have hlt:a<s1.heap.objs.size:=by obtain ⟨o,e,_⟩:=pl.isList;exact Heap.lt_size e
  refine call_list_rev (items:=its.toArray) (I.ok.hd hc) ⟨_,Heap.get?_push_size _ rfl,rfl,rfl⟩ (pl.isList.at fun o e=>Heap.get?_push_of_some _ e) (by simp;omega) fun h' tk acc' c' hk hS' hacc=>?_
  have hsz:(s1.heap.push (revObj a ((its.toArray.size:Int) - 1))).objs.size=s1.heap.objs.size+1:=Heap.size_push ..
  have k1:∀b o,s1.heap.get? b=some o→h'.get? b=some o:=fun b o e=>hk b o (Nat.ne_of_lt (Heap.lt_size e)) (Heap.get?_push_of_some _ e)
  have hn:H1 (s1.heap.objs.size+1)=none:=I1.hok.fresh (Nat.le_succ _)
  rw[hsz] at hS' ⊢
  have hacc2:Vals xs.reverse acc'.toList:=by
    obtain ⟨a1,a2⟩:=hacc
    have e:acc'.toList=its.reverse:=by
      refine List.ext_getElem (by simpa using a1) fun n h1 h2=>?_
      have h3:n<acc'.size:=by simpa using h1
      have q:=a2 n acc'[n] (Array.getElem?_eq_getElem h3)
      rw[List.getElem_reverse]
      have q':its[its.length - 1 - n]?=some acc'[n]:=by simpa using q
      obtain ⟨_,z⟩:=List.getElem?_eq_some_iff.mp q'
      rw[z]
      simp
    rw[e]
    exact rv.reverse
  refine⟨.ref (s1.heap.objs.size+1),_,I1.laid (t':=tk) (o:=.lst xs.reverse) k1 (Nat.le_succ _) ⟨by rw[List.length_reverse];exact hz,acc'.toList,c',hacc2,?_⟩,rfl,q _ hn⟩
  rw[hS']
end
end L2
namespace L2
open PySem PySem.Spec PyProof.Rows
def fall (ns:List Int):List Int:=ns.mergeSort fun a b=>decide (b≤a)
theorem fall_perm (ns:List Int):(fall ns).Perm ns:=List.mergeSort_perm ns _
theorem fall_desc (ns:List Int):(fall ns).Pairwise (·≥·):=by
  have h:=List.pairwise_mergeSort (le:=fun a b:Int=>decide (b≤a)) (fun a b c h1 h2=>by simp only[decide_eq_true_eq] at *;omega) (fun a b=>by simp only[Bool.or_eq_true,decide_eq_true_eq];omega) ns
  exact h.imp fun h=>by simpa using h
theorem fall_length (ns:List Int):(fall ns).length=ns.length:=(fall_perm ns).length_eq
def hds (xs:List Int):List Int:=(List.range xs.length).map fun i=>(xs.take (i+1)).sum
end L2
set_option Elab.async false
set_option linter.all false
set_option maxRecDepth 100000
set_option maxHeartbeats 4000000
namespace L3
open PySem L2
inductive D where
  | non | bl (b:Bool) | int (i:Int) | str (x:Str) | lst (ds:List D) | tup (ds:List D) | dic (kvs:List (Key × V)) | dit (kvs:List (List Key × V)) | scr (ns:List Int) | pin (a:Addr) (d:D) | mem (φ:Int→List Int→Int→Prop) | raw (w:V) | ins (C:Addr) (ns:List Str) (ds:List D)
def Kc (K:PySem.W.Frag) (a:Addr) (xs:List V):Prop :=
  ∃(o:Obj) (its:Array Value) (n:Nat),K.lookup a=some o∧o.cls=.type "list"∧o.dict=none∧o.data=.seq its n∧its.size≤sizeLine∧Vals xs its.toList
def Sc (K:PySem.W.Frag) (H:Hp) (a:Addr) (xs:List V):Prop:=(∃o,H a=some (.frz o (.lst xs)))∨Kc K a xs
theorem Sc.seq {K:PySem.W.Frag}{H:Hp}{a:Addr}{xs:List V} (h:Sc K H a xs):SqL K H a xs:=h.elim (fun ⟨o,h⟩=>.inl (.inr ⟨o,h⟩)) .inr
def Im (o:HO):Prop:=(∃xs,o=.tup xs)∨(∃o' u,o=.frz o' u)∨∃φ ks,o=.memo φ ks
section
variable {K:PySem.W.Frag}
mutual
def Rf (K:PySem.W.Frag) (H:Hp):D→V→List Addr→Prop
  | .non,v,fp=>v=.non∧fp=[]
  | .bl b,v,fp=>v=.bl b∧fp=[]
  | .int i,v,fp=>v=.int i∧fp=[]
  | .str x,v,fp=>v=.str x∧fp=[]
  | .lst ds,v,fp=>∃a xs fq,v=.ref a∧H a=some (.lst xs)∧fp=a::fq∧Rfs K H ds xs fq
  | .tup ds,v,fp=>∃a xs,v=.ref a∧H a=some (.tup xs)∧Rfs K H ds xs fp
  | .dic kvs,v,fp=>∃a,v=.ref a∧H a=some (.dK kvs)∧(∀p∈kvs,flatV p.2=true)∧fp=[a]
  | .dit kvs,v,fp=>∃a,v=.ref a∧H a=some (.dT kvs)∧(∀p∈kvs,flatV p.2=true)∧fp=[a]
  | .scr ns,v,fp=>∃a,v=.ref a∧Sc K H a (ns.map V.int)∧fp=[]
  | .pin a d,v,fp=>v=.ref a∧Rf K H d v fp
  | .mem φ,v,fp=>∃a,v=.ref a∧H a=some (.memo φ [])∧fp=[]
  | .raw w,v,fp=>v=w∧fp=[]
  | .ins C ns ds,v,fp=>∃a dx xs fq,v=.ref a∧H a=some (.ins C dx (ns.zip xs))∧fp=a::fq∧Rfs K H ds xs fq
def Rfs (K:PySem.W.Frag) (H:Hp):List D→List V→List Addr→Prop
  | [],xs,fp=>xs=[]∧fp=[]
  | d::ds,xs,fp=>∃x r f1 f2,xs=x::r∧fp=f1++f2∧Rf K H d x f1∧Rfs K H ds r f2
end
def Rp (K:PySem.W.Frag) (H:Hp) (d:D) (v:V):Prop:=∃fp,Rf K H d v fp
def Rps (K:PySem.W.Frag) (H:Hp) (ds:List D) (vs:List V):Prop:=∃fp,Rfs K H ds vs fp
mutual
theorem Rf.mono {H H':Hp}:∀{d:D}{v:V}{fp:List Addr},Rf K H d v fp→(∀a∈fp,∀o,H a=some o→H' a=some o)→(∀a o,H a=some o→Im o→H' a=some o)→Rf K H' d v fp
  | .non,_,_,h,_,_=>h
  | .bl _,_,_,h,_,_=>h
  | .int _,_,_,h,_,_=>h
  | .str _,_,_,h,_,_=>h
  | .lst ds,v,fp,h,k,t=>by
    obtain ⟨a,xs,fq,e1,e2,e3,h⟩:=h
    subst e3
    exact⟨a,xs,fq,e1,k a List.mem_cons_self _ e2,rfl,Rfs.mono h (fun b hb=>k b (List.mem_cons_of_mem _ hb)) t⟩
  | .tup ds,v,fp,h,k,t=>by
    obtain ⟨a,xs,e1,e2,h⟩:=h
    exact⟨a,xs,e1,t a _ e2 (.inl ⟨_,rfl⟩),Rfs.mono h k t⟩
  | .dic kvs,v,fp,h,k,t=>by
    obtain ⟨a,e1,e2,e3,e4⟩:=h
    subst e4
    exact⟨a,e1,k a List.mem_cons_self _ e2,e3,rfl⟩
  | .dit kvs,v,fp,h,k,t=>by
    obtain ⟨a,e1,e2,e3,e4⟩:=h
    subst e4
    exact⟨a,e1,k a List.mem_cons_self _ e2,e3,rfl⟩
  | .scr ns,v,fp,h,k,t=>by
    obtain ⟨a,e1,e2,e3⟩:=h
    refine⟨a,e1,?_,e3⟩
    rcases e2 with ⟨o,e2⟩ | e2
    · exact .inl ⟨o,t a _ e2 (.inr (.inl ⟨_,_,rfl⟩))⟩
    · exact .inr e2
  | .pin a d,v,fp,h,k,t=>⟨h.1,Rf.mono h.2 k t⟩
  | .mem φ,v,fp,h,k,t=>by
    obtain ⟨a,e1,e2,e3⟩:=h
    exact⟨a,e1,t a _ e2 (.inr (.inr ⟨_,_,rfl⟩)),e3⟩
  | .raw _,_,_,h,_,_=>h
  | .ins C ns ds,v,fp,h,k,t=>by
    obtain ⟨a,dx,xs,fq,e1,e2,e3,h⟩:=h
    subst e3
    exact⟨a,dx,xs,fq,e1,k a List.mem_cons_self _ e2,rfl,Rfs.mono h (fun b hb=>k b (List.mem_cons_of_mem _ hb)) t⟩
theorem Rfs.mono {H H':Hp}:∀{ds:List D}{vs:List V}{fp:List Addr},Rfs K H ds vs fp→(∀a∈fp,∀o,H a=some o→H' a=some o)→(∀a o,H a=some o→Im o→H' a=some o)→Rfs K H' ds vs fp
  | [],_,_,h,_,_=>h
  | d::ds,vs,fp,h,k,t=>by
    obtain ⟨x,r,f1,f2,e1,e2,h1,h2⟩:=h
    subst e2
    exact⟨x,r,f1,f2,e1,rfl,Rf.mono h1 (fun b hb=>k b (List.mem_append_left _ hb)) t,Rfs.mono h2 (fun b hb=>k b (List.mem_append_right _ hb)) t⟩
end
theorem Rf.same {H H':Hp}{d:D}{v:V}{fp:List Addr} (h:Rf K H d v fp) (s:Same H H'):Rf K H' d v fp:=h.mono (fun a _ o e=>s a o e) fun a o e _=>s a o e
theorem Rfs.same {H H':Hp}{d:List D}{v:List V}{fp:List Addr} (h:Rfs K H d v fp) (s:Same H H'):Rfs K H' d v fp:=h.mono (fun a _ o e=>s a o e) fun a o e _=>s a o e
theorem Rp.same {H H':Hp}{d:D}{v:V} (h:Rp K H d v) (s:Same H H'):Rp K H' d v:=let ⟨fp,h⟩:=h;⟨fp,h.same s⟩
mutual
theorem Rf.dom {H:Hp}:∀{d:D}{v:V}{fp:List Addr},Rf K H d v fp→∀a∈fp,∃o,H a=some o∧¬ Im o
  | .non,_,_,h,a,ha=>by obtain ⟨_,rfl⟩:=h;nomatch ha
  | .bl _,_,_,h,a,ha=>by obtain ⟨_,rfl⟩:=h;nomatch ha
  | .int _,_,_,h,a,ha=>by obtain ⟨_,rfl⟩:=h;nomatch ha
  | .str _,_,_,h,a,ha=>by obtain ⟨_,rfl⟩:=h;nomatch ha
  | .lst ds,v,fp,h,b,hb=>by
    obtain ⟨a,xs,fq,e1,e2,e3,h⟩:=h
    subst e3
    rcases List.mem_cons.mp hb with e | hb
    · subst e;exact⟨_,e2,fun z=>by rcases z with ⟨_,z⟩ | ⟨_,_,z⟩ | ⟨_,_,z⟩<;>cases z⟩
    · exact Rfs.dom h b hb
  | .tup ds,v,fp,h,b,hb=>by
    obtain ⟨a,xs,e1,e2,h⟩:=h
    exact Rfs.dom h b hb
  | .dic kvs,v,fp,h,b,hb=>by
    obtain ⟨a,e1,e2,e3,e4⟩:=h
    subst e4
    cases List.mem_singleton.mp hb
    exact⟨_,e2,fun z=>by rcases z with ⟨_,z⟩ | ⟨_,_,z⟩ | ⟨_,_,z⟩<;>cases z⟩
  | .dit kvs,v,fp,h,b,hb=>by
    obtain ⟨a,e1,e2,e3,e4⟩:=h
    subst e4
    cases List.mem_singleton.mp hb
    exact⟨_,e2,fun z=>by rcases z with ⟨_,z⟩ | ⟨_,_,z⟩ | ⟨_,_,z⟩<;>cases z⟩
  | .scr ns,v,fp,h,b,hb=>by
    obtain ⟨a,e1,e2,e3⟩:=h
    subst e3;nomatch hb
  | .pin a d,v,fp,h,b,hb=>Rf.dom h.2 b hb
  | .mem φ,v,fp,h,b,hb=>by
    obtain ⟨a,e1,e2,e3⟩:=h
    subst e3;nomatch hb
  | .raw _,_,_,h,a,ha=>by obtain ⟨_,rfl⟩:=h;nomatch ha
  | .ins C ns ds,v,fp,h,b,hb=>by
    obtain ⟨a,dx,xs,fq,e1,e2,e3,h⟩:=h
    subst e3
    rcases List.mem_cons.mp hb with e | hb
    · subst e;exact⟨_,e2,fun z=>by rcases z with ⟨_,z⟩ | ⟨_,_,z⟩ | ⟨_,_,z⟩<;>cases z⟩
    · exact Rfs.dom h b hb
theorem Rfs.dom {H:Hp}:∀{ds:List D}{vs:List V}{fp:List Addr},Rfs K H ds vs fp→∀a∈fp,∃o,H a=some o∧¬ Im o
  | [],_,_,h,a,ha=>by obtain ⟨_,rfl⟩:=h;nomatch ha
  | d::ds,vs,fp,h,b,hb=>by
    obtain ⟨x,r,f1,f2,e1,e2,h1,h2⟩:=h
    subst e2
    rcases List.mem_append.mp hb with hb | hb
    · exact Rf.dom h1 b hb
    · exact Rfs.dom h2 b hb
end
theorem Rf.upd {H:Hp}{d:D}{v:V}{fp:List Addr}{l:Addr}{o:HO} (h:Rf K H d v fp) (hl:l∉fp) (hm:∀o,H l=some o→¬ Im o):Rf K (upd H l o) d v fp :=
  h.mono (fun a ha u e=>by rw[upd_ne (fun z=>hl (by rw[← z];exact ha))];exact e) fun a o e i=>by rw[upd_ne (fun z=>hm o (by rw[← z];exact e) i)];exact e
theorem Rfs.upd {H:Hp}{d:List D}{v:List V}{fp:List Addr}{l:Addr}{o:HO} (h:Rfs K H d v fp) (hl:l∉fp) (hm:∀o,H l=some o→¬ Im o):Rfs K (upd H l o) d v fp :=
  h.mono (fun a ha u e=>by rw[upd_ne (fun z=>hl (by rw[← z];exact ha))];exact e) fun a o e i=>by rw[upd_ne (fun z=>hm o (by rw[← z];exact e) i)];exact e
theorem Rfs.length {H:Hp}:∀{ds:List D}{vs:List V}{fp:List Addr},Rfs K H ds vs fp→vs.length=ds.length
  | [],_,_,h=>by obtain ⟨rfl,_⟩:=h;rfl
  | d::ds,vs,fp,h=>by
    obtain ⟨x,r,f1,f2,e1,e2,h1,h2⟩:=h
    subst e1
    rw[List.length_cons,List.length_cons,Rfs.length h2]
theorem Rfs.append {H:Hp}:∀{ds es:List D}{vs ws:List V}{fp fq:List Addr},Rfs K H ds vs fp→Rfs K H es ws fq→Rfs K H (ds++es) (vs++ws) (fp++fq)
  | [],es,vs,ws,fp,fq,h,h'=>by obtain ⟨rfl,rfl⟩:=h;exact h'
  | d::ds,es,vs,ws,fp,fq,h,h'=>by
    obtain ⟨x,r,f1,f2,rfl,rfl,h1,h2⟩:=h
    exact⟨x,r++ws,f1,f2++fq,rfl,List.append_assoc ..,h1,Rfs.append h2 h'⟩
theorem Rfs.one {H:Hp}{d:D}{v:V}{fp:List Addr} (h:Rf K H d v fp):Rfs K H [d] [v] fp:=⟨v,[],fp,[],rfl,(List.append_nil _).symm,h,rfl,rfl⟩
theorem Rfs.get {H:Hp}:∀{ds:List D}{vs:List V}{fp:List Addr}{i:Nat}{d:D},Rfs K H ds vs fp→ds[i]?=some d→∃v f,vs[i]?=some v∧Rf K H d v f∧(∀a∈f,a∈fp)
  | [],_,_,_,_,_,e=>by simp at e
  | d::ds,vs,fp,0,d',h,e=>by
    obtain ⟨x,r,f1,f2,rfl,rfl,h1,h2⟩:=h
    simp at e;subst e
    exact⟨x,f1,rfl,h1,fun a ha=>List.mem_append_left _ ha⟩
  | d::ds,vs,fp,i+1,d',h,e=>by
    obtain ⟨x,r,f1,f2,rfl,rfl,h1,h2⟩:=h
    obtain ⟨v,f,e1,h3,k⟩:=Rfs.get (i:=i) h2 (by simpa using e)
    exact⟨v,f,by simpa using e1,h3,fun a ha=>List.mem_append_right _ (k a ha)⟩
theorem Rfs.get' {H:Hp}{ds:List D}{vs:List V}{fp:List Addr}{i:Nat}{v:V} (h:Rfs K H ds vs fp) (e:vs[i]?=some v):∃d f,ds[i]?=some d∧Rf K H d v f∧(∀a∈f,a∈fp):=by
  have hl:=h.length
  obtain ⟨hi,_⟩:=List.getElem?_eq_some_iff.mp e
  have hi':i<ds.length:=by omega
  obtain ⟨v',f,e1,h1,k⟩:=h.get (d:=ds[i]) (List.getElem?_eq_getElem hi')
  rw[e] at e1;cases e1
  exact⟨ds[i],f,List.getElem?_eq_getElem hi',h1,k⟩
def D.scal:D→Bool
  | .non=>true | .bl _=>true | .int _=>true | .str _=>true | _=>false
def D.toV:D→V
  | .non=>.non | .bl b=>.bl b | .int i=>.int i | .str x=>.str x | _=>.non
theorem Rf.scal {H:Hp}{d:D}{v:V}{fp:List Addr} (h:Rf K H d v fp) (s:d.scal=true):v=d.toV∧fp=[]:=by
  cases d<;>first | exact h | cases s
theorem Rf.ofScal {H:Hp}{d:D} (s:d.scal=true):Rf K H d d.toV []:=by
  cases d<;>first | exact⟨rfl,rfl⟩ | cases s
theorem Rp.int {H:Hp}{i:Int}{v:V} (h:Rp K H (.int i) v):v=.int i:=h.choose_spec.1
theorem Rp.bl {H:Hp}{i:Bool}{v:V} (h:Rp K H (.bl i) v):v=.bl i:=h.choose_spec.1
theorem Rfs.scals {H:Hp}:∀{ds:List D}{vs:List V}{fp:List Addr},Rfs K H ds vs fp→ds.all D.scal=true→vs=ds.map D.toV∧fp=[]
  | [],vs,fp,h,_=>h
  | d::ds,vs,fp,h,s=>by
    obtain ⟨x,r,f1,f2,rfl,rfl,h1,h2⟩:=h
    simp only[List.all_cons,Bool.and_eq_true] at s
    obtain ⟨rfl,rfl⟩:=h1.scal s.1
    obtain ⟨rfl,rfl⟩:=Rfs.scals h2 s.2
    exact⟨rfl,rfl⟩
theorem Rfs.ofScals {H:Hp}:∀{ds:List D},ds.all D.scal=true→Rfs K H ds (ds.map D.toV) []
  | [],_=>⟨rfl,rfl⟩
  | d::ds,s=>by
    simp only[List.all_cons,Bool.and_eq_true] at s
    exact⟨_,_,[],[],rfl,rfl,Rf.ofScal s.1,Rfs.ofScals s.2⟩
def D.items:D→Option (List D)
  | .lst ds=>some ds | .scr ns=>some (ns.map D.int) | _=>none
theorem Rfs.ofInts {H:Hp}:∀{ns:List Int},Rfs K H (ns.map D.int) (ns.map V.int) []
  | []=>⟨rfl,rfl⟩
  | n::ns=>⟨_,_,[],[],rfl,rfl,⟨rfl,rfl⟩,Rfs.ofInts⟩
theorem Rf.seq {H:Hp}{d:D}{ds:List D}{v:V}{fp:List Addr} (h:Rf K H d v fp) (e:d.items=some ds):∃a xs fq,v=.ref a∧SqL K H a xs∧Rfs K H ds xs fq∧∀b∈fq,b∈fp:=by
  cases d with
  | lst es =>
    cases e
    obtain ⟨a,xs,fq,e1,e2,rfl,h⟩:=h
    exact⟨a,xs,fq,e1,.inl (.inl e2),h,fun b hb=>List.mem_cons_of_mem _ hb⟩
  | scr ns =>
    cases e
    obtain ⟨a,e1,e2,e3⟩:=h
    exact⟨a,_,[],e1,e2.seq,Rfs.ofInts,fun b hb=>nomatch hb⟩
  | _=>cases e
theorem Rp.seq {H:Hp}{d:D}{ds:List D}{v:V} (h:Rp K H d v) (e:d.items=some ds):∃a xs fq,v=.ref a∧SqL K H a xs∧Rfs K H ds xs fq :=
  let ⟨_,h⟩:=h;let ⟨a,xs,fq,h1,h2,h3,_⟩:=h.seq e;⟨a,xs,fq,h1,h2,h3⟩
theorem Rp.tup {H:Hp}{ds:List D}{v:V} (h:Rp K H (.tup ds) v):∃a xs fq,v=.ref a∧SqT K H a xs∧Rfs K H ds xs fq:=by
  obtain ⟨fp,a,xs,e1,e2,h⟩:=h
  exact⟨a,xs,fp,e1,.inl (.inl e2),h⟩
def Mu (H:Hp) (a:Addr):Prop:=(∃xs,H a=some (.lst xs))∨(∃kvs,H a=some (.dK kvs))∨(∃kvs,H a=some (.dT kvs))∨∃C dx fs,H a=some (.ins C dx fs)
theorem Mu.same {H H':Hp}{a:Addr} (h:Mu H a) (s:Same H H'):Mu H' a:=by
  rcases h with ⟨x,h⟩ | ⟨x,h⟩ | ⟨x,h⟩ | ⟨C,dx,fs,h⟩
  · exact .inl ⟨x,s _ _ h⟩
  · exact .inr (.inl ⟨x,s _ _ h⟩)
  · exact .inr (.inr (.inl ⟨x,s _ _ h⟩))
  · exact .inr (.inr (.inr ⟨C,dx,fs,s _ _ h⟩))
theorem Mu.some {H:Hp}{a:Addr} (h:Mu H a):H a≠none:=by
  rcases h with ⟨x,h⟩ | ⟨x,h⟩ | ⟨x,h⟩ | ⟨C,dx,fs,h⟩<;>rw[h]<;>intro z<;>cases z
theorem Mu.notup {H:Hp}{a:Addr} (h:Mu H a):∀o,H a=Option.some o→¬ Im o:=by
  rcases h with ⟨x,h⟩ | ⟨x,h⟩ | ⟨x,h⟩ | ⟨C,dx,fs,h⟩<;>rw[h]<;>intro o e z<;>cases e<;>rcases z with ⟨_,z⟩ | ⟨_,_,z⟩ | ⟨_,_,z⟩<;>cases z
theorem Mu.upd {H:Hp}{a l:Addr}{o:HO} (h:Mu H a) (ho:(∃xs,o=.lst xs)∨(∃xs,o=.dK xs)∨(∃xs,o=.dT xs)∨∃C dx fs,o=.ins C dx fs):Mu (upd H l o) a:=by
  by_cases e:a=l
  · subst e
    rcases ho with ⟨xs,rfl⟩ | ⟨xs,rfl⟩ | ⟨xs,rfl⟩ | ⟨C,dx,fs,rfl⟩
    · exact .inl ⟨xs,upd_same⟩
    · exact .inr (.inl ⟨xs,upd_same⟩)
    · exact .inr (.inr (.inl ⟨xs,upd_same⟩))
    · exact .inr (.inr (.inr ⟨C,dx,fs,upd_same⟩))
  · unfold Mu
    rw[upd_ne e]
    exact h
abbrev Dl:=List (Option D)
structure Ok (K:PySem.W.Frag) (B0:Hp) (Γ:List Nat) (fps:Nat→List Addr) (δ:Dl) (σ:St) (H:Hp):Prop where
  len:σ.length=δ.length
  b0:Same B0 H
  val:∀i d,δ[i]?=some (some d)→∃v,σ[i]?=some (some v)∧Rf K H d v (fps i)
  non:∀i,(∀d,δ[i]?≠some (some d))→fps i=[]
  own:∀i∈Γ,(fps i).Nodup∧∀a∈fps i,B0 a=none∧Mu H a
  dj:∀i∈Γ,∀j,j≠i→∀a∈fps i,a∉fps j
variable {B0:Hp}{Γ:List Nat}{fps:Nat→List Addr}{δ:Dl}{σ:St}{H H':Hp}
theorem Ok.same (o:Ok K B0 Γ fps δ σ H) (s:Same H H'):Ok K B0 Γ fps δ σ H' :=
  ⟨o.len,o.b0.trans s,fun i d e=>let ⟨v,h1,h2⟩:=o.val i d e;⟨v,h1,h2.same s⟩,o.non,fun i hi=>⟨(o.own i hi).1,fun a ha=>⟨((o.own i hi).2 a ha).1,((o.own i hi).2 a ha).2.same s⟩⟩,o.dj⟩
theorem Ok.sub {Γ':List Nat} (o:Ok K B0 Γ fps δ σ H) (h:∀i∈Γ',i∈Γ):Ok K B0 Γ' fps δ σ H :=
  ⟨o.len,o.b0,o.val,o.non,fun i hi=>o.own i (h i hi),fun i hi=>o.dj i (h i hi)⟩
theorem Ok.dom (o:Ok K B0 Γ fps δ σ H) {i:Nat}{a:Addr} (h:a∈fps i):H a≠none:=by
  by_cases e:∃d,δ[i]?=some (some d)
  · obtain ⟨d,e⟩:=e
    obtain ⟨v,_,r⟩:=o.val i d e
    obtain ⟨u,hu,_⟩:=r.dom a h
    rw[hu];intro z;cases z
  · rw[o.non i (fun d z=>e ⟨d,z⟩)] at h
    nomatch h
structure Nw (H H':Hp) (fps:Nat→List Addr) (M:List Nat) (fp:List Addr):Prop where
  nd:fp.Nodup
  mu:∀a∈fp,Mu H' a
  src:∀a∈fp,H a=none∨∃j∈M,a∈fps j
theorem Nw.nil {M:List Nat}:Nw H H' fps M []:=⟨List.nodup_nil,fun _ h=>(nomatch h),fun _ h=>(nomatch h)⟩
theorem Nw.later {H1:Hp}{M:List Nat}{fp:List Addr} (n:Nw H1 H' fps M fp) (s:Same H H1):Nw H H' fps M fp :=
  ⟨n.nd,n.mu,fun a ha=>(n.src a ha).elim (fun z=>.inl (s.free z)) .inr⟩
theorem Nw.same {H1:Hp}{M:List Nat}{fp:List Addr} (n:Nw H H' fps M fp) (s:Same H' H1):Nw H H1 fps M fp:=⟨n.nd,fun a ha=>(n.mu a ha).same s,n.src⟩
theorem Nw.any {fps':Nat→List Addr}{fp:List Addr} (n:Nw H H' fps [] fp):Nw H H' fps' [] fp:=⟨n.nd,n.mu,fun a ha=>(n.src a ha).elim .inl fun ⟨_,h,_⟩=>nomatch h⟩
theorem Nw.fresh {fp:List Addr} (n:Nw H H' fps [] fp):∀a∈fp,H a=none:=fun a ha=>(n.src a ha).elim id fun ⟨_,h,_⟩=>nomatch h
def kill (M:List Nat) (δ:Dl):Dl:=M.foldl (fun δ j=>δ.set j none) δ
theorem kill_length:∀{M:List Nat}{δ:Dl},(kill M δ).length=δ.length
  | [],_=>rfl
  | j::M,δ=>by rw[kill,List.foldl_cons];exact (kill_length (M:=M)).trans (by simp)
theorem kill_get:∀{M:List Nat}{δ:Dl}{i:Nat}{d:D},(kill M δ)[i]?=some (some d)↔i∉M∧δ[i]?=some (some d)
  | [],_,_,_=>by simp [kill]
  | j::M,δ,i,d=>by
    rw[kill,List.foldl_cons]
    have:=kill_get (M:=M) (δ:=δ.set j none) (i:=i) (d:=d)
    rw[kill] at this
    rw[this,List.mem_cons]
    by_cases e:i=j
    · subst e
      simp [List.getElem?_set]
    · rw[List.getElem?_set_ne (Ne.symm e)]
      simp [e]
def minus (Γ M:List Nat):List Nat:=Γ.filter fun i=>!M.contains i
theorem mem_minus {Γ M:List Nat}{i:Nat}:i∈minus Γ M↔i∈Γ∧i∉M:=by
  unfold minus
  rw[List.mem_filter]
  simp
theorem Ok.kill (o:Ok K B0 Γ fps δ σ H) (M:List Nat):Ok K B0 (minus Γ M) (fun i=>if i∈M then [] else fps i) (kill M δ) σ H:=by
  refine⟨by rw[kill_length];exact o.len,o.b0,fun i d e=>?_,fun i e=>?_,fun i hi=>?_,fun i hi j hj a ha=>?_⟩
  · obtain ⟨h1,h2⟩:=kill_get.mp e
    rw[if_neg h1]
    exact o.val i d h2
  · by_cases h:i∈M
    · rw[if_pos h]
    · rw[if_neg h]
      exact o.non i fun d z=>e d (kill_get.mpr ⟨h,z⟩)
  · obtain ⟨h1,h2⟩:=mem_minus.mp hi
    rw[if_neg h2]
    exact o.own i h1
  · obtain ⟨h1,h2⟩:=mem_minus.mp hi
    rw[if_neg h2] at ha
    by_cases h:j∈M
    · rw[if_pos h];exact List.not_mem_nil
    · rw[if_neg h];exact o.dj i h1 j hj a ha
theorem Ok.setMv {M:List Nat}{x:D}{v:V}{fp:List Addr} (o:Ok K B0 Γ fps δ σ H) (i:Nat) (hM:∀j∈M,j∈Γ) (s:Same H H') (r:Rf K H' x v fp) (n:Nw H H' fps M fp) :
    Ok K B0 (i::minus (minus Γ M) [i]) (fun j=>if j=i then (if i<δ.length then fp else []) else if j∈M then [] else fps j) ((L3.kill M δ).set i (some x)) (σ.set i (some v)) H':=by
  have ok:=(o.kill M).same s
  have sep:∀a∈fp,∀j,j∉M→a∉fps j:=fun a ha j hj z=>by
    rcases n.src a ha with e | ⟨k,hk,e⟩
    · exact o.dom z e
    · exact o.dj k (hM k hk) j (fun q=>hj (by rw[q];exact hk)) a e z
  refine⟨by simp [kill_length,o.len],ok.b0,fun j d e=>?_,fun j e=>?_,fun j hj=>?_,fun j hj k hk a ha=>?_⟩
  · by_cases h:j=i
    · subst h
      rw[List.getElem?_set] at e
      simp only[kill_length] at e
      by_cases hl:j<δ.length
      · simp [hl] at e
        subst e
        refine⟨v,?_,?_⟩
        · rw[List.getElem?_set];simp [o.len,hl]
        · rw[if_pos rfl,if_pos hl];exact r
      · simp [hl] at e
    · rw[List.getElem?_set_ne (Ne.symm h)] at e
      rw[List.getElem?_set_ne (Ne.symm h),if_neg h]
      exact ok.val j d e
  · by_cases h:j=i
    · subst h
      rw[if_pos rfl]
      by_cases hl:j<δ.length
      · exact absurd (by rw[List.getElem?_set];simp [kill_length,hl]) (e x)
      · rw[if_neg hl]
    · rw[if_neg h]
      exact ok.non j fun d z=>e d (by rw[List.getElem?_set_ne (Ne.symm h)];exact z)
  · by_cases h:j=i
    · subst h
      rw[if_pos rfl]
      split
      · refine⟨n.nd,fun a ha=>⟨?_,n.mu a ha⟩⟩
        rcases n.src a ha with e | ⟨k,hk,e⟩
        · exact o.b0.free e
        · exact ((o.own k (hM k hk)).2 a e).1
      · exact⟨List.nodup_nil,fun _ z=>nomatch z⟩
    · rw[if_neg h]
      rcases List.mem_cons.mp hj with z | hj
      · exact absurd z h
      · exact ok.own j (mem_minus.mp hj).1
  · by_cases h:j=i
    · subst h
      rw[if_pos rfl] at ha
      rw[if_neg hk]
      split at ha
      · by_cases hm:k∈M
        · rw[if_pos hm];exact List.not_mem_nil
        · rw[if_neg hm];exact sep a ha k hm
      · nomatch ha
    · rcases List.mem_cons.mp hj with z | hj
      · exact absurd z h
      rw[if_neg h] at ha
      have hj':=mem_minus.mp (mem_minus.mp hj).1
      rw[if_neg hj'.2] at ha
      by_cases hki:k=i
      · rw[if_pos hki]
        split
        · exact fun z=>sep a z j hj'.2 ha
        · exact List.not_mem_nil
      · rw[if_neg hki]
        split
        · exact List.not_mem_nil
        · exact o.dj j hj'.1 k hk a ha
theorem Ok.setSh {x:D}{v:V}{fp:List Addr} (o:Ok K B0 Γ fps δ σ H) (i:Nat) (s:Same H H') (r:Rf K H' x v fp) (n:∀j∈Γ,∀a∈fp,a∉fps j) :
    Ok K B0 (minus Γ [i]) (fun j=>if j=i then (if i<δ.length then fp else []) else fps j) (δ.set i (some x)) (σ.set i (some v)) H':=by
  have ok:=o.same s
  refine⟨by simp [o.len],ok.b0,fun j d e=>?_,fun j e=>?_,fun j hj=>?_,fun j hj k hk a ha=>?_⟩
  · by_cases h:j=i
    · subst h
      rw[List.getElem?_set] at e
      by_cases hl:j<δ.length
      · simp [hl] at e
        subst e
        refine⟨v,?_,?_⟩
        · rw[List.getElem?_set];simp [o.len,hl]
        · rw[if_pos rfl,if_pos hl];exact r
      · simp [hl] at e
    · rw[List.getElem?_set_ne (Ne.symm h)] at e
      rw[List.getElem?_set_ne (Ne.symm h),if_neg h]
      exact ok.val j d e
  · by_cases h:j=i
    · subst h
      rw[if_pos rfl]
      by_cases hl:j<δ.length
      · exact absurd (by rw[List.getElem?_set];simp [hl]) (e x)
      · rw[if_neg hl]
    · rw[if_neg h]
      exact ok.non j fun d z=>e d (by rw[List.getElem?_set_ne (Ne.symm h)];exact z)
  · obtain ⟨h1,h2⟩:=mem_minus.mp hj
    rw[if_neg (fun z=>h2 (by rw[z];exact List.mem_singleton.mpr rfl))]
    exact ok.own j h1
  · obtain ⟨h1,h2⟩:=mem_minus.mp hj
    rw[if_neg (fun z=>h2 (by rw[z];exact List.mem_singleton.mpr rfl))] at ha
    by_cases hki:k=i
    · rw[if_pos hki]
      split
      · exact fun z=>n j h1 a z ha
      · exact List.not_mem_nil
    · rw[if_neg hki]
      exact o.dj j h1 k hk a ha
theorem Ok.rebase (o:Ok K B0 Γ fps δ σ H):∃B1,Same B0 B1∧Ok K B1 Γ fps δ σ H∧(∀a,(∀j∈Γ,a∉fps j)→B1 a=H a):=by
  refine⟨fun a=>if (∃j∈Γ,a∈fps j) then none else H a,fun b u e=>?_,⟨o.len,fun b u e=>?_,o.val,o.non,fun i hi=>⟨(o.own i hi).1,fun a ha=>⟨?_,((o.own i hi).2 a ha).2⟩⟩,o.dj⟩,fun a h=>?_⟩
  · have:¬ ∃j∈Γ,b∈fps j:=fun ⟨j,hj,hb⟩=>by
      have:=((o.own j hj).2 b hb).1
      rw[e] at this;cases this
    show (if _ then _ else _)=_
    rw[if_neg this]
    exact o.b0 b u e
  · by_cases z:∃j∈Γ,b∈fps j
    · simp only[if_pos z] at e;cases e
    · simp only[if_neg z] at e;exact e
  · show (if _ then _ else _)=_
    rw[if_pos ⟨i,hi,ha⟩]
  · show (if _ then _ else _)=_
    rw[if_neg (fun ⟨j,hj,z⟩=>h j hj z)]
theorem Ok.base {B1:Hp} (o:Ok K B1 Γ fps δ σ H) (s:Same B0 B1):Ok K B0 Γ fps δ σ H :=
  ⟨o.len,s.trans o.b0,o.val,o.non,fun i hi=>⟨(o.own i hi).1,fun a ha=>⟨s.free ((o.own i hi).2 a ha).1,((o.own i hi).2 a ha).2⟩⟩,o.dj⟩
end
end L3
set_option Elab.async false
set_option linter.all false
set_option maxRecDepth 100000
set_option maxHeartbeats 4000000
namespace L3
open PySem L2
abbrev DK:=D→Prop
abbrev DE:=Dl→DK→Prop
abbrev DT:=Dl→(Bool→Prop)→Prop
abbrev DA:=Dl→(List D→Prop)→Prop
structure ER (K:PySem.W.Frag) (Γ:List Nat) (t:TE) (d:DE):Prop where
  mono:∀δ (P P':DK),(∀x,P x→P' x)→d δ P→d δ P'
  run:∀{B0 fps δ σ H Q},Ok K B0 Γ fps δ σ H→d δ (fun x=>∀v H',Same H H'→Rp K H' x v→Q v H')→t σ H Q
structure ES (K:PySem.W.Frag) (Γ:List Nat) (t:TE) (d:DE):Prop where
  mono:∀δ (P P':DK),(∀x,P x→P' x)→d δ P→d δ P'
  run:∀{B0 fps δ σ H Q},Ok K B0 Γ fps δ σ H→d δ (fun x=>∀v H' fp,Same H H'→Rf K H' x v fp→(∀j∈Γ,∀a∈fp,a∉fps j)→Q v H')→t σ H Q
structure EM (K:PySem.W.Frag) (Γ M:List Nat) (t:TE) (d:DE):Prop where
  mono:∀δ (P P':DK),(∀x,P x→P' x)→d δ P→d δ P'
  run:∀{B0 fps δ σ H Q},Ok K B0 Γ fps δ σ H→d δ (fun x=>∀v H' fp,Same H H'→Rf K H' x v fp→Nw H H' fps M fp→Q v H')→t σ H Q
structure TR (K:PySem.W.Frag) (Γ:List Nat) (t:TT) (d:DT):Prop where
  mono:∀δ (P P':Bool→Prop),(∀x,P x→P' x)→d δ P→d δ P'
  run:∀{B0 fps δ σ H Q},Ok K B0 Γ fps δ σ H→d δ (fun b=>∀H',Same H H'→Q b H')→t σ H Q
structure AR (K:PySem.W.Frag) (Γ:List Nat) (t:TA) (d:DA):Prop where
  mono:∀δ (P P':List D→Prop),(∀x,P x→P' x)→d δ P→d δ P'
  run:∀{B0 fps δ σ H Q},Ok K B0 Γ fps δ σ H→d δ (fun xs=>∀vs H',Same H H'→Rps K H' xs vs→Q vs H')→t σ H Q
structure AM (K:PySem.W.Frag) (Γ M:List Nat) (t:TA) (d:DA):Prop where
  mono:∀δ (P P':List D→Prop),(∀x,P x→P' x)→d δ P→d δ P'
  run:∀{B0 fps δ σ H Q},Ok K B0 Γ fps δ σ H→d δ (fun xs=>∀vs H' fp,Same H H'→Rfs K H' xs vs fp→Nw H H' fps M fp→Q vs H')→t σ H Q
section
variable {K:PySem.W.Frag}{Γ M:List Nat}{t ta tb tc:TE}{d da db dc:DE}
theorem EM.es (h:EM K Γ [] t d):ES K Γ t d:=⟨h.mono,fun o q=>h.run o (h.mono _ _ _ (fun x z v H' fp s r n=>z v H' fp s r fun j _ a ha y=>o.dom y (n.fresh a ha)) q)⟩
theorem ES.er (h:ES K Γ t d):ER K Γ t d:=⟨h.mono,fun o q=>h.run o (h.mono _ _ _ (fun x z v H' fp s r n=>z v H' s ⟨fp,r⟩) q)⟩
theorem EM.er (h:EM K Γ M t d):ER K Γ t d:=⟨h.mono,fun o q=>h.run o (h.mono _ _ _ (fun x z v H' fp s r n=>z v H' s ⟨fp,r⟩) q)⟩
def vScal (d:DE) (δ:Dl) (P:DK):Prop:=d δ fun x=>x.scal=true∧P x
theorem ER.scal (h:ER K Γ t d):EM K Γ [] t (vScal d):=⟨fun δ P P' k q=>h.mono _ _ _ (fun x z=>⟨z.1,k x z.2⟩) q,fun o q=>h.run o (h.mono _ _ _ (fun x z v H' s r=>by
  obtain ⟨fp,r⟩:=r
  obtain ⟨_,rfl⟩:=r.scal z.1
  exact z.2 v H' [] s r Nw.nil) q)⟩
def vVar (i:Nat) (δ:Dl) (P:DK):Prop:=match δ[i]? with | some (some d)=>P d | _=>False
theorem vVar_out {i:Nat}{δ:Dl}{P:DK} (h:vVar i δ P):∃d,δ[i]?=some (some d)∧P d:=by
  unfold vVar at h
  split at h
  · exact⟨_,by assumption,h⟩
  · exact h.elim
theorem vVar_mono {i:Nat}:∀δ (P P':DK),(∀x,P x→P' x)→vVar i δ P→vVar i δ P':=fun δ P P' k h=>by
  unfold vVar at h ⊢
  split
  · rename_i e;rw[e] at h;exact k _ h
  · rename_i e;revert h;split
    · rename_i e';exact absurd e' (e _)
    · exact id
theorem er_var (i:Nat):ER K Γ (tVar i) (vVar i):=⟨vVar_mono,fun {B0 fps δ σ H Q} o q=>by
  obtain ⟨d,e,q⟩:=vVar_out q
  obtain ⟨v,e1,r⟩:=o.val i d e
  exact⟨v,e1,q v H (Same.refl H) ⟨_,r⟩⟩⟩
theorem es_var (i:Nat) (h:i∉Γ:=by decide):ES K Γ (tVar i) (vVar i):=⟨vVar_mono,fun {B0 fps δ σ H Q} o q=>by
  obtain ⟨d,e,q⟩:=vVar_out q
  obtain ⟨v,e1,r⟩:=o.val i d e
  exact⟨v,e1,q v H _ (Same.refl H) r fun j hj a ha z=>o.dj j hj i (fun y=>h (by rw[y];exact hj)) a z ha⟩⟩
theorem em_var (i:Nat) (h:i∈Γ:=by decide):EM K Γ [i] (tVar i) (vVar i):=⟨vVar_mono,fun {B0 fps δ σ H Q} o q=>by
  obtain ⟨d,e,q⟩:=vVar_out q
  obtain ⟨v,e1,r⟩:=o.val i d e
  exact⟨v,e1,q v H _ (Same.refl H) r ⟨(o.own i h).1,fun a ha=>((o.own i h).2 a ha).2,fun a ha=>.inr ⟨i,List.mem_singleton.mpr rfl,ha⟩⟩⟩⟩
def vC (d:D) (_u0:Dl) (P:DK):Prop:=P d
theorem em_int {i:Int}:EM K Γ [] (tC (.int i)) (vC (.int i)):=⟨fun _ _ _ k h=>k _ h,fun {_ _ _ _ H _} _ q=>q _ H [] (Same.refl H) ⟨rfl,rfl⟩ Nw.nil⟩
theorem em_bl {i:Bool}:EM K Γ [] (tC (.bl i)) (vC (.bl i)):=⟨fun _ _ _ k h=>k _ h,fun {_ _ _ _ H _} _ q=>q _ H [] (Same.refl H) ⟨rfl,rfl⟩ Nw.nil⟩
theorem em_str {i:Str}:EM K Γ [] (tC (.str i)) (vC (.str i)):=⟨fun _ _ _ k h=>k _ h,fun {_ _ _ _ H _} _ q=>q _ H [] (Same.refl H) ⟨rfl,rfl⟩ Nw.nil⟩
abbrev D2:=D→D→DK→Prop
abbrev nf:Nat→List Addr:=fun _=>[]
structure OpV (K:PySem.W.Frag) (r:R2) (rv:D2):Prop where
  mono:∀x y (P P':DK),(∀z,P z→P' z)→rv x y P→rv x y P'
  run:∀{H x y v w Q},Rp K H x v→Rp K H y w→rv x y (fun z=>∀u H' fp,Same H H'→Rf K H' z u fp→Nw H H' nf [] fp→Q u H')→r v w H Q
def vOp (rv:D2) (da db:DE) (δ:Dl) (P:DK):Prop:=da δ fun x=>db δ fun y=>rv x y P
theorem em_op {r:R2}{rv:D2} (ho:OpV K r rv) (ha:ER K Γ ta da) (hb:ER K Γ tb db):EM K Γ [] (tOp r ta tb) (vOp rv da db) :=
  ⟨fun δ P P' k h=>ha.mono _ _ _ (fun x z=>hb.mono _ _ _ (fun y z=>ho.mono x y _ _ k z) z) h,
   fun o q=>ha.run o (ha.mono _ _ _ (fun x z v H1 s1 r1=>hb.run (o.same s1) (hb.mono _ _ _ (fun y z w H2 s2 r2=>ho.run (r1.same s2) r2 (ho.mono _ _ _ _ (fun u z u' H' fp s r n=>z u' H' fp ((s1.trans s2).trans s) r (n.any.later (s1.trans s2))) z)) z)) q)⟩
abbrev D1:=D→DK→Prop
structure UnV (K:PySem.W.Frag) (r:V→Hp→VK→Prop) (rv:D1):Prop where
  mono:∀x (P P':DK),(∀z,P z→P' z)→rv x P→rv x P'
  run:∀{H x v Q},Rp K H x v→rv x (fun z=>∀u H' fp,Same H H'→Rf K H' z u fp→Nw H H' nf [] fp→Q u H')→r v H Q
def vUn (rv:D1) (da:DE) (δ:Dl) (P:DK):Prop:=da δ fun x=>rv x P
theorem em_un {r:V→Hp→VK→Prop}{rv:D1} (ho:UnV K r rv) (ha:ER K Γ ta da):EM K Γ [] (tUn r ta) (vUn rv da) :=
  ⟨fun δ P P' k h=>ha.mono _ _ _ (fun x z=>ho.mono x _ _ k z) h,
   fun o q=>ha.run o (ha.mono _ _ _ (fun x z v H1 s1 r1=>ho.run r1 (ho.mono _ _ _ (fun u z u' H' fp s r n=>z u' H' fp (s1.trans s) r (n.any.later s1)) z)) q)⟩
def vI0 (g:Int→Int→D) (x:D) (y:D) (P:DK):Prop:=match x,y with | .int i,.int j=>P (g i j) | _,_=>False
def vI (C:Int→Int→Prop) (g:Int→Int→D) (x:D) (y:D) (P:DK):Prop:=match x,y with | .int i,.int j=>C i j∧P (g i j) | _,_=>False
def vU (g:Int→D) (x:D) (P:DK):Prop:=match x with | .int i=>P (g i) | _=>False
theorem vI0_mono {g:Int→Int→D}:∀x y (P P':DK),(∀z,P z→P' z)→vI0 g x y P→vI0 g x y P':=fun x y P P' k h=>by
  unfold vI0 at h ⊢;revert h;split<;>first | exact k _ | exact id
theorem vI_mono {C:Int→Int→Prop}{g:Int→Int→D}:∀x y (P P':DK),(∀z,P z→P' z)→vI C g x y P→vI C g x y P':=fun x y P P' k h=>by
  unfold vI at h ⊢;revert h;split<;>first | exact fun h=>⟨h.1,k _ h.2⟩ | exact id
theorem vI0_run {f:Int→Int→V}{g:Int→Int→D} (hs:∀i j,(g i j).scal=true∧(g i j).toV=f i j):OpV K (rI0 f) (vI0 g):=⟨vI0_mono,fun {H x y v w Q} r1 r2 h=>by
  unfold vI0 at h
  split at h
  · rename_i i j
    refine⟨i,j,r1.int,r2.int,?_⟩
    rw[← (hs i j).2]
    exact h _ H [] (Same.refl H) (Rf.ofScal (hs i j).1) Nw.nil
  · exact h.elim⟩
theorem vI_run {C:Int→Int→Prop}{f:Int→Int→V}{g:Int→Int→D} (hs:∀i j,(g i j).scal=true∧(g i j).toV=f i j):OpV K (rI C f) (vI C g):=⟨vI_mono,fun {H x y v w Q} r1 r2 h=>by
  unfold vI at h
  split at h
  · rename_i i j
    refine⟨i,j,r1.int,r2.int,h.1,?_⟩
    rw[← (hs i j).2]
    exact h.2 _ H [] (Same.refl H) (Rf.ofScal (hs i j).1) Nw.nil
  · exact h.elim⟩
theorem o_int {f:Int→Int→Int}:OpV K (rI0 fun i j=>.int (f i j)) (vI0 fun i j=>.int (f i j)):=vI0_run fun _ _=>⟨rfl,rfl⟩
theorem o_bl {f:Int→Int→Bool}:OpV K (rI0 fun i j=>.bl (f i j)) (vI0 fun i j=>.bl (f i j)):=vI0_run fun _ _=>⟨rfl,rfl⟩
theorem o_intC {C:Int→Int→Prop}{f:Int→Int→Int}:OpV K (rI C fun i j=>.int (f i j)) (vI C fun i j=>.int (f i j)):=vI_run fun _ _=>⟨rfl,rfl⟩
theorem u_int {f:Int→Int}:UnV K (rU fun i=>.int (f i)) (vU fun i=>.int (f i)):=⟨fun x P P' k h=>by unfold vU at h ⊢;revert h;split<;>first | exact k _ | exact id,fun {H x v Q} r1 h=>by
  unfold vU at h
  split at h
  · rename_i i
    exact⟨i,r1.int,h _ H [] (Same.refl H) ⟨rfl,rfl⟩ Nw.nil⟩
  · exact h.elim⟩
def vEqS (neg:Bool) (x:D) (y:D) (P:DK):Prop:=x.scal=true∧y.scal=true∧scal x.toV y.toV=true∧P (.bl (if neg then !decide (x.toV=y.toV) else decide (x.toV=y.toV)))
theorem vEqS_mono {neg:Bool}:∀x y (P P':DK),(∀z,P z→P' z)→vEqS neg x y P→vEqS neg x y P':=fun x y P P' k h=>⟨h.1,h.2.1,h.2.2.1,k _ h.2.2.2⟩
theorem o_eq:OpV K rEq (vEqS false):=⟨vEqS_mono,fun {H x y v w Q} ⟨f1,r1⟩ ⟨f2,r2⟩ h=>by
  rw[(r1.scal h.1).1,(r2.scal h.2.1).1]
  exact⟨h.2.2.1,h.2.2.2 _ H [] (Same.refl H) ⟨rfl,rfl⟩ Nw.nil⟩⟩
theorem o_ne:OpV K rNe (vEqS true):=⟨vEqS_mono,fun {H x y v w Q} ⟨f1,r1⟩ ⟨f2,r2⟩ h=>by
  rw[(r1.scal h.1).1,(r2.scal h.2.1).1]
  exact⟨h.2.2.1,h.2.2.2 _ H [] (Same.refl H) ⟨rfl,rfl⟩ Nw.nil⟩⟩
theorem vEqS_int {neg:Bool}{i j:Int}{P:DK}:vEqS neg (.int i) (.int j) P↔P (.bl (if neg then !decide (i=j) else decide (i=j))):=by
  unfold vEqS
  simp only[D.scal,D.toV,scal,true_and,V.int.injEq]
def vIxL (x:D) (y:D) (P:DK):Prop:=match x.items,y with | some ds,.int i=>(match atI ds i with | some d=>P d | none=>False) | _,_=>False
def vIxT (x:D) (y:D) (P:DK):Prop:=match x,y with | .tup ds,.int i=>(match atI ds i with | some d=>P d | none=>False) | _,_=>False
theorem vIxL_out {x y:D}{P:DK} (h:vIxL x y P):∃ds i d,x.items=some ds∧y=.int i∧atI ds i=some d∧P d:=by
  unfold vIxL at h
  split at h
  · split at h
    · exact⟨_,_,_,by assumption,rfl,by assumption,h⟩
    · exact h.elim
  · exact h.elim
theorem vIxT_out {x y:D}{P:DK} (h:vIxT x y P):∃ds i d,x=.tup ds∧y=.int i∧atI ds i=some d∧P d:=by
  unfold vIxT at h
  split at h
  · split at h
    · exact⟨_,_,_,rfl,rfl,by assumption,h⟩
    · exact h.elim
  · exact h.elim
theorem vIxL_in {x:D}{ds:List D}{i:Int}{d:D}{P:DK} (ex:x.items=some ds) (e:atI ds i=some d) (h:P d):vIxL x (.int i) P:=by unfold vIxL;simp only[ex,e];exact h
theorem vIxT_in {ds:List D}{i:Int}{d:D}{P:DK} (e:atI ds i=some d) (h:P d):vIxT (.tup ds) (.int i) P:=by unfold vIxT;simp only[e];exact h
theorem vIxL_mono:∀x y (P P':DK),(∀z,P z→P' z)→vIxL x y P→vIxL x y P':=fun x y P P' k h=>by
  obtain ⟨ds,i,d,ex,rfl,e,h⟩:=vIxL_out h;exact vIxL_in ex e (k _ h)
theorem vIxT_mono:∀x y (P P':DK),(∀z,P z→P' z)→vIxT x y P→vIxT x y P':=fun x y P P' k h=>by
  obtain ⟨ds,i,d,rfl,rfl,e,h⟩:=vIxT_out h;exact vIxT_in e (k _ h)
theorem Rfs.at {H:Hp}{ds:List D}{xs:List V}{fq:List Addr}{i:Int}{d:D} (h:Rfs K H ds xs fq) (e:atI ds i=some d):∃v f,atI xs i=some v∧Rf K H d v f∧∀a∈f,a∈fq:=by
  unfold atI at e ⊢
  rw[h.length]
  cases hj:ixN ds.length i with
  | none=>rw[hj] at e;cases e
  | some j=>rw[hj] at e;exact h.get e
theorem er_ixL (ha:ER K Γ ta da) (hb:ER K Γ tb db):ER K Γ (tOp (rIxL K) ta tb) (vOp vIxL da db) :=
  ⟨fun δ P P' k h=>ha.mono _ _ _ (fun x z=>hb.mono _ _ _ (fun y z=>vIxL_mono x y _ _ k z) z) h,
   fun o q=>ha.run o (ha.mono _ _ _ (fun x z v H1 s1 r1=>hb.run (o.same s1) (hb.mono _ _ _ (fun y z w H2 s2 r2=>by
    obtain ⟨ds,i,d,ex,rfl,e,z⟩:=vIxL_out z
    obtain ⟨a,xs,fq,rfl,hs,hr⟩:=(r1.same s2).seq ex
    obtain ⟨v,f,e1,r3,_⟩:=hr.at e
    exact⟨a,xs,i,v,rfl,r2.int,hs,e1,z v H2 (s1.trans s2) ⟨f,r3⟩⟩) z)) q)⟩
theorem es_ixL (ha:ES K Γ ta da) (hb:ER K Γ tb db):ES K Γ (tOp (rIxL K) ta tb) (vOp vIxL da db) :=
  ⟨fun δ P P' k h=>ha.mono _ _ _ (fun x z=>hb.mono _ _ _ (fun y z=>vIxL_mono x y _ _ k z) z) h,
   fun o q=>ha.run o (ha.mono _ _ _ (fun x z v H1 fp s1 r1 n=>hb.run (o.same s1) (hb.mono _ _ _ (fun y z w H2 s2 r2=>by
    obtain ⟨ds,i,d,ex,rfl,e,z⟩:=vIxL_out z
    obtain ⟨a,xs,fq,rfl,hs,hr,hin⟩:=(r1.same s2).seq ex
    obtain ⟨v,f,e1,r3,k⟩:=hr.at e
    exact⟨a,xs,i,v,rfl,r2.int,hs,e1,z v H2 f (s1.trans s2) r3 fun j hj b hb=>n j hj b (hin b (k b hb))⟩) z)) q)⟩
theorem es_ixT (ha:ES K Γ ta da) (hb:ER K Γ tb db):ES K Γ (tOp (rIxT K) ta tb) (vOp vIxT da db) :=
  ⟨fun δ P P' k h=>ha.mono _ _ _ (fun x z=>hb.mono _ _ _ (fun y z=>vIxT_mono x y _ _ k z) z) h,
   fun o q=>ha.run o (ha.mono _ _ _ (fun x z v H1 fp s1 r1 n=>hb.run (o.same s1) (hb.mono _ _ _ (fun y z w H2 s2 r2=>by
    obtain ⟨ds,i,d,rfl,rfl,e,z⟩:=vIxT_out z
    obtain ⟨a,xs,rfl,hs,hr⟩:=r1.same s2
    obtain ⟨v,f,e1,r3,k⟩:=hr.at e
    exact⟨a,xs,i,v,rfl,r2.int,.inl (.inl hs),e1,z v H2 f (s1.trans s2) r3 fun j hj b hb=>n j hj b (k b hb)⟩) z)) q)⟩
def asB (x:D) (P:Bool→Prop):Prop:=match x with | .bl k=>P k | _=>False
def vTest (d:DE) (δ:Dl) (P:Bool→Prop):Prop:=d δ fun x=>asB x P
theorem vb_out {x:D}{P:Bool→Prop} (h:asB x P):∃k,x=.bl k∧P k:=by
  unfold asB at h
  split at h
  · exact⟨_,rfl,h⟩
  · exact h.elim
theorem vb_in {x:D}{P P':Bool→Prop} (k:∀b,P b→P' b) (h:asB x P):asB x P':=by
  obtain ⟨b,rfl,h⟩:=vb_out h;exact k b h
theorem tr_test (h:ER K Γ t d):TR K Γ (tTest t) (vTest d):=⟨fun δ P P' k q=>h.mono _ _ _ (fun x z=>vb_in k z) q,fun o q=>h.run o (h.mono _ _ _ (fun x z v H' s r=>by
  obtain ⟨b,rfl,z⟩:=vb_out z;exact⟨b,r.bl,z H' s⟩) q)⟩
theorem tr_b (h:ER K Γ t d):TR K Γ (tB t) (vTest d):=⟨fun δ P P' k q=>h.mono _ _ _ (fun x z=>vb_in k z) q,fun o q=>h.run o (h.mono _ _ _ (fun x z v H' s r=>by
  obtain ⟨b,rfl,z⟩:=vb_out z;exact⟨b,r.bl,z H' s⟩) q)⟩
def vAnd (c e:DT) (δ:Dl) (P:Bool→Prop):Prop:=c δ fun k=>if k=true then e δ P else P false
def vOr (c e:DT) (δ:Dl) (P:Bool→Prop):Prop:=c δ fun k=>if k=true then P true else e δ P
def vNot (c:DT) (δ:Dl) (P:Bool→Prop):Prop:=c δ fun k=>P (!k)
theorem ite_imp {b:Bool}{A B A' B':Prop} (h1:A→A') (h2:B→B') (h:if b=true then A else B):if b=true then A' else B':=by
  cases b
  · exact h2 h
  · exact h1 h
theorem tr_and {u1 u2:TT}{c e:DT} (h1:TR K Γ u1 c) (h2:TR K Γ u2 e):TR K Γ (tAnd u1 u2) (vAnd c e) :=
  ⟨fun δ P P' k q=>h1.mono _ _ _ (fun b z=>ite_imp (h2.mono _ _ _ k) (k _) z) q,
   fun o q=>h1.run o (h1.mono _ _ _ (fun b z H' s=>ite_imp (fun z=>h2.run (o.same s) (h2.mono _ _ _ (fun b z H2 s2=>z H2 (s.trans s2)) z)) (fun z=>z H' s) z) q)⟩
theorem tr_or {u1 u2:TT}{c e:DT} (h1:TR K Γ u1 c) (h2:TR K Γ u2 e):TR K Γ (tOr u1 u2) (vOr c e) :=
  ⟨fun δ P P' k q=>h1.mono _ _ _ (fun b z=>ite_imp (k _) (h2.mono _ _ _ k) z) q,
   fun o q=>h1.run o (h1.mono _ _ _ (fun b z H' s=>ite_imp (fun z=>z H' s) (fun z=>h2.run (o.same s) (h2.mono _ _ _ (fun b z H2 s2=>z H2 (s.trans s2)) z)) z) q)⟩
theorem tr_not {u1:TT}{c:DT} (h1:TR K Γ u1 c):TR K Γ (tNot u1) (vNot c) :=
  ⟨fun δ P P' k q=>h1.mono _ _ _ (fun b z=>k _ z) q,fun o q=>h1.run o (h1.mono _ _ _ (fun b z H' s=>z H' s) q)⟩
def vAndV (da db:DE) (δ:Dl) (P:DK):Prop:=vTest da δ fun k=>if k=true then db δ P else P (.bl false)
def vOrV (da db:DE) (δ:Dl) (P:DK):Prop:=vTest da δ fun k=>if k=true then P (.bl true) else db δ P
def vNotV (da:DE) (δ:Dl) (P:DK):Prop:=vTest da δ fun k=>P (.bl (!k))
theorem em_andV (ha:ER K Γ ta da) (hb:EM K Γ [] tb db):EM K Γ [] (tAndV ta tb) (vAndV da db) :=
  ⟨fun δ P P' k q=>(tr_test ha).mono _ _ _ (fun b z=>ite_imp (hb.mono _ _ _ k) (k _) z) q,
   fun o q=>ha.run o (ha.mono _ _ _ (fun x z v H' s r=>by
    obtain ⟨b,rfl,z⟩:=vb_out z
    exact⟨b,r.bl,ite_imp (fun z=>hb.run (o.same s) (hb.mono _ _ _ (fun y z u H2 fp s2 r2 n2=>z u H2 fp (s.trans s2) r2 (n2.later s)) z)) (fun z=>z _ H' [] s ⟨rfl,rfl⟩ Nw.nil) z⟩) q)⟩
theorem em_notV (ha:ER K Γ ta da):EM K Γ [] (tNotV ta) (vNotV da) :=
  ⟨fun δ P P' k q=>(tr_test ha).mono _ _ _ (fun b z=>k _ z) q,
   fun o q=>ha.run o (ha.mono _ _ _ (fun x z v H' s r=>by
    obtain ⟨b,rfl,z⟩:=vb_out z
    exact⟨b,r.bl,z _ H' [] s ⟨rfl,rfl⟩ Nw.nil⟩) q)⟩
def vIf (c:DT) (da db:DE) (δ:Dl) (P:DK):Prop:=c δ fun k=>if k=true then da δ P else db δ P
def vChain (r r':D2) (da db dc:DE) (δ:Dl) (P:DK):Prop:=da δ fun x=>db δ fun y=>r x y fun z=>asB z fun k=>if k=true then dc δ fun w=>r' y w P else P (.bl false)
theorem em_chain {r r':R2}{rv rv':D2} (ho:OpV K r rv) (ho':OpV K r' rv') (ha:ER K Γ ta da) (hb:ER K Γ tb db) (hc:ER K Γ tc dc):EM K Γ [] (tChain r r' ta tb tc) (vChain rv rv' da db dc) :=
  ⟨fun δ P P' k h=>ha.mono _ _ _ (fun x z=>hb.mono _ _ _ (fun y z=>ho.mono x y _ _ (fun u z=>vb_in (fun b z=>ite_imp (hc.mono _ _ _ fun w z=>ho'.mono _ _ _ _ k z) (k _) z) z) z) z) h,
   fun o q=>ha.run o (ha.mono _ _ _ (fun x z v H1 s1 r1=>hb.run (o.same s1) (hb.mono _ _ _ (fun y z w H2 s2 r2=>ho.run (r1.same s2) r2 (ho.mono _ _ _ _ (fun u z u' H3 fp s3 r3 n3=>by
    obtain ⟨b,rfl,z⟩:=vb_out z
    have s13:=(s1.trans s2).trans s3
    refine⟨b,r3.1,ite_imp (fun z=>?_) (fun z=>z _ H3 [] s13 ⟨rfl,rfl⟩ Nw.nil) z⟩
    exact hc.run (o.same s13) (hc.mono _ _ _ (fun w z w' H4 s4 r4=>ho'.run (r2.same (s3.trans s4)) r4 (ho'.mono _ _ _ _ (fun u z u' H' fp s r n=>z u' H' fp ((s13.trans s4).trans s) r (n.any.later (s13.trans s4))) z)) z)) z)) z)) q)⟩
def vNil (_u0:Dl) (P:List D→Prop):Prop:=P []
def vCons (da:DE) (dr:DA) (δ:Dl) (P:List D→Prop):Prop:=da δ fun x=>dr δ fun xs=>P (x::xs)
theorem ar_nil:AR K Γ tNil vNil:=⟨fun _ _ _ k h=>k _ h,fun {_ _ _ _ H _} o q=>q [] H (Same.refl H) ⟨[],rfl,rfl⟩⟩
theorem am_nil:AM K Γ [] tNil vNil:=⟨fun _ _ _ k h=>k _ h,fun {_ _ _ _ H _} o q=>q [] H [] (Same.refl H) ⟨rfl,rfl⟩ Nw.nil⟩
theorem ar_cons {tr:TA}{dr:DA} (ha:ER K Γ ta da) (hr:AR K Γ tr dr):AR K Γ (tCons ta tr) (vCons da dr) :=
  ⟨fun δ P P' k h=>ha.mono _ _ _ (fun x z=>hr.mono _ _ _ (fun y z=>k _ z) z) h,
   fun o q=>ha.run o (ha.mono _ _ _ (fun x z v H1 s1 r1=>hr.run (o.same s1) (hr.mono _ _ _ (fun xs z vs H2 s2 r2=>by
    obtain ⟨f1,r1⟩:=r1.same s2
    obtain ⟨f2,r2⟩:=r2
    exact z _ H2 (s1.trans s2) ⟨f1++f2,_,_,f1,f2,rfl,rfl,r1,r2⟩) z)) q)⟩
theorem am_cons {M':List Nat}{tr:TA}{dr:DA} (ha:EM K Γ M ta da) (hr:AM K Γ M' tr dr) (hM:∀i∈M,i∈Γ∧i∉M':=by decide) (hM':∀i∈M',i∈Γ:=by decide):AM K Γ (M++M') (tCons ta tr) (vCons da dr) :=
  ⟨fun δ P P' k h=>ha.mono _ _ _ (fun x z=>hr.mono _ _ _ (fun y z=>k _ z) z) h,
   fun {B0 fps δ σ H Q} o q=>ha.run o (ha.mono _ _ _ (fun x z v H1 f1 s1 r1 n1=>hr.run (o.same s1) (hr.mono _ _ _ (fun xs z vs H2 f2 s2 r2 n2=>by
    refine z _ H2 (f1++f2) (s1.trans s2) ⟨_,_,f1,f2,rfl,rfl,r1.same s2,r2⟩ ⟨?_,fun a ha=>(List.mem_append.mp ha).elim (fun h=>(n1.mu a h).same s2) (n2.mu a),fun a ha=>?_⟩
    · refine List.nodup_append.mpr ⟨n1.nd,n2.nd,fun a h1 b h2 e=>?_⟩
      subst e
      rcases n2.src a h2 with e | ⟨j,hj,e⟩
      · exact (n1.mu a h1).some e
      · rcases n1.src a h1 with e' | ⟨i,hi,e'⟩
        · exact o.dom e e'
        · exact o.dj i (hM i hi).1 j (fun y=>(hM i hi).2 (by rw[← y];exact hj)) a e' e
    · rcases List.mem_append.mp ha with h | h
      · exact (n1.src a h).imp id fun ⟨j,h1,h2⟩=>⟨j,List.mem_append_left _ h1,h2⟩
      · exact (n2.src a h).elim (fun e=>.inl (s1.free e)) fun ⟨j,h1,h2⟩=>.inr ⟨j,List.mem_append_right _ h1,h2⟩) z)) q)⟩
theorem le1000 {n:Nat} (h:n≤1000):n≤sizeLine:=Nat.le_trans h (by rw[sizeLine_eq];decide)
def vLst (da:DA) (δ:Dl) (P:DK):Prop:=da δ fun xs=>xs.length≤1000∧P (.lst xs)
def vTup (da:DA) (δ:Dl) (P:DK):Prop:=da δ fun xs=>xs.length≤1000∧P (.tup xs)
theorem Same.new' {H:Hp}{p:Addr}{o:HO} (h:H p=none):Same H (upd H p o):=fun b u e=>by rw[upd_ne (ne_of_none e h)];exact e
theorem em_lst {u:TA}{dr:DA} (hr:AM K Γ M u dr) (hM:∀i∈M,i∈Γ:=by decide):EM K Γ M (tLst u) (vLst dr) :=
  ⟨fun δ P P' k h=>hr.mono _ _ _ (fun y z=>⟨z.1,k _ z.2⟩) h,
   fun {B0 fps δ σ H Q} o q=>hr.run o (hr.mono _ _ _ (fun xs z vs H1 fp s1 r1 n1=>by
    refine⟨by rw[r1.length];exact le1000 z.1,fun p hp=>?_⟩
    have hs:Same H1 (upd H1 p (.lst vs)):=Same.new' hp
    refine z.2 _ _ (p::fp) (s1.trans hs) ⟨p,vs,fp,rfl,upd_same,rfl,r1.same hs⟩ ⟨List.nodup_cons.mpr ⟨fun h=>(n1.mu p h).some hp,n1.nd⟩,fun a ha=>?_,fun a ha=>?_⟩
    · rcases List.mem_cons.mp ha with e | h
      · subst e;exact .inl ⟨vs,upd_same⟩
      · exact (n1.mu a h).same hs
    · rcases List.mem_cons.mp ha with e | h
      · subst e;exact .inl (s1.free hp)
      · exact n1.src a h) q)⟩
theorem em_tup {u:TA}{dr:DA} (hr:AM K Γ M u dr):EM K Γ M (tTup u) (vTup dr) :=
  ⟨fun δ P P' k h=>hr.mono _ _ _ (fun y z=>⟨z.1,k _ z.2⟩) h,
   fun {B0 fps δ σ H Q} o q=>hr.run o (hr.mono _ _ _ (fun xs z vs H1 fp s1 r1 n1=>by
    refine⟨by rw[r1.length];exact le1000 z.1,fun p hp=>?_⟩
    have hs:Same H1 (upd H1 p (.tup vs)):=Same.new' hp
    exact z.2 _ _ fp (s1.trans hs) ⟨p,vs,rfl,upd_same,r1.same hs⟩ (n1.same hs)) q)⟩
theorem er_lst {u:TA}{dr:DA} (hr:AR K Γ u dr):ER K Γ (tLst u) (vLst dr) :=
  ⟨fun δ P P' k h=>hr.mono _ _ _ (fun y z=>⟨z.1,k _ z.2⟩) h,
   fun {B0 fps δ σ H Q} o q=>hr.run o (hr.mono _ _ _ (fun xs z vs H1 s1 r1=>by
    obtain ⟨fp,r1⟩:=r1
    refine⟨by rw[r1.length];exact le1000 z.1,fun p hp=>?_⟩
    have hs:Same H1 (upd H1 p (.lst vs)):=Same.new' hp
    exact z.2 _ _ (s1.trans hs) ⟨p::fp,p,vs,fp,rfl,upd_same,rfl,r1.same hs⟩) q)⟩
abbrev DSp:=List D→DK→Prop
def DMono (S:DSp):Prop:=∀xs (P P':DK),(∀z,P z→P' z)→S xs P→S xs P'
def spP (K:PySem.W.Frag) (S:DSp):Sp:=fun vs H Q _=>∃ds,Rps K H ds vs∧S ds fun x=>∀v H' fp,Same H H'→Rf K H' x v fp→Nw H H' nf [] fp→Q v H'
structure CallV (K:PySem.W.Frag) (r:List V→Hp→VK→Prop) (S:DSp):Prop where
  mono:DMono S
  run:∀{H xs vs Q},Rps K H xs vs→S xs (fun z=>∀u H' fp,Same H H'→Rf K H' z u fp→Nw H H' nf [] fp→Q u H')→r vs H Q
def vCall (S:DSp) (dr:DA) (δ:Dl) (P:DK):Prop:=dr δ fun xs=>S xs P
theorem em_cb {r:List V→Hp→VK→Prop}{S:DSp}{u:TA}{dr:DA} (hc:CallV K r S) (hr:AR K Γ u dr):EM K Γ [] (tCB r u) (vCall S dr) :=
  ⟨fun δ P P' k h=>hr.mono _ _ _ (fun y z=>hc.mono _ _ _ k z) h,
   fun {B0 fps δ σ H Q} o q=>hr.run o (hr.mono _ _ _ (fun xs z vs H1 s1 r1=>hc.run r1 (hc.mono _ _ _ (fun u z u' H' fp s r n=>z u' H' fp (s1.trans s) r (n.any.later s1)) z)) q)⟩
theorem em_call {S:DSp}{E:XK}{u:TA}{dr:DA} (hS:DMono S) (hr:AR K Γ u dr):EM K Γ [] (tCall (spP K S) [] E u) (vCall S dr) :=
  ⟨fun δ P P' k h=>hr.mono _ _ _ (fun y z=>hS _ _ _ k z) h,
   fun {B0 fps δ σ H Q} o q=>hr.run o (hr.mono _ _ _ (fun xs z vs H1 s1 r1=>⟨xs,by rw[List.append_nil];exact r1,hS _ _ _ (fun u z u' H' fp s r n=>z u' H' fp (s1.trans s) r (n.any.later s1)) z⟩) q)⟩
end
end L3
set_option Elab.async false
set_option linter.all false
set_option maxRecDepth 100000
set_option maxHeartbeats 4000000
namespace L3
open PySem L2
structure DEnds where
  nx:Dl→Prop
  rt:D→Dl→Prop
  bk:Dl→Prop
  ct:Dl→Prop
abbrev DS:=DEnds→Dl→Prop
structure RtI (B0:Hp) (Γr:List Nat) (fps:Nat→List Addr) (H:Hp) (fp:List Addr):Prop where
  nd:fp.Nodup
  mu:∀a∈fp,Mu H a
  nw:∀a∈fp,B0 a=none
  dj:∀j∈Γr,∀a∈fp,a∉fps j
structure EOk (K:PySem.W.Frag) (ρ:Bool) (Γr Γl Γn:List Nat) (B0:Hp) (Dn:Ends) (E:DEnds):Prop where
  nx:∀{fps δ σ H},Ok K B0 Γn fps δ σ H→E.nx δ→Dn.nx σ H
  bk:∀{fps δ σ H},Ok K B0 Γl fps δ σ H→E.bk δ→Dn.bk σ H
  ct:∀{fps δ σ H},Ok K B0 Γl fps δ σ H→E.ct δ→Dn.ct σ H
  rt:∀{fps δ σ H x v fp},Ok K B0 Γr fps δ σ H→Rf K H x v fp→(ρ=true→RtI B0 Γr fps H fp)→E.rt x δ→Dn.rt v H
def ST (K:PySem.W.Frag) (ρ:Bool) (Γr Γl:List Nat) (t:TS) (Γ Γn:List Nat) (d:DS):Prop :=
  ∀⦃B0:Hp⦄ ⦃Dn:Ends⦄ ⦃E:DEnds⦄ ⦃fps:Nat→List Addr⦄ ⦃δ:Dl⦄ ⦃σ:St⦄ ⦃H:Hp⦄,EOk K ρ Γr Γl Γn B0 Dn E→Ok K B0 Γ fps δ σ H→d E δ→t Dn σ H
section
variable {K:PySem.W.Frag}{ρ:Bool}{Γr Γl Γ Γ1 Γ2 Γn M:List Nat}{t u:TS}{te ta tb:TE}{de da db:DE}{d e:DS}
def vNext (E:DEnds) (δ:Dl):Prop:=E.nx δ
def vSeq (d e:DS) (E:DEnds) (δ:Dl):Prop:=d { E with nx:=e E } δ
theorem st_next:ST K ρ Γr Γl tNext Γ Γ vNext:=fun _ _ _ _ _ _ _ k o h=>k.nx o h
theorem st_seq (h1:ST K ρ Γr Γl t Γ Γ1 d) (h2:ST K ρ Γr Γl u Γ1 Γ2 e):ST K ρ Γr Γl (tSeq t u) Γ Γ2 (vSeq d e) :=
  fun {B0 Dn E fps δ σ H} k o h=>h1 (Dn:={ Dn with nx:=u Dn }) (E:={ E with nx:=e E }) ⟨fun o h=>h2 k o h,k.bk,k.ct,k.rt⟩ o h
theorem ST.post (h:ST K ρ Γr Γl t Γ Γ1 d) (s:∀i∈Γn,i∈Γ1:=by decide):ST K ρ Γr Γl t Γ Γn d:=fun _ _ _ _ _ _ _ k o q=>h ⟨fun o h=>k.nx (o.sub s) h,k.bk,k.ct,k.rt⟩ o q
def vSetM (M:List Nat) (i:Nat) (de:DE) (E:DEnds) (δ:Dl):Prop:=de δ fun x=>E.nx ((kill M δ).set i (some x))
theorem st_setM (i:Nat) (he:EM K Γ M te de) (hM:∀j∈M,j∈Γ:=by decide):ST K ρ Γr Γl (tAsg te (gName i)) Γ (i::minus (minus Γ M) [i]) (vSetM M i de) :=
  fun _ _ _ _ _ _ _ k o h=>he.run o (he.mono _ _ _ (fun x z v H' fp s r n=>k.nx (o.setMv i hM s r n) z) h)
def vSet (i:Nat) (de:DE) (E:DEnds) (δ:Dl):Prop:=de δ fun x=>E.nx (δ.set i (some x))
theorem st_setS (i:Nat) (he:ES K Γ te de):ST K ρ Γr Γl (tAsg te (gName i)) Γ (minus Γ [i]) (vSet i de) :=
  fun _ _ _ _ _ _ _ k o h=>he.run o (he.mono _ _ _ (fun x z v H' fp s r n=>k.nx (o.setSh i s r n) z) h)
def vDrop (de:DE) (E:DEnds) (δ:Dl):Prop:=de δ fun _=>E.nx δ
def vRet (M:List Nat) (de:DE) (E:DEnds) (δ:Dl):Prop:=de δ fun x=>E.rt x (kill M δ)
theorem st_ret (he:EM K Γ M te de) (hM:∀j∈M,j∈Γ:=by decide) (hr:∀j∈Γr,j∈Γ∧j∉M:=by decide):ST K ρ Γr Γl (tRet te) Γ Γn (vRet M de) :=
  fun {B0 Dn E fps δ σ H} k o h=>he.run o (he.mono _ _ _ (fun x z v H' fp s r n=>by
    have ok:=((o.kill M).same s).sub (Γ':=Γr) fun i hi=>mem_minus.mpr (hr i hi)
    refine k.rt ok r (fun _=>⟨n.nd,n.mu,fun a ha=>?_,fun j hj a ha=>?_⟩) z
    · rcases n.src a ha with e | ⟨i,hi,e⟩
      · exact o.b0.free e
      · exact ((o.own i (hM i hi)).2 a e).1
    · show a∉if j∈M then [] else fps j
      rw[if_neg (hr j hj).2]
      intro z
      rcases n.src a ha with e | ⟨i,hi,e⟩
      · exact o.dom z e
      · exact o.dj i (hM i hi) j (fun y=>(hr j hj).2 (by rw[y];exact hi)) a e z) h)
theorem st_retR (he:ER K Γ te de) (hr:∀j∈Γr,j∈Γ:=by decide):ST K false Γr Γl (tRet te) Γ Γn (vRet [] de) :=
  fun {B0 Dn E fps δ σ H} k o h=>he.run o (he.mono _ _ _ (fun x z v H' s r=>by
    obtain ⟨fp,r⟩:=r
    exact k.rt ((o.same s).sub hr) r (fun z=>by cases z) z) h)
def vRetN (E:DEnds) (δ:Dl):Prop:=E.rt .non δ
theorem st_retN (hr:∀j∈Γr,j∈Γ:=by decide):ST K ρ Γr Γl tRetN Γ Γn vRetN :=
  fun {B0 Dn E fps δ σ H} k o h=>k.rt (o.sub hr) (Rf.ofScal (d:=.non) rfl) (fun _=>⟨List.nodup_nil,fun _ h=>(nomatch h),fun _ h=>(nomatch h),fun _ _ _ h=>(nomatch h)⟩) h
def vIfS (c:DT) (d e:DS) (E:DEnds) (δ:Dl):Prop:=c δ fun b=>if b=true then d E δ else e E δ
theorem st_if {c:TT}{dc:DT} (hc:TR K Γ c dc) (h1:ST K ρ Γr Γl t Γ Γn d) (h2:ST K ρ Γr Γl u Γ Γn e):ST K ρ Γr Γl (tIfS c t u) Γ Γn (vIfS dc d e) :=
  fun _ _ _ _ _ _ _ k o h=>hc.run o (hc.mono _ _ _ (fun b z H' s=>ite_imp (fun z=>h1 k (o.same s) z) (fun z=>h2 k (o.same s) z) z) h)
structure GT (K:PySem.W.Frag) (Γ:List Nat) (g:TG) (dg:D→Dl→(Dl→Prop)→Prop):Prop where
  mono:∀x δ (P P':Dl→Prop),(∀z,P z→P' z)→dg x δ P→dg x δ P'
  run:∀{B0 fps δ σ H x v fp Q},Ok K B0 Γ fps δ σ H→Rf K H x v fp→(∀j∈Γ,∀a∈fp,a∉fps j)→dg x δ (fun δ'=>∀fps' σ',Ok K B0 Γ fps' δ' σ' H→(∀j∈Γ,fps' j=fps j)→Q σ' H)→g v σ H Q
structure GTs (K:PySem.W.Frag) (Γ:List Nat) (g:TGs) (dg:List D→Dl→(Dl→Prop)→Prop):Prop where
  mono:∀x δ (P P':Dl→Prop),(∀z,P z→P' z)→dg x δ P→dg x δ P'
  run:∀{B0 fps δ σ H x v fp Q},Ok K B0 Γ fps δ σ H→Rfs K H x v fp→(∀j∈Γ,∀a∈fp,a∉fps j)→dg x δ (fun δ'=>∀fps' σ',Ok K B0 Γ fps' δ' σ' H→(∀j∈Γ,fps' j=fps j)→Q σ' H)→g v σ H Q
def vgName (i:Nat) (x:D) (δ:Dl) (P:Dl→Prop):Prop:=P (δ.set i (some x))
theorem gt_name (i:Nat) (h:i∉Γ:=by decide):GT K Γ (gName i) (vgName i):=⟨fun _ _ _ _ k h=>k _ h,fun {B0 fps δ σ H x v fp Q} o r n q=>by
  have ok:=(o.setSh i (Same.refl H) r n).sub (Γ':=Γ) fun j hj=>mem_minus.mpr ⟨hj,fun z=>h (by rw[← List.mem_singleton.mp z];exact hj)⟩
  exact q _ _ ok fun j hj=>by rw[if_neg (fun z=>h (by rw[← z];exact hj))]⟩
def vgNil (xs:List D) (δ:Dl) (P:Dl→Prop):Prop:=match xs with | []=>P δ | _=>False
def vgCons (dg:D→Dl→(Dl→Prop)→Prop) (dr:List D→Dl→(Dl→Prop)→Prop) (xs:List D) (δ:Dl) (P:Dl→Prop):Prop:=match xs with | x::r=>dg x δ fun δ'=>dr r δ' P | []=>False
theorem gts_nil:GTs K Γ gNil vgNil:=⟨fun x _ _ _ k h=>by cases x with | nil=>exact k _ h | cons _ _=>exact h,fun {B0 fps δ σ H x v fp Q} o r n q=>by
  cases x with
  | nil=>obtain ⟨rfl,_⟩:=r;exact⟨rfl,q _ _ o fun _ _=>rfl⟩
  | cons _ _=>exact q.elim⟩
theorem gts_cons {g:TG}{gs:TGs}{dg:D→Dl→(Dl→Prop)→Prop}{dr:List D→Dl→(Dl→Prop)→Prop} (h1:GT K Γ g dg) (h2:GTs K Γ gs dr):GTs K Γ (gCons g gs) (vgCons dg dr) :=
  ⟨fun x _ _ _ k h=>by
    cases x with
    | nil=>exact h
    | cons x r=>exact h1.mono _ _ _ _ (fun z h=>h2.mono _ _ _ _ k h) h,
   fun {B0 fps δ σ H x v fp Q} o r n q=>by
    cases x with
    | nil=>exact q.elim
    | cons x xs =>
      obtain ⟨y,ys,f1,f2,rfl,rfl,r1,r2⟩:=r
      refine⟨y,ys,rfl,h1.run o r1 (fun j hj a ha=>n j hj a (List.mem_append_left _ ha)) (h1.mono _ _ _ _ (fun δ' z fps' σ' o' e=>?_) q)⟩
      exact h2.run o' r2 (fun j hj a ha=>by rw[e j hj];exact n j hj a (List.mem_append_right _ ha)) (h2.mono _ _ _ _ (fun δ2 z fps2 σ2 o2 e2=>z fps2 σ2 o2 fun j hj=>(e2 j hj).trans (e j hj)) z)⟩
def vgTup (n:Nat) (dg:List D→Dl→(Dl→Prop)→Prop) (x:D) (δ:Dl) (P:Dl→Prop):Prop:=match x with | .tup ds=>ds.length=n∧dg ds δ P | _=>False
theorem gt_tup {n:Nat}{g:TGs}{dg:List D→Dl→(Dl→Prop)→Prop} (h:GTs K Γ g dg):GT K Γ (gTup K n g) (vgTup n dg) :=
  ⟨fun x δ P P' k h'=>by unfold vgTup at h' ⊢;revert h';split<;>first | exact fun h'=>⟨h'.1,h.mono _ _ _ _ k h'.2⟩ | exact id,
   fun {B0 fps δ σ H x v fp Q} o r nn q=>by
    unfold vgTup at q
    split at q
    · obtain ⟨a,xs,e1,e2,r⟩:=r
      exact⟨a,xs,e1,.inl (.inl e2),r.length.trans q.1,h.run o r nn q.2⟩
    · exact q.elim⟩
def vAsg (de:DE) (dg:D→Dl→(Dl→Prop)→Prop) (E:DEnds) (δ:Dl):Prop:=de δ fun x=>dg x δ E.nx
theorem st_asgS {g:TG}{dg:D→Dl→(Dl→Prop)→Prop} (he:ES K Γ te de) (hg:GT K Γ g dg):ST K ρ Γr Γl (tAsg te g) Γ Γ (vAsg de dg) :=
  fun _ _ _ _ _ _ _ k o h=>he.run o (he.mono _ _ _ (fun x z v H' fp s r n=>hg.run (o.same s) r n (hg.mono _ _ _ _ (fun δ' z fps' σ' o' _=>k.nx o' z) z)) h)
structure ItOk (K:PySem.W.Frag) (J:It) (B:Hp) (ds:List D):Prop where
  go:∀{i H},Same B H→i<ds.length→J.go i H
  yld:∀{i H x H' d},Same B H→J.yld i H x H'→ds[i]?=some d→Same H H'∧∃fp,Rf K H' d x fp∧∀a∈fp,B a≠none
  stop:∀{i H},Same B H→ds.length≤i→J.stop i H
abbrev DI:=Dl→(List D→Prop)→Prop
structure IT (K:PySem.W.Frag) (Γ:List Nat) (wi:TI) (di:DI):Prop where
  mono:∀δ (P P':List D→Prop),(∀x,P x→P' x)→di δ P→di δ P'
  run:∀{B0 fps δ σ H R},Ok K B0 Γ fps δ σ H→di δ (fun ds=>∀(J:It) (H':Hp) (fq:List Addr),Same H H'→(∀j∈Γ,∀a∈fq,a∉fps j) →
    (∀B,Same B H'→(∀a∈fq,B a=H' a)→(∀a o,H' a=some o→Im o→B a=some o)→ItOk K J B ds)→R J H')→wi σ H R
def asL (x:D) (P:List D→Prop):Prop:=match x.items with | some ds=>P ds | none=>False
theorem asL_out {x:D}{P:List D→Prop} (h:asL x P):∃ds,x.items=some ds∧P ds:=by
  unfold asL at h;split at h
  · exact⟨_,by assumption,h⟩
  · exact h.elim
theorem asL_in {x:D}{ds:List D}{P:List D→Prop} (e:x.items=some ds) (h:P ds):asL x P:=by unfold asL;rw[e];exact h
def vItL (de:DE) (δ:Dl) (P:List D→Prop):Prop:=de δ fun x=>asL x P
theorem it_list (he:ES K Γ te de):IT K Γ (iList K te) (vItL de) :=
  ⟨fun δ P P' k h=>he.mono _ _ _ (fun x z=>by obtain ⟨ds,e,z⟩:=asL_out z;exact asL_in e (k _ z)) h,
   fun {B0 fps δ σ H R} o h=>he.run o (he.mono _ _ _ (fun x z v H' fp s r n=>by
    obtain ⟨ds,ex,z⟩:=asL_out z
    obtain ⟨a,xs,fq,rfl,hs,hr,hin⟩:=r.seq ex
    refine⟨a,rfl,⟨xs,hs⟩,z (Itl K a) H' fp s n fun B sB ag im=>?_⟩
    have rB:Rf K B x (.ref a) fp:=r.mono (fun b hb u e=>by rw[ag b hb];exact e) im
    obtain ⟨a',xs',fq',e1,hs',hr',hin'⟩:=rB.seq ex
    cases e1
    have sq:∀{H2:Hp},Same B H2→SqL K H2 a xs':=fun s2=>by
      rcases hs' with (h | ⟨o',h⟩) | h
      · exact .inl (.inl (s2 _ _ h))
      · exact .inl (.inr ⟨o',s2 _ _ h⟩)
      · exact .inr h
    have hl:=hr'.length
    refine⟨fun {i H2} s2 hi=>⟨xs',xs'[i]'(by omega),sq s2,by simp [hl,hi]⟩,fun {i H2 y H3 d} s2 hy hd=>?_,fun {i H2} s2 hi=>⟨xs',sq s2,by omega⟩⟩
    obtain ⟨rfl,hy⟩:=hy
    have e2:=hy xs' (sq s2)
    obtain ⟨d',f,e3,r3,k3⟩:=hr'.get' e2
    rw[hd] at e3;cases e3
    exact⟨Same.refl _,f,r3.same s2,fun b hb=>by
      obtain ⟨u,hu,_⟩:=r3.dom b hb
      rw[hu];intro z;cases z⟩) h)⟩
def asI (xs:List D) (P:Int→Prop):Prop:=match xs with | [.int j]=>P j | _=>False
def asII (xs:List D) (P:Int→Int→Prop):Prop:=match xs with | [.int i,.int j]=>P i j | _=>False
theorem asI_out {xs:List D}{P:Int→Prop} (h:asI xs P):∃j,xs=[.int j]∧P j:=by
  unfold asI at h;split at h
  · exact⟨_,rfl,h⟩
  · exact h.elim
theorem asII_out {xs:List D}{P:Int→Int→Prop} (h:asII xs P):∃i j,xs=[.int i,.int j]∧P i j:=by
  unfold asII at h;split at h
  · exact⟨_,_,rfl,h⟩
  · exact h.elim
def intsD (lo:Int) (n:Nat):List D:=(List.range n).map fun (k:Nat)=>.int (lo+(k:Int))
theorem itr_ok {lo:Int}{n:Nat}{B:Hp}:ItOk K (Itr lo n) B (intsD lo n):=⟨fun {i H2} s2 hi=>by unfold Itr;simpa [intsD] using hi,fun {i H2 y H3 d} s2 hy hd=>by
  obtain ⟨rfl,rfl⟩:=hy
  unfold intsD at hd
  rw[List.getElem?_map] at hd
  cases e:(List.range n)[i]? with
  | none=>rw[e] at hd;cases hd
  | some k =>
    rw[e] at hd
    obtain ⟨h1,h2⟩:=List.getElem?_eq_some_iff.mp e
    rw[List.getElem_range] at h2
    subst h2
    cases hd
    exact⟨Same.refl _,[],⟨rfl,rfl⟩,fun _ h=>nomatch h⟩,fun {i H2} s2 hi=>by unfold Itr;simpa [intsD] using hi⟩
def vRng1 (da:DA) (δ:Dl) (P:List D→Prop):Prop:=da δ fun xs=>asI xs fun j=>(-(2 ^ 62)≤j∧j<2 ^ 62)∧P (intsD 0 j.toNat)
def vRng2 (da:DA) (δ:Dl) (P:List D→Prop):Prop:=da δ fun xs=>asII xs fun i j=>(-(2 ^ 62)≤i∧i<2 ^ 62∧-(2 ^ 62)≤j∧j<2 ^ 62)∧P (intsD i (j - i).toNat)
theorem Rps.ints1 {H:Hp}{j:Int}{vs:List V} (h:Rps K H [.int j] vs):vs=[.int j]:=by
  obtain ⟨fp,x,r,f1,f2,rfl,_,⟨rfl,_⟩,⟨rfl,_⟩⟩:=h;rfl
theorem Rps.ints2 {H:Hp}{i j:Int}{vs:List V} (h:Rps K H [.int i,.int j] vs):vs=[.int i,.int j]:=by
  obtain ⟨fp,x,r,f1,f2,rfl,_,⟨rfl,_⟩,y,r',f1,f2,rfl,_,⟨rfl,_⟩,⟨rfl,_⟩⟩:=h;rfl
theorem it_rng1 {u:TA}{da:DA} (ha:AR K Γ u da):IT K Γ (iRng1 u) (vRng1 da) :=
  ⟨fun δ P P' k h=>ha.mono _ _ _ (fun x z=>by obtain ⟨j,rfl,z⟩:=asI_out z;exact⟨z.1,k _ z.2⟩) h,
   fun {B0 fps δ σ H R} o h=>ha.run o (ha.mono _ _ _ (fun xs z vs H' s r=>by
    obtain ⟨j,rfl,z⟩:=asI_out z
    exact⟨j,r.ints1,z.1.1,z.1.2,z.2 _ H' [] s (fun _ _ _ h=>(nomatch h)) fun B _ _ _=>itr_ok⟩) h)⟩
def vLoop (dg:D→Dl→(Dl→Prop)→Prop) (db:DS) (E:DEnds):List D→Dl→Prop
  | [],δ=>E.nx δ
  | x::xs,δ=>dg x δ fun δ'=>db { nx:=vLoop dg db E xs,ct:=vLoop dg db E xs,bk:=E.nx,rt:=E.rt } δ'
def vFor (di:DI) (dg:D→Dl→(Dl→Prop)→Prop) (db:DS) (E:DEnds) (δ:Dl):Prop:=di δ fun ds=>vLoop dg db E ds δ
theorem RtI.base {B1 B0:Hp}{fps:Nat→List Addr}{H:Hp}{fp:List Addr} (r:RtI B1 Γr fps H fp) (s:Same B0 B1):RtI B0 Γr fps H fp:=⟨r.nd,r.mu,fun a ha=>s.free (r.nw a ha),r.dj⟩
theorem st_for {wi:TI}{di:DI}{g:TG}{dg:D→Dl→(Dl→Prop)→Prop}{tb:TS}{db:DS} (hi:IT K Γ wi di) (hg:GT K Γ g dg) (hb:ST K ρ Γr Γ tb Γ Γ db):ST K ρ Γr Γl (tFor wi g tb) Γ Γ (vFor di dg db):=by
  intro B0 Dn E fps δ σ H k o h
  refine hi.run o (hi.mono _ _ _ (fun ds z J H1 fq s1 n1 hit=>?_) h)
  obtain ⟨B1,sB,o1,ag⟩:=(o.same s1).rebase
  have hJ:ItOk K J B1 ds:=hit B1 o1.b0 (fun a ha=>ag a fun j hj=>n1 j hj a ha) fun a u e im=>by
    rw[ag a fun j hj ha=>((o1.own j hj).2 a ha).2.notup u e im];exact e
  refine⟨fun i m σ H=>m=ds.length - i∧i≤ds.length∧∃fps δ,Ok K B1 Γ fps δ σ H∧vLoop dg db E (ds.drop i) δ,⟨ds.length,by omega,Nat.zero_le _,fps,δ,o1,by rw[List.drop_zero];exact z⟩,?_⟩
  rintro i m σ2 H2 ⟨rfl,hi2,fps2,δ2,o2,z2⟩
  by_cases hlt:i<ds.length
  · refine .inr ⟨hJ.go o2.b0 hlt,_,fun σ' H' q=>q,fun x H3 hy=>?_⟩
    obtain ⟨s3,fp,r3,n3⟩:=hJ.yld o2.b0 hy (List.getElem?_eq_getElem hlt)
    rw[List.drop_eq_getElem_cons hlt] at z2
    refine hg.run (o2.same s3) r3 (fun j hj a ha hz=>n3 a ha ((o2.own j hj).2 a hz).1) (hg.mono _ _ _ _ (fun δ' z' fps' σ' o' e'=>?_) z2)
    refine hb (E:={ nx:=vLoop dg db E (ds.drop (i+1)),ct:=vLoop dg db E (ds.drop (i+1)),bk:=E.nx,rt:=E.rt }) ⟨fun o4 z4=>⟨ds.length - (i+1),by omega,rfl,hlt,_,_,o4,z4⟩,fun o4 z4=>k.nx (o4.base sB) z4,fun o4 z4=>⟨ds.length - (i+1),by omega,rfl,hlt,_,_,o4,z4⟩,fun o4 r4 i4 z4=>k.rt (o4.base sB) r4 (fun y=>(i4 y).base sB) z4⟩ o' z'
  · have e:i=ds.length:=by omega
    subst e
    rw[List.drop_length] at z2
    exact .inl ⟨hJ.stop o2.b0 (Nat.le_refl _),k.nx (o2.base sB) z2⟩
def vWhile (c:DT) (db:DS) (E:DEnds) (δ:Dl):Prop:=∃W:Nat→Dl→Prop,(∃m,W m δ)∧∀m δ,W m δ→c δ fun b=>if b=true then db { nx:=fun δ'=>∃m',m' < m∧W m' δ',ct:=fun δ'=>∃m',m' < m∧W m' δ',bk:=E.nx,rt:=E.rt } δ else E.nx δ
theorem st_while {c:TT}{dc:DT}{tb:TS}{db:DS} (hc:TR K Γ c dc) (hb:ST K ρ Γr Γ tb Γ Γ db):ST K ρ Γr Γl (tWhile c tb) Γ Γ (vWhile dc db):=by
  intro B0 Dn E fps δ σ H k o h
  obtain ⟨W,⟨m,w0⟩,turn⟩:=h
  refine⟨fun m σ H=>∃fps δ,Ok K B0 Γ fps δ σ H∧W m δ,⟨m,fps,δ,o,w0⟩,?_⟩
  rintro m σ2 H2 ⟨fps2,δ2,o2,w2⟩
  refine hc.run o2 (hc.mono _ _ _ (fun b z H' s=>ite_imp (fun z=>?_) (fun z=>k.nx (o2.same s) z) z) (turn m δ2 w2))
  refine⟨fun σ H=>∃m',m' < m∧∃fps δ,Ok K B0 Γ fps δ σ H∧W m' δ,fun σ' H' q=>q,hb (E:={ nx:=fun δ'=>∃m',m' < m∧W m' δ',ct:=fun δ'=>∃m',m' < m∧W m' δ',bk:=E.nx,rt:=E.rt }) ⟨?_,fun o4 z4=>k.nx o4 z4,?_,k.rt⟩ (o2.same s) z⟩
  · rintro fps δ σ H o4 ⟨m',h1,h2⟩
    exact⟨m',h1,fps,δ,o4,h2⟩
  · rintro fps δ σ H o4 ⟨m',h1,h2⟩
    exact⟨m',h1,fps,δ,o4,h2⟩
def vEach (f:D→(List D→Prop)→Prop):List D→List D→(List D→Prop)→Prop
  | [],acc,P=>P acc
  | x::xs,acc,P=>f x fun ys=>vEach f xs (acc++ys) P
theorem vEach_mono {f:D→(List D→Prop)→Prop} (hf:∀x P P',(∀z,P z→P' z)→f x P→f x P'):∀xs acc (P P':List D→Prop),(∀z,P z→P' z)→vEach f xs acc P→vEach f xs acc P'
  | [],acc,P,P',k,h=>k _ h
  | x::xs,acc,P,P',k,h=>hf x _ _ (fun z h=>vEach_mono hf xs _ P P' k h) h
def cbaseD (k:Nat) (idx:List Nat) (δ:Dl):Dl:=List.replicate k none++idx.map fun i=>(δ[i]?).getD none
theorem cb_ok {k:Nat}{idx:List Nat}{B0:Hp}{fps:Nat→List Addr}{δ:Dl}{σ:St}{H:Hp} (o:Ok K B0 Γ fps δ σ H):Ok K H [] (fun j=>match (cbaseD k idx δ)[j]? with | some (some _)=>fps (idx.getD (j - k) 0) | _=>[]) (cbaseD k idx δ) (cbase k idx σ) H:=by
  refine⟨by simp [cbaseD,cbase,caps],Same.refl H,fun i d e=>?_,fun i h=>?_,fun _ h=>(nomatch h),fun _ h=>(nomatch h)⟩
  · rw[e]
    unfold cbaseD at e
    unfold cbase caps
    by_cases hi:i<k
    · rw[List.getElem?_append_left (by simpa using hi)] at e
      simp [hi] at e
    · rw[List.getElem?_append_right (by simpa using hi),List.length_replicate,List.getElem?_map] at e
      cases ej:idx[i - k]? with
      | none=>rw[ej] at e;simp at e
      | some j =>
        rw[ej] at e
        simp only[Option.map_some,Option.some.injEq] at e
        have e':δ[j]?=some (some d):=by
          cases q:δ[j]? with
          | none=>rw[q] at e;cases e
          | some x=>rw[q] at e;simp at e;rw[e]
        obtain ⟨v,h1,h2⟩:=o.val j d e'
        refine⟨v,?_,?_⟩
        · rw[List.getElem?_append_right (by simpa using hi),List.length_replicate,List.getElem?_map,ej]
          simp [h1]
        · show Rf K H d v (fps (idx.getD (i - k) 0))
          rw[List.getD_eq_getElem?_getD,ej]
          exact h2
  · show (match (cbaseD k idx δ)[i]? with | some (some _)=>_ | _=>_)=_
    split
    · exact absurd (by assumption) (h _)
    · rfl
def vBody (dg:D→Dl→(Dl→Prop)→Prop) (dt:DT) (de:DE) (δ:Dl) (x:D) (R:List D→Prop):Prop:=dg x δ fun δ2=>dt δ2 fun b=>if b=true then de δ2 fun y=>R [y] else R []
def vComp (di:DI) (dg:D→Dl→(Dl→Prop)→Prop) (dt:DT) (de:DE) (k:Nat) (idx:List Nat) (δ:Dl) (P:DK):Prop:=di δ fun ds=>ds.length≤1000∧vEach (vBody dg dt de (cbaseD k idx δ)) ds [] fun ys=>P (.lst ys)
theorem vBody_mono {Γ':List Nat}{g:TG}{dg:D→Dl→(Dl→Prop)→Prop}{tt:TT}{dt:DT} (hg:GT K Γ' g dg) (ht:TR K Γ' tt dt) (hm:∀δ (P P':DK),(∀x,P x→P' x)→de δ P→de δ P') (δ:Dl):∀x P P',(∀z,P z→P' z)→vBody dg dt de δ x P→vBody dg dt de δ x P' :=
  fun x P P' k h=>hg.mono _ _ _ _ (fun δ2 h=>ht.mono _ _ _ (fun b h=>ite_imp (hm _ _ _ fun y h=>k _ h) (k _) h) h) h
theorem em_comp {wi:TI}{di:DI}{g:TG}{dg:D→Dl→(Dl→Prop)→Prop}{tt:TT}{dt:DT}{k:Nat}{idx:List Nat} (hi:IT K [] wi di) (hg:GT K [] g dg) (ht:TR K [] tt dt) (he:EM K [] [] te de) :
    EM K Γ [] (tComp wi g tt te k idx) (vComp di dg dt de k idx):=by
  have hm:=vBody_mono hg ht he.mono
  refine⟨fun δ P P' k h=>hi.mono _ _ _ (fun ds z=>⟨z.1,vEach_mono (hm _) _ _ _ _ (fun ys h=>k _ h) z.2⟩) h,fun {B0 fps δ σ H Q} o h=>hi.run (o.sub (Γ':=[]) fun _ h=>(nomatch h)) (hi.mono _ _ _ (fun ds z J H1 fq s1 n1 hit=>?_) h)⟩
  have hJ:ItOk K J H1 ds:=hit H1 (Same.refl _) (fun _ _=>rfl) fun a u e im=>e
  obtain ⟨hz,z⟩:=z
  refine⟨fun i m vs H2=>m=ds.length - i∧i≤ds.length∧Same H1 H2∧vs.length≤i∧∃ys fp,Rfs K H2 ys vs fp∧Nw H1 H2 nf [] fp∧vEach (vBody dg dt de (cbaseD k idx δ)) (ds.drop i) ys fun ys=>∀v H' fp,Same H H'→Rf K H' (.lst ys) v fp→Nw H H' fps [] fp→Q v H',
    ⟨ds.length,by omega,Nat.zero_le _,Same.refl _,Nat.zero_le _,[],[],⟨rfl,rfl⟩,Nw.nil,by rw[List.drop_zero];exact z⟩,?_⟩
  rintro i m vs H2 ⟨rfl,hi2,s2,hvs,ys,fp,r2,n2,z2⟩
  by_cases hlt:i<ds.length
  · refine .inr ⟨hJ.go s2 hlt,le1000 (by omega),_,fun vs' H' q=>q,fun x H3 hy=>?_⟩
    obtain ⟨s3,fx,r3,n3⟩:=hJ.yld s2 hy (List.getElem?_eq_getElem hlt)
    rw[List.drop_eq_getElem_cons hlt] at z2
    have oi:=(cb_ok (k:=k) (idx:=idx) ((o.same s1).same (s2.trans s3)))
    refine hg.run oi r3 (fun _ h=>(nomatch h)) (hg.mono _ _ _ _ (fun δ' z' fps' σ' o' e'=>?_) z2)
    refine ht.run o' (ht.mono _ _ _ (fun b z' H4 s4=>ite_imp (fun z'=>he.run (o'.same s4) (he.mono _ _ _ (fun y z' v H5 f5 s5 r5 n5=>?_) z')) (fun z'=>?_) z') z')
    · have s25:=s3.trans (s4.trans s5)
      refine⟨ds.length - (i+1),by omega,rfl,hlt,s2.trans s25,by simp;omega,ys++[y],fp++f5,(r2.same s25).append (Rfs.one r5),⟨?_,fun a ha=>?_,fun a ha=>?_⟩,z'⟩
      · refine List.nodup_append.mpr ⟨n2.nd,n5.nd,fun a h1 b h2 e=>?_⟩
        subst e
        exact ((n2.mu a h1).same (s3.trans s4)).some (n5.fresh a h2)
      · rcases List.mem_append.mp ha with h | h
        · exact (n2.mu a h).same s25
        · exact n5.mu a h
      · rcases List.mem_append.mp ha with h | h
        · exact n2.src a h
        · exact .inl ((s2.trans (s3.trans s4)).free (n5.fresh a h))
    · have s24:=s3.trans s4
      dsimp only at z'
      rw[List.append_nil] at z'
      exact⟨ds.length - (i+1),by omega,rfl,hlt,s2.trans s24,by omega,ys,fp,r2.same s24,n2.same s24,z'⟩
  · have e:i=ds.length:=by omega
    subst e
    rw[List.drop_length] at z2
    refine .inl ⟨hJ.stop s2 (Nat.le_refl _),le1000 (by omega),fun p hp=>?_⟩
    have hs:Same H2 (upd H2 p (.lst vs)):=Same.new' hp
    refine z2 _ _ (p::fp) ((s1.trans s2).trans hs) ⟨p,vs,fp,rfl,upd_same,rfl,r2.same hs⟩ ⟨List.nodup_cons.mpr ⟨fun h=>(n2.mu p h).some hp,n2.nd⟩,fun a ha=>?_,fun a ha=>?_⟩
    · rcases List.mem_cons.mp ha with e | h
      · subst e;exact .inl ⟨vs,upd_same⟩
      · exact (n2.mu a h).same hs
    · rcases List.mem_cons.mp ha with e | h
      · subst e;exact .inl ((s1.trans s2).free hp)
      · exact .inl (s1.free (n2.fresh a h))
def vYes (_u0:Dl) (P:Bool→Prop):Prop:=P true
theorem tr_yes:TR K Γ tYes vYes:=⟨fun _ _ _ k h=>k _ h,fun {_ _ _ _ H _} o q=>q H (Same.refl H)⟩
def startD (N:List Str) (ds:List D):Dl:=ds.map some++List.replicate (N.length - ds.length) none
theorem Rfs.split {H:Hp}:∀{ds:List D}{vs:List V}{fp:List Addr},Rfs K H ds vs fp→∃fps:Nat→List Addr,(∀i d,ds[i]?=some d→∃v,vs[i]?=some v∧Rf K H d v (fps i))∧∀i,ds.length≤i→fps i=[]
  | [],vs,fp,h=>⟨fun _=>[],fun i d e=>by simp at e,fun _ _=>rfl⟩
  | d::ds,vs,fp,h=>by
    obtain ⟨x,r,f1,f2,rfl,rfl,h1,h2⟩:=h
    obtain ⟨fps,k1,k2⟩:=Rfs.split h2
    refine⟨fun i=>match i with | 0=>f1 | j+1=>fps j,fun i d' e=>?_,fun i hi=>?_⟩
    · cases i with
      | zero=>simp at e;subst e;exact⟨x,rfl,h1⟩
      | succ j=>simpa using k1 j d' (by simpa using e)
    · cases i with
      | zero=>simp at hi
      | succ j=>exact k2 j (by simpa using hi)
theorem start_ok {N:List Str}{ds:List D}{vs:List V}{H:Hp} (h:Rps K H ds vs):∃fps,Ok K H [] fps (startD N ds) (L2.start N vs) H:=by
  obtain ⟨fp,h⟩:=h
  have hl:=h.length
  obtain ⟨fps,k1,k2⟩:=h.split
  refine⟨fps,by simp [startD,L2.start,hl],Same.refl H,fun i d e=>?_,fun i e=>?_,fun _ h=>(nomatch h),fun _ h=>(nomatch h)⟩
  · unfold startD at e
    unfold L2.start
    by_cases hi:i<ds.length
    · rw[List.getElem?_append_left (by simpa using hi),List.getElem?_map,List.getElem?_eq_getElem hi] at e
      simp at e
      obtain ⟨v,h1,h2⟩:=k1 i d (by rw[List.getElem?_eq_getElem hi,e])
      exact⟨v,by rw[List.getElem?_append_left (by simpa [hl] using hi),List.getElem?_map,h1];rfl,h2⟩
    · rw[List.getElem?_append_right (by simpa using hi),List.getElem?_replicate] at e
      split at e<;>cases e
  · by_cases hi:i<ds.length
    · refine absurd ?_ (e ds[i])
      unfold startD
      rw[List.getElem?_append_left (by simpa using hi),List.getElem?_map,List.getElem?_eq_getElem hi]
      rfl
    · exact k2 i (by omega)
abbrev endsD (P:DK):DEnds:=⟨fun _=>P .non,fun x _=>P x,fun _=>False,fun _=>False⟩
theorem fn_val {N:List Str}{S:DSp} (hs:ST K true [] [] t [] Γn d) (hd:∀ds P,S ds P→d (endsD P) (startD N ds)) :
    ∀{vs H Q E},spP K S vs H Q E→t { nx:=fun _ H'=>Q .non H',rt:=Q } (L2.start N vs) H:=by
  rintro vs H Q E ⟨ds,r,h⟩
  obtain ⟨fps,o⟩:=start_ok (N:=N) r
  refine hs (E:=endsD _) ⟨fun {fps δ σ H'} o z=>?_,fun o (z:False)=>z.elim,fun o (z:False)=>z.elim,fun o r i z=>?_⟩ o (hd ds _ h)
  · exact z _ H' [] o.b0 ⟨rfl,rfl⟩ Nw.nil
  · exact z _ _ _ o.b0 r ⟨(i rfl).nd,(i rfl).mu,fun a ha=>.inl ((i rfl).nw a ha)⟩
end
end L3
set_option Elab.async false
set_option linter.all false
set_option maxRecDepth 100000
set_option maxHeartbeats 4000000
namespace L3
open PySem L2
section
variable {K:PySem.W.Frag}{ρ:Bool}{Γr Γl Γ Γ1 Γ2 Γn M:List Nat}{t u:TS}{te ta tb tx t1 t2:TE}{de da db dx d1 d2:DE}{d e:DS}
variable {B0:Hp}{fps:Nat→List Addr}{δ:Dl}{σ:St}{H H':Hp}
theorem Ok.write (o:Ok K B0 Γ fps δ σ H) {i:Nat} (hi:i∈Γ) {d':D}{v:V}{fp':List Addr} (hv:σ[i]?=some (some v)) (r:Rf K H' d' v fp') (nd:fp'.Nodup) (mu:∀a∈fp',Mu H' a)
    (src:∀a∈fp',a∈fps i∨(B0 a=none∧∀j,a∉fps j)) (keep:∀b u,b∉fps i→H b=some u→H' b=some u) :
    Ok K B0 Γ (fun j=>if j=i then fp' else fps j) (δ.set i (some d')) σ H':=by
  have hlt:i<δ.length:=by rw[← o.len];exact (List.getElem?_eq_some_iff.mp hv).1
  refine⟨by simp [o.len],fun b u e=>?_,fun j d e=>?_,fun j h=>?_,fun j hj=>?_,fun j hj k hk a ha=>?_⟩
  · refine keep b u (fun z=>?_) (o.b0 b u e)
    have:=((o.own i hi).2 b z).1
    rw[e] at this;cases this
  · by_cases h:j=i
    · subst h
      rw[List.getElem?_set] at e
      simp [hlt] at e
      subst e
      exact⟨v,hv,by rw[if_pos rfl];exact r⟩
    · rw[List.getElem?_set_ne (Ne.symm h)] at e
      obtain ⟨w,h1,h2⟩:=o.val j d e
      refine⟨w,h1,?_⟩
      rw[if_neg h]
      exact h2.mono (fun a ha u e=>keep a u (fun z=>o.dj i hi j h a z ha) e) fun a u e im=>keep a u (fun z=>((o.own i hi).2 a z).2.notup u e im) e
  · by_cases h':j=i
    · subst h'
      exact absurd (by rw[List.getElem?_set];simp [hlt]) (h d')
    · rw[if_neg h']
      exact o.non j fun d z=>h d (by rw[List.getElem?_set_ne (Ne.symm h')];exact z)
  · by_cases h:j=i
    · subst h
      rw[if_pos rfl]
      refine⟨nd,fun a ha=>⟨?_,mu a ha⟩⟩
      rcases src a ha with z | z
      · exact ((o.own j hi).2 a z).1
      · exact z.1
    · rw[if_neg h]
      refine⟨(o.own j hj).1,fun a ha=>⟨((o.own j hj).2 a ha).1,?_⟩⟩
      have hn:a∉fps i:=fun z=>o.dj i hi j h a z ha
      rcases ((o.own j hj).2 a ha).2 with ⟨x,z⟩ | ⟨x,z⟩ | ⟨x,z⟩ | ⟨C,dx,fs,z⟩
      · exact .inl ⟨x,keep a _ hn z⟩
      · exact .inr (.inl ⟨x,keep a _ hn z⟩)
      · exact .inr (.inr (.inl ⟨x,keep a _ hn z⟩))
      · exact .inr (.inr (.inr ⟨C,dx,fs,keep a _ hn z⟩))
  · by_cases h:j=i
    · subst h
      rw[if_pos rfl] at ha
      rw[if_neg hk]
      rcases src a ha with z | z
      · exact o.dj j hi k hk a z
      · exact z.2 k
    · rw[if_neg h] at ha
      by_cases hki:k=i
      · rw[if_pos hki]
        intro z
        rcases src a z with y | y
        · exact o.dj j hj i (Ne.symm h) a ha y
        · exact y.2 j ha
      · rw[if_neg hki]
        exact o.dj j hj k hk a ha
def slotL (δ:Dl) (i:Nat) (P:List D→Prop):Prop:=match δ[i]? with | some (some (.lst ds))=>P ds | _=>False
theorem slotL_out {δ:Dl}{i:Nat}{P:List D→Prop} (h:slotL δ i P):∃ds,δ[i]?=some (some (.lst ds))∧P ds:=by
  unfold slotL at h;split at h
  · exact⟨_,by assumption,h⟩
  · exact h.elim
theorem Ok.ownL (o:Ok K B0 Γ fps δ σ H) {i:Nat}{ds:List D} (e:δ[i]?=some (some (.lst ds))):∃a xs fq,σ[i]?=some (some (.ref a))∧H a=some (.lst xs)∧fps i=a::fq∧Rfs K H ds xs fq:=by
  obtain ⟨v,h1,a,xs,fq,rfl,h2,h3,h4⟩:=o.val i _ e
  exact⟨a,xs,fq,h1,h2,h3,h4⟩
theorem updKeep {a:Addr}{w:HO}{fp:List Addr} (ha:a∈fp):∀b u,b∉fp→H b=some u→upd H a w b=some u:=fun b u hb e=>by
  rw[upd_ne (fun z=>hb (by rw[z];exact ha))];exact e
def vAppend (M:List Nat) (i:Nat) (de:DE) (E:DEnds) (δ:Dl):Prop:=slotL δ i fun ds=>de δ fun x=>ds.length<1000∧E.nx ((kill M δ).set i (some (.lst (ds++[x]))))
theorem st_append (i:Nat) (he:EM K Γ M te de) (hi:i∈Γ∧i∉M:=by decide) (hM:∀j∈M,j∈Γ:=by decide):ST K ρ Γr Γl (tDrop (tBM K "list" rAppend (tVar i) (tCons te tNil))) Γ (minus Γ M) (vAppend M i de):=by
  intro B0 Dn E fps δ σ H k o h
  obtain ⟨ds,e,h⟩:=slotL_out h
  obtain ⟨a,xs,fq,h1,h2,h3,h4⟩:=o.ownL e
  refine⟨.ref a,h1,.inl ⟨rfl,xs,.inl (.inl h2)⟩,he.run o (he.mono _ _ _ (fun x z v H1 fp s r n=>?_) h)⟩
  refine⟨a,xs,v,rfl,rfl,s _ _ h2,by rw[h4.length];exact Nat.lt_of_lt_of_le z.1 (le1000 (Nat.le_refl _)),?_⟩
  have ok:=(o.kill M).same s
  have hil:i∈minus Γ M:=mem_minus.mpr hi
  have hown:=o.own i hi.1
  rw[h3] at hown
  obtain ⟨nd,hmu⟩:=hown
  obtain ⟨na,ndq⟩:=List.nodup_cons.mp nd
  have hfa:∀b∈fp,b≠a∧b∉fq:=fun b hb=>by
    have:b∉fps i:=fun z=>by
      rcases n.src b hb with y | ⟨j,hj,y⟩
      · exact o.dom z y
      · exact o.dj j (hM j hj) i (fun w=>hi.2 (by rw[w];exact hj)) b y z
    rw[h3] at this
    exact⟨fun z=>this (by rw[z];exact List.mem_cons_self),fun z=>this (List.mem_cons_of_mem _ z)⟩
  have nt:=((hmu a List.mem_cons_self).2.same s).notup
  refine k.nx (ok.write hil (d':=.lst (ds++[x])) (fp':=a::(fq++fp)) h1 ⟨a,xs++[v],fq++fp,rfl,upd_same,rfl,?_⟩ ?_ (fun b hb=>?_) (fun b hb=>?_) ?_) z.2
  · exact ((h4.same s).upd na nt).append ((Rfs.one r).upd (fun w=>(hfa a w).1 rfl) nt)
  · refine List.nodup_cons.mpr ⟨fun w=>?_,List.nodup_append.mpr ⟨ndq,n.nd,fun b h1 c h2 z=>?_⟩⟩
    · rcases List.mem_append.mp w with w | w
      · exact na w
      · exact (hfa a w).1 rfl
    · subst z;exact (hfa b h2).2 h1
  · refine Mu.upd ?_ (.inl ⟨_,rfl⟩)
    rcases List.mem_cons.mp hb with w | w
    · subst w;exact .inl ⟨xs,s _ _ h2⟩
    · rcases List.mem_append.mp w with w | w
      · exact (hmu b (List.mem_cons_of_mem _ w)).2.same s
      · exact n.mu b w
  · show b∈(if i∈M then [] else fps i)∨_
    rw[if_neg hi.2,h3]
    rcases List.mem_cons.mp hb with w | w
    · subst w;exact .inl List.mem_cons_self
    · rcases List.mem_append.mp w with w | w
      · exact .inl (List.mem_cons_of_mem _ w)
      · refine .inr ⟨?_,fun j=>?_⟩
        · rcases n.src b w with y | ⟨j,hj,y⟩
          · exact o.b0.free y
          · exact ((o.own j (hM j hj)).2 b y).1
        · show b∉(if j∈M then [] else fps j)
          split
          · exact List.not_mem_nil
          · rename_i hj
            intro z
            rcases n.src b w with y | ⟨j',hj',y⟩
            · exact o.dom z y
            · exact o.dj j' (hM j' hj') j (fun q=>hj (by rw[q];exact hj')) b y z
  · show ∀b u,b∉(if i∈M then [] else fps i)→_
    rw[if_neg hi.2,h3]
    exact updKeep List.mem_cons_self
theorem Rfs.set {H:Hp}{x:D}{v:V}{fp:List Addr} (r:Rf K H x v fp) (nd:fp.Nodup):∀{ds:List D}{xs:List V}{fq:List Addr}{j:Nat},Rfs K H ds xs fq→fq.Nodup→(∀a∈fp,a∉fq)→j<ds.length →
    ∃fq',Rfs K H (ds.set j x) (xs.set j v) fq'∧fq'.Nodup∧∀a∈fq',a∈fq∨a∈fp
  | [],xs,fq,j,h,_,_,hj=>by simp at hj
  | d::ds,xs,fq,j,h,hn,hd,hj=>by
    obtain ⟨y,ys,f1,f2,rfl,rfl,h1,h2⟩:=h
    obtain ⟨n1,n2,n3⟩:=List.nodup_append.mp hn
    cases j with
    | zero =>
      refine⟨fp++f2,⟨v,ys,fp,f2,rfl,rfl,r,h2⟩,List.nodup_append.mpr ⟨nd,n2,fun a ha b hb z=>?_⟩,fun a ha=>?_⟩
      · subst z;exact hd a ha (List.mem_append_right _ hb)
      · exact (List.mem_append.mp ha).elim .inr fun z=>.inl (List.mem_append_right _ z)
    | succ j =>
      obtain ⟨fq',r',nd',k'⟩:=Rfs.set r nd (j:=j) h2 n2 (fun a ha z=>hd a ha (List.mem_append_right _ z)) (by simpa using hj)
      refine⟨f1++fq',⟨y,ys.set j v,f1,fq',rfl,rfl,h1,r'⟩,List.nodup_append.mpr ⟨n1,nd',fun a ha b hb z=>?_⟩,fun a ha=>?_⟩
      · subst z
        rcases k' a hb with w | w
        · exact n3 a ha a w rfl
        · exact hd a w (List.mem_append_left _ ha)
      · rcases List.mem_append.mp ha with w | w
        · exact .inl (List.mem_append_left _ w)
        · exact (k' a w).imp (List.mem_append_right _) id
theorem ixN_lt {n:Nat}{i:Int}{j:Nat} (h:ixN n i=some j):j<n:=by
  unfold ixN at h
  split at h
  · split at h
    · cases h;omega
    · cases h
  · split at h
    · cases h;omega
    · cases h
theorem asI1_out {x:D}{P:Int→Prop} (h:asI [x] P):∃j,x=.int j∧P j:=by
  obtain ⟨j,e,h⟩:=asI_out h;cases e;exact⟨j,rfl,h⟩
theorem Rfs.inner {H:Hp}:∀{ds:List D}{xs:List V}{fq:List Addr}{j:Nat}{es:List D},Rfs K H ds xs fq→fq.Nodup→ds[j]?=some (.lst es) →
    ∃b ys fe,xs[j]?=some (.ref b)∧H b=some (.lst ys)∧Rfs K H es ys fe∧b∈fq∧(∀a∈fe,a∈fq)∧b∉fe∧fe.Nodup ∧
      ∀{H':Hp}{es':List D}{ys':List V}{fe':List Addr},(∀c u,c≠b→H c=some u→H' c=some u)→H' b=some (.lst ys')→(∀u,H b=some u→¬ Im u)→Rfs K H' es' ys' fe'→fe'.Nodup→b∉fe'→(∀a∈fe',a∈fe∨a∉fq) →
        ∃fq',Rfs K H' (ds.set j (.lst es')) xs fq'∧fq'.Nodup∧∀a∈fq',a∈fq∨a∈fe'
  | [],xs,fq,j,es,h,_,e=>by simp at e
  | d::ds,xs,fq,j,es,h,hn,e=>by
    obtain ⟨y,ys,f1,f2,rfl,rfl,h1,h2⟩:=h
    obtain ⟨n1,n2,n3⟩:=List.nodup_append.mp hn
    cases j with
    | zero =>
      simp at e;subst e
      obtain ⟨b,zs,fe,rfl,hb,rfl,h3⟩:=h1
      obtain ⟨m1,m2⟩:=List.nodup_cons.mp n1
      refine⟨b,zs,fe,rfl,hb,h3,List.mem_append_left _ List.mem_cons_self,fun a ha=>List.mem_append_left _ (List.mem_cons_of_mem _ ha),m1,m2,fun {H' es' ys' fe'} k1 k2 k3 k4 k5 k6 k7=>?_⟩
      refine⟨(b::fe')++f2,⟨_,ys,b::fe',f2,rfl,rfl,⟨b,ys',fe',rfl,k2,rfl,k4⟩,?_⟩,List.nodup_append.mpr ⟨List.nodup_cons.mpr ⟨k6,k5⟩,n2,fun a ha c hc z=>?_⟩,fun a ha=>?_⟩
      · exact h2.mono (fun c hc u e=>k1 c u (fun z=>n3 b List.mem_cons_self c hc z.symm) e) fun c u e im=>k1 c u (fun z=>k3 u (by rw[← z];exact e) im) e
      · subst z
        rcases List.mem_cons.mp ha with w | w
        · exact n3 a (by rw[w];exact List.mem_cons_self) a hc rfl
        · rcases k7 a w with w | w
          · exact n3 a (List.mem_cons_of_mem _ w) a hc rfl
          · exact w (List.mem_append_right _ hc)
      · rcases List.mem_append.mp ha with w | w
        · rcases List.mem_cons.mp w with w | w
          · exact .inl (List.mem_append_left _ (by rw[w];exact List.mem_cons_self))
          · exact .inr w
        · exact .inl (List.mem_append_right _ w)
    | succ j =>
      obtain ⟨b,zs,fe,e1,hb,h3,hbq,hfe,hbe,hnd,K'⟩:=Rfs.inner (j:=j) h2 n2 (by simpa using e)
      refine⟨b,zs,fe,by simpa using e1,hb,h3,List.mem_append_right _ hbq,fun a ha=>List.mem_append_right _ (hfe a ha),hbe,hnd,fun {H' es' ys' fe'} k1 k2 k3 k4 k5 k6 k7=>?_⟩
      obtain ⟨fq',r',nd',s'⟩:=K' k1 k2 k3 k4 k5 k6 fun a ha=>(k7 a ha).imp id fun w z=>w (List.mem_append_right _ z)
      have hy:Rf K H' d y f1:=h1.mono (fun c hc u e=>k1 c u (fun z=>n3 c hc b hbq z) e) fun c u e im=>k1 c u (fun z=>k3 u (by rw[← z];exact e) im) e
      refine⟨f1++fq',⟨y,ys,f1,fq',rfl,rfl,hy,r'⟩,List.nodup_append.mpr ⟨n1,nd',fun a ha c hc z=>?_⟩,fun a ha=>?_⟩
      · subst z
        rcases s' a hc with w | w
        · exact n3 a ha a w rfl
        · rcases k7 a w with w | w
          · exact n3 a ha a (hfe a w) rfl
          · exact w (List.mem_append_left _ ha)
      · rcases List.mem_append.mp ha with w | w
        · exact .inl (List.mem_append_left _ w)
        · exact (s' a w).imp (List.mem_append_right _) id
theorem inner_ok (o:Ok K B0 Γ fps δ σ H) {i j:Nat} (hi:i∈Γ) {ds es es':List D} (e:δ[i]?=some (some (.lst ds))) (ej:ds[j]?=some (.lst es)) :
    ∃a xs b ys fe,σ[i]?=some (some (.ref a))∧H a=some (.lst xs)∧xs.length=ds.length∧xs[j]?=some (.ref b)∧H b=some (.lst ys)∧Rfs K H es ys fe∧fe.Nodup∧b∉fe∧(∀a∈fe,a∈fps i)∧b∈fps i ∧
      ∀{ys':List V}{fe':List Addr},Rfs K H es' ys' fe'→fe'.Nodup→b∉fe'→(∀c∈fe',Mu H c)→(∀c∈fe',c∈fe∨(B0 c=none∧∀j,c∉fps j))→∃fps',Ok K B0 Γ fps' (δ.set i (some (.lst (ds.set j (.lst es'))))) σ (upd H b (.lst ys')):=by
  obtain ⟨a,xs,fq,h1,h2,h3,h4⟩:=o.ownL e
  have hown:=o.own i hi
  rw[h3] at hown
  obtain ⟨nd0,hmu⟩:=hown
  obtain ⟨na,ndq⟩:=List.nodup_cons.mp nd0
  obtain ⟨b,ys,fe,e1,hb,h5,hbq,hfe,hbe,hnd,K'⟩:=h4.inner ndq ej
  refine⟨a,xs,b,ys,fe,h1,h2,h4.length,e1,hb,h5,hnd,hbe,fun c hc=>by rw[h3];exact List.mem_cons_of_mem _ (hfe c hc),by rw[h3];exact List.mem_cons_of_mem _ hbq,fun {ys' fe'} r nd nb mu src=>?_⟩
  have nt:=(hmu b (List.mem_cons_of_mem _ hbq)).2.notup
  have hab:a≠b:=fun z=>na (by rw[z];exact hbq)
  obtain ⟨fq',r',nd',k'⟩:=K' (H':=upd H b (.lst ys')) (fun c u hc e=>by rw[upd_ne hc];exact e) upd_same nt (r.upd nb nt) nd nb fun c hc=>(src c hc).imp id fun w z=>w.2 i (by rw[h3];exact List.mem_cons_of_mem _ z)
  have naq:a∉fq':=fun z=>by
    rcases k' a z with w | w
    · exact na w
    · rcases src a w with w | w
      · exact na (hfe a w)
      · exact w.2 i (by rw[h3];exact List.mem_cons_self)
  refine⟨_,o.write hi (fp':=a::fq') h1 ⟨a,xs,fq',rfl,by rw[upd_ne hab];exact h2,rfl,r'⟩ (List.nodup_cons.mpr ⟨naq,nd'⟩) (fun c hc=>Mu.upd ?_ (.inl ⟨_,rfl⟩)) (fun c hc=>?_) ?_⟩
  · rcases List.mem_cons.mp hc with w | w
    · subst w;exact .inl ⟨xs,h2⟩
    · rcases k' c w with w | w
      · exact (hmu c (List.mem_cons_of_mem _ w)).2
      · exact mu c w
  · rw[h3]
    rcases List.mem_cons.mp hc with w | w
    · subst w;exact .inl List.mem_cons_self
    · rcases k' c w with w | w
      · exact .inl (List.mem_cons_of_mem _ w)
      · rcases src c w with w | w
        · exact .inl (List.mem_cons_of_mem _ (hfe c w))
        · exact .inr w
  · rw[h3];exact updKeep (List.mem_cons_of_mem _ hbq)
def asLst (o:Option D) (P:List D→Prop):Prop:=match o with | some (.lst es)=>P es | _=>False
theorem asLst_out {o:Option D}{P:List D→Prop} (h:asLst o P):∃es,o=some (.lst es)∧P es:=by
  unfold asLst at h;split at h
  · exact⟨_,rfl,h⟩
  · exact h.elim
def vSetItem2 (i:Nat) (de d1 d2:DE) (E:DEnds) (δ:Dl):Prop:=de δ fun x=>slotL δ i fun ds=>d1 δ fun k=>asI [k] fun m=>asLst (atI ds m) fun es=>d2 δ fun k2=>asI [k2] fun m2=>match ixN ds.length m,ixN es.length m2 with | some j,some j2=>E.nx (δ.set i (some (.lst (ds.set j (.lst (es.set j2 x)))))) | _,_=>False
theorem st_setItem2 (i:Nat) (he:EM K Γ [] te de) (h1:ER K Γ t1 d1) (h2:ER K Γ t2 d2) (hi:i∈Γ:=by decide):ST K ρ Γr Γl (tAsg te (gSub (tOp (rIxL K) (tVar i) t1) t2 rSetL)) Γ Γ (vSetItem2 i de d1 d2):=by
  intro B0 Dn E fps δ σ H k o h
  refine he.run o (he.mono _ _ _ (fun x z v H1 fp s r n=>?_) h)
  obtain ⟨ds,e,z⟩:=slotL_out z
  obtain ⟨a0,xs0,fq0,g1,_⟩:=(o.same s).ownL e
  refine⟨.ref a0,g1,h1.run (o.same s) (h1.mono _ _ _ (fun y z w H2 s2 r2=>?_) z)⟩
  obtain ⟨m,em,z8⟩:=asI1_out z
  subst em
  obtain ⟨es,ej,z8⟩:=asLst_out z8
  cases ejj:ixN ds.length m with
  | none=>unfold atI at ej;rw[ejj] at ej;cases ej
  | some j =>
    have o2:=(o.same s).same s2
    have ej':ds[j]?=some (.lst es):=by unfold atI at ej;rw[ejj] at ej;exact ej
    obtain ⟨a,xs,b,ys,fe,e1,e2,e3,e4,e5,e6,e7,e8,e9,_,KK⟩:=inner_ok (es':=[]) o2 hi e ej'
    rw[g1] at e1;cases e1
    refine⟨a0,xs,m,.ref b,rfl,r2.int,.inl (.inl e2),by unfold atI;rw[e3,ejj];exact e4,h2.run o2 (h2.mono _ _ _ (fun y2 z w2 H3 s3 r3=>?_) z8)⟩
    obtain ⟨m2,em2,z9⟩:=asI1_out z
    subst em2
    rw[ejj] at z9
    cases ej2:ixN es.length m2 with
    | none=>rw[ej2] at z9;exact z9.elim
    | some j2 =>
      rw[ej2] at z9
      have o3:=o2.same s3
      obtain ⟨a',xs',b',ys',fe',f1,f2,f3,f4,f5,f6,f7,f8,f9,f10,KK⟩:=inner_ok (es':=es.set j2 x) o3 hi e ej'
      rw[g1] at f1;cases f1
      rw[s3 _ _ e2] at f2;cases f2
      rw[e4] at f4;cases f4
      have r4:=r.same (s2.trans s3)
      have src:∀c∈fp,B0 c=none∧∀j,c∉fps j:=fun a ha=>⟨o.b0.free (n.fresh a ha),fun j z=>o.dom z (n.fresh a ha)⟩
      obtain ⟨fq',r',nd',k'⟩:=Rfs.set r4 n.nd f6 f7 (fun c hc z=>(src c hc).2 i (f9 c z)) (ixN_lt ej2)
      have mu':∀c∈fq',Mu H3 c:=fun c hc=>by
        rcases k' c hc with w | w
        · exact ((o3.own i hi).2 c (f9 c w)).2
        · exact (n.mu c w).same (s2.trans s3)
      obtain ⟨fps',o'⟩:=KK r' nd' (fun z=>(k' b z).elim f8 fun w=>(src b w).2 i f10) mu' (fun c hc=>(k' c hc).imp id fun w=>src c w)
      exact⟨b,ys',m2,j2,rfl,r3.int,f5,by rw[f6.length];exact ej2,k.nx o' z9⟩
def vClear (i:Nat) (E:DEnds) (δ:Dl):Prop:=slotL δ i fun _=>E.nx (δ.set i (some (.lst [])))
theorem st_clear (i:Nat) (hi:i∈Γ:=by decide):ST K ρ Γr Γl (tDrop (tBM0 K "list" rClear (tVar i))) Γ Γ (vClear i):=by
  intro B0 Dn E fps δ σ H k o h
  obtain ⟨ds,e,h⟩:=slotL_out h
  obtain ⟨a,xs,fq,h1,h2,h3,h4⟩:=o.ownL e
  refine⟨.ref a,h1,.inl ⟨rfl,xs,.inl (.inl h2)⟩,a,xs,rfl,rfl,h2,k.nx (o.write hi (d':=.lst []) (fp':=[a]) h1 ⟨a,[],[],rfl,upd_same,rfl,rfl,rfl⟩ (by simp) (fun b hb=>?_) (fun b hb=>?_) ?_) h⟩
  · cases List.mem_singleton.mp hb;exact .inl ⟨[],upd_same⟩
  · cases List.mem_singleton.mp hb;rw[h3];exact .inl List.mem_cons_self
  · rw[h3];exact updKeep List.mem_cons_self
def cutD (ds:List D) (lo hi:Option Int):List D:=(ds.drop (HT.sIx ds.length 0 lo)).take (HT.sIx ds.length ds.length hi - HT.sIx ds.length 0 lo)
abbrev DO:=Dl→(Option Int→Prop)→Prop
structure OR (K:PySem.W.Frag) (Γ:List Nat) (t:TO) (d:DO):Prop where
  mono:∀δ (P P':Option Int→Prop),(∀x,P x→P' x)→d δ P→d δ P'
  run:∀{B0 fps δ σ H Q},Ok K B0 Γ fps δ σ H→d δ (fun x=>∀H',Same H H'→Q x H')→t σ H Q
def vNoPart (_u0:Dl) (P:Option Int→Prop):Prop:=P none
def vPart (d:DE) (δ:Dl) (P:Option Int→Prop):Prop:=d δ fun x=>asI [x] fun i=>P (some i)
theorem or_none:OR K Γ tNoPart vNoPart:=⟨fun _ _ _ k h=>k _ h,fun {_ _ _ _ H _} o q=>q H (Same.refl H)⟩
theorem or_some (h:ER K Γ te de):OR K Γ (tPart te) (vPart de):=⟨fun δ P P' k q=>h.mono _ _ _ (fun x z=>by obtain ⟨j,rfl,z⟩:=asI1_out z;exact k _ z) q,
  fun o q=>h.run o (h.mono _ _ _ (fun x z v H' s r=>by obtain ⟨j,rfl,z⟩:=asI1_out z;exact⟨j,r.int,z H' s⟩) q)⟩
def vSl (de:DE) (dl dh:DO) (δ:Dl) (P:DK):Prop:=de δ fun x=>dl δ fun l=>dh δ fun u=>asL x fun ds=>ds.all D.scal=true∧P (.lst (cutD ds l u))
theorem cut_map {ds:List D}{lo hi:Option Int}:cutV (ds.map D.toV) lo hi=(cutD ds lo hi).map D.toV:=by
  unfold cutV cutD
  rw[List.length_map,List.map_take,List.map_drop]
theorem cut_scal {ds:List D}{lo hi:Option Int} (h:ds.all D.scal=true):(cutD ds lo hi).all D.scal=true:=by
  unfold cutD
  rw[List.all_eq_true] at h ⊢
  exact fun x hx=>h x (List.mem_of_mem_drop (List.mem_of_mem_take hx))
theorem em_sl {tl th:TO}{dl dh:DO} (he:ER K Γ te de) (hl:OR K Γ tl dl) (hh:OR K Γ th dh):EM K Γ [] (tSl (rSlL K) te tl th) (vSl de dl dh) :=
  ⟨fun δ P P' k h=>he.mono _ _ _ (fun x z=>hl.mono _ _ _ (fun l z=>hh.mono _ _ _ (fun u z=>by obtain ⟨ds,e,z⟩:=asL_out z;exact asL_in e ⟨z.1,k _ z.2⟩) z) z) h,
   fun {B0 fps δ σ H Q} o h=>he.run o (he.mono _ _ _ (fun x z v H1 s1 r1=>hl.run (o.same s1) (hl.mono _ _ _ (fun l z H2 s2=>hh.run ((o.same s1).same s2) (hh.mono _ _ _ (fun u z H3 s3=>by
    obtain ⟨ds,e,z⟩:=asL_out z
    obtain ⟨a,xs,fq,rfl,hs,hr⟩:=(r1.same (s2.trans s3)).seq e
    obtain ⟨rfl,rfl⟩:=hr.scals z.1
    refine⟨a,_,rfl,hs,fun p hp=>?_⟩
    rw[cut_map]
    have s4:Same H3 (upd H3 p (.lst ((cutD ds l u).map D.toV))):=Same.new' hp
    refine z.2 _ _ [p] (((s1.trans s2).trans s3).trans s4) ⟨p,_,[],rfl,upd_same,rfl,Rfs.ofScals (cut_scal z.1)⟩ ⟨by simp,fun b hb=>?_,fun b hb=>?_⟩
    · cases List.mem_singleton.mp hb;exact .inl ⟨_,upd_same⟩
    · cases List.mem_singleton.mp hb;exact .inl (((s1.trans s2).trans s3).free hp)) z)) z)) h)⟩
def vCat (x:D) (y:D) (P:DK):Prop:=match x,y with | .lst a,.lst b=>(a.all D.scal=true∧b.all D.scal=true∧a.length+b.length≤1000)∧P (.lst (a++b)) | _,_=>False
theorem new1 {H:Hp}{p:Addr}{ds:List D} (h:ds.all D.scal=true) (hp:H p=none):Same H (upd H p (.lst (ds.map D.toV)))∧Rf K (upd H p (.lst (ds.map D.toV))) (.lst ds) (.ref p) [p]∧Nw H (upd H p (.lst (ds.map D.toV))) nf [] [p] :=
  ⟨Same.new' hp,⟨p,_,[],rfl,upd_same,rfl,Rfs.ofScals h⟩,⟨by simp,fun b hb=>by cases List.mem_singleton.mp hb;exact .inl ⟨_,upd_same⟩,fun b hb=>by cases List.mem_singleton.mp hb;exact .inl hp⟩⟩
theorem o_cat:OpV K rCat vCat:=⟨fun x y P P' k h=>by unfold vCat at h ⊢;revert h;split<;>first | exact fun h=>⟨h.1,k _ h.2⟩ | exact id,fun {H x y v w Q} r1 r2 h=>by
  unfold vCat at h
  split at h
  · rename_i a b
    obtain ⟨⟨s1,s2,hl⟩,h⟩:=h
    obtain ⟨f1,l1,xs,q1,rfl,e1,_,hr1⟩:=r1
    obtain ⟨f2,l2,ys,q2,rfl,e2,_,hr2⟩:=r2
    obtain ⟨rfl,_⟩:=hr1.scals s1
    obtain ⟨rfl,_⟩:=hr2.scals s2
    refine⟨l1,l2,_,_,rfl,rfl,e1,e2,by rw[List.length_map,List.length_map];exact le1000 hl,fun p hp=>?_⟩
    rw[← List.map_append]
    obtain ⟨n1,n2,n3⟩:=new1 (K:=K) (ds:=a++b) (by rw[List.all_append,s1,s2];rfl) hp
    exact h _ _ _ n1 n2 n3
  · exact h.elim⟩
def repD (xs:List D) (k:Nat):List D:=(List.replicate k xs).flatten
def vRep (x:D) (y:D) (P:DK):Prop:=match x,y with | .lst a,.int k=>(a.all D.scal=true∧(-(2 ^ 63)≤k∧k<2 ^ 63)∧a.length*k.toNat≤1000)∧P (.lst (repD a k.toNat)) | _,_=>False
theorem o_rep:OpV K rRep vRep:=⟨fun x y P P' k h=>by unfold vRep at h ⊢;revert h;split<;>first | exact fun h=>⟨h.1,k _ h.2⟩ | exact id,fun {H x y v w Q} r1 r2 h=>by
  unfold vRep at h
  split at h
  · rename_i a n
    obtain ⟨⟨s1,⟨b1,b2⟩,hl⟩,h⟩:=h
    obtain ⟨f1,l1,xs,q1,rfl,e1,_,hr1⟩:=r1
    obtain ⟨rfl,_⟩:=hr1.scals s1
    refine⟨l1,n,_,rfl,r2.int,e1,b1,b2,by rw[List.length_map];exact le1000 hl,fun p hp=>?_⟩
    have:(List.replicate n.toNat (a.map D.toV)).flatten=(repD a n.toNat).map D.toV:=by unfold repD;rw[List.map_flatten,List.map_replicate]
    rw[this]
    obtain ⟨n1,n2,n3⟩:=new1 (K:=K) (ds:=repD a n.toNat) (by
      rw[List.all_eq_true] at s1 ⊢
      intro x hx
      unfold repD at hx
      obtain ⟨l,h1,h2⟩:=List.mem_flatten.mp hx
      rw[(List.mem_replicate.mp h1).2] at h2
      exact s1 x h2) hp
    exact h _ _ _ n1 n2 n3
  · exact h.elim⟩
def inD (x:D) (ds:List D):Bool:=inV x.toV (ds.map D.toV)
def vIn (neg:Bool) (x:D) (y:D) (P:DK):Prop:=x.scal=true∧asL y fun ds=>ds.all D.scal=true∧P (.bl (if neg then !inD x ds else inD x ds))
theorem flat_scal {d:D} (h:d.scal=true):flatV d.toV=true:=by cases d<;>first | rfl | cases h
theorem o_in {neg:Bool}:OpV K (rIn K neg) (vIn neg):=⟨fun x y P P' k h=>⟨h.1,by obtain ⟨ds,e,z⟩:=asL_out h.2;exact asL_in e ⟨z.1,k _ z.2⟩⟩,fun {H x y v w Q} r1 r2 h=>by
  obtain ⟨hx,h⟩:=h
  obtain ⟨ds,e,hs,h⟩:=asL_out h
  obtain ⟨f1,r1⟩:=r1
  obtain ⟨rfl,_⟩:=r1.scal hx
  obtain ⟨a,xs,fq,rfl,hsq,hr⟩:=r2.seq e
  obtain ⟨rfl,_⟩:=hr.scals hs
  refine⟨a,_,rfl,.inl hsq,flat_scal hx,?_,h _ H [] (Same.refl H) ⟨rfl,rfl⟩ Nw.nil⟩
  rw[List.all_map,List.all_eq_true]
  rw[List.all_eq_true] at hs
  exact fun y hy=>flat_scal (hs y hy)⟩
def vLen (xs:List D) (P:DK):Prop:=match xs with | [x]=>(match x with | .tup ds=>P (.int ds.length) | x=>asL x fun ds=>P (.int ds.length)) | _=>False
theorem Rps.one {H:Hp}{x:D}{vs:List V} (h:Rps K H [x] vs):∃v,vs=[v]∧Rp K H x v:=by
  obtain ⟨fp,y,r,f1,f2,rfl,_,h1,⟨rfl,_⟩⟩:=h
  exact⟨y,rfl,f1,h1⟩
theorem c_len:CallV K (fun xs H Q=>∃p ys,xs=[.ref p]∧(SqL K H p ys∨SqT K H p ys)∧Q (.int ys.length) H) vLen:=⟨fun xs P P' k h=>by
    unfold vLen at h ⊢
    revert h
    split
    · split
      · exact fun h=>k _ h
      · exact fun h=>by obtain ⟨ds,e,z⟩:=asL_out h;exact asL_in e (k _ z)
    · exact id,
  fun {H xs vs Q} r h=>by
    unfold vLen at h
    split at h
    · obtain ⟨v,rfl,r0⟩:=r.one
      split at h
      · obtain ⟨a,ys,fq,rfl,hs,hr⟩:=r0.tup
        refine⟨a,ys,rfl,.inr hs,?_⟩
        rw[hr.length]
        exact h _ H [] (Same.refl H) ⟨rfl,rfl⟩ Nw.nil
      · obtain ⟨ds,e,h⟩:=asL_out h
        obtain ⟨a,ys,fq,rfl,hs,hr⟩:=r0.seq e
        refine⟨a,ys,rfl,.inl hs,?_⟩
        rw[hr.length]
        exact h _ H [] (Same.refl H) ⟨rfl,rfl⟩ Nw.nil
    · exact h.elim⟩
theorem vLen_lst {ds:List D}{P:DK}:vLen [.lst ds] P↔P (.int ds.length):=Iff.rfl
theorem vLen_scr {ds:List Int}{P:DK}:vLen [.scr ds] P↔P (.int ds.length):=by
  show P (.int ((ds.map D.int).length:Nat))↔_
  rw[List.length_map]
def toInts:List D→Option (List Int)
  | []=>some []
  | .int i::ds=>(toInts ds).map (i::·)
  | _=>none
theorem toInts_map:∀{ns:List Int},toInts (ns.map D.int)=some ns
  | []=>rfl
  | n::ns=>by rw[List.map_cons,toInts,toInts_map];rfl
theorem toInts_eq:∀{ds:List D}{ns:List Int},toInts ds=some ns→ds=ns.map D.int
  | [],ns,h=>by cases h;rfl
  | .int i::ds,ns,h=>by
    rw[toInts] at h
    cases e:toInts ds with
    | none=>rw[e] at h;cases h
    | some ms=>rw[e] at h;cases h;rw[toInts_eq e];rfl
  | .non::_,_,h=>by cases h
  | .bl _::_,_,h=>by cases h
  | .str _::_,_,h=>by cases h
  | .lst _::_,_,h=>by cases h
  | .tup _::_,_,h=>by cases h
  | .dic _::_,_,h=>by cases h
  | .dit _::_,_,h=>by cases h
  | .scr _::_,_,h=>by cases h
theorem Rfs.intsV {H:Hp}{ns:List Int}{vs:List V}{fp:List Addr} (h:Rfs K H (ns.map D.int) vs fp):vs=ns.map V.int:=by
  have hs:(ns.map D.int).all D.scal=true:=by rw[List.all_map,List.all_eq_true];exact fun _ _=>rfl
  rw[(h.scals hs).1,List.map_map]
  rfl
def asNs (x:D) (P:List Int→Prop):Prop:=asL x fun ds=>match toInts ds with | some ns=>P ns | none=>False
theorem asNs_out {x:D}{P:List Int→Prop} (h:asNs x P):∃ns,x.items=some (ns.map D.int)∧P ns:=by
  obtain ⟨ds,e,h⟩:=asL_out h
  cases q:toInts ds with
  | none=>rw[q] at h;exact h.elim
  | some ns=>rw[q] at h;rw[toInts_eq q] at e;exact⟨ns,e,h⟩
theorem asNs_in {x:D}{ns:List Int}{P:List Int→Prop} (e:x.items=some (ns.map D.int)) (h:P ns):asNs x P:=by
  refine asL_in e ?_
  rw[toInts_map];exact h
def vSum (xs:List D) (P:DK):Prop:=match xs with | [x]=>asNs x fun ns=>P (.int ns.sum) | _=>False
theorem c_sum:CallV K (fun xs H Q=>∃(a:Addr) (ns:List Int),xs=[.ref a]∧SqL K H a (ns.map V.int)∧Q (.int ns.sum) H) vSum:=⟨fun xs P P' k h=>by
    unfold vSum at h ⊢
    revert h
    split
    · exact fun h=>by obtain ⟨ns,e,z⟩:=asNs_out h;exact asNs_in e (k _ z)
    · exact id,
  fun {H xs vs Q} r h=>by
    unfold vSum at h
    split at h
    · obtain ⟨v,rfl,r0⟩:=r.one
      obtain ⟨ns,e,h⟩:=asNs_out h
      obtain ⟨a,ys,fq,rfl,hs,hr⟩:=r0.seq e
      rw[hr.intsV] at hs
      exact⟨a,ns,rfl,hs,h _ H [] (Same.refl H) ⟨rfl,rfl⟩ Nw.nil⟩
    · exact h.elim⟩
def vList (xs:List D) (P:DK):Prop:=match xs with | [x]=>asL x fun ds=>ds.all D.scal=true∧P (.lst ds) | _=>False
theorem c_list:CallV K (fun xs H Q=>∃p ys,xs=[.ref p]∧(SqL K H p ys∨SqT K H p ys)∧∀l,H l=none→Q (.ref l) (upd H l (.lst ys))) vList:=⟨fun xs P P' k h=>by
    unfold vList at h ⊢
    revert h
    split
    · exact fun h=>by obtain ⟨ds,e,z⟩:=asL_out h;exact asL_in e ⟨z.1,k _ z.2⟩
    · exact id,
  fun {H xs vs Q} r h=>by
    unfold vList at h
    split at h
    · obtain ⟨v,rfl,r0⟩:=r.one
      obtain ⟨ds,e,hsc,h⟩:=asL_out h
      obtain ⟨a,ys,fq,rfl,hs,hr⟩:=r0.seq e
      obtain ⟨rfl,_⟩:=hr.scals hsc
      refine⟨a,_,rfl,.inl hs,fun l hl=>?_⟩
      obtain ⟨n1,n2,n3⟩:=new1 (K:=K) hsc hl
      exact h _ _ _ n1 n2 n3
    · exact h.elim⟩
end
end L3
set_option Elab.async false
set_option linter.all false
set_option maxRecDepth 100000
set_option maxHeartbeats 4000000
namespace L3
open PySem L2
open PyProof.Rows (Ordered)
section
variable {K:PySem.W.Frag}{Γ M:List Nat}{te ta tb:TE}{de da db:DE}
theorem em_comp0 {wi:TI}{di:DI}{g:TG}{dg:D→Dl→(Dl→Prop)→Prop}{k:Nat}{idx:List Nat} (hi:IT K [] wi di) (hg:GT K [] g dg) (he:EM K [] [] te de):EM K Γ [] (tComp0 wi g te k idx) (vComp di dg vYes de k idx):=by
  rw[tComp0_eq];exact em_comp hi hg tr_yes he
def D.tyn:D→Option String
  | .non=>some "NoneType" | .bl _=>some "bool" | .int _=>some "int" | .str _=>some "str" | .lst _=>some "list" | .tup _=>some "tuple" | .dic _=>some "dict" | .dit _=>some "dict" | .scr _=>none | .pin _ _=>none | .mem _=>none | .raw _=>none | .ins _ _ _=>none
theorem Rp.ty {H:Hp}{d:D}{v:V}{n:String} (h:Rp K H d v) (e:d.tyn=some n):TyOf K H v (.type n):=by
  obtain ⟨fp,h⟩:=h
  cases d with
  | non=>cases e;obtain ⟨rfl,_⟩:=h;exact .non
  | bl b=>cases e;obtain ⟨rfl,_⟩:=h;exact .bl _
  | int b=>cases e;obtain ⟨rfl,_⟩:=h;exact .int _
  | str b=>cases e;obtain ⟨rfl,_⟩:=h;exact .str _
  | lst ds=>cases e;obtain ⟨a,xs,fq,rfl,h2,_⟩:=h;exact .lst h2
  | tup ds=>cases e;obtain ⟨a,xs,rfl,h2,_⟩:=h;exact .tup h2
  | dic ds=>cases e;obtain ⟨a,rfl,h2,_⟩:=h;exact .dK h2
  | dit ds=>cases e;obtain ⟨a,rfl,h2,_⟩:=h;exact .dT h2
  | scr ns=>cases e
  | pin a d=>cases e
  | mem φ=>cases e
  | raw w=>cases e
  | ins C ns ds=>cases e
def isB (m n:String):Bool:=m == n || (m == "bool" && n == "int")
def KitOk (n:String):Prop:=∀(K:PySem.W.Frag) (d:D) (m:String),d.tyn=some m→PySem.W.kitOne K (.type m) (.type n)=some (isB m n)
theorem kit_int:KitOk "int":=fun K d m e=>by cases d<;>cases e<;>first | exact kit_same | with_unfolding_all rfl
theorem kit_bool:KitOk "bool":=fun K d m e=>by cases d<;>cases e<;>first | exact kit_same | with_unfolding_all rfl
theorem kit_list:KitOk "list":=fun K d m e=>by cases d<;>cases e<;>first | exact kit_same | with_unfolding_all rfl
theorem kit_tuple:KitOk "tuple":=fun K d m e=>by cases d<;>cases e<;>first | exact kit_same | with_unfolding_all rfl
def vIs (n:String) (da:DE) (δ:Dl) (P:DK):Prop:=da δ fun x=>match x.tyn with | some m=>P (.bl (isB m n)) | none=>False
theorem em_isinst {n:String} (hk:KitOk n) (ha:ER K Γ ta da):EM K Γ [] (tCB (fun xs H Q=>∃x n t b,xs=[x,.ty n]∧TyOf K H x t∧PySem.W.kitOne K t (.type n)=some b∧Q (.bl b) H) (tCons ta (tCons (tC (.ty n)) tNil))) (vIs n da) :=
  ⟨fun δ P P' k h=>ha.mono _ _ _ (fun x z=>by
      revert z;split
      · exact fun z=>k _ z
      · exact id) h,
   fun {B0 fps δ σ H Q} o h=>ha.run o (ha.mono _ _ _ (fun x z v H1 s1 r1=>by
      split at z
      · rename_i m e
        exact⟨v,n,_,_,rfl,r1.ty e,hk K x m e,z _ H1 [] s1 ⟨rfl,rfl⟩ Nw.nil⟩
      · exact z.elim) h)⟩
mutual
def D.old:D→Option L2.D
  | .non=>some .non | .bl b=>some (.bl b) | .int i=>some (.int i) | .str x=>some (.str x)
  | .lst ds=>(D.olds ds).map L2.D.lst | .tup ds=>(D.olds ds).map L2.D.tup
  | .dic _=>none | .dit _=>none | .scr _=>none | .pin _ _=>none | .mem _=>none | .raw _=>none | .ins _ _ _=>none
def D.olds:List D→Option (List L2.D)
  | []=>some []
  | d::ds=>match D.old d,D.olds ds with | some x,some xs=>some (x::xs) | _,_=>none
end
mutual
theorem Rf.old {H:Hp}:∀{d:D}{d':L2.D}{v:V}{fp:List Addr},Rf K H d v fp→d.old=some d'→L2.Rf H d' v fp
  | .non,d',v,fp,h,e=>by rw[D.old] at e;cases e;rw[L2.Rf];exact h
  | .bl _,d',v,fp,h,e=>by rw[D.old] at e;cases e;rw[L2.Rf];exact h
  | .int _,d',v,fp,h,e=>by rw[D.old] at e;cases e;rw[L2.Rf];exact h
  | .str _,d',v,fp,h,e=>by rw[D.old] at e;cases e;rw[L2.Rf];exact h
  | .lst ds,d',v,fp,h,e=>by
    rw[D.old] at e
    cases q:D.olds ds with
    | none=>rw[q] at e;cases e
    | some es =>
      rw[q] at e;cases e
      obtain ⟨a,xs,fq,e1,e2,e3,h⟩:=h
      rw[L2.Rf]
      exact⟨a,xs,fq,e1,e2,e3,Rfs.old h q⟩
  | .tup ds,d',v,fp,h,e=>by
    rw[D.old] at e
    cases q:D.olds ds with
    | none=>rw[q] at e;cases e
    | some es =>
      rw[q] at e;cases e
      obtain ⟨a,xs,e1,e2,h⟩:=h
      rw[L2.Rf]
      exact⟨a,xs,e1,e2,Rfs.old h q⟩
  | .dic _,d',v,fp,h,e=>by rw[D.old] at e;cases e
  | .dit _,d',v,fp,h,e=>by rw[D.old] at e;cases e
  | .scr _,d',v,fp,h,e=>by rw[D.old] at e;cases e
  | .pin _ _,d',v,fp,h,e=>by rw[D.old] at e;cases e
  | .mem _,d',v,fp,h,e=>by rw[D.old] at e;cases e
  | .raw _,d',v,fp,h,e=>by rw[D.old] at e;cases e
  | .ins _ _ _,d',v,fp,h,e=>by rw[D.old] at e;cases e
theorem Rfs.old {H:Hp}:∀{ds:List D}{ds':List L2.D}{vs:List V}{fp:List Addr},Rfs K H ds vs fp→D.olds ds=some ds'→L2.Rfs H ds' vs fp
  | [],ds',vs,fp,h,e=>by rw[D.olds] at e;cases e;rw[L2.Rfs];exact h
  | d::ds,ds',vs,fp,h,e=>by
    rw[D.olds] at e
    obtain ⟨x,r,f1,f2,e1,e2,h1,h2⟩:=h
    cases q1:d.old with
    | none=>rw[q1] at e;simp at e
    | some x' =>
      cases q2:D.olds ds with
      | none=>rw[q1,q2] at e;simp at e
      | some xs' =>
        rw[q1,q2] at e
        cases e
        rw[L2.Rfs]
        exact⟨x,r,f1,f2,e1,e2,Rf.old h1 q1,Rfs.old h2 q2⟩
end
abbrev dI (xs:List Int):D:=.lst (xs.map D.int)
abbrev dT (t:List (List Int)):D:=.lst (t.map dI)
def vEqL (neg:Bool) (x:D) (y:D) (P:DK):Prop:=∃a b,x.old=some (.lst a)∧y.old=some (.lst b)∧L2.D.plains a=true∧L2.D.plains b=true∧L2.D.depths a≤60∧P (.bl (if neg then !L2.D.eqbs a b else L2.D.eqbs a b))
theorem vEqL_run {neg:Bool}:OpV K (rEqD neg) (vEqL neg):=⟨fun x y P P' k h=>by
    obtain ⟨a,b,h1,h2,h3,h4,h5,h⟩:=h
    exact⟨a,b,h1,h2,h3,h4,h5,k _ h⟩,
  fun {H x y v w Q} ⟨f1,r1⟩ ⟨f2,r2⟩ h=>by
    obtain ⟨a,b,h1,h2,h3,h4,h5,h⟩:=h
    exact⟨a,b,⟨f1,r1.old h1⟩,⟨f2,r2.old h2⟩,h3,h4,h5,h _ H [] (Same.refl H) ⟨rfl,rfl⟩ Nw.nil⟩⟩
theorem o_eqL:OpV K (rEqD false) (vEqL false):=vEqL_run
theorem o_neL:OpV K (rEqD true) (vEqL true):=vEqL_run
theorem olds_ints:∀{ns:List Int},D.olds (ns.map D.int)=some (ns.map L2.D.int)
  | []=>by rw[List.map_nil,D.olds];rfl
  | n::ns=>by rw[List.map_cons,D.olds,olds_ints,D.old];rfl
theorem old_dI {ns:List Int}:(dI ns).old=some (L2.dI ns):=by rw[D.old,olds_ints];rfl
theorem olds_rows:∀{t:List (List Int)},D.olds (t.map dI)=some (t.map L2.dI)
  | []=>by rw[List.map_nil,D.olds];rfl
  | n::ns=>by rw[List.map_cons,D.olds,olds_rows,old_dI];rfl
theorem old_dT {t:List (List Int)}:(dT t).old=some (L2.dT t):=by rw[D.old,olds_rows];rfl
theorem vEqL_ints {neg:Bool}{xs ys:List Int}{P:DK} (h:P (.bl (if neg then !decide (xs=ys) else decide (xs=ys)))):vEqL neg (dI xs) (dI ys) P :=
  ⟨_,_,old_dI,old_dI,D.plains_ints _,D.plains_ints _,by rw[D.depths_ints];omega,by rw[D.eqbs_ints];exact h⟩
theorem vEqL_rows {neg:Bool}{xs ys:List (List Int)}{P:DK} (h:P (.bl (if neg then !decide (xs=ys) else decide (xs=ys)))):vEqL neg (dT xs) (dT ys) P :=
  ⟨_,_,old_dT,old_dT,D.plains_rows _,D.plains_rows _,Nat.le_trans (D.depths_rows _) (by omega),by rw[D.eqbs_rows];exact h⟩
def vSorted (b:Bool) (xs:List D) (P:DK):Prop:=match xs with | [x]=>asNs x fun ns=>ns.length<64∧∀ms:List Int,ms.Perm ns→Ordered b ms→P (dI ms) | _=>False
def vRev (da:DE) (δ:Dl) (P:DK):Prop:=da δ fun x=>asL x fun ds=>ds.all D.scal=true∧P (.lst ds.reverse)
def vAbs (xs:List D) (P:DK):Prop:=asI xs fun i=>P (.int (if i<0 then -i else i))
def vMax2 (xs:List D) (P:DK):Prop:=asII xs fun i j=>P (.int (if j>i then j else i))
def vMin2 (xs:List D) (P:DK):Prop:=asII xs fun i j=>P (.int (if j<i then j else i))
theorem c_max2:CallV K (fun xs H Q=>∃i j,xs=[.int i,.int j]∧Q (.int (if j>i then j else i)) H) vMax2:=⟨fun xs P P' k h=>by obtain ⟨i,j,rfl,z⟩:=asII_out h;exact k _ z,
  fun {H xs vs Q} r h=>by obtain ⟨i,j,rfl,z⟩:=asII_out h;exact⟨i,j,r.ints2,z _ H [] (Same.refl H) ⟨rfl,rfl⟩ Nw.nil⟩⟩
def D.isNon:D→Bool | .non=>true | .raw w=>decide (w=.non) | _=>false
def vIsN (neg:Bool) (x:D) (y:D) (P:DK):Prop:=match y with | .non=>P (.bl (if neg then !x.isNon else x.isNon)) | _=>False
def vZip (da db:DE) (δ:Dl) (P:List D→Prop):Prop:=da δ fun x=>db δ fun y=>asL x fun xs=>asL y fun ys=>xs.length=ys.length∧P ((xs.zip ys).map fun p=>.tup [p.1,p.2])
theorem it_zip (ha:ES K Γ ta da) (hb:ES K Γ tb db):IT K Γ (iZip K (tCons ta (tCons tb tNil))) (vZip da db) :=
  ⟨fun δ P P' k h=>ha.mono _ _ _ (fun x z=>hb.mono _ _ _ (fun y z=>by
      obtain ⟨xs,e1,z⟩:=asL_out z;obtain ⟨ys,e2,z⟩:=asL_out z;exact asL_in e1 (asL_in e2 ⟨z.1,k _ z.2⟩)) z) h,
   fun {B0 fps δ σ H R} o h=>ha.run o (ha.mono _ _ _ (fun x z v H1 f1 s1 r1 n1=>hb.run (o.same s1) (hb.mono _ _ _ (fun y z w H2 f2 s2 r2 n2=>by
    obtain ⟨xs,ex,z⟩:=asL_out z
    obtain ⟨ys,ey,z⟩:=asL_out z
    have r1':=r1.same s2
    obtain ⟨a,as,fa,rfl,hsa,hra,hina⟩:=r1'.seq ex
    obtain ⟨b,bs,fb,rfl,hsb,hrb,hinb⟩:=r2.seq ey
    refine⟨a,b,rfl,⟨as,hsa⟩,⟨bs,hsb⟩,z.2 (Itz K a b) H2 (f1++f2) (s1.trans s2) (fun j hj c hc=>(List.mem_append.mp hc).elim (n1 j hj c) (n2 j hj c)) fun B sB ag im=>?_⟩
    have rBa:Rf K B x (.ref a) f1:=r1'.mono (fun c hc u e=>by rw[ag c (List.mem_append_left _ hc)];exact e) im
    have rBb:Rf K B y (.ref b) f2:=r2.mono (fun c hc u e=>by rw[ag c (List.mem_append_right _ hc)];exact e) im
    obtain ⟨a',as',fa',e1,hsa',hra',_⟩:=rBa.seq ex
    obtain ⟨b',bs',fb',e2,hsb',hrb',_⟩:=rBb.seq ey
    cases e1;cases e2
    have sq:∀{c:Addr}{zs:List V}{H3:Hp},SqL K B c zs→Same B H3→SqL K H3 c zs:=fun h s3=>s3.seq h
    have la:=hra'.length
    have lb:=hrb'.length
    have hl:=z.1
    have hlen:((xs.zip ys).map fun p=>D.tup [p.1,p.2]).length=xs.length:=by simp [hl]
    refine⟨fun {i H3} s3 hi=>?_,fun {i H3 u H4 d} s3 hy hd=>?_,fun {i H3} s3 hi=>?_⟩
    · rw[hlen] at hi
      exact⟨as',bs',as'[i]'(by omega),bs'[i]'(by omega),sq hsa' s3,sq hsb' s3,by simp [la,hi],by simp [lb,← hl,hi]⟩
    · obtain ⟨p,u1,u2,rfl,hp,rfl,h1,h2⟩:=hy
      have q1:=h1 as' (sq hsa' s3)
      have q2:=h2 bs' (sq hsb' s3)
      obtain ⟨d1,g1,e1,t1,_⟩:=hra'.get' q1
      obtain ⟨d2,g2,e2,t2,_⟩:=hrb'.get' q2
      have ez:(xs.zip ys)[i]?=some (d1,d2):=List.getElem?_zip_eq_some.mpr ⟨e1,e2⟩
      rw[List.getElem?_map,ez] at hd
      cases hd
      have s4:Same H3 (upd H3 p (.tup [u1,u2])):=Same.new' hp
      refine⟨s4,g1++g2,⟨p,_,rfl,upd_same,u1,[u2],g1,g2,rfl,rfl,(t1.same s3).same s4,u2,[],g2,[],rfl,(List.append_nil _).symm,(t2.same s3).same s4,rfl,rfl⟩,fun c hc=>?_⟩
      rcases List.mem_append.mp hc with w | w
      · obtain ⟨u,hu,_⟩:=t1.dom c w;rw[hu];intro z;cases z
      · obtain ⟨u,hu,_⟩:=t2.dom c w;rw[hu];intro z;cases z
    · rw[hlen] at hi
      exact⟨as',bs',sq hsa' s3,sq hsb' s3,.inl (by omega)⟩) z)) h)⟩
end
theorem spP_len {K:PySem.W.Frag}{S:DSp}{n:Nat} (hS:∀ds P,S ds P→ds.length=n) {vs:List V}{H:Hp}{Q:VK}{E:XK} (h:spP K S vs H Q E):vs.length=n:=by
  obtain ⟨ds,⟨fp,r⟩,h⟩:=h
  rw[r.length];exact hS _ _ h
theorem loop_inv {dg:D→Dl→(Dl→Prop)→Prop}{db:DS}{E:DEnds} (I:Nat→Dl→Prop) {ds:List D}{δ:Dl} (h0:I 0 δ)
    (hs:∀i d δ (N:Dl→Prop),ds[i]?=some d→I i δ→(∀δ',I (i+1) δ'→N δ')→dg d δ fun δ'=>db { nx:=N,ct:=N,bk:=E.nx,rt:=E.rt } δ')
    (hd:∀δ,I ds.length δ→E.nx δ):vLoop dg db E ds δ:=by
  have key:∀(n:Nat) (i:Nat) (δ:Dl),ds.length - i=n→i≤ds.length→I i δ→vLoop dg db E (ds.drop i) δ:=by
    intro n
    induction n with
    | zero =>
      intro i δ h1 h2 hI
      have:i=ds.length:=by omega
      subst this
      rw[List.drop_length]
      exact hd δ hI
    | succ n ih =>
      intro i δ h1 h2 hI
      have hlt:i<ds.length:=by omega
      rw[List.drop_eq_getElem_cons hlt]
      exact hs i _ δ _ (List.getElem?_eq_getElem hlt) hI fun δ' h'=>ih (i+1) δ' (by omega) hlt h'
  have:=key ds.length 0 δ (by omega) (Nat.zero_le _) h0
  rwa [List.drop_zero] at this
end L3
namespace L3
open PySem L2
theorem sc_of {K:PySem.W.Frag}{H:Hp}{a:Addr}{xs:List V} (hO:Only H) (h:SqL K H a xs):Sc K H a xs:=by
  rcases h with (h | h) | h
  · rcases hO a with z | ⟨o,ys,z⟩
    · rw[z] at h;cases h
    · rw[z] at h;cases h
  · exact .inl h
  · exact .inr h
end L3
set_option Elab.async false
set_option linter.all false
set_option maxRecDepth 100000
set_option maxHeartbeats 4000000
namespace L3
open PySem
open L2 hiding D Rf Rfs Rp dI dT
section
variable {di:DI}{dg:D→Dl→(Dl→Prop)→Prop}{dt:DT}{de:DE}{k:Nat}{idx:List Nat}{δ:Dl}{P:DK}
theorem comp_any {α:Type}{as:List α}{f:α→D}{p:α→Bool}{g:α→D} (hdi:∀R:List D→Prop,R (as.map f)→di δ R) (hl:as.length≤1000)
    (hb:∀a∈as,∀R:List D→Prop,R (if p a then [g a] else [])→vBody dg dt de (cbaseD k idx δ) (f a) R) (h:P (.lst ((as.filter p).map g))):vComp di dg dt de k idx δ P:=by
  refine hdi _ ⟨by rw[List.length_map];exact hl,?_⟩
  have key:∀(as:List α) (acc:List D),(∀a∈as,∀R:List D→Prop,R (if p a then [g a] else [])→vBody dg dt de (cbaseD k idx δ) (f a) R)→P (.lst (acc++(as.filter p).map g))→vEach (vBody dg dt de (cbaseD k idx δ)) (as.map f) acc fun ys=>P (.lst ys):=by
    intro as
    induction as with
    | nil=>intro acc _ h;rw[List.filter_nil,List.map_nil,List.append_nil] at h;exact h
    | cons a as ih =>
      intro acc hb h
      refine hb a List.mem_cons_self _ (ih _ (fun x hx=>hb x (List.mem_cons_of_mem _ hx)) ?_)
      by_cases hp:p a=true
      · rw[if_pos hp,List.append_assoc];rwa [List.filter_cons_of_pos hp] at h
      · rw[if_neg hp,List.append_nil];rwa [List.filter_cons_of_neg hp] at h
  exact key as [] hb h
theorem comp_all {α:Type}{as:List α}{f:α→D}{g:α→D} (hdi:∀R:List D→Prop,R (as.map f)→di δ R) (hl:as.length≤1000)
    (hb:∀a∈as,∀R:List D→Prop,R [g a]→vBody dg dt de (cbaseD k idx δ) (f a) R) (h:P (.lst (as.map g))):vComp di dg dt de k idx δ P:=by
  refine comp_any (p:=fun _=>true) hdi hl (fun a ha R h=>hb a ha R h) ?_
  rw[List.filter_eq_self.mpr (fun _ _=>rfl)]
  exact h
theorem comp_rng {lo:Int}{n:Nat}{g:Nat→D} (hdi:∀R:List D→Prop,R (intsD lo n)→di δ R) (hl:n≤1000)
    (hb:∀i,i<n→∀R:List D→Prop,R [g i]→vBody dg dt de (cbaseD k idx δ) (.int (lo+(i:Int))) R) (h:P (.lst ((List.range n).map g))):vComp di dg dt de k idx δ P :=
  comp_all (as:=List.range n) (f:=fun (k:Nat)=>D.int (lo+(k:Int))) hdi (by rw[List.length_range];exact hl) (fun a ha=>hb a (List.mem_range.mp ha)) h
theorem comp_rngF {lo:Int}{n:Nat}{p:Nat→Bool}{g:Nat→D} (hdi:∀R:List D→Prop,R (intsD lo n)→di δ R) (hl:n≤1000)
    (hb:∀i,i<n→∀R:List D→Prop,R (if p i then [g i] else [])→vBody dg dt de (cbaseD k idx δ) (.int (lo+(i:Int))) R) (h:P (.lst (((List.range n).filter p).map g))):vComp di dg dt de k idx δ P :=
  comp_any (as:=List.range n) (f:=fun (k:Nat)=>D.int (lo+(k:Int))) hdi (by rw[List.length_range];exact hl) (fun a ha=>hb a (List.mem_range.mp ha)) h
theorem comp_rows {t:List (List Int)}{g:List Int→D} (hdi:∀R:List D→Prop,R (t.map dI)→di δ R) (hl:t.length≤1000)
    (hb:∀r∈t,∀R:List D→Prop,R [g r]→vBody dg dt de (cbaseD k idx δ) (dI r) R) (h:P (.lst (t.map g))):vComp di dg dt de k idx δ P:=comp_all hdi hl hb h
variable {db:DS}{E:DEnds}
theorem loop_any {α:Type}{as:List α}{f:α→D} (I:Nat→Dl→Prop) (h0:I 0 δ)
    (hs:∀i a δ (N:Dl→Prop),as[i]?=some a→I i δ→(∀δ',I (i+1) δ'→N δ')→dg (f a) δ fun δ'=>db { nx:=N,ct:=N,bk:=E.nx,rt:=E.rt } δ')
    (hd:∀δ,I as.length δ→E.nx δ):vLoop dg db E (as.map f) δ:=by
  refine loop_inv I h0 (fun i d δ N e hI hN=>?_) (fun δ hI=>hd δ (by rwa [List.length_map] at hI))
  rw[List.getElem?_map] at e
  cases q:as[i]? with
  | none=>rw[q] at e;cases e
  | some a=>rw[q] at e;cases e;exact hs i a δ N q hI hN
theorem loop_rng {lo:Int}{n:Nat} (I:Nat→Dl→Prop) (h0:I 0 δ)
    (hs:∀i δ (N:Dl→Prop),i<n→I i δ→(∀δ',I (i+1) δ'→N δ')→dg (.int (lo+(i:Int))) δ fun δ'=>db { nx:=N,ct:=N,bk:=E.nx,rt:=E.rt } δ')
    (hd:∀δ,I n δ→E.nx δ):vLoop dg db E (intsD lo n) δ:=by
  refine loop_any (as:=List.range n) (f:=fun (k:Nat)=>D.int (lo+(k:Int))) I h0 (fun i a δ N e hI hN=>?_) (fun δ hI=>hd δ (by rwa [List.length_range] at hI))
  obtain ⟨h1,h2⟩:=List.getElem?_eq_some_iff.mp e
  rw[List.getElem_range] at h2
  subst h2
  exact hs i δ N (by simpa using h1) hI hN
end
theorem at_dI {ns:List Int}{i:Int} (h0:0≤i) (h:i<ns.length):atI (ns.map D.int) i=some (.int (ns.getD i.toNat 0)):=by
  unfold atI ixN
  rw[if_pos h0,List.length_map,if_pos h]
  show (ns.map D.int)[i.toNat]?=_
  rw[List.getElem?_map,List.getD_eq_getElem?_getD]
  have:i.toNat<ns.length:=by omega
  rw[List.getElem?_eq_getElem this]
  rfl
theorem scal_ints {ns:List Int}:(ns.map D.int).all D.scal=true:=by rw[List.all_map,List.all_eq_true];exact fun _ _=>rfl
theorem ixN_nat {n:Nat}{i:Int} (h0:0≤i) (h:i<n):ixN n i=some i.toNat:=by unfold ixN;rw[if_pos h0,if_pos h]
theorem set_dI {ns:List Int}{j:Nat}{v:Int}:(ns.map D.int).set j (.int v)=(ns.set j v).map D.int:=(List.map_set ..).symm
theorem snoc_dI {ns:List Int}{v:Int}:ns.map D.int++[.int v]=(ns++[v]).map D.int:=by simp
theorem emod_lt {x n:Int} (h:0<n):0≤x % n∧x % n<n:=⟨Int.emod_nonneg x (by omega),Int.emod_lt_of_pos x h⟩
theorem cut_ints {ns:List Int}{lo hi:Option Int}:∃ms:List Int,cutD (ns.map D.int) lo hi=ms.map D.int∧ms=(ns.drop (HT.sIx ns.length 0 lo)).take (HT.sIx ns.length ns.length hi - HT.sIx ns.length 0 lo):=by
  refine⟨_,?_,rfl⟩
  unfold cutD
  rw[List.length_map,← List.map_drop,← List.map_take]
section
variable {P:DK}
def asO (o:Option D) (P:DK):Prop:=match o with | some d=>P d | none=>False
theorem asO_some {d:D}:asO (some d) P↔P d:=Iff.rfl
theorem asO_at {o:Option D}{d:D} (h:o=some d):asO o P↔P d:=by rw[h];rfl
theorem asB_bl {k:Bool}{Q:Bool→Prop}:asB (.bl k) Q↔Q k:=Iff.rfl
theorem vI0_int {g:Int→Int→D}{i j:Int}:vI0 g (.int i) (.int j) P↔P (g i j):=Iff.rfl
theorem vI_int {C:Int→Int→Prop}{g:Int→Int→D}{i j:Int}:vI C g (.int i) (.int j) P↔C i j∧P (g i j):=Iff.rfl
theorem vU_int {g:Int→D}{i:Int}:vU g (.int i) P↔P (g i):=Iff.rfl
theorem asI_int {i:Int}{Q:Int→Prop}:asI [.int i] Q↔Q i:=Iff.rfl
theorem asII_int {i j:Int}{Q:Int→Int→Prop}:asII [.int i,.int j] Q↔Q i j:=Iff.rfl
theorem asL_lst {ds:List D}{Q:List D→Prop}:asL (.lst ds) Q↔Q ds:=Iff.rfl
theorem asL_scr {ns:List Int}{Q:List D→Prop}:asL (.scr ns) Q↔Q (ns.map D.int):=Iff.rfl
theorem vIxL_lst {ds:List D}{i:Int}:vIxL (.lst ds) (.int i) P↔asO (atI ds i) P:=Iff.rfl
theorem vIxL_scr {ns:List Int}{i:Int}:vIxL (.scr ns) (.int i) P↔asO (atI (ns.map D.int) i) P:=Iff.rfl
theorem vIxT_tup {ds:List D}{i:Int}:vIxT (.tup ds) (.int i) P↔asO (atI ds i) P:=Iff.rfl
theorem vLen_tup {ds:List D}:vLen [.tup ds] P↔P (.int ds.length):=Iff.rfl
theorem vIsN_non {neg:Bool}{x:D}:vIsN neg x .non P↔P (.bl (if neg then !x.isNon else x.isNon)):=Iff.rfl
theorem vCat_lst {a b:List D}:vCat (.lst a) (.lst b) P↔(a.all D.scal=true∧b.all D.scal=true∧a.length+b.length≤1000)∧P (.lst (a++b)):=Iff.rfl
theorem vRep_lst {a:List D}{k:Int}:vRep (.lst a) (.int k) P↔(a.all D.scal=true∧(-(2 ^ 63)≤k∧k<2 ^ 63)∧a.length*k.toNat≤1000)∧P (.lst (repD a k.toNat)):=Iff.rfl
theorem vList_lst {ds:List D}:vList [.lst ds] P↔ds.all D.scal=true∧P (.lst ds):=Iff.rfl
theorem vList_scr {ns:List Int}:vList [.scr ns] P↔P (dI ns):=by
  show ((ns.map D.int).all D.scal=true∧P _)↔_
  rw[scal_ints];exact⟨fun h=>h.2,fun h=>⟨rfl,h⟩⟩
theorem vSum_ints {ns:List Int}:vSum [dI ns] P↔P (.int ns.sum):=by
  show (match toInts (ns.map D.int) with | some ns=>P (.int ns.sum) | none=>False)↔_
  rw[toInts_map]
theorem asNs_ints {ns:List Int}{Q:List Int→Prop}:asNs (dI ns) Q↔Q ns:=by
  show (match toInts (ns.map D.int) with | some ns=>Q ns | none=>False)↔_
  rw[toInts_map]
theorem vgTup2 {g:List D→Dl→(Dl→Prop)→Prop}{n:Nat}{ds:List D}{δ:Dl}{Q:Dl→Prop}:vgTup n g (.tup ds) δ Q↔ds.length=n∧g ds δ Q:=Iff.rfl
theorem vgCons_c {g:D→Dl→(Dl→Prop)→Prop}{gs:List D→Dl→(Dl→Prop)→Prop}{x:D}{xs:List D}{δ:Dl}{Q:Dl→Prop}:vgCons g gs (x::xs) δ Q↔g x δ fun δ'=>gs xs δ' Q:=Iff.rfl
theorem vgNil_n {δ:Dl}{Q:Dl→Prop}:vgNil [] δ Q↔Q δ:=Iff.rfl
theorem slotL_s {i:Nat}{δ:Dl}{ds:List D}{Q:List D→Prop} (h:δ[i]?=some (some (.lst ds))):slotL δ i Q↔Q ds:=by unfold slotL;rw[h]
theorem tyn_int {i:Int}:(D.int i).tyn=some "int":=rfl
theorem tyn_bl {i:Bool}:(D.bl i).tyn=some "bool":=rfl
theorem tyn_lst {i:List D}:(D.lst i).tyn=some "list":=rfl
theorem tyn_tup {i:List D}:(D.tup i).tyn=some "tuple":=rfl
theorem tyn_str {i:Str}:(D.str i).tyn=some "str":=rfl
theorem tyn_non:D.non.tyn=some "NoneType":=rfl
theorem isB_ii:isB "int" "int" = true:=rfl
theorem isB_ib:isB "int" "bool" = false:=rfl
theorem isB_ll:isB "list" "list" = true:=rfl
theorem isB_tt:isB "tuple" "tuple" = true:=rfl
theorem isB_ss:isB "str" "str" = true:=rfl
theorem isB_bb:isB "bool" "bool" = true:=rfl
theorem isB_bi:isB "bool" "int" = true:=rfl
theorem isB_il:isB "int" "list" = false:=rfl
theorem isB_nl:isB "NoneType" "list" = false:=rfl
theorem divC {i j:Int} (h0:0<j) (h:j<2 ^ 1000):CDivB i j:=⟨h0,1000,by
  have:((j.natAbs:Nat):Int)=j:=Int.natAbs_of_nonneg (by omega)
  have h':((j.natAbs:Nat):Int)<((2 ^ 1000:Nat):Int):=by rw[this];simpa using h
  exact Int.ofNat_lt.mp h',by decide⟩
end
end L3
set_option Elab.async false
set_option linter.all false
set_option maxRecDepth 100000
set_option maxHeartbeats 4000000
namespace L2
open PySem PySem.Spec PyProof.Rows
section
variable {X:Cx}{K:PySem.W.Frag}
end
end L2
namespace L2
open PySem PySem.Spec PyProof.Rows
section
variable {X:Cx}{K:PySem.W.Frag}
end
end L2
namespace L2
open PySem PySem.Spec PyProof.Rows
section
variable {X:Cx}
end
end L2
set_option Elab.async false
set_option linter.all false
set_option maxRecDepth 100000
set_option maxHeartbeats 4000000
namespace L3
open PySem
open L2 hiding D Rf Rfs Rp dI dT
section
variable {K:PySem.W.Frag}{ρ:Bool}{Γr Γl Γ Γ1 Γ2 Γn M:List Nat}{t u:TS}{te ta tb tx t1 t2:TE}{de da db dx d1 d2:DE}{d e:DS}
variable {B0:Hp}{fps:Nat→List Addr}{δ:Dl}{σ:St}{H H':Hp}
def vMinL (xs:List D) (P:DK):Prop:=match xs with | [x]=>asNs x fun ns=>0<ns.length∧∀M,M∈ns→(∀x∈ns,M≤x)→P (.int M) | _=>False
def vMaxL (xs:List D) (P:DK):Prop:=match xs with | [x]=>asNs x fun ns=>0<ns.length∧∀M,M∈ns→(∀x∈ns,x≤M)→P (.int M) | _=>False
def toBools:List D→Option (List Bool)
  | []=>some []
  | .bl i::ds=>(toBools ds).map (i::·)
  | _=>none
theorem toBools_map:∀{ns:List Bool},toBools (ns.map D.bl)=some ns
  | []=>rfl
  | n::ns=>by rw[List.map_cons,toBools,toBools_map];rfl
def asBs (x:D) (P:List Bool→Prop):Prop:=asL x fun ds=>match toBools ds with | some ns=>P ns | none=>False
def vAll (xs:List D) (P:DK):Prop:=match xs with | [x]=>asBs x fun ns=>P (.bl (ns.all id)) | _=>False
def vAny (xs:List D) (P:DK):Prop:=match xs with | [x]=>asBs x fun ns=>P (.bl (ns.any id)) | _=>False
theorem vAll_bools {ns:List Bool}{P:DK}:vAll [.lst (ns.map D.bl)] P↔P (.bl (ns.all id)):=by
  show (match toBools (ns.map D.bl) with | some ns=>P (.bl (ns.all id)) | none=>False)↔_
  rw[toBools_map]
theorem vAny_bools {ns:List Bool}{P:DK}:vAny [.lst (ns.map D.bl)] P↔P (.bl (ns.any id)):=by
  show (match toBools (ns.map D.bl) with | some ns=>P (.bl (ns.any id)) | none=>False)↔_
  rw[toBools_map]
theorem vMinL_ints {ns:List Int}{P:DK}:vMinL [dI ns] P↔0<ns.length∧∀M,M∈ns→(∀x∈ns,M≤x)→P (.int M):=asNs_ints
theorem vMaxL_ints {ns:List Int}{P:DK}:vMaxL [dI ns] P↔0<ns.length∧∀M,M∈ns→(∀x∈ns,x≤M)→P (.int M):=asNs_ints
def rngI (n:Nat):List Int:=(List.range n).map fun (k:Nat)=>(k:Int)
def vListRng (de:DE) (δ:Dl) (P:DK):Prop:=de δ fun x=>asI [x] fun j=>(j≤100000∧-(2 ^ 62)≤j)∧P (dI (rngI j.toNat))
theorem Ok.dead (o:Ok K B0 Γ fps δ σ H) (j:Nat) (v:V) (hj:j∉Γ):Ok K B0 Γ (fun i=>if i=j then [] else fps i) (δ.set j none) (σ.set j (some v)) H:=by
  refine⟨by simp [o.len],o.b0,fun i d e=>?_,fun i h=>?_,fun i hi=>?_,fun i hi k hk a ha=>?_⟩
  · by_cases h:i=j
    · subst h
      rw[List.getElem?_set] at e
      by_cases hl:i<δ.length
      · simp [hl] at e
      · simp [hl] at e
    · rw[List.getElem?_set_ne (Ne.symm h)] at e
      rw[List.getElem?_set_ne (Ne.symm h),if_neg h]
      exact o.val i d e
  · by_cases h':i=j
    · rw[if_pos h']
    · rw[if_neg h'];exact o.non i fun d z=>h d (by rw[List.getElem?_set_ne (Ne.symm h')];exact z)
  · have h:i≠j:=fun z=>hj (by rw[← z];exact hi)
    rw[if_neg h];exact o.own i hi
  · have h:i≠j:=fun z=>hj (by rw[← z];exact hi)
    rw[if_neg h] at ha
    split
    · exact List.not_mem_nil
    · exact o.dj i hi k hk a ha
theorem line_get {i j:Nat}{k:EOk K ρ Γr Γl Γn B0 Dn' E'}{Dn:Ends}{R:TS} (h1:ER K Γ t1 d1) (hi:i∈Γ) (hj:j∉Γ) (hij:i≠j) (o:Ok K B0 Γ fps δ σ H)
    (h:slotL δ i fun ds=>d1 δ fun k=>asI [k] fun m=>(0≤m∧j<δ.length)∧asLst (ds[m.toNat]?) fun es=>∀(a0 b:Addr) xs σ' H' fps',Ok K B0 Γ fps' (δ.set j none) σ' H'→(δ.set j none)[i]?=some (some (.lst ds))→ds[m.toNat]?=some (.lst es)→σ'[i]?=some (some (.ref a0))→H' a0=some (.lst xs)→xs[m.toNat]?=some (.ref b)→σ'[j]?=some (some (.ref b))→R Dn σ' H') :
    tAsg (tOp (rIxL K) (tVar i) t1) (gName j) { Dn with nx:=R Dn } σ H:=by
  obtain ⟨ds,e,h⟩:=slotL_out h
  obtain ⟨a0,xs0,fq0,g1,_⟩:=o.ownL e
  refine⟨.ref a0,g1,h1.run o (h1.mono _ _ _ (fun y z w H2 s2 r2=>?_) h)⟩
  obtain ⟨m,em,z1⟩:=asI1_out z
  subst em
  obtain ⟨⟨hm0,hjl⟩,z1⟩:=z1
  obtain ⟨es,ej,z2⟩:=asLst_out z1
  have o2:=o.same s2
  have hlt:=(List.getElem?_eq_some_iff.mp ej).1
  obtain ⟨a,xs,b,ys,fe,e1,e2,e3,e4,e5,e6,e7,e8,e9,e10,_⟩:=inner_ok (es':=[]) o2 hi e ej
  rw[g1] at e1;cases e1
  refine⟨a0,xs,m,.ref b,rfl,r2.int,.inl (.inl e2),by unfold atI;rw[ixN_nat hm0 (by rw[e3];omega)];exact e4,?_⟩
  exact z2 a0 b xs _ _ _ (o2.dead j (.ref b) hj) (by rw[List.getElem?_set_ne (Ne.symm hij)];exact e) ej (by rw[List.getElem?_set_ne (Ne.symm hij)];exact g1) e2 e4 (by rw[List.getElem?_set];simp [o.len,hjl])
theorem slotL_in {i:Nat}{ds:List D}{Q:List D→Prop} (e:δ[i]?=some (some (.lst ds))) (h:Q ds):slotL δ i Q:=(slotL_s e).mpr h
theorem asLst_in {o:Option D}{es:List D}{Q:List D→Prop} (e:o=some (.lst es)) (h:Q es):asLst o Q:=by rw[e];exact h
theorem Rfs.take:∀{ds:List D}{xs:List V}{fq:List Addr} (n:Nat),Rfs K H ds xs fq→∃fq',Rfs K H (ds.take n) (xs.take n) fq'
  | ds,xs,fq,0,h=>⟨[],rfl,rfl⟩
  | [],xs,fq,n+1,h=>by obtain ⟨rfl,rfl⟩:=h;exact⟨[],rfl,rfl⟩
  | d::ds,xs,fq,n+1,h=>by
    obtain ⟨x,r,f1,f2,rfl,rfl,h1,h2⟩:=h
    obtain ⟨fq',h3⟩:=Rfs.take n h2
    exact⟨f1++fq',x,r.take n,f1,fq',rfl,rfl,h1,h3⟩
theorem rd_new {ds:List D}{xs:List V}{fq:List Addr}{p:Addr} (h:Rfs K H ds xs fq) (hp:H p=none):Same H (upd H p (.lst xs))∧Rp K (upd H p (.lst xs)) (.lst ds) (.ref p) :=
  have s:Same H (upd H p (.lst xs)):=Same.new' hp
  ⟨s,p::fq,p,xs,fq,rfl,upd_same,rfl,h.same s⟩
def vSlR (de:DE) (dl dh:DO) (δ:Dl) (P:DK):Prop:=de δ fun x=>dl δ fun l=>dh δ fun u=>asL x fun ds=>P (.lst (cutD ds l u))
def vCatR (x y:D) (P:DK):Prop:=match x,y with | .lst a,.lst b=>a.length+b.length≤1000∧P (.lst (a++b)) | _,_=>False
theorem vCatR_lst {a b:List D}{P:DK}:vCatR (.lst a) (.lst b) P↔a.length+b.length≤1000∧P (.lst (a++b)):=Iff.rfl
def vRepR (x y:D) (P:DK):Prop:=match x,y with | .lst a,.int k=>((-(2 ^ 63)≤k∧k<2 ^ 63)∧a.length*k.toNat≤1000)∧P (.lst (repD a k.toNat)) | _,_=>False
theorem vRepR_lst {a:List D}{k:Int}{P:DK}:vRepR (.lst a) (.int k) P↔((-(2 ^ 63)≤k∧k<2 ^ 63)∧a.length*k.toNat≤1000)∧P (.lst (repD a k.toNat)):=Iff.rfl
def vListR (xs:List D) (P:DK):Prop:=match xs with | [x]=>asL x fun ds=>P (.lst ds) | _=>False
theorem vListR_lst {ds:List D}{P:DK}:vListR [.lst ds] P↔P (.lst ds):=Iff.rfl
theorem Rfs.rev {ds:List D}{xs:List V}{fq:List Addr} (h:Rfs K H ds xs fq):∃fq',Rfs K H ds.reverse xs.reverse fq':=by
  induction ds generalizing xs fq with
  | nil=>obtain ⟨rfl,rfl⟩:=h;exact⟨[],rfl,rfl⟩
  | cons d ds ih =>
    obtain ⟨x,r,f1,f2,rfl,rfl,h1,h2⟩:=h
    obtain ⟨fq',h3⟩:=ih h2
    rw[List.reverse_cons,List.reverse_cons]
    exact⟨_,h3.append (Rfs.one h1)⟩
def vRevR (da:DE) (δ:Dl) (P:DK):Prop:=da δ fun x=>asL x fun ds=>P (.lst ds.reverse)
theorem er_listRev (ha:ER K Γ ta da):ER K Γ (tListRev K ta) (vRevR da) :=
  ⟨fun δ P P' k h=>ha.mono _ _ _ (fun x z=>by obtain ⟨ds,e,z⟩:=asL_out z;exact asL_in e (k _ z)) h,
   fun {B0 fps δ σ H Q} o h=>ha.run o (ha.mono _ _ _ (fun x z v H1 s1 r1=>by
    obtain ⟨ds,e,z⟩:=asL_out z
    obtain ⟨a,xs,fq,rfl,hs,hr⟩:=r1.seq e
    obtain ⟨fq',hr'⟩:=hr.rev
    refine⟨a,_,rfl,hs,fun l hl=>?_⟩
    obtain ⟨n1,n2⟩:=rd_new hr' hl
    exact z _ _ (s1.trans n1) n2) h)⟩
def vAppPop (i k:Nat) (dn:DE) (E:DEnds) (δ:Dl):Prop:=slotL δ i fun ds=>slotL δ k fun es=>dn δ fun x=>asI [x] fun n=>(ds.length<1000∧es.all D.scal=true∧0≤n∧n<2 ^ 63)∧asO (es[n.toNat]?) fun y=>E.nx ((δ.set k (some (.lst (es.eraseIdx n.toNat)))).set i (some (.lst (ds++[y]))))
theorem vEqS_bl {neg:Bool}{i j:Bool}{P:DK}:vEqS neg (.bl i) (.bl j) P↔P (.bl (if neg then !decide (i=j) else decide (i=j))):=by
  unfold vEqS
  simp only[D.scal,D.toV,scal,true_and,V.bl.injEq]
theorem vEqS_str {neg:Bool}{i j:Str}{P:DK}:vEqS neg (.str i) (.str j) P↔P (.bl (if neg then !decide (i=j) else decide (i=j))):=by
  unfold vEqS
  simp only[D.scal,D.toV,scal,true_and,V.str.injEq]
end
end L3
set_option Elab.async false
set_option linter.all false
set_option maxRecDepth 100000
set_option maxHeartbeats 4000000
namespace L3
open PySem
open L2 hiding D Rf Rfs Rp dI dT
def Rect (n m:Nat) (t:List (List Int)):Prop:=t.length=n∧∀r∈t,r.length=m
abbrev rowAt (t:List (List Int)) (i:Nat):List Int:=t.getD i []
abbrev cellAt (t:List (List Int)) (i j:Nat):Int:=(t.getD i []).getD j 0
abbrev setCell (t:List (List Int)) (i j:Nat) (v:Int):List (List Int):=t.set i ((t.getD i []).set j v)
theorem rowAt_mem {t:List (List Int)}{i:Nat} (h:i<t.length):rowAt t i∈t:=by
  unfold rowAt
  rw[List.getD_eq_getElem?_getD,List.getElem?_eq_getElem h]
  exact List.getElem_mem h
theorem Rect.row {n m:Nat}{t:List (List Int)} (h:Rect n m t) {i:Nat} (hi:i<n):(rowAt t i).length=m:=h.2 _ (rowAt_mem (by rw[h.1];exact hi))
theorem Rect.set {n m:Nat}{t:List (List Int)} (h:Rect n m t) {i:Nat}{r:List Int} (hr:r.length=m):Rect n m (t.set i r):=by
  refine⟨by rw[List.length_set];exact h.1,fun x hx=>?_⟩
  rcases List.mem_or_eq_of_mem_set hx with z | z
  · exact h.2 x z
  · rw[z];exact hr
theorem Rect.setCell {n m:Nat}{t:List (List Int)} (h:Rect n m t) {i j:Nat}{v:Int} (hi:i<n):Rect n m (setCell t i j v):=h.set (by rw[List.length_set];exact h.row hi)
theorem get_dT {t:List (List Int)}{i:Nat} (h:i<t.length):(t.map dI)[i]?=some (dI (rowAt t i)):=by
  unfold rowAt
  rw[List.getElem?_map,List.getD_eq_getElem?_getD,List.getElem?_eq_getElem h]
  rfl
theorem at_dT {t:List (List Int)}{i:Int} (h0:0≤i) (h:i<t.length):atI (t.map dI) i=some (dI (rowAt t i.toNat)):=by
  unfold atI
  rw[ixN_nat h0 (by rw[List.length_map];exact h)]
  exact get_dT (by omega)
theorem set_dT {t:List (List Int)}{i:Nat}{r:List Int}:(t.map dI).set i (dI r)=(t.set i r).map dI:=(List.map_set ..).symm
section
variable {i j:Nat}{δ:Dl}{de d1 d2 dx:DE}{E:DEnds}{t:List (List Int)}{r:List Int}{a b v:Int}
theorem setItem2_tab (hs:δ[i]?=some (some (dT t))) (hde:∀R:DK,R (.int v)→de δ R) (h1:∀R:DK,R (.int a)→d1 δ R) (h2:∀R:DK,R (.int b)→d2 δ R) (ha:0≤a∧a<t.length) (hb:0≤b∧b<(rowAt t a.toNat).length)
    (h:E.nx (δ.set i (some (dT (setCell t a.toNat b.toNat v))))):vSetItem2 i de d1 d2 E δ:=by
  unfold vSetItem2
  refine hde _ ((slotL_s hs).mpr (h1 _ ?_))
  show asLst (atI (t.map dI) a) _
  rw[at_dT ha.1 ha.2]
  refine h2 _ ?_
  show match ixN (t.map dI).length a,ixN ((rowAt t a.toNat).map D.int).length b with | some j,some j2=>E.nx (δ.set i (some (.lst ((t.map dI).set j (.lst (((rowAt t a.toNat).map D.int).set j2 (.int v))))))) | _,_=>False
  rw[ixN_nat ha.1 (by rw[List.length_map];exact ha.2),ixN_nat hb.1 (by rw[List.length_map];exact hb.2)]
  show E.nx (δ.set i (some (.lst ((t.map dI).set a.toNat (.lst (((rowAt t a.toNat).map D.int).set b.toNat (.int v)))))))
  rw[set_dI,set_dT];exact h
end
theorem asO_ints {r:List Int}{a:Int}{P:DK} (ha:0≤a∧a<r.length) (h:P (.int (r.getD a.toNat 0))):asO (atI (r.map D.int) a) P:=(asO_at (at_dI ha.1 ha.2)).mpr h
theorem asO_rows {t:List (List Int)}{a:Int}{P:DK} (ha:0≤a∧a<t.length) (h:P (dI (rowAt t a.toNat))):asO (atI (t.map dI) a) P:=(asO_at (at_dT ha.1 ha.2)).mpr h
theorem map_dI {α:Type}{as:List α}{f:α→List Int}:as.map (fun a=>dI (f a))=(as.map f).map dI:=by rw[List.map_map];rfl
theorem map_int {α:Type}{as:List α}{f:α→Int}:as.map (fun a=>D.int (f a))=(as.map f).map D.int:=by rw[List.map_map];rfl
theorem am_cons0 {K:PySem.W.Frag}{Γ:List Nat}{ta:TE}{da:DE}{tr:TA}{dr:DA} (ha:EM K Γ [] ta da) (hr:AM K Γ [] tr dr):AM K Γ [] (tCons ta tr) (vCons da dr):=am_cons ha hr (fun _ h=>(nomatch h)) (fun _ h=>(nomatch h))
theorem comp_copy {di:DI}{dg:D→Dl→(Dl→Prop)→Prop}{dt:DT}{de:DE}{k:Nat}{idx:List Nat}{δ:Dl}{P:DK}{t:List (List Int)} (hdi:∀R:List D→Prop,R (t.map dI)→di δ R) (hl:t.length≤1000)
    (hb:∀r∈t,∀R:List D→Prop,R [dI r]→vBody dg dt de (cbaseD k idx δ) (dI r) R) (h:P (dT t)):vComp di dg dt de k idx δ P:=comp_rows (g:=dI) hdi hl hb h
def colOf (t:List (List Int)) (j:Nat):List Int:=t.map fun r=>r.getD j 0
theorem len_colOf {t:List (List Int)}{j:Nat}:(colOf t j).length=t.length:=by unfold colOf;rw[List.length_map]
end L3
namespace L3
open PySem
open L2 hiding D Rf Rfs Rp dI dT
def vInts (ns:List Int) (δ:Dl) (P:List D→Prop):Prop:=P (ns.map D.int)
end L3
namespace L3
open PySem
open L2 hiding D Rf Rfs Rp dI dT
theorem atI_c0 {a:D}{ds:List D}:atI (a::ds) 0=some a:=by
  unfold atI;rw[ixN_nat (by omega) (by rw[List.length_cons];omega)];rfl
theorem atI_c1 {a b:D}{ds:List D}:atI (a::b::ds) 1=some b:=by
  unfold atI;rw[ixN_nat (by omega) (by rw[List.length_cons,List.length_cons];omega)];rfl
theorem atI_c2 {a b c:D}{ds:List D}:atI (a::b::c::ds) 2=some c:=by
  unfold atI;rw[ixN_nat (by omega) (by rw[List.length_cons,List.length_cons,List.length_cons];omega)];rfl
theorem atI_c3 {a b c d:D}{ds:List D}:atI (a::b::c::d::ds) 3=some d:=by
  unfold atI;rw[ixN_nat (by omega) (by rw[List.length_cons,List.length_cons,List.length_cons,List.length_cons];omega)];rfl
end L3
set_option Elab.async false
set_option linter.all false
set_option maxRecDepth 100000
set_option maxHeartbeats 4000000
namespace L2
open PySem PySem.Spec PyProof.Rows
section
variable {prog:Program}{w:World}{A:Around}{E:Value→Shared→Prop}{s:Shared}
theorem draw_list {it t:Addr}{items:Array Value} (hne:t≠it):∀(n i:Nat) (s:Shared) (Q:List Value→Shared→Prop),s.heap.IsListIter it t i→s.heap.IsList t items→i+n≤items.size →
    (∀h',h'.IsListIter it t (i+n)→Heap.SameBut it s.heap h'→Q ((items.toList.drop i).take n) { s with heap:=h' })→wpAny (model prog w) A (draw (.ref it) n) Q E s
  | 0,i,s,Q,hit,_,_,hQ=>by
    show wpAny _ _ (pure []) Q E s
    exact wpAny_pure (by simpa using hQ s.heap hit (Heap.SameBut.refl ..))
  | n+1,i,s,Q,hit,ht,hle,hQ=>by
    have hlt:i<items.size:=by omega
    show wpAny _ _ (pyNext (.ref it) >>= _) Q E s
    refine wpAny_bind (wpAny_pyNext_list_item hit ht (x:=items[i]) (by simp [hlt]) fun h₁ hit₁ hs₁=>?_)
    have ht₁:h₁.IsList t items:=ht.at fun o e=>(hs₁.2 t hne).trans e
    refine wpAny_bind (wpAny_holding (draw_list hne n (i+1) _ _ hit₁ ht₁ (by omega) fun h₂ hit₂ hs₂=>wpAny_pure ?_))
    have hd:items.toList.drop i=items[i]::items.toList.drop (i+1):=by simp [List.drop_eq_getElem_cons,hlt]
    have:=hQ h₂ (by rw[show i+(n+1)=i+1+n by omega];exact hit₂) (hs₁.trans hs₂)
    rw[hd,List.take_succ_cons] at this
    exact this
theorem unpackItems_list {t:Addr}{items:Array Value}{Q:List Value→Shared→Prop} (hh:A.handled=none) (ht:s.heap.IsList t items)
    (hQ:∀h',Heap.ExtBut s.heap.objs.size s.heap h'→Q items.toList { s with heap:=h' }):wpAny (model prog w) A (unpackItems (.ref t) items.size none) Q E s:=by
  have hlt:t≠s.heap.objs.size:=by obtain ⟨o,ho,_⟩:=ht;exact Nat.ne_of_lt (Heap.lt_size ho)
  unfold unpackItems
  refine wpAny_bind ?_
  · unfold notIterableAtAll
    refine wpAny_bind (wpAny_specialOf ht.typeIs PySem.F.slot_list_iter.lookup ?_)
    refine wpAny_pure ?_
    simp only[Bool.false_eq_true,if_false]
    refine wpAny_bind (wpAny_holding (wpAny_pyIter_list ht ?_))
    refine wpAny_bind (wpAny_holding (draw_list hlt items.size 0 _ _ ⟨_,Heap.get?_push_size _ rfl,rfl,rfl⟩ (ht.push _) (by omega) fun h₁ hit₁ hs₁=>?_))
    have hall:List.take items.size (List.drop 0 items.toList)=items.toList:=by
      rw[List.drop_zero];exact List.take_of_length_le (by simp)
    rw[hall]
    rw[if_neg (by simp)]
    have ht₁:h₁.IsList t items:=(ht.push _).at fun o e=>(hs₁.2 t hlt).trans e
    refine wpAny_bind (wpAny_holding (wpAny_pyNext_list_end hh hit₁ ht₁ (by simp) fun h₂ he₂=>?_))
    simp only[Option.isSome_none,Bool.false_eq_true,if_false]
    refine wpAny_pure (hQ h₂ fun b o hb e=>he₂ b o hb ((hs₁.2 b hb).trans (Heap.get?_push_of_some _ e)))
theorem assign_Tuple_list {env:Env}{elts:List Expr}{x1}{pos:Pos}{t:Addr}{items:Array Value}{Q:Unit→Shared→Prop} (hh:A.handled=none) (ht:s.heap.IsList t items)
    (hn:(assignEach elts env).length=items.size) (hstar:(assignEach elts env).findIdx? (·.1)=none)
    (h:∀h',Heap.ExtBut s.heap.objs.size s.heap h'→wpAny (model prog w) A (assignInOrder ((assignEach elts env).map (·.2)) items.toList) Q E { s with heap:=h' }) :
    wpAny (model prog w) A (assign (.Tuple elts x1 pos) env (.ref t)) Q E s:=by
  rw[assign_Tuple]
  refine wpAny_bind (wpAny_standAt ?_)
  unfold unpack
  rw[hn,hstar]
  exact wpAny_bind (wpAny_holding (unpackItems_list hh ht h))
end
section
variable {X:Cx}{K:PySem.W.Frag}
def gLst (K:PySem.W.Frag) (n:Nat) (t:TGs):TG:=fun v σ H Q=>∃a xs,v=.ref a∧SqL K H a xs∧xs.length=n∧t xs σ H Q
theorem pg_lstK {es:List Expr}{k:Nat}{t:TGs}{n:Nat}{pos:Pos} (hK:X.K=K) (hc:X.calm=true) (h:PGs X es t)
    (hn:(assignEach es X.env).length=n:=by rfl) (hst:(assignEach es X.env).findIdx? (·.1)=none:=by rfl):PG X (.Tuple es k pos) (gLst K n t):=by
  subst hK
  intro pins s σ H v u Q I r hw
  obtain ⟨a,xs,e1,hq,hl,hw⟩:=hw
  subst e1
  cases r
  obtain ⟨its,rv,ht,hz⟩:=I.list hq
  refine assign_Tuple_list (I.ok.hd hc) ht.isList (by simp [hn,← hl,rv.length]) hst fun h' hx=>?_
  have I1:Inv X pins σ H { s with heap:=h' }:=I.kept (t':=s.toks) fun b o e=>hx b o (Nat.ne_of_lt (Heap.lt_size e)) e
  exact h pins _ σ H xs _ Q I1 (by simpa using rv) hw
def GSets (k:Nat) (g:TGs):Prop:=∀x σ H Q,g x σ H Q→g x σ H fun σ2 H2=>Q σ2 H2∧σ2.length=σ.length∧∀j,k≤j→σ2[j]?=σ[j]?
theorem GSets.nil {k:Nat}:GSets k gNil:=fun x σ H Q q=>⟨q.1,q.2,rfl,fun _ _=>rfl⟩
end
end L2
set_option Elab.async false
set_option linter.all false
set_option maxRecDepth 100000
set_option maxHeartbeats 4000000
namespace Maj
open L2 (fall fall_perm fall_desc fall_length)
def topk (xs:List Int) (k:Nat):Int:=((fall xs).take k).sum
def above (one other:List Int):List Nat:=(List.range one.length).filter fun p=>decide (topk other (p+1)<topk one (p+1))
end Maj
namespace L3
open PySem
open L2 hiding D Rf Rfs Rp dI dT
section
variable {K:PySem.W.Frag}{ρ:Bool}{Γr Γl Γ Γn:List Nat}{te:TE}{de:DE}
def vgLst (n:Nat) (dg:List D→Dl→(Dl→Prop)→Prop) (x:D) (δ:Dl) (P:Dl→Prop):Prop:=asL x fun ds=>ds.length=n∧dg ds δ P
theorem gt_lst {n:Nat}{g:TGs}{dg:List D→Dl→(Dl→Prop)→Prop} (h:GTs K Γ g dg):GT K Γ (gLst K n g) (vgLst n dg) :=
  ⟨fun x δ P P' k q=>by obtain ⟨ds,e,z⟩:=asL_out q;exact asL_in e ⟨z.1,h.mono _ _ _ _ k z.2⟩,
   fun {B0 fps δ σ H x v fp Q} o r nn q=>by
    obtain ⟨ds,e,z⟩:=asL_out q
    obtain ⟨a,xs,fq,rfl,hs,hr,hin⟩:=r.seq e
    exact⟨a,xs,rfl,hs,hr.length.trans z.1,h.run o hr (fun j hj b hb=>nn j hj b (hin b hb)) z.2⟩⟩
def vPar (i j:Nat) (da:DA) (E:DEnds) (δ:Dl):Prop:=da δ fun xs=>match xs with | [x,y]=>E.nx ((δ.set i (some x)).set j (some y)) | _=>False
end
end L3
set_option Elab.async false
set_option linter.all false
set_option maxRecDepth 100000
set_option maxHeartbeats 4000000
namespace L3
open PySem L2
section
variable {K:PySem.W.Frag}
def asIB (xs:List D) (P:Int→Prop):Prop:=match xs with | [.int j]=>P j | [.bl b]=>P (if b then 1 else 0) | _=>False
theorem asIB_int {i:Int}{P:Int→Prop}:asIB [.int i] P↔P i:=Iff.rfl
theorem asIB_bl {b:Bool}{P:Int→Prop}:asIB [.bl b] P↔P (if b then 1 else 0):=Iff.rfl
def vIntB (xs:List D) (P:DK):Prop:=asIB xs fun i=>P (.int i)
end
end L3
namespace L3
open PySem
open L2 hiding D Rf Rfs Rp dI dT
theorem at_last {ns:List Int} (h:1≤ns.length):atI (ns.map D.int) (-1)=some (.int (ns.getD (ns.length - 1) 0)):=by
  unfold atI
  have:ixN (ns.map D.int).length (-1)=some (ns.length - 1):=by
    unfold ixN
    rw[List.length_map,if_neg (by omega),if_pos (by omega)]
    congr 1;omega
  rw[this]
  show (ns.map D.int)[ns.length - 1]?=_
  rw[List.getElem?_map,List.getD_eq_getElem?_getD,List.getElem?_eq_getElem (by omega)];rfl
theorem asO_lastI {ns:List Int}{P:DK} (h:1≤ns.length) (k:P (.int (ns.getD (ns.length - 1) 0))):asO (atI (ns.map D.int) (-1)) P:=(asO_at (at_last h)).mpr k
end L3
set_option Elab.async false
set_option linter.all false
set_option maxRecDepth 100000
set_option maxHeartbeats 4000000
namespace L3
open PySem L2
structure AOk (K:PySem.W.Frag) (B0:Hp) (Γ:List Nat) (i j m:Nat) (a0:Addr) (fps:Nat→List Addr) (δ:Dl) (σ:St) (H:Hp):Prop where
  ok:Ok K B0 Γ fps (δ.set j none) σ H
  hi:i∈Γ
  hj:j∉Γ
  al:∃ds es xs b,δ[i]?=some (some (.lst ds))∧ds[m]?=some (.lst es)∧δ[j]?=some (some (.lst es))∧σ[i]?=some (some (.ref a0))∧H a0=some (.lst xs)∧xs[m]?=some (.ref b)∧σ[j]?=some (some (.ref b))
section
variable {K:PySem.W.Frag}{ρ:Bool}{Γr Γl Γ:List Nat}{B0:Hp}{i j m:Nat}{a0:Addr}{fps:Nat→List Addr}{δ:Dl}{σ:St}{H H':Hp}{t u:TS}{d e:Nat→DS}{te tx t1:TE}{de dx d1:DE}
theorem AOk.ne (o:AOk K B0 Γ i j m a0 fps δ σ H):i≠j:=fun z=>o.hj (z▸o.hi)
theorem AOk.same (o:AOk K B0 Γ i j m a0 fps δ σ H) (s:Same H H'):AOk K B0 Γ i j m a0 fps δ σ H':=by
  obtain ⟨ds,es,xs,b,h1,h2,h3,h4,h5,h6,h7⟩:=o.al
  exact⟨o.ok.same s,o.hi,o.hj,ds,es,xs,b,h1,h2,h3,h4,s _ _ h5,h6,h7⟩
theorem AOk.rd (o:AOk K B0 Γ i j m a0 fps δ σ H):∃fps',Ok K B0 (minus Γ [i]) fps' δ σ H:=by
  obtain ⟨ds,es,xs,b,h1,h2,h3,h4,h5,h6,h7⟩:=o.al
  have e1:(δ.set j none)[i]?=some (some (.lst ds)):=by rw[List.getElem?_set_ne (Ne.symm o.ne)];exact h1
  obtain ⟨a,xs1,b1,ys,fe,q1,q2,q3,q4,q5,q6,q7,q8,q9,q10,_⟩:=inner_ok (es':=[]) o.ok o.hi e1 h2
  rw[h4] at q1;cases q1
  rw[h5] at q2;cases q2
  rw[h6] at q4;cases q4
  refine⟨fun l=>if l=j then b::fe else fps l,by have:=o.ok.len;simpa using this,o.ok.b0,fun l d e=>?_,fun l h=>?_,fun l hl=>?_,fun l hl k hk a ha=>?_⟩
  · by_cases hl:l=j
    · subst hl
      rw[h3] at e;cases e
      rw[if_pos rfl]
      exact⟨.ref b,h7,b,ys,fe,rfl,q5,rfl,q6⟩
    · rw[if_neg hl]
      exact o.ok.val l d (by rw[List.getElem?_set_ne (Ne.symm hl)];exact e)
  · by_cases hl:l=j
    · subst hl;exact absurd h3 (h _)
    · rw[if_neg hl]
      exact o.ok.non l fun d z=>h d (by rw[List.getElem?_set_ne (Ne.symm hl)] at z;exact z)
  · obtain ⟨g1,g2⟩:=mem_minus.mp hl
    have:l≠j:=fun z=>o.hj (z▸g1)
    rw[if_neg this]
    exact o.ok.own l g1
  · obtain ⟨g1,g2⟩:=mem_minus.mp hl
    have n1:l≠j:=fun z=>o.hj (z▸g1)
    have n2:i≠l:=fun z=>g2 (List.mem_singleton.mpr z.symm)
    rw[if_neg n1] at ha
    by_cases hk2:k=j
    · rw[if_pos hk2]
      intro z
      rcases List.mem_cons.mp z with z | z
      · exact o.ok.dj l g1 i n2 a ha (by rw[z];exact q10)
      · exact o.ok.dj l g1 i n2 a ha (q9 a z)
    · rw[if_neg hk2]
      exact o.ok.dj l g1 k hk a ha
theorem AOk.write (o:AOk K B0 Γ i j m a0 fps δ σ H) {ds es:List D} (h1:δ[i]?=some (some (.lst ds))) (h2:ds[m]?=some (.lst es)) {es':List D} :
    ∃b ys fe,σ[j]?=some (some (.ref b))∧H b=some (.lst ys)∧Rfs K H es ys fe∧fe.Nodup∧b∉fe∧(∀c∈fe,Mu H c)∧∀{ys':List V}{fe':List Addr},Rfs K H es' ys' fe'→fe'.Nodup→(∀c∈fe',c∈fe) →
      ∃fps',AOk K B0 Γ i j m a0 fps' ((δ.set i (some (.lst (ds.set m (.lst es'))))).set j (some (.lst es'))) σ (upd H b (.lst ys')):=by
  obtain ⟨ds0,es0,xs,b,g1,g2,g3,g4,g5,g6,g7⟩:=o.al
  rw[h1] at g1;cases g1
  rw[h2] at g2;cases g2
  have e1:(δ.set j none)[i]?=some (some (.lst ds)):=by rw[List.getElem?_set_ne (Ne.symm o.ne)];exact h1
  obtain ⟨a,xs1,b1,ys,fe,q1,q2,q3,q4,q5,q6,q7,q8,q9,q10,KK⟩:=inner_ok (es':=es') o.ok o.hi e1 h2
  rw[g4] at q1;cases q1
  rw[g5] at q2;cases q2
  rw[g6] at q4;cases q4
  have hab:a0≠b:=fun z=>by
    obtain ⟨a3,xs3,fq3,u1,u2,u3,u4⟩:=o.ok.ownL e1
    rw[g4] at u1;cases u1
    have nd3:=(o.ok.own i o.hi).1
    rw[u3] at nd3
    obtain ⟨b3,_,_,w1,_,_,w4,_⟩:=u4.inner (List.nodup_cons.mp nd3).2 h2
    rw[g5] at u2;cases u2
    rw[g6] at w1;cases w1
    exact (List.nodup_cons.mp nd3).1 (by rw[z];exact w4)
  refine⟨b,ys,fe,g7,q5,q6,q7,q8,fun c hc=>((o.ok.own i o.hi).2 c (q9 c hc)).2,fun {ys' fe'} r nd sub=>?_⟩
  obtain ⟨fps',ok'⟩:=KK r nd (fun z=>q8 (sub b z)) (fun c hc=>((o.ok.own i o.hi).2 c (q9 c (sub c hc))).2) (fun c hc=>.inl (sub c hc))
  have hli:i<δ.length:=(List.getElem?_eq_some_iff.mp h1).1
  have hlj:j<δ.length:=(List.getElem?_eq_some_iff.mp g3).1
  have hlm:m<ds.length:=(List.getElem?_eq_some_iff.mp h2).1
  refine⟨fps',?_,o.hi,o.hj,ds.set m (.lst es'),es',xs,b,?_,?_,?_,g4,by rw[upd_ne hab];exact g5,g6,g7⟩
  · rw[List.set_set,List.set_comm _ _ o.ne];exact ok'
  · rw[List.getElem?_set_ne (Ne.symm o.ne),List.getElem?_set_self hli]
  · rw[List.getElem?_set_self hlm]
  · rw[List.getElem?_set_self (by rw[List.length_set];exact hlj)]
def STA (K:PySem.W.Frag) (i j:Nat) (t:TS) (Γ:List Nat) (d:Nat→DS):Prop :=
  ∀⦃B0:Hp⦄ ⦃Dn:Ends⦄ ⦃E:DEnds⦄ ⦃m:Nat⦄ ⦃a0:Addr⦄ ⦃fps:Nat→List Addr⦄ ⦃δ:Dl⦄ ⦃σ:St⦄ ⦃H:Hp⦄,(∀{fps δ σ H},AOk K B0 Γ i j m a0 fps δ σ H→E.nx δ→Dn.nx σ H)→AOk K B0 Γ i j m a0 fps δ σ H→d m E δ→t Dn σ H
theorem sta_seq (h1:STA K i j t Γ d) (h2:STA K i j u Γ e):STA K i j (tSeq t u) Γ (fun m=>vSeq (d m) (e m)) :=
  fun {B0 Dn E m a0 fps δ σ H} k o h=>h1 (Dn:={ Dn with nx:=u Dn }) (E:={ E with nx:=e m E }) (fun o h=>h2 k o h) o h
theorem sta_set (a:Nat) (he:ER K (minus Γ [i]) te de) (ha:a∉Γ:=by decide) (haj:a≠j:=by decide) (hai:a≠i:=by decide):STA K i j (tAsg te (gName a)) Γ (fun _=>vSet a (vScal de)) :=
  fun {B0 Dn E m a0 fps δ σ H} k o h=>by
    obtain ⟨fps',o'⟩:=o.rd
    refine he.run o' (he.mono _ _ _ (fun x z v H' s r=>?_) h)
    obtain ⟨fp,r⟩:=r
    obtain ⟨_,rfl⟩:=r.scal z.1
    have o2:=(o.ok.setSh a s r (fun _ _ _ w=>(nomatch w))).sub (Γ':=Γ) fun l hl=>mem_minus.mpr ⟨hl,fun q=>ha (by rw[← List.mem_singleton.mp q];exact hl)⟩
    rw[List.set_comm _ _ (Ne.symm haj)] at o2
    obtain ⟨ds,es,xs,b,g1,g2,g3,g4,g5,g6,g7⟩:=o.al
    refine k ⟨o2,o.hi,o.hj,ds,es,xs,b,?_,g2,?_,?_,s _ _ g5,g6,?_⟩ z.2
    · rw[List.getElem?_set_ne hai];exact g1
    · rw[List.getElem?_set_ne haj];exact g3
    · rw[List.getElem?_set_ne hai];exact g4
    · rw[List.getElem?_set_ne haj];exact g7
def vPut (i j:Nat) (de dx:DE) (m:Nat) (E:DEnds) (δ:Dl):Prop:=de δ fun x=>x.scal=true∧dx δ fun k=>asI [k] fun q=>slotL δ i fun ds=>slotL δ j fun es=>match ixN es.length q with
  | some p=>E.nx ((δ.set i (some (.lst (ds.set m (.lst (es.set p x)))))).set j (some (.lst (es.set p x))))
  | none=>False
theorem sta_put (he:ER K (minus Γ [i]) te de) (hx:ER K (minus Γ [i]) tx dx):STA K i j (tAsg te (gSub (tVar j) tx rSetL)) Γ (fun m=>vPut i j de dx m) :=
  fun {B0 Dn E m a0 fps δ σ H} k o h=>by
    obtain ⟨fps',o'⟩:=o.rd
    refine he.run o' (he.mono _ _ _ (fun x z v H1 s1 r=>?_) h)
    obtain ⟨zs,z⟩:=z
    obtain ⟨fp,r⟩:=r
    obtain ⟨_,rfl⟩:=r.scal zs
    obtain ⟨fps2,o2⟩:=(o.same s1).rd
    obtain ⟨ds0,es0,xs,b,g1,g2,g3,g4,g5,g6,g7⟩:=o.al
    refine⟨.ref b,g7,hx.run o2 (hx.mono _ _ _ (fun y z w H2 s2 r2=>?_) z)⟩
    obtain ⟨q,eq,z⟩:=asI1_out z
    subst eq
    obtain ⟨ds,e1,z⟩:=slotL_out z
    obtain ⟨es,e2,z⟩:=slotL_out z
    rw[g1] at e1;cases e1
    rw[g3] at e2;cases e2
    cases ep:ixN es0.length q with
    | none=>rw[ep] at z;exact z.elim
    | some p =>
      rw[ep] at z
      obtain ⟨b',ys,fe,w1,w2,w3,w4,w5,w6,KK⟩:=((o.same s1).same s2).write (es':=es0.set p x) g1 g2
      rw[g7] at w1;cases w1
      obtain ⟨fq',r',nd',k'⟩:=Rfs.set (r.same s2) List.nodup_nil w3 w4 (fun c hc=>(nomatch hc)) (ixN_lt ep)
      obtain ⟨fps3,o3⟩:=KK r' nd' fun c hc=>(k' c hc).elim id fun w=>(nomatch w)
      exact⟨b,ys,q,p,rfl,r2.int,w2,by rw[w3.length];exact ep,k o3 z⟩
def vAlias (i j:Nat) (d1:DE) (d:Nat→DS) (E:DEnds) (δ:Dl):Prop:=slotL δ i fun ds=>d1 δ fun k=>asI [k] fun m=>(0≤m∧j<δ.length)∧asLst (ds[m.toNat]?) fun es =>
  d m.toNat { E with nx:=fun δ'=>E.nx (δ'.set j none) } (δ.set j (some (.lst es)))
theorem st_alias (i j:Nat) (h1:ER K Γ t1 d1) (hb:STA K i j t Γ d) (hi:i∈Γ:=by decide) (hj:j∉Γ:=by decide) (hij:i≠j:=by decide) :
    ST K ρ Γr Γl (tSeq (tAsg (tOp (rIxL K) (tVar i) t1) (gName j)) t) Γ Γ (vAlias i j d1 d):=by
  intro B0 Dn E fps δ σ H k o h
  refine line_get (k:=k) h1 hi hj hij o ?_
  obtain ⟨ds,e,h⟩:=slotL_out h
  refine slotL_in e (h1.mono _ _ _ (fun x z=>?_) h)
  obtain ⟨m,em,z1⟩:=asI1_out z
  subst em
  refine⟨z1.1,?_⟩
  obtain ⟨es,ej,z2⟩:=asLst_out z1.2
  refine asLst_in ej fun a0 b xs σ' H' fps' o' e' ej' g1 g2 g3 g4=>?_
  refine hb (E:={ E with nx:=fun δ'=>E.nx (δ'.set j none) }) (fun ao z=>k.nx ao.ok z) ⟨by rw[List.set_set];exact o',hi,hj,ds,es,xs,b,?_,ej,?_,g1,g2,g3,g4⟩ z2
  · rw[List.getElem?_set_ne (Ne.symm hij)] at e' ⊢;exact e'
  · rw[List.getElem?_set_self z1.1.2]
end
end L3
namespace L3
open PySem
open L2 hiding D Rf Rfs Rp dI dT
section
variable {δ:Dl}{i j:Nat}{t:List (List Int)}{a b v:Int}{d1 de dx:DE}{d:Nat→DS}{E:DEnds}
theorem alias_tab (hs:δ[i]?=some (some (dT t))) (h1:∀R:DK,R (.int a)→d1 δ R) (hj:j<δ.length) (ha:0≤a∧a<t.length)
    (h:d a.toNat { E with nx:=fun δ'=>E.nx (δ'.set j none) } (δ.set j (some (dI (rowAt t a.toNat))))):vAlias i j d1 d E δ:=by
  unfold vAlias
  refine (slotL_s hs).mpr (h1 _ ⟨⟨ha.1,hj⟩,?_⟩)
  exact asLst_in (get_dT (by omega)) h
theorem put_tab {r:List Int}{m:Nat} (hs:δ[i]?=some (some (dT t))) (hr:δ[j]?=some (some (dI r))) (hde:∀R:DK,R (.int v)→de δ R) (hdx:∀R:DK,R (.int b)→dx δ R) (hb:0≤b∧b<r.length)
    (h:E.nx ((δ.set i (some (dT (t.set m (r.set b.toNat v))))).set j (some (dI (r.set b.toNat v))))):vPut i j de dx m E δ:=by
  unfold vPut
  refine hde _ ⟨rfl,hdx _ ((slotL_s hs).mpr ((slotL_s hr).mpr ?_))⟩
  show match ixN (r.map D.int).length b with | some p=>E.nx ((δ.set i (some (.lst ((t.map dI).set m (.lst ((r.map D.int).set p (.int v))))))).set j (some (.lst ((r.map D.int).set p (.int v))))) | none=>False
  rw[ixN_nat hb.1 (by rw[List.length_map];exact hb.2)]
  show E.nx ((δ.set i (some (.lst ((t.map dI).set m (.lst ((r.map D.int).set b.toNat (.int v))))))).set j (some (.lst ((r.map D.int).set b.toNat (.int v)))))
  rw[set_dI,set_dT];exact h
end
end L3
set_option Elab.async false
set_option linter.all false
set_option maxRecDepth 100000
set_option maxHeartbeats 4000000
namespace L3
open PySem L2
def D.flat:D→Bool
  | .tup ds=>ds.all D.scal
  | d=>d.scal
theorem Rf.flat {K:PySem.W.Frag}{H:Hp}{d:D}{v:V}{fp:List Addr} (h:Rf K H d v fp) (s:d.flat=true):fp=[]:=by
  cases d with
  | tup ds =>
    obtain ⟨a,xs,rfl,h2,h3⟩:=h
    exact (h3.scals s).2
  | _=>first | exact (h.scal s).2 | cases s
theorem flat_int {i:Int}:(D.int i).flat=true:=rfl
theorem flat_bl {b:Bool}:(D.bl b).flat=true:=rfl
theorem flat_tup4 {a b c d:Int}:(D.tup [.int a,.int b,.int c,.int d]).flat=true:=rfl
theorem flat_tup3 {a b c:Int}:(D.tup [.int a,.int b,.int c]).flat=true:=rfl
theorem flat_tup2 {a b:Int}:(D.tup [.int a,.int b]).flat=true:=rfl
def vFlat (d:DE) (δ:Dl) (P:DK):Prop:=d δ fun x=>x.flat=true∧P x
theorem ER.flat {K:PySem.W.Frag}{Γ:List Nat}{t:TE}{d:DE} (h:ER K Γ t d):EM K Γ [] t (vFlat d):=⟨fun δ P P' k q=>h.mono _ _ _ (fun x z=>⟨z.1,k x z.2⟩) q,fun o q=>h.run o (h.mono _ _ _ (fun x z v H' s r=>by
  obtain ⟨fp,r⟩:=r
  have e:=r.flat z.1
  subst e
  exact z.2 v H' [] s r Nw.nil) q)⟩
end L3
namespace L3
open PySem
open L2 hiding D Rf Rfs Rp dI dT
theorem asO_cell {t:List (List Int)}{n m:Nat}{a b:Int}{R:DK} (hR:Rect n m t) (ha:0≤a∧a<n) (hb:0≤b∧b<m) (h:R (.int (cellAt t a.toNat b.toNat))):asO (atI (t.map dI) a) fun z=>vIxL z (.int b) R:=by
  have h1:=hR.row (i:=a.toNat) (by omega)
  have hl:=hR.1
  refine asO_rows (by omega) ?_
  rw[vIxL_lst]
  exact asO_ints (by omega) h
theorem cell_set {t:List (List Int)}{n m a b c d:Nat}{v:Int} (hR:Rect n m t) (ha:a<n) (hb:b<m):cellAt (setCell t a b v) c d=if a=c∧b=d then v else cellAt t c d:=by
  have hl:=hR.1
  have hr:=hR.row ha
  unfold setCell cellAt
  by_cases h:a=c
  · subst h
    rw[List.getD_eq_getElem?_getD (l:=t.set a _),List.getElem?_set_self (by omega),Option.getD_some]
    by_cases h2:b=d
    · subst h2
      rw[if_pos ⟨rfl,rfl⟩,List.getD_eq_getElem?_getD,List.getElem?_set_self (by rw[show (t.getD a []).length=m from hr];exact hb),Option.getD_some]
    · rw[if_neg (fun z=>h2 z.2),List.getD_eq_getElem?_getD,List.getElem?_set_ne h2,← List.getD_eq_getElem?_getD]
  · rw[if_neg (fun z=>h z.1),List.getD_eq_getElem?_getD (l:=t.set a _),List.getElem?_set_ne h,← List.getD_eq_getElem?_getD]
def Ones (n m:Nat) (t:List (List Int)):Prop:=Rect n m t∧∀r∈t,∀x∈r,x=0∨x=1
theorem Ones.cell {n m a b:Nat}{t:List (List Int)} (h:Ones n m t) (ha:a<n) (hb:b<m):cellAt t a b=0∨cellAt t a b=1:=by
  have hl:=h.1.1
  have hr:=h.1.row ha
  refine h.2 (rowAt t a) (rowAt_mem (by omega)) _ ?_
  show (rowAt t a).getD b 0∈rowAt t a
  rw[List.getD_eq_getElem?_getD,List.getElem?_eq_getElem (by omega)]
  exact List.getElem_mem _
theorem Ones.set {n m a b:Nat}{t:List (List Int)}{v:Int} (h:Ones n m t) (ha:a<n) (hv:v=0∨v=1):Ones n m (setCell t a b v):=by
  refine⟨h.1.setCell ha,fun r hr x hx=>?_⟩
  have hl:=h.1.1
  rcases List.mem_or_eq_of_mem_set hr with z | z
  · exact h.2 r z x hx
  · rw[z] at hx
    rcases List.mem_or_eq_of_mem_set hx with w | w
    · exact h.2 _ (rowAt_mem (by omega)) x w
    · rw[w];exact hv
def CanSwap (n m:Nat) (t:List (List Int)) (i j k l:Int):Prop:=(0≤i∧i<n)∧(0≤k∧k<n)∧(0≤j∧j<m)∧(0≤l∧l<m)∧cellAt t i.toNat j.toNat=1∧cellAt t i.toNat l.toNat=0∧cellAt t k.toNat j.toNat=0∧cellAt t k.toNat l.toNat=1
instance {n m:Nat}{t:List (List Int)}{i j k l:Int}:Decidable (CanSwap n m t i j k l):=by unfold CanSwap;infer_instance
def swapped (t:List (List Int)) (i j k l:Nat):List (List Int):=setCell (setCell (setCell (setCell t i j 0) i l 1) k j 1) k l 0
theorem swapped_ones {n m i j k l:Nat}{t:List (List Int)} (h:Ones n m t) (hi:i<n) (hk:k<n):Ones n m (swapped t i j k l) :=
  (((h.set hi (.inl rfl)).set hi (.inr rfl)).set hk (.inr rfl)).set hk (.inl rfl)
theorem swapped_cell {n m i j k l a b:Nat}{t:List (List Int)} (h:Rect n m t) (hi:i<n) (hk:k<n) (hj:j<m) (hl:l<m) :
    cellAt (swapped t i j k l) a b=if k=a∧l=b then 0 else if k=a∧j=b then 1 else if i=a∧l=b then 1 else if i=a∧j=b then 0 else cellAt t a b:=by
  unfold swapped
  rw[cell_set (((h.setCell hi).setCell hi).setCell hk) hk hl,cell_set ((h.setCell hi).setCell hi) hk hj,cell_set (h.setCell hi) hi hl,cell_set h hi hj]
end L3
set_option linter.all false
set_option maxRecDepth 100000
namespace L2
open PySem PySem.Spec PyProof.Rows
section
variable {κ:Type} [DecidableEq κ]
def valV (kvs:List (κ × V)) (k:κ):Option V:=(kvs.find? fun kv=>decide (kv.1=k)).map (·.2)
def putK (kvs:List (κ × V)) (k:κ) (v:V):List (κ × V) :=
  if (kvs.any fun kv=>decide (kv.1=k))=true then kvs.map (fun kv=>if kv.1=k then (kv.1,v) else kv) else kvs++[(k,v)]
theorem RelO.getD {o:Option V}{u:Option Value}{d:V}{d':Value} (r:RelO o u) (rd:RelV d d'):RelV (o.getD d) (u.getD d'):=by
  cases o with
  | none=>cases u with
    | none=>exact rd
    | some _=>exact (show False from r).elim
  | some _=>cases u with
    | none=>exact (show False from r).elim
    | some _=>exact r
theorem KV.any {kvs:List (κ × V)}{vs:List (κ × Value)} (r:KV kvs vs) (k:κ):(kvs.any fun kv=>decide (kv.1=k))=vs.any fun kv=>decide (kv.1=k):=by
  unfold KV at r
  induction r with
  | nil=>rfl
  | cons h t ih=>rw[List.any_cons,List.any_cons,ih,h.1]
theorem KV.length {kvs:List (κ × V)}{vs:List (κ × Value)} (r:KV kvs vs):kvs.length=vs.length:=Paired.length r
end
section
variable {P:Program}{w:World}{H:Hp}{h:Heap}{a:Addr}
end
section
variable {X:Cx}{pins:List (Addr × Obj)}{σ:St}{H:Hp}{s:Shared}{a:Addr}{y v:V}{u r:Value}{o:Option V}{A:Around}{E:Value→Shared→Prop}
end
section
variable {X:Cx}{pins:List (Addr × Obj)}{σ:St}{H:Hp}{s:Shared}{a:Addr}{kvs:List (Key × V)}{k:Key}{u:Value}{A:Around}{E:Value→Shared→Prop}
end
section
variable {X:Cx}{o i e value:Expr}{pos pos' tpos:Pos}{td ty tv:TE}
end
section
variable {X:Cx}{pos:Pos}
end
section
variable {X:Cx}{pins:List (Addr × Obj)}{σ:St}{H:Hp}{s:Shared}{a:Addr}{y d:V}{u r:Value}{o:Option V}{A:Around}{E:Value→Shared→Prop}
end
section
variable {X:Cx}{o e f:Expr}{apos cpos:Pos}{td ty tx:TE}
end
section
variable {X:Cx}{pins:List (Addr × Obj)}{σ:St}{H:Hp}{s:Shared}{a:Addr}{kvs:List (Key × V)}{A:Around}{E:Value→Shared→Prop}
end
section
variable {X:Cx}{pins:List (Addr × Obj)}{σ:St}{H:Hp}{s:Shared}{a:Addr}{y:V}{u:Value}{A:Around}{E:Value→Shared→Prop}
end
end L2
set_option Elab.async false
set_option linter.all false
set_option maxRecDepth 100000
set_option maxHeartbeats 4000000
namespace L3
open PySem L2
def ST0 (K:PySem.W.Frag) (t:TS) (Γ Γn:List Nat) (d:DS):Prop :=
  ∀⦃B0:Hp⦄ ⦃Dn:Ends⦄ ⦃E:DEnds⦄ ⦃fps:Nat→List Addr⦄ ⦃δ:Dl⦄ ⦃σ:St⦄ ⦃H:Hp⦄,(∀{fps δ H},Ok K B0 Γn fps δ σ H→E.nx δ→Dn.nx σ H)→Ok K B0 Γ fps δ σ H→d E δ→t Dn σ H
section
variable {K:PySem.W.Frag}{ρ:Bool}{Γr Γl Γ Γ1 Γ2 Γn M:List Nat}{t u:TS}{te ta tb tx t1 t2:TE}{de da db dx d1 d2:DE}{d e:DS}
variable {B0:Hp}{fps:Nat→List Addr}{δ:Dl}{σ:St}{H H':Hp}
theorem ST0.st (h:ST0 K t Γ Γn d):ST K ρ Γr Γl t Γ Γn d:=fun _ _ _ _ _ _ _ k o q=>h (fun o' z=>k.nx o' z) o q
def slotP (δ:Dl) (i:Nat) (P:Addr→D→Prop):Prop:=match δ[i]? with | some (some (.pin a d))=>P a d | _=>False
theorem slotP_out {i:Nat}{P:Addr→D→Prop} (h:slotP δ i P):∃a d,δ[i]?=some (some (.pin a d))∧P a d:=by
  unfold slotP at h;split at h
  · exact⟨_,_,by assumption,h⟩
  · exact h.elim
theorem slotP_in {i:Nat}{P:Addr→D→Prop}{a:Addr}{x:D} (e:δ[i]?=some (some (.pin a x))) (h:P a x):slotP δ i P:=by unfold slotP;rw[e];exact h
theorem Ok.redata (o:Ok K B0 Γ fps δ σ H) {i:Nat}{x y:D} (e:δ[i]?=some (some x)) (h:∀v,σ[i]?=some (some v)→Rf K H x v (fps i)→Rf K H y v (fps i)):Ok K B0 Γ fps (δ.set i (some y)) σ H:=by
  have hl:i<δ.length:=(List.getElem?_eq_some_iff.mp e).1
  refine⟨by rw[List.length_set];exact o.len,o.b0,fun j d q=>?_,fun j q=>?_,o.own,o.dj⟩
  · by_cases hj:j=i
    · subst hj
      rw[List.getElem?_set_self hl] at q;cases q
      obtain ⟨v,h1,h2⟩:=o.val j x e
      exact⟨v,h1,h v h1 h2⟩
    · rw[List.getElem?_set_ne (Ne.symm hj)] at q
      exact o.val j d q
  · by_cases hj:j=i
    · subst hj
      exact absurd (List.getElem?_set_self hl) (q y)
    · exact o.non j fun d z=>q d (by rw[List.getElem?_set_ne (Ne.symm hj)];exact z)
def vPin (i:Nat) (d:DS) (E:DEnds) (δ:Dl):Prop:=slotP δ i fun a x=>d { E with nx:=fun δ'=>vVar i δ' fun x'=>E.nx (δ'.set i (some (.pin a x'))) } (δ.set i (some x))
def vVarP (i:Nat) (δ:Dl) (P:DK):Prop:=slotP δ i fun _ x=>P x
theorem er_varP (i:Nat):ER K Γ (tVar i) (vVarP i):=⟨fun δ P P' k h=>by obtain ⟨a,x,e,z⟩:=slotP_out h;exact slotP_in e (k _ z),fun {B0 fps δ σ H Q} o q=>by
  obtain ⟨a,x,e,q⟩:=slotP_out q
  obtain ⟨v,e1,r⟩:=o.val i _ e
  exact⟨v,e1,q v H (Same.refl H) ⟨_,r.2⟩⟩⟩
def D.isRef:D→Bool | .lst _=>true | .dic _=>true | .pin _ _=>true | .ins _ _ _=>true | _=>false
theorem Rf.isRef {x:D}{v:V}{fp:List Addr} (h:Rf K H x v fp) (e:x.isRef=true):∃a,v=.ref a:=by
  cases x with
  | lst ds=>obtain ⟨a,xs,fq,rfl,_⟩:=h;exact⟨a,rfl⟩
  | dic ds=>obtain ⟨a,rfl,_⟩:=h;exact⟨a,rfl⟩
  | pin a d=>exact⟨a,h.1⟩
  | ins C ns ds=>obtain ⟨a,dx,xs,fq,rfl,_⟩:=h;exact⟨a,rfl⟩
  | _=>cases e
abbrev DSI:=List D→(D→D→Prop)→Prop
def DMonoI (S:DSI):Prop:=∀xs (P P':D→D→Prop),(∀r x,P r x→P' r x)→S xs P→S xs P'
def PostI (K:PySem.W.Frag) (p:Nat) (vs:List V) (B:Hp) (Q:VK) (r x':D):Prop :=
  ∀w H' fp' fpw v,Same B H'→vs[p]?=some v→Rf K H' x' v fp'→fp'.Nodup→(∀b∈fp',B b=none∧Mu H' b)→Rf K H' r w fpw→fpw.Nodup→(∀b∈fpw,B b=none∧Mu H' b∧b∉fp')→Q w H'
def spI (K:PySem.W.Frag) (p:Nat) (S:DSI):Sp:=fun vs H Q _=>∃B fv ds,Ok K B [p] fv (ds.map some) (vs.map some) H∧(∃a,vs[p]?=some (.ref a))∧S ds (PostI K p vs B Q)
theorem spI_len {p:Nat}{S:DSI}{n:Nat} (hS:∀ds P,S ds P→ds.length=n) {vs:List V}{H:Hp}{Q:VK}{E:XK} (h:spI K p S vs H Q E):vs.length=n:=by
  obtain ⟨B,fv,ds,o,_,h⟩:=h
  have:=o.len
  rw[List.length_map,List.length_map] at this
  rw[this];exact hS _ _ h
abbrev endsI (p:Nat) (a:Addr) (P:D→D→Prop):DEnds:=⟨fun δ=>slotP δ p fun a' x=>a'=a∧P .non x,fun r δ=>slotP δ p fun a' x=>a'=a∧P r x,fun _=>False,fun _=>False⟩
theorem startI_ok {p:Nat}{N:List Str}{ds:List D}{vs:List V}{fv:Nat→List Addr}{a:Addr} (o:Ok K B0 [p] fv (ds.map some) (vs.map some) H) (ha:vs[p]?=some (.ref a)) {x:D} (hx:ds[p]?=some x) :
    Ok K B0 [p] fv (startD N (ds.set p (.pin a x))) (L2.start N vs) H:=by
  have hl:vs.length=ds.length:=by have:=o.len;rwa [List.length_map,List.length_map] at this
  have hp:p<ds.length:=(List.getElem?_eq_some_iff.mp hx).1
  have o1:Ok K B0 [p] fv ((ds.map some).set p (some (.pin a x))) (vs.map some) H:=o.redata (x:=x) (by rw[List.getElem?_map,hx];rfl) fun v hv r=>⟨by rw[List.getElem?_map,ha] at hv;cases hv;rfl,r⟩
  have e:(ds.map some).set p (some (.pin a x))=(ds.set p (.pin a x)).map some:=by rw[List.map_set]
  rw[e] at o1
  have hl1:(ds.set p (.pin a x)).length=ds.length:=List.length_set
  generalize ds.set p (.pin a x)=ds1 at *
  unfold startD L2.start
  refine⟨by rw[List.length_append,List.length_append,List.length_map,List.length_map,List.length_replicate,List.length_replicate];omega,o1.b0,fun i d q=>?_,fun i q=>?_,o1.own,o1.dj⟩
  · by_cases hi:i<ds1.length
    · rw[List.getElem?_append_left (by simpa using hi)] at q
      rw[List.getElem?_append_left (by rw[List.length_map];omega)]
      exact o1.val i d q
    · rw[List.getElem?_append_right (by simpa using hi),List.getElem?_replicate] at q
      split at q<;>cases q
  · refine o1.non i fun d z=>q d ?_
    have:i<ds1.length:=by simpa using (List.getElem?_eq_some_iff.mp z).1
    rw[List.getElem?_append_left (by simpa using this)]
    exact z
theorem fn_valI {N:List Str}{p:Nat}{S:DSI} (hs:ST K true [p] [] t [p] Γn d) (hd:∀ds P a x,S ds P→ds[p]?=some x→d (endsI p a P) (startD N (ds.set p (.pin a x)))) (hΓ:p∈Γn:=by decide) (hS:∀ds P,S ds P→p<ds.length) :
    ∀{vs H Q E},spI K p S vs H Q E→t { nx:=fun _ H'=>Q .non H',rt:=Q } (L2.start N vs) H:=by
  rintro vs H Q E ⟨B,fv,ds,o,⟨a,ha⟩,h⟩
  have hlt:=hS _ _ h
  obtain ⟨x,hx⟩:∃x,ds[p]?=some x:=⟨_,List.getElem?_eq_getElem hlt⟩
  have fin:∀{Γ' fps δ σ H' r w fpw},p∈Γ'→Ok K B Γ' fps δ σ H'→Rf K H' r w fpw→fpw.Nodup→(∀b∈fpw,B b=none∧Mu H' b∧b∉fps p)→(slotP δ p fun a' x=>a'=a∧PostI K p vs B Q r x)→Q w H':=by
    intro Γ' fps δ σ H' r w fpw hp o' rr nd fr z
    obtain ⟨a',x',e,ea,z2⟩:=slotP_out z
    subst ea
    obtain ⟨v,h1,h2⟩:=o'.val p _ e
    obtain rfl:v=.ref a':=h2.1
    exact z2 w H' (fps p) fpw (.ref a') o'.b0 ha h2.2 (o'.own p hp).1 (fun b hb=>(o'.own p hp).2 b hb) rr nd fr
  refine hs (E:=endsI p a (PostI K p vs B Q)) ⟨fun o' z=>?_,fun _ (z:False)=>z.elim,fun _ (z:False)=>z.elim,fun o' r i z=>?_⟩ (startI_ok o ha hx) (hd ds _ a x h hx)
  · exact fin (r:=.non) (w:=.non) (fpw:=[]) hΓ o' ⟨rfl,rfl⟩ List.nodup_nil (fun b hb=>(nomatch hb)) z
  · exact fin (List.mem_singleton.mpr rfl) o' r (i rfl).nd (fun b hb=>⟨(i rfl).nw b hb,(i rfl).mu b hb,(i rfl).dj p (List.mem_singleton.mpr rfl) b hb⟩) z
theorem Rfs.split' {H:Hp}:∀{ds:List D}{vs:List V}{fp:List Addr},Rfs K H ds vs fp→∃fps:Nat→List Addr,(∀i d,ds[i]?=some d→∃v,vs[i]?=some v∧Rf K H d v (fps i))∧(∀i,ds.length≤i→fps i=[])∧∀i a,a∈fps i→a∈fp
  | [],vs,fp,h=>⟨fun _=>[],fun i d e=>by simp at e,fun _ _=>rfl,fun _ _ h=>(nomatch h)⟩
  | d::ds,vs,fp,h=>by
    obtain ⟨x,r,f1,f2,rfl,rfl,h1,h2⟩:=h
    obtain ⟨fps,k1,k2,k3⟩:=Rfs.split' h2
    refine⟨fun i=>match i with | 0=>f1 | j+1=>fps j,fun i d' e=>?_,fun i hi=>?_,fun i a hm=>?_⟩
    · cases i with
      | zero=>simp at e;subst e;exact⟨x,rfl,h1⟩
      | succ j=>simpa using k1 j d' (by simpa using e)
    · cases i with
      | zero=>simp at hi
      | succ j=>exact k2 j (by simpa using hi)
    · cases i with
      | zero=>exact List.mem_append_left _ hm
      | succ j=>exact List.mem_append_right _ (k3 j a hm)
structure AI (K:PySem.W.Frag) (Γ:List Nat) (i p:Nat) (t:TA) (d:DA):Prop where
  mono:∀δ (P P':List D→Prop),(∀x,P x→P' x)→d δ P→d δ P'
  run:∀{B0 fps δ σ H Q},Ok K B0 Γ fps δ σ H→d δ (fun xs=>∀vs H' (fv:Nat→List Addr),Same H H'→vs.length=xs.length→(∀l x,xs[l]?=some x→∃v,vs[l]?=some v∧Rf K H' x v (fv l))→(∀l,xs.length≤l→fv l=[])→fv p=fps i→p<xs.length→(∃v,vs[p]?=some v∧σ[i]?=some (some v)) →
    (∀l,l≠p→∀a∈fv l,a∉fps i)→Q vs H')→t σ H Q
structure EX (K:PySem.W.Frag) (Γ:List Nat) (i:Nat) (t:TE) (d:DE):Prop where
  mono:∀δ (P P':DK),(∀x,P x→P' x)→d δ P→d δ P'
  run:∀{B0 fps δ σ H Q},Ok K B0 Γ fps δ σ H→d δ (fun x=>∀v H' fp,Same H H'→Rf K H' x v fp→(∀a∈fp,a∉fps i)→Q v H')→t σ H Q
theorem ex_es {i:Nat} (h:ES K Γ te de) (hi:i∈Γ:=by decide):EX K Γ i te de:=⟨h.mono,fun o q=>h.run o (h.mono _ _ _ (fun x z v H' fp s r n=>z v H' fp s r fun a ha=>n i hi a ha) q)⟩
structure AX (K:PySem.W.Frag) (Γ:List Nat) (i:Nat) (t:TA) (d:DA):Prop where
  mono:∀δ (P P':List D→Prop),(∀x,P x→P' x)→d δ P→d δ P'
  run:∀{B0 fps δ σ H Q},Ok K B0 Γ fps δ σ H→d δ (fun xs=>∀vs H' fp,Same H H'→Rfs K H' xs vs fp→(∀a∈fp,a∉fps i)→Q vs H')→t σ H Q
theorem ax_nil {i:Nat}:AX K Γ i tNil vNil:=⟨fun _ _ _ k h=>k _ h,fun {_ _ _ _ H _} o q=>q [] H [] (Same.refl H) ⟨rfl,rfl⟩ fun _ h=>(nomatch h)⟩
theorem ax_cons {i:Nat}{ta:TA}{da:DA} (he:EX K Γ i te de) (ha:AX K Γ i ta da):AX K Γ i (tCons te ta) (vCons de da) :=
  ⟨fun δ P P' k h=>he.mono _ _ _ (fun x z=>ha.mono _ _ _ (fun xs z=>k _ z) z) h,fun {B0 fps δ σ H Q} o q =>
    he.run o (he.mono _ _ _ (fun x z v H1 fp s1 r n=>ha.run (o.same s1) (ha.mono _ _ _ (fun xs z vs H' fq s2 rs ns=>z (v::vs) H' (fp++fq) (s1.trans s2) ⟨v,vs,fp,fq,rfl,rfl,r.same s2,rs⟩ fun a ha=>(List.mem_append.mp ha).elim (n a) (ns a)) z)) q)⟩
theorem ai_here (i:Nat) {ta:TA}{da:DA} (ha:AX K Γ i ta da):AI K Γ i 0 (tCons (tVar i) ta) (vCons (vVar i) da) :=
  ⟨fun δ P P' k h=>vVar_mono _ _ _ (fun x z=>ha.mono _ _ _ (fun xs z=>k _ z) z) h,fun {B0 fps δ σ H Q} o q=>by
    obtain ⟨x,e,q⟩:=vVar_out q
    obtain ⟨v,h1,h2⟩:=o.val i x e
    refine⟨v,h1,ha.run o (ha.mono _ _ _ (fun xs z vs H' fp s r n=>?_) q)⟩
    obtain ⟨fv,k1,k2,k3⟩:=r.split'
    refine z (v::vs) H' (fun l=>match l with | 0=>fps i | l+1=>fv l) s (by rw[List.length_cons,List.length_cons,r.length]) (fun l y ey=>?_) (fun l hl=>?_) rfl (by rw[List.length_cons];omega) ⟨v,rfl,h1⟩ (fun l hl a hm=>?_)
    · cases l with
      | zero=>simp at ey;subst ey;exact⟨v,rfl,h2.same s⟩
      | succ l=>simpa using k1 l y (by simpa using ey)
    · cases l with
      | zero=>simp at hl
      | succ l=>exact k2 l (by simpa using hl)
    · cases l with
      | zero=>exact absurd rfl hl
      | succ l =>
        exact n a (k3 l a hm)⟩
theorem callI_run {Ex:XK}{i p:Nat}{S:DSI}{ta:TA}{da:DA} (hS:DMonoI S) (ha:AI K Γ i p ta da) (hi:i∈Γ) (o:Ok K B0 Γ fps δ σ H) {Q:VK}
    (h:da δ fun xs=>(∀x,xs[p]?=some x→x.isRef=true)∧S xs fun r x'=>∀w H' fps' fpw,Ok K B0 Γ fps' (δ.set i (some x')) σ H'→Rf K H' r w fpw→fpw.Nodup→(∀b∈fpw,B0 b=none∧Mu H' b∧∀j,b∉fps' j)→Q w H') :
    tCall (spI K p S) [] Ex ta σ H Q:=by
  refine ha.run o (ha.mono _ _ _ (fun xs z vs H1 fv s hl k1 k2 k3 hp hv k4=>?_) h)
  rw[List.append_nil]
  obtain ⟨z1,z2⟩:=z
  obtain ⟨v0,hv1,hv2⟩:=hv
  have o1:=o.same s
  obtain ⟨x,hx⟩:∃x,xs[p]?=some x:=⟨_,List.getElem?_eq_getElem hp⟩
  obtain ⟨v,e1,e2⟩:=k1 p x hx
  rw[hv1] at e1;cases e1
  obtain ⟨a,rfl⟩:=e2.isRef (z1 x hx)
  have hown:=o1.own i hi
  refine⟨fun b=>if b∈fps i then none else H1 b,fv,xs,⟨by rw[List.length_map,List.length_map,hl],fun b u e=>?_,fun l d e=>?_,fun l e=>?_,fun l hl'=>?_,fun l hl' j hj b hb=>?_⟩,⟨a,hv1⟩,hS _ _ _ (fun r x' z=>?_) z2⟩
  · split at e
    · cases e
    · exact e
  · rw[List.getElem?_map] at e
    cases q:xs[l]? with
    | none=>rw[q] at e;cases e
    | some y =>
      rw[q] at e;cases e
      obtain ⟨v,e3,e4⟩:=k1 l d q
      exact⟨v,by rw[List.getElem?_map,e3];rfl,e4⟩
  · by_cases hlt:l<xs.length
    · exact absurd (by rw[List.getElem?_map,List.getElem?_eq_getElem hlt];rfl) (e (xs[l]))
    · exact k2 l (by omega)
  · cases List.mem_singleton.mp hl'
    rw[k3]
    exact⟨hown.1,fun b hb=>⟨if_pos hb,(hown.2 b hb).2⟩⟩
  · cases List.mem_singleton.mp hl'
    rw[k3] at hb
    exact fun w=>k4 j hj b w hb
  · intro w H' fp' fpw v sB hv r' nd mu rr ndw frw
    rw[hv1] at hv;cases hv
    have fresh:∀b,(if b∈fps i then none else H1 b)=none→b∈fps i∨(B0 b=none∧∀j,b∉fps j):=fun b hb=>by
      by_cases q:b∈fps i
      · exact .inl q
      · rw[if_neg q] at hb
        exact .inr ⟨o1.b0.free hb,fun j z=>o1.dom z hb⟩
    have o2:=o1.write hi (fp':=fp') (d':=x') hv2 r' nd (fun b hb=>(mu b hb).2) (fun b hb=>fresh b (mu b hb).1) (fun b u hb e=>sB b u (by show (if b∈fps i then none else H1 b)=some u;rw[if_neg hb];exact e))
    refine z w H' _ fpw o2 rr ndw fun b hb=>⟨?_,(frw b hb).2.1,fun j=>?_⟩
    · rcases fresh b (frw b hb).1 with q | q
      · exact (hown.2 b q).1
      · exact q.1
    · by_cases hj:j=i
      · rw[if_pos hj];exact (frw b hb).2.2
      · rw[if_neg hj]
        rcases fresh b (frw b hb).1 with q | q
        · exact o1.dj i hi j hj b q
        · exact q.2 j
def vCallI (i p:Nat) (S:DSI) (da:DA) (E:DEnds) (δ:Dl):Prop:=da δ fun xs=>(∀x,xs[p]?=some x→x.isRef=true)∧S xs fun _ x'=>E.nx (δ.set i (some x'))
theorem st0_callI {Ex:XK}{S:DSI}{ta:TA}{da:DA} (i p:Nat) (hS:DMonoI S) (ha:AI K Γ i p ta da) (hi:i∈Γ:=by decide):ST0 K (tDrop (tCall (spI K p S) [] Ex ta)) Γ Γ (vCallI i p S da) :=
  fun {B0 Dn E fps δ σ H} k o h=>callI_run hS ha hi o (ha.mono _ _ _ (fun xs z=>⟨z.1,hS _ _ _ (fun r x' z w H' fps' fpw o' _ _ _=>k o' z) z.2⟩) h)
def vSetI (i p j:Nat) (S:DSI) (da:DA) (E:DEnds) (δ:Dl):Prop:=da δ fun xs=>(∀x,xs[p]?=some x→x.isRef=true)∧S xs fun r x'=>E.nx ((δ.set i (some x')).set j (some r))
end
end L3
set_option Elab.async false
set_option linter.all false
set_option maxRecDepth 100000
set_option maxHeartbeats 4000000
namespace L2
open PySem PySem.Spec PyProof.Rows
section
variable {X:Cx}
def rIndex (K:PySem.W.Frag):V→List V→Hp→VK→Prop:=fun x vs H Q=>∃(l:Addr) (xs:List V) (y:V) (j:Nat),x=.ref l∧vs=[y]∧H l=some (.lst xs)∧flatV y=true∧xs.all flatV=true∧(∃z,xs[j]?=some z∧eqV z y=true)∧(∀m z,m<j→xs[m]?=some z→eqV z y=false)∧Q (.int j) H
theorem mt_index:MtM X "list.index" (rIndex X.K):=by
  intro pins s σ H x vs v us Q I rx rv h
  obtain ⟨l,xs,y,j,rfl,rfl,hH,fy,fs,⟨z,hz,ez⟩,hb,q⟩:=h
  cases rx
  obtain ⟨u,rfl,ru⟩:=vals1 rv
  obtain ⟨hs,its,n,r,hl,e⟩:=I.lstM hH
  have hj:j<xs.length:=(List.getElem?_eq_some_iff.mp hz).1
  have key:∀m (hm:m<its.toArray.size) w,xs[m]?=some w→eqU y its.toArray[m]=eqV w y:=fun m hm w hw=>by
    obtain ⟨u',hu',rw'⟩:=r.get hw
    have fw:flatV w=true:=List.all_eq_true.mp fs w (List.mem_of_getElem? hw)
    have:its.toArray[m]=u':=by
      have:=(List.getElem?_eq_some_iff.mp hu').2
      simpa using this
    rw[this]
    exact eqU_of rw' fw
  have hsz:its.toArray.size=xs.length:=by simp [hl]
  refine call_meets F.slot_list_index ⟨_,e,rfl⟩ F.entry_list_index (F.args_list_index_2 _ _) (SeqAt.list_indexAt l its.toArray n none #[] u (eqU y) j (by omega) ?_ ?_ (fun m hm hmj=>?_)) ⟨e,fun w hw=>mem_eqAt ru fy r fs w (by simpa using hw),?_⟩
  · have:sizeLine<2 ^ 63 - 1:=by decide
    omega
  · rw[key j (by omega) z hz];exact ez
  · have hm':m<xs.length:=by omega
    rw[key m hm _ (List.getElem?_eq_getElem hm')]
    exact hb m _ hmj (List.getElem?_eq_getElem hm')
  · exact⟨.int j,H,I.tok _,⟨_,rfl⟩,q⟩
end
end L2
namespace L2
open PySem PySem.Spec PyProof.Rows
section
variable {X:Cx}{K:PySem.W.Frag}
end
end L2
set_option Elab.async false
set_option linter.all false
set_option maxRecDepth 100000
set_option maxHeartbeats 4000000
namespace L2
open PySem PySem.Spec PyProof.Rows
end L2
namespace L3
open PySem L2
section
variable {K:PySem.W.Frag}{ρ:Bool}{Γr Γl Γ Γ1 Γ2 Γn M:List Nat}{t u:TS}{te ta tb td ty tv:TE}{de da db dd dk dv:DE}{d e:DS}
def ofV:V→D | .non=>.non | .bl b=>.bl b | .int i=>.int i | .str x=>.str x | _=>.non
def asDic (x:D) (P:List (Key × V)→Prop):Prop:=match x with | .dic kvs=>P kvs | _=>False
theorem asDic_dic {kvs:List (Key × V)}{P:List (Key × V)→Prop}:asDic (.dic kvs) P↔P kvs:=Iff.rfl
def asV (o:Option V) (P:V→Prop):Prop:=match o with | some v=>P v | none=>False
def vDGet (dd dk:DE) (δ:Dl) (P:DK):Prop:=dd δ fun x=>dk δ fun y=>asI [y] fun n=>asDic x fun kvs=>asV (valV kvs (.inl n)) fun v=>P (ofV v)
def vDIn (neg:Bool) (dk dd:DE) (δ:Dl) (P:DK):Prop:=dk δ fun y=>dd δ fun x=>asI [y] fun n=>asDic x fun kvs=>P (.bl (if neg then !(valV kvs (.inl n)).isSome else (valV kvs (.inl n)).isSome))
def slotD (δ:Dl) (i:Nat) (P:List (Key × V)→Prop):Prop:=vVar i δ fun x=>asDic x P
def vDPut (i:Nat) (dk dv:DE) (E:DEnds) (δ:Dl):Prop:=dv δ fun x=>x.scal=true∧slotD δ i fun kvs=>dk δ fun y=>asI [y] fun n=>kvs.length<1000∧E.nx (δ.set i (some (.dic (putK kvs (.inl n) x.toV))))
def vIndex (da dk:DE) (δ:Dl) (P:DK):Prop:=da δ fun x=>asLst (some x) fun ds=>ds.all D.scal=true∧dk δ fun y=>y.scal=true∧∃j:Nat,(∃z,ds[j]?=some z∧eqV z.toV y.toV=true)∧(∀m z,m<j→ds[m]?=some z→eqV z.toV y.toV=false)∧P (.int j)
theorem em_index (ha:ER K Γ ta da) (hk:ER K Γ ty dk):EM K Γ [] (tBM K "list" (rIndex K) ta (tCons ty tNil)) (vIndex da dk) :=
  ⟨fun δ P P' k h=>ha.mono _ _ _ (fun x z=>by
      obtain ⟨ds,e,z1,z⟩:=asLst_out z
      refine asLst_in e ⟨z1,hk.mono _ _ _ (fun y z=>?_) z⟩
      obtain ⟨z0,j,z2,z3,z4⟩:=z
      exact⟨z0,j,z2,z3,k _ z4⟩) h,
   fun {B0 fps δ σ H Q} o h=>by
    refine ha.run o (ha.mono _ _ _ (fun x z v H1 s1 r1=>?_) h)
    obtain ⟨ds,e,z1,z'⟩:=asLst_out z
    clear z
    cases e
    obtain ⟨fp,a,xs,fq,rfl,hl,_,rs⟩:=r1
    obtain ⟨rfl,_⟩:=rs.scals z1
    refine⟨.inl ⟨rfl,_,.inl (.inl hl)⟩,hk.run (o.same s1) (hk.mono _ _ _ (fun y z w H2 s2 r2=>?_) z')⟩
    obtain ⟨z0,j,⟨u,hu,eu⟩,z3,z4⟩:=z
    obtain ⟨fp2,r2⟩:=r2
    obtain ⟨rfl,_⟩:=r2.scal z0
    refine⟨a,_,_,j,rfl,rfl,s2 _ _ hl,flat_scal z0,?_,⟨u.toV,by rw[List.getElem?_map,hu];rfl,eu⟩,fun m w hm hw=>?_,z4 _ H2 [] (s1.trans s2) ⟨rfl,rfl⟩ Nw.nil⟩
    · rw[List.all_map,List.all_eq_true]
      rw[List.all_eq_true] at z1
      exact fun y hy=>flat_scal (z1 y hy)
    · rw[List.getElem?_map] at hw
      cases q:ds[m]? with
      | none=>rw[q] at hw;cases hw
      | some d=>rw[q] at hw;cases hw;exact z3 m d hm q⟩
def vSort (xs:List D) (P:DK):Prop:=match xs with | [x]=>asNs x fun ns=>ns.length<64∧∀ms:List Int,ms.Perm ns→ms.Pairwise (·≤·)→P (dI ms) | _=>False
theorem vSort_ints {ns:List Int}{P:DK}:vSort [dI ns] P↔ns.length<64∧∀ms:List Int,ms.Perm ns→ms.Pairwise (·≤·)→P (dI ms):=asNs_ints
def slotT (δ:Dl) (i:Nat) (P:List D→Prop):Prop:=match δ[i]? with | some (some (.tup ds))=>P ds | _=>False
def vClearT (i:Nat) (dk:DE) (E:DEnds) (δ:Dl):Prop:=slotT δ i fun ds=>dk δ fun y=>asI [y] fun m=>0≤m∧asLst (ds[m.toNat]?) fun _=>E.nx (δ.set i none)
theorem isRef_lst {ds:List D}:(D.lst ds).isRef=true:=rfl
theorem isRef_dic {ds:List (Key × V)}:(D.dic ds).isRef=true:=rfl
theorem ofV_int {i:Int}:ofV (.int i)=.int i:=rfl
theorem ofV_bl {b:Bool}:ofV (.bl b)=.bl b:=rfl
theorem ofV_non:ofV .non=.non:=rfl
def vLenD (xs:List D) (P:DK):Prop:=match xs with | [.dic kvs]=>P (.int kvs.length) | _=>False
theorem vLenD_dic {kvs:List (Key × V)}{P:DK}:vLenD [.dic kvs] P↔P (.int kvs.length):=Iff.rfl
end
end L3
set_option Elab.async false
set_option linter.all false
set_option maxRecDepth 100000
set_option maxHeartbeats 4000000
namespace Mat
theorem nodup_sub:∀{l l':List Nat},l.Nodup→(∀x∈l,x∈l')→l.length≤l'.length
  | [],_,_,_=>Nat.zero_le _
  | x::l,l',h,s=>by
    obtain ⟨h1,h2⟩:=List.nodup_cons.mp h
    have hx:=s x List.mem_cons_self
    have:=nodup_sub (l':=l'.erase x) h2 fun y hy=>(List.mem_erase_of_ne (fun z=>h1 (by rw[← z];exact hy))).mpr (s y (List.mem_cons_of_mem _ hy))
    rw[List.length_erase_of_mem hx] at this
    have:0<l'.length:=List.length_pos_of_mem hx
    rw[List.length_cons];omega
theorem nodup_lt {l:List Nat}{n:Nat} (h:l.Nodup) (hl:∀x∈l,x<n):l.length≤n:=by
  have:=nodup_sub h (l':=List.range n) fun x hx=>List.mem_range.mpr (hl x hx)
  rwa [List.length_range] at this
def put (src:Nat→Option Nat) (c s:Nat):Nat→Option Nat:=fun d=>if d=c then some s else src d
end Mat
namespace Mat
end Mat
namespace Mat
end Mat
set_option Elab.async false
set_option linter.all false
set_option maxRecDepth 100000
set_option maxHeartbeats 4000000
namespace L2
open PySem PySem.Spec PyProof.Rows
theorem GSets.cons {i k:Nat}{u:TGs} (h:i<k) (hu:GSets k u):GSets k (gCons (gName i) u):=fun x σ H Q ⟨v,r,e,q⟩=>⟨v,r,e,by
  have q2:=hu r (σ.set i (some v)) H Q q
  have e1:(fun (σ2:St) (H2:Hp)=>Q σ2 H2∧σ2.length=(σ.set i (some v)).length∧∀j,k≤j→σ2[j]?=(σ.set i (some v))[j]?)=fun σ2 H2=>Q σ2 H2∧σ2.length=σ.length∧∀j,k≤j→σ2[j]?=σ[j]?:=by
    funext σ2 H2
    refine propext ⟨fun z=>⟨z.1,by rw[z.2.1,List.length_set],fun j hj=>by rw[z.2.2 j hj,List.getElem?_set_ne (by omega)]⟩,fun z=>⟨z.1,by rw[z.2.1,List.length_set],fun j hj=>by rw[z.2.2 j hj,List.getElem?_set_ne (by omega)]⟩⟩
  rw[e1] at q2
  exact q2⟩
theorem GSet.tup {K:PySem.W.Frag}{k n:Nat}{u:TGs} (hu:GSets k u):GSet k (gTup K n u):=fun x σ H Q ⟨a,xs,e,hs,hl,q⟩=>⟨a,xs,e,hs,hl,hu xs σ H Q q⟩
end L2
set_option Elab.async false
set_option linter.all false
set_option maxRecDepth 100000
set_option maxHeartbeats 4000000
namespace L3
open PySem L2
section
variable {K:PySem.W.Frag}{ρ:Bool}{Γr Γl Γ Γ1 Γ2 Γn M:List Nat}{t u:TS}{te ta tb:TE}{de da db:DE}{d e:DS}
def vClearTs (i j:Nat) (k:Nat) (E:DEnds) (δ:Dl):Prop:=slotL δ i fun ds=>j<δ.length∧(∀(m:Nat) (d:D),ds[m]?=some d→∃(es e:List D),d=D.tup es∧es[k]?=some (D.lst e))∧E.nx ((δ.set j none).set i (some (.lst [])))
end
end L3
namespace L3
open PySem L2
end L3
set_option Elab.async false
set_option linter.all false
set_option maxRecDepth 100000
set_option maxHeartbeats 4000000
namespace Bir
section
variable {κ:Type} [DecidableEq κ]
end
def S (m:Nat) (f:Nat→Int):Int:=((List.range m).map f).sum
theorem S_succ {m:Nat}{f:Nat→Int}:S (m+1) f=S m f+f m:=by
  unfold S;rw[List.range_succ,List.map_append,List.sum_append];simp
theorem S_zero {f:Nat→Int}:S 0 f=0:=rfl
theorem S_const {a:Int}:∀{m:Nat},S m (fun _=>a)=(m:Int)*a
  | 0=>by rw[S_zero];simp
  | m+1=>by rw[S_succ,S_const,show ((m+1:Nat):Int)=(m:Int)+1 by omega,Int.add_mul];omega
theorem S_le {f g:Nat→Int}:∀{m:Nat},(∀i,i<m→f i≤g i)→S m f≤S m g
  | 0,_=>Int.le_refl _
  | m+1,h=>by
    rw[S_succ,S_succ]
    have:=S_le (m:=m) fun i hi=>h i (by omega)
    have:=h m (by omega)
    omega
abbrev Cd:=Option (Nat × Nat)
def e (p:List Nat) (i j:Nat):Int:=if p[i]?=some j then 1 else 0
def fn (m r c:Nat):Cd→Int
  | none=>if r=m then (if c=m then 1 - (m:Int) else 1) else (if c=m then 1 else 0)
  | some (i,j)=>if r=m then (if c=m then 1 else if j=c then -1 else 0) else (if c=m then (if i=r then -1 else 0) else if i=r∧j=c then 1 else 0)
end Bir
set_option Elab.async false
set_option linter.all false
set_option maxRecDepth 100000
set_option maxHeartbeats 4000000
namespace Bir
open L3
theorem S_nonneg {f:Nat→Int}{m:Nat} (h:∀i,i<m→0≤f i):0≤S m f:=by
  have:=S_le (f:=fun _=>0) (g:=f) (m:=m) h
  rw[S_const] at this
  omega
end Bir
set_option Elab.async false
set_option linter.all false
set_option maxRecDepth 100000
set_option maxHeartbeats 4000000
namespace L2
open PySem
end L2
namespace L3
open PySem L2
section
variable {K:PySem.W.Frag}{ρ:Bool}{Γr Γl Γ Γ1 Γ2 Γn M:List Nat}{t u:TS}{te ta tb td ty tv ti:TE}{de da db dd dk dv di:DE}{d e:DS}
theorem Rfs.getN {H:Hp}:∀{ds:List D}{vs:List V}{fp:List Addr}{i:Nat}{d:D},Rfs K H ds vs fp→fp.Nodup→ds[i]?=some d→∃v f,vs[i]?=some v∧Rf K H d v f∧(∀a∈f,a∈fp)∧f.Nodup
  | [],_,_,_,_,_,_,e=>by simp at e
  | d::ds,vs,fp,0,d',h,n,e=>by
    obtain ⟨x,r,f1,f2,rfl,rfl,h1,h2⟩:=h
    simp at e;subst e
    exact⟨x,f1,rfl,h1,fun a ha=>List.mem_append_left _ ha,(List.nodup_append.mp n).1⟩
  | d::ds,vs,fp,i+1,d',h,n,e=>by
    obtain ⟨x,r,f1,f2,rfl,rfl,h1,h2⟩:=h
    obtain ⟨v,f,e1,h3,k,n'⟩:=Rfs.getN (i:=i) h2 (List.nodup_append.mp n).2.1 (by simpa using e)
    exact⟨v,f,by simpa using e1,h3,fun a ha=>List.mem_append_right _ (k a ha),n'⟩
def vTupOf (xs:List D) (P:DK):Prop:=match xs with | [x]=>asL x fun ds=>ds.all D.scal=true∧P (.tup ds) | _=>False
theorem vTupOf_lst {ds:List D}{P:DK}:vTupOf [.lst ds] P↔ds.all D.scal=true∧P (.tup ds):=Iff.rfl
def keyT (ns:List Int):List Key:=ns.map fun n=>.inl n
def asTI (x:D) (P:List Int→Prop):Prop:=match x with | .tup ds=>(match toInts ds with | some ns=>P ns | none=>False) | _=>False
theorem asTI_in {ns:List Int}{P:List Int→Prop}:asTI (.tup (ns.map D.int)) P↔P ns:=by
  unfold asTI
  show (match toInts (ns.map D.int) with | some ns=>P ns | none=>False)↔P ns
  rw[toInts_map]
def asDit (x:D) (P:List (List Key × V)→Prop):Prop:=match x with | .dit kvs=>P kvs | _=>False
theorem asDit_dit {kvs:List (List Key × V)}{P:List (List Key × V)→Prop}:asDit (.dit kvs) P↔P kvs:=Iff.rfl
def vDInT (dk dd:DE) (δ:Dl) (P:DK):Prop:=dk δ fun y=>dd δ fun x=>asTI y fun ns=>asDit x fun kvs=>P (.bl (valV kvs (keyT ns)).isSome)
def vDPutT (i:Nat) (dk dv:DE) (E:DEnds) (δ:Dl):Prop:=dv δ fun x=>x.scal=true∧vVar i δ fun d=>asDit d fun kvs=>dk δ fun y=>asTI y fun ns=>kvs.length<1000∧E.nx (δ.set i (some (.dit (putK kvs (keyT ns) x.toV))))
end
end L3
set_option Elab.async false
set_option linter.all false
set_option maxRecDepth 100000
set_option maxHeartbeats 4000000
namespace L3
open PySem L2
section
variable {K:PySem.W.Frag}{Γ:List Nat}
def vTupR (xs:List D) (P:DK):Prop:=match xs with | [x]=>asL x fun ds=>P (.tup ds) | _=>False
theorem vTupR_lst {ds:List D}{P:DK}:vTupR [.lst ds] P↔P (.tup ds):=Iff.rfl
end
end L3
set_option Elab.async false
set_option linter.all false
set_option maxRecDepth 100000
set_option maxHeartbeats 4000000
namespace L3
open PySem L2
section
variable {K:PySem.W.Frag}{ρ:Bool}{Γr Γl Γ:List Nat}
def vClearTL (i j k:Nat) (E:DEnds) (δ:Dl):Prop:=slotT δ i fun es=>j<δ.length∧asLst (es[k]?) fun ds=>(∀d∈ds,∃e,d=D.lst e)∧E.nx ((δ.set j none).set i none)
end
end L3
set_option Elab.async false
set_option linter.all false
set_option maxRecDepth 100000
set_option maxHeartbeats 4000000
namespace L2
open PySem PySem.Spec PyProof.Rows
end L2
namespace L3
open PySem L2
section
variable {K:PySem.W.Frag}{Γ M:List Nat}{t u ta tb:TE}{d e da db:DE}{C:Addr}{ns:List Str}{f:Str}
end
end L3
set_option linter.all false
set_option maxRecDepth 100000
namespace L2
open PySem PySem.Spec PyProof.Rows
theorem ObjOk.there {P:Program}{w:World}{H:Hp}{h:Heap}{a:Addr}{o:HO} (x:ObjOk P w H h a o):∃ob,h.get? a=some ob:=by
  cases o with
  | lst xs=>obtain ⟨_,_,_,_,e⟩:=x;exact⟨_,e⟩
  | tup xs=>obtain ⟨_,_,_,ob,e,_⟩:=x;exact⟨_,e⟩
  | dK kvs=>obtain ⟨_,_,_,_,o,_,_,e,_⟩:=x;exact⟨_,e⟩
  | dT kvs=>obtain ⟨_,_,_,_,o,_,_,e,_⟩:=x;exact⟨_,e⟩
  | set S n=>obtain ⟨o,_,_,_,e,_⟩:=x;exact⟨_,e⟩
  | ins C dx fs=>obtain ⟨_,_,_,e,_⟩:=x;exact⟨_,e⟩
  | own y=>exact x
  | xd fs=>obtain ⟨_,⟨_,_,_,e,_⟩,_⟩:=x;exact⟨_,e⟩
  | rng lo hi=>obtain ⟨_,_,_,e⟩:=x;exact⟨_,e⟩
  | frz ob u=>obtain ⟨e,_⟩:=x;exact⟨_,e⟩
  | tbl ps=>exact⟨_,(show h.get? a=some _ from x)⟩
  | met f y=>exact⟨_,(show h.get? a=some _ from x)⟩
  | ext φ=>obtain ⟨_,e,_⟩:=x;exact e
  | memo φ ks=>obtain ⟨_,_,_,_,_,_,_,e,_⟩:=x;exact⟨_,e⟩
def Fly (h:Heap) (H:Hp) (lo:Heap) (a:Addr) (C:Value):Prop :=
  (H a=none∧lo.get? a=none)∧∃oe vs a0 T oT ts,h.get? a=some oe∧(oe.cls=C∧vs[0]?=some a0)∧oe.data=.fields vs∧vs[1]?=some (.ref T)∧T≠a∧h.get? T=some oT∧oT.data=.fields ts∧ts[3]?=some .none∧H T=none∧lo.get? T=none
def FlyN (h:Heap) (H:Hp) (lo:Heap) (a:Addr) (C:Value):Prop :=
  (H a=none∧lo.get? a=none)∧∃oe vs a0,h.get? a=some oe∧(oe.cls=C∧vs[0]?=some a0)∧oe.data=.fields vs∧vs[1]?=some .none
def CXR (P:Program) (w:World):CXT:=fun outer H s E e s'=>∃(a C:Addr) (H':Hp),e=.ref a∧s'.os=s.os∧AllBare s'.gens∧Un (frs outer) [] H H' s.heap s'.heap∧HOk P w H' s'.heap ∧
  Fly s'.heap H' s.heap a (.ref C)∧E (.ref C) none H'
section
variable {P:Program}{w:World}{K:PySem.W.Frag}{mg:Str→Option Value}{base:Heap}{N:List Str}{qual:Str}{scope:Scope}{f:Addr}{cd:Value}{A:Around}{outer:List Env}{s0:Shared}{H0:Hp}{E:XK}
variable {pins:List (Addr × Obj)}{σ:St}{H':Hp}{s':Shared}{a C:Addr}{h2:Heap}
theorem left_done {as:List Addr}{a0:Value} (J:Inv (cxOf (CXR P w) P w K mg base N qual scope f cd A outer s0 H0 E) pins σ H' s')
    (has:∀b∈as,b∈frs (envOfC qual scope s0.heap.objs.size f cd::outer)∨(H' b=none∧s0.heap.get? b=none))
    (L:Heap.LeftW (PySem.W.hideAll s'.heap as) (envOfC qual scope s0.heap.objs.size f cd::outer) a (.ref C) a0 s'.heap h2) (ha:H' a=none∧s0.heap.get? a=none) (q:E (.ref C) none H') :
    CXR P w outer H0 s0 E (.ref a) { s' with heap:=h2 }:=by
  obtain ⟨k1,k2,k3,k4⟩:=L
  have bs:Un (frs outer) [] H0 H' s0.heap s'.heap:=J.base
  have keepB:∀b o,s'.heap.get? b=some o→b∉as→h2.get? b=some o:=fun b o e n=>k1 b o (PySem.W.hideAll_get _ e n)
  have stf:∀b∈frs (envOfC qual scope s0.heap.objs.size f cd::outer),H' b=none:=J.stkFree
  have sts:∀b∈frs (envOfC qual scope s0.heap.objs.size f cd::outer),b∈s0.heap.objs.size::frs outer:=J.stkSub
  have trk:∀b u,H' b=some u→b∉as:=fun b u e z=>by
    rcases has b z with z | ⟨z,_⟩
    · rw[stf b z] at e;cases e
    · rw[z] at e;cases e
  have nofld:∀b∈frs (envOfC qual scope s0.heap.objs.size f cd::outer),∃o,s'.heap.get? b=some o∧∀vs,o.data≠.fields vs:=fun b hb=>(J.stack.mem hb).2
  refine⟨a,C,H',rfl,J.os,J.bare,⟨fun b o e n hb hx=>?_,fun b o e n hb hx=>?_,bs.free,fun b o e hx=>?_,bs.tups,bs.frzs,bs.tbls⟩,fun c o e=>?_,⟨ha,?_⟩,q⟩
  · refine keepB b o (bs.keep b o e n hb hx) fun z=>?_
    rcases has b z with z | ⟨_,z⟩
    · rcases List.mem_cons.mp (sts b z) with z | z
      · rw[z] at e;exact absurd (Heap.lt_size e) (Nat.lt_irrefl _)
      · exact hb z
    · rw[z] at e;cases e
  · obtain ⟨sl,e1⟩:=bs.slot b o e n hb hx
    obtain ⟨_,o',e',nf⟩:=J.ok.funs.mem hb
    have e':s0.heap.get? b=some o':=e'
    rw[e] at e';cases e'
    obtain ⟨sl2,e2⟩:=k4 b { o with slots:=sl } e1 nf
    exact⟨sl2,e2⟩
  · obtain ⟨o',e1⟩:=bs.there b o e hx
    by_cases z:b∈as
    · rcases has b z with z | ⟨_,z⟩
      · obtain ⟨o2,e2,nf⟩:=nofld b z
        obtain ⟨sl,e3⟩:=k4 b o2 e2 nf
        exact⟨_,e3⟩
      · rw[z] at e;cases e
    · exact⟨o',keepB b o' e1 z⟩
  · refine (J.hok c o e).stay (fun b u hb q=>keepB b u q ?_) (fun _ q=>q) fun _ _ q=>q
    rcases hb with rfl | hb
    · exact trk _ _ e
    · exact trk _ _ hb
  · obtain ⟨oe,vs,T,oT,ts,g1,g2,g3,g4,g5,g6,g7,g8,g9⟩:=k3
    refine⟨oe,vs,a0,T,oT,ts,g1,g2,g3,g4,g6,g7,g8,g9,?_,?_⟩
    · cases r:H' T with
      | none=>rfl
      | some u =>
        obtain ⟨ob,e⟩:=(J.hok T u r).there
        rw[PySem.W.hideAll_get as e (trk T u r)] at g5
        cases g5
    · cases r:s0.heap.get? T with
      | none=>rfl
      | some u =>
        obtain ⟨o',e1⟩:=bs.there T u r (fun z=>(nomatch z))
        by_cases z:T∈as
        · rcases has T z with z | ⟨_,z⟩
          · obtain ⟨_,o2,e2,nf⟩:=k2.mem z
            rw[g7] at e2;cases e2
            exact absurd g8 (nf ts)
          · rw[z] at r;cases r
        · rw[PySem.W.hideAll_get as e1 z] at g5;cases g5
theorem leave_x {H:Hp}{s:Shared} (I:Inv (cxOf (CXR P w) P w K mg base N qual scope f cd A outer s0 H0 E) pins σ H s) (os:s'.os=s.os) (bare:AllBare s'.gens)
    (U:Un (frs (envOfC qual scope s0.heap.objs.size f cd::outer)) [] H H' s.heap s'.heap) (ok:HOk P w H' s'.heap) (fl:FlyN s'.heap H' s.heap a (.ref C)∨Fly s'.heap H' s.heap a (.ref C)) (q:E (.ref C) none H') :
    (cxOf (CXR P w) P w K mg base N qual scope f cd A outer s0 H0 E).xe (.ref a) s':=by
  have J:Inv (cxOf (CXR P w) P w K mg base N qual scope f cd A outer s0 H0 E) pins σ H' s':=I.call' os U ok bare fun b hb=>(nomatch hb)
  have up:∀b,s.heap.get? b=none→s0.heap.get? b=none:=fun b n=>by
    cases r:s0.heap.get? b with
    | none=>rfl
    | some u =>
      obtain ⟨o',e1⟩:=I.base.there b u r (fun z=>(nomatch z))
      rw[n] at e1;cases e1
  have hfr:(A.deeper (envOfC qual scope s0.heap.objs.size f cd)).frames=some (envOfC qual scope s0.heap.objs.size f cd::outer):=J.ok.frames
  have hst:s'.heap.FunFrames base (envOfC qual scope s0.heap.objs.size f cd::outer):=J.stack
  have hin:∀env∈(envOfC qual scope s0.heap.objs.size f cd::outer),∀b,env.frame=some b→b∈frs (envOfC qual scope s0.heap.objs.size f cd::outer):=fun env he b hb=>List.mem_filterMap.mpr ⟨env,he,hb⟩
  show wpAny _ _ _ _ _ _
  rcases fl with ⟨⟨na,fa⟩,oe,vs,a0,ge,⟨gc,g0⟩,gd,g1⟩ | ⟨⟨na,fa⟩,oe,vs,a0,T,oT,ts,ge,gc,gd,g1,g2,g3,g4,g5,nT,fT⟩
  · refine wpAny_leaving_firstW (base:=PySem.W.hideAll s'.heap (a::frs (envOfC qual scope s0.heap.objs.size f cd::outer))) hfr
      (PySem.W.funFrames_hide hst fun env he b hb=>List.mem_cons_of_mem _ (hin env he b hb)) rfl ge (fun b o e=>PySem.W.of_hideAll _ e) (PySem.W.hideAll_none _ (List.mem_cons_self ..)) gd g1 g0 fun h2 L=>?_
    rw[gc] at L
    refine left_done J (fun b hb=>?_) L ⟨na,up a fa⟩ q
    rcases List.mem_cons.mp hb with rfl | hb
    · exact .inr ⟨na,up _ fa⟩
    · exact .inl hb
  · refine wpAny_leaving_nextW (a0:=a0) (base:=PySem.W.hideAll s'.heap (a::T::frs (envOfC qual scope s0.heap.objs.size f cd::outer))) (cls:=.ref C) hfr
      (PySem.W.funFrames_hide hst fun env he b hb=>List.mem_cons_of_mem _ (List.mem_cons_of_mem _ (hin env he b hb))) rfl
      ⟨oe,vs,T,oT,ts,ge,gc,gd,g1,PySem.W.hideAll_none _ (List.mem_cons_of_mem _ (List.mem_cons_self ..)),g2,g3,g4,g5⟩ (fun b o e=>PySem.W.of_hideAll _ e) (PySem.W.hideAll_none _ (List.mem_cons_self ..)) fun h2 L=>?_
    refine left_done J (fun b hb=>?_) L ⟨na,up a fa⟩ q
    rcases List.mem_cons.mp hb with rfl | hb
    · exact .inr ⟨na,up _ fa⟩
    · rcases List.mem_cons.mp hb with rfl | hb
      · exact .inr ⟨nT,up _ fT⟩
      · exact .inl hb
theorem pass_x:Passes (CXR P w) (cxOf (CXR P w) P w K mg base N qual scope f cd A outer s0 H0 E) E:=fun pins σ H s e s' I h=>by
  obtain ⟨a,C,H',rfl,os,bare,U,ok,fl,q⟩:=h
  exact leave_x I os bare U ok (.inr fl) q
end
def tRaise (C:Addr) (E:XK) (ta:TA):TS:=fun _ σ H=>ta σ H fun vs H1=>vs.length≤1000∧E (.ref C) none H1
def Raises (X:Cx) (C:Addr) (E:XK):Prop:=∀(pins:List (Addr × Obj)) (σ:St) (H:Hp) (s:Shared) (h':Heap) (a:Addr) (us:List Value),Inv X pins σ H s→Heap.MadeExcOf s.heap h' a (.ref C) us→E (.ref C) none H→X.xe (.ref a) { s with heap:=h' }
theorem raise_x {P:Program}{w:World}{K:PySem.W.Frag}{mg:Str→Option Value}{base:Heap}{N:List Str}{qual:Str}{scope:Scope}{f:Addr}{cd:Value}{A:Around}{outer:List Env}{s0:Shared}{H0:Hp}{E:XK}{C:Addr} :
    Raises (cxOf (CXR P w) P w K mg base N qual scope f cd A outer s0 H0 E) C E:=fun pins σ H s h' a us I hx q=>by
  obtain ⟨t,ht,_,_⟩:=hx.there
  refine leave_x (s':={ s with heap:=h' }) I rfl I.bare (Un.kept hx.keeps) (I.hok.kept hx.keeps) (.inl ⟨⟨?_,hx.new⟩,_,_,_,ht,⟨rfl,rfl⟩,rfl,rfl⟩) q
  cases r:H a with
  | none=>rfl
  | some u =>
    obtain ⟨ob,e⟩:=(I.hok a u r).there
    rw[hx.new] at e;cases e
section
variable {X:Cx}{x:Str}{C:Addr}{bmB:List Value}{B newId initId:String}{E:XK}{e:Expr}{es:List Expr}{ta:TA}{np cpos pos:Pos}
theorem ps_raise (O:OwnCls x C bmB newId X.mg X.base) (FB:ExcBaseFacts B newId initId bmB) (hc:X.calm=true) (hg:Gl X x) (hxe:Raises X C E) (ha:PA X (e::es) ta) (hdb:(x == ("__debug__" : Str))=false:=by decide)
    (he:starEach (e::es) X.env=(false,eval e X.env)::starEach es X.env:=by rfl) (hpl:(backTo cpos (starEach es X.env)).any (·.1)=false:=by rfl) :
    PS X (.Raise (some (.Call (.Name x np) (e::es) [] cpos)) none pos) (tRaise C E ta):=by
  intro pins s σ H D I h
  obtain ⟨tl,N,nm,q,bs,hdct,sn,sub,ab,col,dd,k0,k1,k2,k3,k5,mN,hC,hN,hni,T⟩:=O.obj
  refine wpAny_Raise_call_subT (C:=C) (nm:=nm) (q:=q) (N:=N) (bs:=bs) (bm:=tl) (hdct:=hdct) (sn:=sn) (sub:=sub) (ab:=ab) (col:=col) (dd:=dd) (k0:=k0) (k1:=k1) (k2:=k2) (k3:=k3) (k5:=k5)
    FB (mN:=mN) (T.hasType FB.hasBase) (I.ok.hd hc) (by rw[he];show (false || (backTo cpos (starEach es X.env)).any (·.1))=false;rw[hpl];rfl) hni (ld_glob I hg O.bound ⟨rfl,?_⟩ hdb)
  have h1:=ha cpos pins s σ H _ I h
  rw[he] at h1 ⊢
  refine Calls.evalArgs_plain (thn h1 fun us s1 ⟨vs,H1,I1,r,q1,q2⟩=>?_)
  exact⟨rfl,by show us.length≤_;rw[← r.length];exact Nat.le_of_lt (small1000 q1),I1.bk _ _ hC,hN.keeps I1.bk,T.keeps I1.bk,fun h' a hx=>hxe pins σ H1 s1 h' a us I1 hx q2⟩
end
end L2
set_option linter.all false
set_option maxRecDepth 100000
namespace L2
open PySem PySem.Spec PyProof.Rows
abbrev VB:List Value:=[.type "ValueError",.type "Exception",.type "BaseException",.type "object"]
def ExcObj (h:Heap) (C:Addr) (ups:List Addr):Prop:=∃N nm q bs hdct sn sub ab col dd k0 k1 k2 k3 k5 mN,
  h.get? C=some (excClassObj nm q C N bs (ups.map Value.ref++VB) hdct sn sub ab col dd k0 k1 k2 k3 k5 "ValueError.__new__")∧h.Ns N mN∧mN "__init__" = none∧OwnTail h VB (ups.map Value.ref++VB)
theorem ExcObj.keeps {h h':Heap}{C:Addr}{ups:List Addr} (O:ExcObj h C ups) (hk:∀b o,h.get? b=some o→h'.get? b=some o):ExcObj h' C ups :=
  let ⟨N,nm,q,bs,hdct,sn,sub,ab,col,dd,k0,k1,k2,k3,k5,mN,hC,hN,hni,T⟩:=O
  ⟨N,nm,q,bs,hdct,sn,sub,ab,col,dd,k0,k1,k2,k3,k5,mN,hk _ _ hC,hN.keeps hk,hni,T.keeps hk⟩
theorem ExcObj.own {h:Heap}{C:Addr}{ups:List Addr}{mg:Str→Option Value}{x:Str} (O:ExcObj h C ups) (hm:mg x=some (.ref C)):OwnCls x C VB "ValueError.__new__" mg h :=
  let ⟨N,nm,q,bs,hdct,sn,sub,ab,col,dd,k0,k1,k2,k3,k5,mN,hC,hN,hni,T⟩:=O
  ⟨hm,_,N,nm,q,bs,hdct,sn,sub,ab,col,dd,k0,k1,k2,k3,k5,mN,hC,hN,hni,T⟩
theorem excMatches_own {M:Model}{A:Around}{E:Value→Shared→Prop}{s:Shared}{C D e:Addr}{ups upD:List Addr}{oe:Obj}{Q:Bool→Shared→Prop} (OC:ExcObj s.heap C ups) (OD:ExcObj s.heap D upD)
    (he:s.heap.get? e=some oe) (hcls:oe.cls=.ref C) (hb:(C::ups).contains D=true) (hq:Q true s):wpAny M A (excMatches (.ref e) (.ref D)) Q E s:=by
  obtain ⟨h,g,d,t,os⟩:=s
  obtain ⟨N,nm,q,bs,hdct,sn,sub,ab,col,dd,k0,k1,k2,k3,k5,mN,hC,hN,hni,T⟩:=OC
  obtain ⟨N',nm',q',bs',hdct',sn',sub',ab',col',dd',l0,l1,l2,l3,l5,mN',hD,hN',hni',T'⟩:=OD
  have hcB:(Value.ref D::(upD.map Value.ref++VB)).contains (.type "BaseException")=true:=by
    rw[List.contains_cons,T'.hasType (b:=true) rfl,Bool.or_true]
  have hcC:(Value.ref C::(ups.map Value.ref++VB)).contains (.ref D)=true:=by
    rw[List.contains_iff_mem] at hb ⊢
    rcases List.mem_cons.mp hb with rfl | hb
    · exact List.mem_cons_self ..
    · exact List.mem_cons_of_mem _ (List.mem_append_left _ (List.mem_map_of_mem hb))
  have f:=tc_notTuple
  unfold excMatches
  repeat (first | (with_reducible refine wpAny_loadPart_at he ?_;rw[hcls]) | with_reducible refine wpAny_loadPart_at hD ?_ | (with_reducible refine wpAny_isSubtype_exc hD ?_;rw[hcB]) | (with_reducible refine wpAny_isSubtype_exc hC ?_;rw[hcC]) | wp_step)
  exact hq
section
variable {X:Cx}{pins:List (Addr × Obj)}{σ:St}{H H':Hp}{s s':Shared}{a C:Addr}{a0:Value}{h:Heap}
theorem inv_flying {T:Addr} (I:Inv X pins σ H s) (os:s'.os=s.os) (bare:AllBare s'.gens) (U:Un (frs X.stack) [] H H' s.heap s'.heap) (ok:HOk X.prog X.w H' s'.heap)
    (na:H' a=none) (fa:s.heap.get? a=none) (nT:H' T=none) (fT:s.heap.get? T=none)
    (hfl:Heap.FlyingW (PySem.W.hideAll s'.heap (a::T::frs X.stack)) X.stack a (.ref C) a0 h) (hup:s'.heap.UpToSlots h) :
    ∃oe,Inv X ((a,oe)::pins) σ H' { s' with heap:=h }∧oe.cls=.ref C∧h.get? a=some oe:=by
  obtain ⟨k1,k2,k3,oe,vs,T',oT,ts,g1,⟨g2,_⟩,g3,_⟩:=hfl
  have keepB:∀b o,s'.heap.get? b=some o→b≠a→b≠T→b∉frs X.stack→h.get? b=some o:=fun b o e n1 n2 n3=>k1 b o (PySem.W.hideAll_get _ e fun z=>by
    rcases List.mem_cons.mp z with z | z
    · exact n1 z
    · rcases List.mem_cons.mp z with z | z
      · exact n2 z
      · exact n3 z)
  have old:∀b o,s.heap.get? b=some o→b≠a∧b≠T:=fun b o e=>⟨fun z=>(by rw[z,fa] at e;cases e),fun z=>(by rw[z,fT] at e;cases e)⟩
  have J:Inv X pins σ H' s':=I.call' os U ok bare fun b hb=>(nomatch hb)
  have un:Un (frs X.stack) [] H H' s.heap h:=by
    refine⟨fun b o e n hb hx=>keepB b o (U.keep b o e n hb hx) (old b o e).1 (old b o e).2 hb,fun b o e n hb hx=>?_,U.free,fun b o e hx=>?_,U.tups,U.frzs,U.tbls⟩
    · obtain ⟨sl,e1⟩:=U.slot b o e n hb hx
      obtain ⟨_,o',e',nf⟩:=I.stack.mem hb
      rw[e] at e';cases e'
      obtain ⟨sl2,e2⟩:=hup b { o with slots:=sl } e1 nf
      exact⟨sl2,e2⟩
    · obtain ⟨o',e1⟩:=U.there b o e hx
      by_cases z:b∈frs X.stack
      · obtain ⟨_,o2,e2,nf⟩:=J.stack.mem z
        obtain ⟨sl,e3⟩:=hup b o2 e2 nf
        exact⟨_,e3⟩
      · exact⟨o',keepB b o' e1 (old b o e).1 (old b o e).2 z⟩
  have trk:∀b u,H' b=some u→b≠a∧b≠T∧b∉frs X.stack:=fun b u e=>⟨fun z=>(by rw[z,na] at e;cases e),fun z=>(by rw[z,nT] at e;cases e),fun z=>(by rw[J.stkFree b z] at e;cases e)⟩
  have ok':HOk X.prog X.w H' h:=fun c o e=>(ok c o e).stay (fun b u hb q=>by
    have t:b≠a∧b≠T∧b∉frs X.stack:=by
      rcases hb with rfl | hb
      · exact trk _ _ e
      · exact trk _ _ hb
    exact keepB b u q t.1 t.2.1 t.2.2) (fun _ q=>q) fun _ _ q=>q
  have J6:Inv X pins σ H' { s' with heap:=h }:=I.call' (s':={ s' with heap:=h }) os un ok' bare fun b hb=>(nomatch hb)
  refine⟨oe,J6.pins_of fun p hp=>?_,g2,g1⟩
  rcases List.mem_cons.mp hp with rfl | hp
  · refine⟨g1,na,fun z=>?_,fun z=>?_,fun v z=>by rw[g3] at z;cases z⟩
    · obtain ⟨m,⟨o,_,_,e,_⟩,_⟩:=I.loc
      have z:a=X.env.locals:=z
      rw[← z,fa] at e;cases e
    · have z:a∈frs X.stack:=by
        rcases I.ok.stk with e | ⟨e,_⟩
        · rw[e];exact z
        · rw[e];unfold frs;rw[List.filterMap_cons]
          split
          · exact z
          · exact List.mem_cons_of_mem _ z
      obtain ⟨_,o,e,_⟩:=I.stack.mem z
      rw[fa] at e;cases e
  · exact J6.pin p (List.mem_append_right _ hp)
end
end L2
set_option linter.all false
set_option maxRecDepth 100000
namespace L2
open PySem PySem.Spec PyProof.Rows
abbrev Cx.held (X:Cx) (a:Addr) (oe:Obj):Cx:={ X with A:=X.A.mark (some (.ref a)),calm:=false,pn:=(a,oe)::X.pn,xe:=fun _ _=>False }
section
variable {X:Cx}{pins:List (Addr × Obj)}{σ:St}{H:Hp}{s:Shared}{a:Addr}{oe:Obj}
theorem mark_frames {A:Around}{u:Option Value}:(A.mark u).frames=A.frames:=by cases A;rfl
theorem Cx.Ok.held (ok:X.Ok):(X.held a oe).Ok :=
  ⟨ok.mod,ok.kind,ok.glob,ok.blt,ok.above,ok.inj,ok.has,ok.cab,(fun z=>absurd z (by show ¬ (false=true);decide)),mark_frames.trans ok.frames,ok.stk,ok.exf,ok.bs,ok.bsz,ok.noex,ok.exfs,ok.funs,ok.frf⟩
theorem Inv.held (I:Inv X ((a,oe)::pins) σ H s):Inv (X.held a oe) pins σ H s :=
  ⟨I.ok.held,I.os,I.bare,I.base,I.loc,I.cell,I.free,I.freeC,fun p hp=>I.pin p (by
    have hp:p∈((a,oe)::X.pn)++pins:=hp
    simp only[List.cons_append,List.mem_cons,List.mem_append] at hp ⊢
    rcases hp with h | h | h
    · exact .inr (.inl h)
    · exact .inl h
    · exact .inr (.inr h)),I.hok,I.len⟩
theorem Inv.unheld (ok:X.Ok) (I:Inv (X.held a oe) pins σ H s):Inv X pins σ H s :=
  ⟨ok,I.os,I.bare,I.base,I.loc,I.cell,I.free,I.freeC,fun p hp=>I.pin p (List.mem_cons_of_mem _ hp),I.hok,I.len⟩
theorem goes_ok {M:Model}{A:Around}{E:Value→Shared→Prop}{i:Nat}{n:Str}{pos:Pos}{Q:Unit→Shared→Prop} (I:Inv X pins σ H s) (hN:X.N.Nodup) (hi:X.N[i]?=some n) (hk:X.env.scope.names.lookup n=some .local)
    (h:∀s',Inv X pins (σ.set i none) H s'→Q () s'):wpAny M A (do bindName X.env n .none;unbindBehindTheSuite X.env n pos) Q E s:=by
  obtain ⟨m,hn,hl⟩:=id I.loc
  have hcls:(X.env.scope.kind == .class || (X.env.scope.kind == .module && X.env.locals != X.env.globals))=false:=by rw[I.ok.kind];rfl
  have hiσ:i<σ.length:=by rw[I.len];exact (List.getElem?_eq_some_iff.mp hi).1
  have cne:=I.cne
  have tracked:∀{a:Addr}{h':Heap},(∃o,s.heap.get? a=some o∧H a=none)→Heap.SameBut a s.heap h'→HOk X.prog X.w H h':=fun {a h'} ha hs b ob e=>by
    obtain ⟨_,_,hfree⟩:=ha
    refine (I.hok b ob e).stay (fun c w' hc q=>(hs.2 c ?_).trans q) (fun _ q=>q) fun _ _ q=>q
    rintro rfl
    rcases hc with rfl | hc
    · rw[hfree] at e;cases e
    · rw[hfree] at hc;cases hc
  refine wpAny_nameGoes_keeps hk hn hcls fun h' v hn' hs=>?_
  obtain ⟨oL,_,_,hoL,_⟩:=id hn
  refine h _ ⟨I.ok,I.os,I.bare,⟨fun b o e n hb hx=>?_,fun b o e n hb hx=>?_,I.base.free,fun b o e hx=>?_,I.base.tups,I.base.frzs,I.base.tbls⟩,⟨_,hn',fun j y v' e1 e2 e3=>?_⟩,fun y c e=>?_,I.free,I.freeC,fun p hp=>?_,tracked ⟨oL,hoL,I.free⟩ hs,by simpa using I.len⟩
  · exact (hs.2 b (Nat.ne_of_lt (Nat.lt_of_lt_of_le (Heap.lt_size e) I.ok.above))).trans (I.base.keep b o e n hb hx)
  · obtain ⟨sl,e1⟩:=I.base.slot b o e n hb hx
    exact⟨sl,(hs.2 b (Nat.ne_of_lt (Nat.lt_of_lt_of_le (Heap.lt_size e) I.ok.above))).trans e1⟩
  · obtain ⟨o',e1⟩:=I.base.there b o e hx
    exact⟨o',(hs.2 b (Nat.ne_of_lt (Nat.lt_of_lt_of_le (Heap.lt_size e) I.ok.above))).trans e1⟩
  · by_cases hj:j=i
    · subst hj
      rw[List.getElem?_set_self hiσ] at e2
      cases e2
    · rw[List.getElem?_set_ne (Ne.symm hj)] at e2
      obtain ⟨u',r',q⟩:=hl j y v' e1 e2 e3
      refine⟨u',r',?_⟩
      rcases q with ⟨k,e⟩ | ⟨k,c,e,z⟩
      · refine .inl ⟨k,?_⟩
        have:y≠n:=fun e=>hj (nodup_ix hN e1 (e▸hi))
        simp [this,e]
      · exact .inr ⟨k,c,e,z.sameBut hs (cne y c e)⟩
  · obtain ⟨w',z⟩:=I.cell y c e
    exact⟨w',z.sameBut hs (cne y c e)⟩
  · obtain ⟨e,n,ne,nf,d⟩:=I.pin p hp
    exact⟨(hs.2 p.1 ne).trans e,n,ne,nf,d⟩
end
section
variable {X:Cx}{CX:CXT}{k:Nat}{f C D:Addr}{fd:FuncData}{ps:List Str}{sp:Sp}{E:XK}{x y n:Str}{p np cp ep hp pos:Pos}{e:Expr}{es:List Expr}{ta:TA}{b₀:Stmt}{suite:List Stmt}{i:Nat}{ups upD:List Addr}
theorem run_fnX {XE:Value→Shared→Prop}{pins:List (Addr × Obj)}{σ:St}{H:Hp}{s:Shared}{Q:VK}{us:List Value}{vs:List V} (F:FnOk X.prog X.w X.K X.mg X.base CX k f fd ps sp) (hr:Room k X.A) (hb:Binds X.K fd ps [])
    (I:Inv X pins σ H s) (r:Vals vs us) (h:sp vs H Q E) (hx:∀e s',CX X.stack H s E e s'→XE e s'):wpAny (model X.prog X.w) X.A (call (.ref f) us) (EP X pins σ Q) XE s:=by
  have hl:(us++[]).length=ps.length:=by rw[List.append_nil,← r.length];exact F.len _ _ _ _ h
  have hb':=hb s us I.kIn hl
  rw[List.append_nil] at hb'
  refine wpAny_call (codeAny_mono (F.run X.A X.stack s H ⟨us,[]⟩ us vs Q E hr I.env0 hb' r h) fun r s' hq=>?_)
  cases r with
  | error e=>exact hx e s' hq
  | ok fl =>
    cases fl with
    | ret u=>exact I.after hq
    | next=>exact False.elim hq
    | brk=>exact False.elim hq
    | cont=>exact False.elim hq
def tTry (i:Nat) (C:Addr) (sp:Sp) (ta:TA) (th:Addr→TS):TS:=fun Dn σ H=>ta σ H fun vs H1=>sp vs H1 (fun _ H2=>Dn.nx σ H2) fun cls _ H2=>cls=.ref C∧∀a,H2 a=none →
  th a { nx:=fun σ' H'=>Dn.nx (σ'.set i none) H',rt:=fun _ _=>False } (σ.set i (some (.ref a))) H2
theorem ps_try {th:Addr→TS} (hst:X.stack=X.env::X.outer) (hfm:X.env.frame=some X.env.locals) (F:FnOk X.prog X.w X.K X.mg X.base (CXR X.prog X.w) k f fd ps sp) (hr:Room k X.A) (hgf:Gl X y) (hmf:X.mg y=some (.ref f))
    (hkf:PySem.W.keepIn X.K (.ref f)=true) (hb:Binds X.K fd ps []) (ha:PA X.nox (e::es) ta) (OC:ExcObj X.base C ups) (OD:ExcObj X.base D upD) (hmD:X.mg x=some (.ref D)) (hgx:Gl X x) (hcon:(C::ups).contains D=true)
    (hN:X.N.Nodup) (hi:X.N[i]?=some n) (hln:X.env.scope.names.lookup n=some .local) (hs:∀a oe,oe.cls=.ref C→PSs (X.held a oe) (b₀::suite) (th a))
    (hdx:(x == ("__debug__" : Str))=false:=by decide) (hdy:(y == ("__debug__" : Str))=false:=by decide) (he:starEach (e::es) X.env=(false,eval e X.env)::starEach es X.env:=by rfl) (hpl:(backTo cp (starEach es X.env)).any (·.1)=false:=by rfl)
    (hsw:swapsWith (.Call (.Name y p) (e::es) [] cp) none ep.line X.env=pure false:=by rfl) :
    PS X (.Try [.Expr (.Call (.Name y p) (e::es) [] cp) ep] [.ExceptHandler (some (.Name x np)) (some n) (b₀::suite) hp] [] [] pos) (tTry i C sp ta th):=by
  intro pins s σ H Dn I h
  refine wpAny_Try_except (wpAny_execs_cons (wpAny_Expr_any ?_ I.quiet hsw))
  refine wpAny_Call_Name_kw (ld_glob I hgf hmf ?_ hdy)
  refine PySem.W.callWith_K (h₀:=X.base) I.ok.mod.kin hkf (wpAny_mono (ha cp pins s σ H _ (I.wish _) h) (fun us s1 q1=>?_) fun _ _ z=>z.elim) he hpl
  obtain ⟨vs,H1,I1,r,q⟩:=q1
  have I1:Inv X pins σ H1 s1:=I1.unwish
  refine⟨I1.kIn,wpAny_mono (run_fnX (XE:=fun ev s'=>CXR X.prog X.w X.stack H1 s1 _ ev s') F hr hb I1 r q fun _ _ z=>z) (fun u s2 z=>?_) fun ev s' z=>?_⟩
  · obtain ⟨v,H2,I2,_,q2⟩:=z
    exact wpAny_execs_nil (wpAny_execs_nil ⟨σ,H2,I2,q2⟩)
  obtain ⟨a,C',H',rfl,os,bare,U,ok,fl,qC,q⟩:=z
  cases qC
  obtain ⟨⟨na,fa⟩,oe,ws,a0,T,oT,ts,ge,gc,gd,g1,g2,g3,g4,g5,nT,fT⟩:=fl
  have J:Inv X pins σ H' s':=I1.call' os U ok bare fun b hb=>(nomatch hb)
  have hfl:Heap.FlyingW (PySem.W.hideAll s'.heap (a::T::frs X.stack)) (X.env::X.outer) a (.ref C) a0 s'.heap:=by
    refine⟨fun b o e=>PySem.W.of_hideAll _ e,PySem.W.hideAll_none _ (List.mem_cons_self ..),?_,oe,ws,T,oT,ts,ge,gc,gd,g1,PySem.W.hideAll_none _ (List.mem_cons_of_mem _ (List.mem_cons_self ..)),g2,g3,g4,g5⟩
    rw[← hst]
    exact PySem.W.funFrames_hide J.stack fun env he b hb=>List.mem_cons_of_mem _ (List.mem_cons_of_mem _ (List.mem_filterMap.mpr ⟨env,he,hb⟩))
  have hfr:X.A.frames=some (X.env::X.outer):=by rw[← hst];exact J.ok.frames
  refine wpAny_looks_onW hfr hfm hfl fun h₄ hheld₄ hsm₄=>?_
  refine wpAny_landsW hheld₄ fun h₅ hfl₅ hsm₅=>?_
  obtain ⟨oe5,I5,c5,e5⟩:=inv_flying I1 os bare U ok na fa nT fT (by rw[hst] at hfl₅ ⊢;exact hfl₅) (hsm₄.trans hsm₅)
  have I5':Inv (X.held a oe5) pins σ H' { s' with heap:=h₅ }:=I5.held
  refine wpAny_handleBy_cons (codeAny_handlers_test (ld_glob (X:=X.held a oe5) I5' hgx hmD ?_ hdx)) (by intro q;cases q)
  refine excMatches_own (OC.keeps I5.bk) (OD.keeps I5.bk) e5 c5 hcon ?_
  refine codeAny_handlers_suite_as ?_
  refine lands_againW hfl₅ fun h₆ hfl₆ hsm₆=>?_
  obtain ⟨oe6,I6,c6,e6⟩:=inv_flying I1 os bare U ok na fa nT fT (by rw[hst] at hfl₆ ⊢;exact hfl₆) ((hsm₄.trans hsm₅).trans hsm₆)
  have I6':Inv (X.held a oe6) pins σ H' { s' with heap:=h₆ }:=I6.held
  refine store_ok (X:=X.held a oe6) (v:=.ref a) I6' hN hi (.inl hln) rfl (fun s7 I7=>?_) (.inr hln)
  refine wpAny_mono (hs a oe6 c6 pins s7 _ H' _ I7 (q a na)) (fun fl s8 q8=>?_) fun _ _ z=>z.elim
  cases fl with
  | next =>
    obtain ⟨σ',H8,I8,q8⟩:=q8
    exact goes_ok (I8.unheld J.ok) hN hi hln fun s9 I9=>⟨_,H8,I9,q8⟩
  | brk=>obtain ⟨_,_,_,z⟩:=q8;exact False.elim z
  | cont=>obtain ⟨_,_,_,z⟩:=q8;exact False.elim z
  | ret u=>obtain ⟨_,_,_,_,_,z⟩:=q8;exact False.elim z
end
end L2
set_option Elab.async false
set_option linter.all false
set_option maxRecDepth 100000
set_option maxHeartbeats 4000000
namespace L3
open PySem L2
abbrev DSX:=List D→DK→(Addr→Prop)→Prop
def DMonoX (S:DSX):Prop:=∀xs (P P':DK) (R R':Addr→Prop),(∀z,P z→P' z)→(∀C,R C→R' C)→S xs P R→S xs P' R'
def spX (K:PySem.W.Frag) (S:DSX):Sp:=fun vs H Q E=>∃ds,Rps K H ds vs∧S ds (fun x=>∀v H' fp,Same H H'→Rf K H' x v fp→Nw H H' nf [] fp→Q v H') (fun C=>∀H',Same H H'→E (.ref C) none H')
def SX (K:PySem.W.Frag) (ρ:Bool) (Γr Γl:List Nat) (R:Addr→Prop) (t:XK→TS) (Γ Γn:List Nat) (d:DS):Prop :=
  ∀⦃B0:Hp⦄ ⦃Dn:Ends⦄ ⦃E:DEnds⦄ ⦃Ex:XK⦄ ⦃fps:Nat→List Addr⦄ ⦃δ:Dl⦄ ⦃σ:St⦄ ⦃H:Hp⦄,(∀C H',Same B0 H'→R C→Ex (.ref C) none H')→EOk K ρ Γr Γl Γn B0 Dn E→Ok K B0 Γ fps δ σ H→d E δ→t Ex Dn σ H
section
variable {K:PySem.W.Frag}{ρ:Bool}{Γr Γl Γ Γ1 Γ2 Γn M:List Nat}{R:Addr→Prop}{t u:XK→TS}{t0:TS}{d e:DS}{C:Addr}{S:DSX}{ta:TA}{da:DA}
theorem ST.sx (h:ST K ρ Γr Γl t0 Γ Γn d):SX K ρ Γr Γl R (fun _=>t0) Γ Γn d:=fun _ _ _ _ _ _ _ _ _ k o q=>h k o q
theorem sx_seq (h1:SX K ρ Γr Γl R t Γ Γ1 d) (h2:SX K ρ Γr Γl R u Γ1 Γ2 e):SX K ρ Γr Γl R (fun Ex=>tSeq (t Ex) (u Ex)) Γ Γ2 (vSeq d e) :=
  fun {B0 Dn E Ex fps δ σ H} x k o h=>h1 (Dn:={ Dn with nx:=u Ex Dn }) (E:={ E with nx:=e E }) x ⟨fun o h=>h2 x k o h,k.bk,k.ct,k.rt⟩ o h
theorem sx_if {c:TT}{dc:DT} (hc:TR K Γ c dc) (h1:SX K ρ Γr Γl R t Γ Γn d) (h2:SX K ρ Γr Γl R u Γ Γn e):SX K ρ Γr Γl R (fun Ex=>tIfS c (t Ex) (u Ex)) Γ Γn (vIfS dc d e) :=
  fun _ _ _ _ _ _ _ _ x k o h=>hc.run o (hc.mono _ _ _ (fun b z H' s=>ite_imp (fun z=>h1 x k (o.same s) z) (fun z=>h2 x k (o.same s) z) z) h)
def vRaise (C:Addr) (R:Addr→Prop) (da:DA) (_:DEnds) (δ:Dl):Prop:=da δ fun xs=>xs.length≤1000∧R C
theorem sx_raise (ha:AR K Γ ta da):SX K ρ Γr Γl R (fun Ex=>tRaise C Ex ta) Γ Γn (vRaise C R da) :=
  fun {B0 Dn E Ex fps δ σ H} x k o h=>ha.run o (ha.mono _ _ _ (fun xs z vs H' s r=>by
    obtain ⟨fp,r⟩:=r
    exact⟨by rw[r.length];exact z.1,x C H' (o.b0.trans s) z.2⟩) h)
def vDropX (S:DSX) (R:Addr→Prop) (da:DA) (E:DEnds) (δ:Dl):Prop:=da δ fun xs=>S xs (fun _=>E.nx δ) R
def vSetX (S:DSX) (R:Addr→Prop) (i:Nat) (da:DA) (E:DEnds) (δ:Dl):Prop:=da δ fun xs=>S xs (fun x=>E.nx (δ.set i (some x))) R
theorem em_callX {Ex:XK}{B0:Hp}{fps:Nat→List Addr}{δ:Dl}{σ:St}{H:Hp}{Q:VK} (hS:DMonoX S) (ha:AR K Γ ta da) (x:∀C H',Same B0 H'→R C→Ex (.ref C) none H') (o:Ok K B0 Γ fps δ σ H)
    (h:da δ fun xs=>S xs (fun z=>∀v H' fp,Same H H'→Rf K H' z v fp→Nw H H' fps [] fp→Q v H') R):tCall (spX K S) [] Ex ta σ H Q :=
  ha.run o (ha.mono _ _ _ (fun xs z vs H1 s1 r1=>⟨xs,by rw[List.append_nil];exact r1,hS _ _ _ _ _ (fun u z u' H' fp s r n=>z u' H' fp (s1.trans s) r (n.any.later s1)) (fun C z H2 s2=>x C H2 (o.b0.trans (s1.trans s2)) z) z⟩) h)
theorem sx_set (i:Nat) (hS:DMonoX S) (ha:AR K Γ ta da):SX K ρ Γr Γl R (fun Ex=>tAsg (tCall (spX K S) [] Ex ta) (gName i)) Γ (i::minus (minus Γ []) [i]) (vSetX S R i da) :=
  fun {B0 Dn E Ex fps δ σ H} x k o h=>em_callX hS ha x o (ha.mono _ _ _ (fun xs z=>hS _ _ _ _ _ (fun y z v H' fp s r n=>k.nx (o.setMv (M:=[]) i (fun _ h=>(nomatch h)) s r n) z) (fun _ z=>z) z) h)
def vRetX (S:DSX) (R:Addr→Prop) (da:DA) (E:DEnds) (δ:Dl):Prop:=da δ fun xs=>S xs (fun x=>E.rt x δ) R
theorem fn_valX {N:List Str}{dR:(Addr→Prop)→DS} (hs:∀R,SX K true [] [] R t [] Γn (dR R)) (hd:∀ds P R,S ds P R→dR R (endsD P) (startD N ds)) :
    ∀{vs H Q E},spX K S vs H Q E→t E { nx:=fun _ H'=>Q .non H',rt:=Q } (L2.start N vs) H:=by
  rintro vs H Q E ⟨ds,r,h⟩
  obtain ⟨fps,o⟩:=start_ok (N:=N) r
  refine hs _ (E:=endsD _) (Ex:=E) (fun C H' s z=>z H' s) ⟨fun {fps δ σ H'} o z=>?_,fun o (z:False)=>z.elim,fun o (z:False)=>z.elim,fun o r i z=>?_⟩ o (hd ds _ _ h)
  · exact z _ H' [] o.b0 ⟨rfl,rfl⟩ Nw.nil
  · exact z _ _ _ o.b0 r ⟨(i rfl).nd,(i rfl).mu,fun a ha=>.inl ((i rfl).nw a ha)⟩
def noX (S:DSX):DSp:=fun ds P=>S ds P fun _=>False
theorem noX_mono (hS:DMonoX S):DMono (noX S):=fun xs P P' k h=>hS _ _ _ _ _ k (fun _ z=>z) h
theorem em_noX {Ex:XK} (hS:DMonoX S) (ha:AR K Γ ta da):EM K Γ [] (tCall (spX K S) [] Ex ta) (vCall (noX S) da) :=
  ⟨fun δ P P' k h=>ha.mono _ _ _ (fun y z=>noX_mono hS _ _ _ k z) h,fun {B0 fps δ σ H Q} o q=>em_callX (R:=fun _=>False) hS ha (fun _ _ _ z=>z.elim) o q⟩
theorem Ok.gone {B0:Hp}{fps:Nat→List Addr}{δ:Dl}{σ:St}{H:Hp} (o:Ok K B0 Γ fps δ σ H) (j:Nat) (hj:j∉Γ):Ok K B0 Γ (fun i=>if i=j then [] else fps i) (δ.set j none) (σ.set j none) H:=by
  have o1:=o.dead j .non hj
  refine⟨by simp [o.len],o.b0,fun i d e=>?_,o1.non,o1.own,o1.dj⟩
  obtain ⟨v,h1,h2⟩:=o1.val i d e
  refine⟨v,?_,h2⟩
  by_cases h:i=j
  · subst h
    rw[List.getElem?_set] at e
    by_cases hl:i<δ.length
    · simp [hl] at e
    · simp [hl] at e
  · rw[List.getElem?_set_ne (Ne.symm h)] at h1 ⊢
    exact h1
def vTry (i:Nat) (C:Addr) (S:DSX) (da:DA) (dh:DS) (E:DEnds) (δ:Dl):Prop :=
  da δ fun xs=>S xs (fun _=>E.nx δ) fun C'=>C'=C∧dh { nx:=fun δ'=>E.nx (δ'.set i none),rt:=fun _ _=>False,bk:=fun _=>False,ct:=fun _=>False } (δ.set i none)
end
end L3
set_option linter.all false
set_option maxRecDepth 100000
namespace PySem.W
open PySem PySem.Spec PySem.Calls PyProof.Rows
section
variable {prog:Program}{w:World}{A:Around}{E:Value→Shared→Prop}{s:Shared}{K:Frag}{x C:Addr}{ox:Obj}
theorem xc_get {R:Result→Shared→Prop}{tp:Value} (hm:mroIn K C (.type "object")=some true) (X:K.In s.heap) (L0:Looks (model prog w) s.heap (typeOf (.ref x)) (.ref C)) (h:R (.ok (.ret (.ref C))) s) :
    codeAny (model prog w) A (.call (.builtin "getset_descriptor.__get__") ⟨[.builtin "object.__class__",.ref x,tp],[]⟩) R s:=by
  obtain ⟨hh,g,dr,t,os⟩:=s
  have hT5:(⟨hh,g,dr,t,os⟩:Shared).TypeIs (.builtin "object.__class__") "getset_descriptor":=F.typeOf_object_class
  have L1:Looks (model prog w) hh (isSubtype (.ref C) (.type (".".intercalate ("object.__class__".cutAt '.').dropLast))) true:=by
    rw[F.owner_object_class];exact looks_mroIn (M:=model prog w) X hm
  refine codeAny_call_builtin F.slot_gs_get.plain F.entry_gs_get (F.slot_gs_get.check _ _ _ _ _ _ _ _ hT5 (F.args_gs_get _ _ _) ?_)
  repeat (any_goals (first | assumption | with_reducible refine L0.at ?_ | with_reducible refine L1.at ?_ | wp_step))
  refine⟨Code.quiet_builtin _ (by decide +kernel),codeAny_builtin F.entry_object_class ?_⟩
  repeat (any_goals (first | assumption | with_reducible refine L0.at ?_ | with_reducible refine L1.at ?_ | wp_step))
theorem xc_entry {tk:Tok}{Q:Fin→Shared→Prop} (hcl:findIn K (.ref C) "__class__" = some (some (.builtin "object.__class__"))) (hm:mroIn K C (.type "object")=some true)
    (X:K.In s.heap) (L0:Looks (model prog w) s.heap (typeOf (.ref x)) (.ref C)) (h:Q (.done (.ret (.ref C))) s):wpAny (model prog w) A (Builtin.«object.__getattribute__» ⟨[.ref x,.str "__class__" tk],[]⟩) Q E s:=by
  obtain ⟨hh,g,d,t,os⟩:=s
  have L1:=looks_findIn (M:=model prog w) X hcl
  have hT5:(⟨hh,g,d,t,os⟩:Shared).TypeIs (.builtin "object.__class__") "getset_descriptor":=F.typeOf_object_class
  have f5:=F.typeOf_object_class
  have f6:=F.slot_gs_get.lookup
  have f7:=F.slot_gs_set.lookup
  repeat (any_goals (first | assumption | with_reducible refine L0.at ?_ | with_reducible refine L1.at ?_ | wp_step))
  refine xc_get hm X L0 ?_
  repeat (any_goals (first | assumption | wp_step))
theorem xc_check {M:Model}{nameV:Value}{Q:Unit→Shared→Prop} (hmB:mroIn K C (.type "BaseException")=some true) (X:K.In s.heap) (L0:Looks M s.heap (typeOf (.ref x)) (.ref C)) (h:Q () s) :
    wpAny M A (checkBuiltinCall "BaseException.__getattribute__" ⟨[.ref x,nameV],[]⟩) Q E s:=by
  obtain ⟨hh,g,d,t,os⟩:=s
  have hk:builtinKind "BaseException.__getattribute__" = some .slot:=by decide +kernel
  have hsplit:splitId "BaseException.__getattribute__" = some ("BaseException","__getattribute__"):=by decide +kernel
  have L1:=looks_mroIn (M:=M) X hmB
  have ha:=F.args_bexc_ga (.ref x) nameV
  simp only[checkBuiltinCall,hk,hsplit]
  refine wpAny_bind ?_
  unfold isInstance
  repeat (first | with_reducible refine L0.at ?_ | with_reducible refine L1.at ?_ | wp_step)
  exact h
theorem xc_class {Q:Option Value→Shared→Prop} (hga:findIn K (.ref C) "__getattribute__" = some (some (.builtin "BaseException.__getattribute__"))) (hge:findIn K (.ref C) "__getattr__" = some none)
    (hcl:findIn K (.ref C) "__class__" = some (some (.builtin "object.__class__"))) (hm:mroIn K C (.type "object")=some true) (hmB:mroIn K C (.type "BaseException")=some true)
    (X:K.In s.heap) (L0:Looks (model prog w) s.heap (typeOf (.ref x)) (.ref C)) (h:Q (some (.ref C)) { s with toks:=s.toks+1 }):wpAny (model prog w) A (getAttr? (.ref x) "__class__") Q E s:=by
  obtain ⟨hh,g,d,t,os⟩:=s
  have L1:=looks_findIn (M:=model prog w) X hga
  have L2:=looks_findIn (M:=model prog w) X hge
  have f3:=F.attr_ValueError.ga.bind (.ref x)
  have hx2:(Value.builtin "BaseException.__getattribute__" == Value.builtin "object.__getattribute__")=false:=by decide +kernel
  have hx1:(onTheHeap (Value.ref C) && Value.builtin "BaseException.__getattribute__" == Value.builtin "object.__getattribute__")=false:=by rw[hx2];rfl
  unfold getAttr? getAttrBy?
  repeat (any_goals (first | assumption | with_reducible refine L0.at ?_ | with_reducible refine L1.at ?_ | with_reducible refine L2.at ?_ | wp_step))
  refine codeAny_call_builtin F.attr_ValueError.ga.plain F.entry_bexc_ga (xc_check hmB X L0 (xc_entry hcl hm X L0 ?_))
  repeat (any_goals (first | assumption | wp_step))
structure ExcK (K:Frag) (C:Addr):Prop where
  ga:findIn K (.ref C) "__getattribute__" = some (some (.builtin "BaseException.__getattribute__"))
  ge:findIn K (.ref C) "__getattr__" = some none
  cl:findIn K (.ref C) "__class__" = some (some (.builtin "object.__class__"))
  ob:mroIn K C (.type "object")=some true
  be:mroIn K C (.type "BaseException")=some true
  is:(clsIn K C).isSome=true
def ExcAt (x C:Addr) (h:Heap):Prop:=∃o,h.get? x=some o∧o.cls=.ref C
theorem ExcAt.ty {h:Heap} (M:Model) (p:ExcAt x C h):Looks M h (typeOf (.ref x)) (.ref C):=by
  obtain ⟨o,h1,h2⟩:=p
  exact h2▸(Looks.ld h1).andThen .now
theorem kitx_exc (k:ExcK K C):KitX K (.ref x) (.ref C) (ExcAt x C) where
  ty:=fun M _ _ p=>p.ty M
  it:=fun _ _ X _=>by
    have z0:=k.is
    unfold clsIn at z0
    split at z0
    · rename_i c' d' cd' sl' ho
      intro A' Q' E' s' k q
      unfold isType loadHead
      exact wpAny_bind (wpAny_loadPart (k _ _ (X _ _ ho)) (wpAny_pure q))
    · cases z0
  ne:=fun h tp dd its n sl X htp=>by
    have z0:=k.is
    refine Bool.eq_false_iff.mpr fun q=>?_
    have e:C=tp:=Value.ref.inj (beq_iff_eq.mp q)
    subst e
    unfold clsIn at z0
    split at z0
    · rename_i c' d' cd' sl' ho
      have z:=(X _ _ ho).symm.trans htp
      cases z
    · cases z0
  ca:=fun X p q=>xc_class k.ga k.ge k.cl k.ob k.be X (p.ty _) q
end
end PySem.W
namespace L2
open PySem PySem.Spec PyProof.Rows
section
variable {X:Cx}{pins:List (Addr × Obj)}{σ:St}{H:Hp}{s:Shared}{a C:Addr}{oe:Obj}{i:Nat}{n x:Str}{np p cp:Pos}{b:Bool}
theorem Inv.excAt (I:Inv (X.held a oe) pins σ H s) (hc:oe.cls=.ref C):PySem.W.ExcAt a C s.heap:=⟨oe,(I.pin (a,oe) (List.mem_append_left _ (List.mem_cons_self ..))).1,hc⟩
end
end L2
set_option linter.all false
set_option maxRecDepth 100000
namespace L2
open PySem PySem.Spec PyProof.Rows
section
variable {X:Cx}{a C:Addr}{oe:Obj}
theorem vals_refs:∀{cs:List Addr}{us:List Value},Vals (cs.map V.ref) us→us=cs.map Value.ref
  | [],us,r=>by cases r;rfl
  | c::cs,us,r=>by
    cases r with
    | cons r rr =>
      have e:=vals_refs rr
      have e1:_=Value.ref c:=r
      rw[e,e1];rfl
def isxR (K : PySem.W.Frag) (a C : Addr) : List V → Hp → VK → Prop := fun xs H Q => ∃ b, Q (.bl b) H ∧
    ((∃(p:Addr) (cs:List Addr),xs=[.ref a,.ref p]∧H p=some (.tup (cs.map V.ref))∧PySem.W.kitAny K (.ref C) (cs.map Value.ref)=some b)∨∃T,xs=[.ref a,.ty T]∧PySem.W.kitOne K (.ref C) (.type T)=some b)
theorem call_isx (hc:oe.cls=.ref C) (k:PySem.W.ExcK X.K C):CallR (X.held a oe) (.builtin "isinstance") (isxR X.K a C):=by
  intro pins s σ H xs us Q I r h
  obtain ⟨b,q,⟨p,cs,rfl,hp,e⟩ | ⟨T,rfl,e⟩⟩:=h
  · obtain ⟨u,v,rfl,ru,rv⟩:=vals2 r
    obtain rfl:u=Value.ref a:=ru
    obtain rfl:v=Value.ref p:=rv
    obtain ⟨_,its,rv,ho⟩:=(show ObjOk X.prog X.w H s.heap p (.tup (cs.map V.ref)) from I.hok p _ hp)
    obtain rfl:=vals_refs rv
    obtain ⟨o,h1,h2,n,h3⟩:=ho
    obtain ⟨oc,od,oda,osl⟩:=o
    dsimp only at h2 h3
    subst h2 h3
    exact PySem.W.kia_tup (PySem.W.kitx_exc k) I.kIn (I.excAt hc) h1 e (fun z=>nomatch z) fun tk=>⟨.bl b,H,I.tok _,rfl,q⟩
  · obtain ⟨u,v,rfl,ru,rv⟩:=vals2 r
    obtain rfl:u=Value.ref a:=ru
    obtain rfl:v=Value.type T:=rv
    exact PySem.W.kia_one (PySem.W.kitx_exc k) I.kIn (I.excAt hc) e (fun z=>nomatch z) fun tk=>⟨.bl b,H,I.tok _,rfl,q⟩
end
section
variable {P:Program}{w:World}{K:PySem.W.Frag}{mg:Str→Option Value}{base:Heap}{CX:CXT}
theorem Fun.okX {x qual:Str}{st:Stmt}{f:Addr}{fd:FuncData}{N ps:List Str}{k:Nat}{sp:Sp} (F:Fun K x qual st f fd) (S:FnScope N ps (defScope st)) (len:∀vs H Q E,sp vs H Q E→vs.length=ps.length)
    (hbody:∀(cdv:Value) (A:Around) (outer:List Env) (s:Shared) (H:Hp) (vs:List V) (Q:VK) (E:XK),Room k (A.deeper (envOfC qual (defScope st) s.heap.objs.size f cdv))→sp vs H Q E →
      ∃t,PSs (cxOf (CXR P w) P w K mg base N qual (defScope st) f cdv A outer s H E) (defBody st) t∧t { nx:=fun _ H'=>Q .non H',rt:=Q } (start N vs) H):FnOk P w K mg base (CXR P w) (k+1) f fd ps sp:=by
  obtain ⟨oc,od,kV,doc,pm,an,cdv,ct,osl,rfl,lk,hcd⟩:=F.ex
  exact fn_of lk hcd S len fun A outer s H vs Q E hr hsp=>hbody cdv A outer s H vs Q E hr hsp
end
theorem ExcObj.of_lookup {K:PySem.W.Frag}{h:Heap}{C:Addr}{ups:List Addr}{mro:List Value}{dd:Option Addr}{nm qn:Str}{bs:List Value}{ns:Addr}{hd:Bool}{sn:List Str}{sub:List Value}{ab:Bool}{col:Option Bool}{k0 k1 k2 k3 k5:Option Value} (X:K.In h)
    (u:K.lookup C=some ⟨.type "type",dd,.cls ⟨nm,bs,mro,ns,qn,hd,sn,sub,ab,col,false⟩,#[k0,k1,k2,k3,some (.builtin "ValueError.__new__"),k5]⟩) (hm:mro=.ref C::(ups.map Value.ref++VB)) (v:PySem.W.excIn K C VB "ValueError.__new__" = true):ExcObj h C ups:=by
  subst hm
  unfold PySem.W.excIn at v
  rw[u] at v
  simp only[Bool.and_eq_true,beq_iff_eq,Bool.not_eq_true'] at v
  obtain ⟨⟨⟨_,ht⟩,hok⟩,hni⟩:=v
  exact⟨ns,nm,qn,bs,hd,sn,sub,ab,col,dd,k0,k1,k2,k3,k5,_,X _ _ u,.of_isNs (PySem.W.isNs_of_in X hok),PySem.W.nsMap_none_of_in X hok hni,PySem.W.tail_of_in X ht⟩
theorem passN {X:Cx}{P:Program}{w:World}:Passes (CXR P w) X E0:=fun _ _ _ _ _ _ _ h=>by
  obtain ⟨_,_,_,_,_,_,_,_,_,q⟩:=h
  exact q.elim
end L2
set_option Elab.async false
set_option linter.all false
set_option maxRecDepth 100000
set_option maxHeartbeats 4000000
namespace L3
open PySem L2
def STi (K:PySem.W.Frag) (i:Nat) (t:Addr→TS) (Γ:List Nat) (d:DS):Prop :=
  ∀⦃a:Addr⦄ ⦃B0:Hp⦄ ⦃Dn:Ends⦄ ⦃E:DEnds⦄ ⦃fps:Nat→List Addr⦄ ⦃δ:Dl⦄ ⦃σ:St⦄ ⦃H:Hp⦄,(∀{fps δ σ H},Ok K B0 Γ fps δ σ H→σ[i]?=some (some (.ref a))→E.nx δ→Dn.nx σ H) →
    Ok K B0 Γ fps δ σ H→σ[i]?=some (some (.ref a))→d E δ→t a Dn σ H
section
variable {K:PySem.W.Frag}{ρ:Bool}{Γr Γl Γ:List Nat}{i:Nat}{t u:Addr→TS}{d e:DS}{C:Addr}{S:DSX}{ta:TA}{da:DA}
theorem sti_next:STi K i (fun _=>tNext) Γ vNext:=fun _ _ _ _ _ _ _ _ k o hi h=>k o hi h
theorem sti_seq (h1:STi K i t Γ d) (h2:STi K i u Γ e):STi K i (fun a=>tSeq (t a) (u a)) Γ (vSeq d e) :=
  fun {a B0 Dn E fps δ σ H} k o hi h=>h1 (Dn:={ Dn with nx:=u a Dn }) (E:={ E with nx:=e E }) (fun o hi h=>h2 k o hi h) o hi h
theorem sti_set (j:Nat) {te:TE}{de:DE} (he:ES K Γ te de) (hj:j∉Γ:=by decide) (hij:j≠i:=by decide):STi K i (fun _=>tAsg te (gName j)) Γ (vSet j de) :=
  fun {a B0 Dn E fps δ σ H} k o hi h=>he.run o (he.mono _ _ _ (fun x z v H' fp s r n=>k ((o.setSh j s r n).sub fun l hl=>mem_minus.mpr ⟨hl,fun q=>hj (by rw[← List.mem_singleton.mp q];exact hl)⟩)
    (by rw[List.getElem?_set_ne hij];exact hi) z) h)
def vKnow (j:Nat) (n:Int) (E:DEnds) (δ:Dl):Prop:=E.nx (δ.set j (some (.int n)))
theorem sti_know (j:Nat) {te:Addr→TE}{n:Int} (he:∀a σ H (Q:VK),σ[i]?=some (some (.ref a))→(∀H',Same H H'→Q (.int n) H')→te a σ H Q) (hj:j∉Γ:=by decide) (hij:j≠i:=by decide) :
    STi K i (fun a=>tAsg (te a) (gName j)) Γ (vKnow j n) :=
  fun {a B0 Dn E fps δ σ H} k o hi h=>he a σ H _ hi fun H' s=>k ((o.setSh j s (Rf.ofScal (d:=.int n) rfl) (fun _ _ _ z=>(nomatch z))).sub fun l hl=>mem_minus.mpr ⟨hl,fun q=>hj (by rw[← List.mem_singleton.mp q];exact hl)⟩)
    (by rw[List.getElem?_set_ne hij];exact hi) h
def vWhen (b:Bool) (d e:DS) (E:DEnds) (δ:Dl):Prop:=if b=true then d E δ else e E δ
theorem sti_if {c:Addr→TT}{b:Bool} (hc:∀a σ H (Q:Bool→Hp→Prop),σ[i]?=some (some (.ref a))→(∀H',Same H H'→Q b H')→c a σ H Q) (h1:STi K i t Γ d) (h2:STi K i u Γ e) :
    STi K i (fun a=>tIfS (c a) (t a) (u a)) Γ (vWhen b d e) :=
  fun {a B0 Dn E fps δ σ H} k o hi h=>hc a σ H _ hi fun H' s=>ite_imp (fun z=>h1 k (o.same s) hi z) (fun z=>h2 k (o.same s) hi z) h
def vTryI (i:Nat) (C:Addr) (S:DSX) (da:DA) (dh:DS) (E:DEnds) (δ:Dl):Prop:=i<δ.length∧vTry i C S da dh E δ
theorem st_tryI {dh:DS} (i:Nat) (hS:DMonoX S) (ha:AR K Γ ta da) (hh:STi K i t Γ dh) (hi:i∉Γ:=by decide):ST K ρ Γr Γl (tTry i C (spX K S) ta t) Γ Γ (vTryI i C S da dh) :=
  fun {B0 Dn E fps δ σ H} k o h=>ha.run o (ha.mono _ _ _ (fun xs z vs H1 s1 r1=>⟨xs,r1,hS _ _ _ _ _ (fun _ z v H2 fp s2 _ _=>k.nx (o.same (s1.trans s2)) z)
    (fun C' z H2 s2=>⟨congrArg Value.ref z.1,fun a _=>hh (E:={ nx:=fun δ'=>E.nx (δ'.set i none),rt:=fun _ _=>False,bk:=fun _=>False,ct:=fun _=>False })
      (fun o3 _ z3=>k.nx (o3.gone i hi) z3) ((o.same (s1.trans s2)).dead i (.ref a) hi) (List.getElem?_set_self (by rw[o.len];exact h.1)) z.2⟩) z⟩) h.2)
theorem isx_tup {Q:VK}{b:Bool}{a:Addr}{cs:List Addr}{v:TA}{σ:St}{H:Hp} (hv:∀σ H (Q:List V→Hp→Prop),Q (cs.map V.ref) H→v σ H Q) (hl:cs.length≤1000) (e:PySem.W.kitAny K (.ref C) (cs.map Value.ref)=some b)
    (hi:σ[i]?=some (some (.ref a))) (q:∀H',Same H H'→Q (.bl b) H'):tCB (isxR K a C) (tCons (tVar i) (tCons (tTup v) tNil)) σ H Q :=
  ⟨_,hi,hv _ _ _ ⟨by rw[List.length_map];exact Nat.le_of_lt (small1000 hl),fun p hp=>⟨b,q _ (Same.new hp),.inl ⟨p,cs,rfl,upd_same,e⟩⟩⟩⟩
theorem isx_one {Q:VK}{b:Bool}{a:Addr}{T:String}{σ:St}{H:Hp} (e:PySem.W.kitOne K (.ref C) (.type T)=some b)
    (hi:σ[i]?=some (some (.ref a))) (q:Q (.bl b) H):tCB (isxR K a C) (tCons (tVar i) (tCons (tC (.ty T)) tNil)) σ H Q:=⟨_,hi,b,q,.inr ⟨T,rfl,e⟩⟩
end
theorem spX_len {K:PySem.W.Frag}{S:DSX}{n:Nat} (hS:∀ds P R,S ds P R→ds.length=n) {vs:List V}{H:Hp}{Q:VK}{E:XK} (h:spX K S vs H Q E):vs.length=n:=by
  obtain ⟨ds,⟨fp,r⟩,h⟩:=h
  rw[r.length];exact hS _ _ _ h
end L3
set_option Elab.async false
set_option linter.all false
set_option maxRecDepth 100000
set_option maxHeartbeats 4000000
namespace L2
open PySem
theorem PA.nox {X:Cx}{es:List Expr}{t:TA} (h:PA X.nox es t):PA X es t:=fun pos pins s σ H Q I hw =>
  wpAny_mono (h pos pins s σ H Q (I.wish _) hw) (fun _ _ ⟨v,H',I',r,q⟩=>⟨v,H',I'.unwish,r,q⟩) fun _ _ z=>False.elim z
end L2
set_option Elab.async false
set_option linter.all false
set_option maxRecDepth 100000
namespace L2
open PySem PySem.Spec PyProof.Rows
section
variable {P:Program}{w:World}{K:PySem.W.Frag}{mg:Str→Option Value}{base:Heap}{x qual:Str}{st:Stmt}{dv:List Value}{f:Addr}{fd:FuncData}{N ps:List Str}{k:Nat}{sp:Sp}
end
end L2
set_option Elab.async false
set_option linter.all false
set_option maxRecDepth 100000
namespace L3
open PySem L2
section
variable {K:PySem.W.Frag}{Γ:List Nat}{t:TA}{d:DA}
def vDef (d:DA) (z:Int):DA:=fun δ P=>d δ fun xs=>P (xs++[.int z])
end
end L3
set_option linter.all false
set_option maxRecDepth 100000
namespace L2
open PySem PySem.Spec PyProof.Rows
section
variable {X:Cx}{CX:CXT}{k:Nat}{f C D:Addr}{fd:FuncData}{ps:List Str}{sp:Sp}{E:XK}{x y n:Str}{p np cp ep hp pos:Pos}{e:Expr}{es:List Expr}{ta:TA}{b₀:Stmt}{suite:List Stmt}{i:Nat}{ups upD:List Addr}
end
end L2
set_option linter.all false
set_option maxRecDepth 100000
namespace L2
open PySem PySem.Spec PyProof.Rows
section
variable {X:Cx}{CX:CXT}{k:Nat}{f C D:Addr}{fd:FuncData}{ps:List Str}{sp:Sp}{E:XK}{x y n:Str}{p np cp ep hp pos p2:Pos}{e b:Expr}{es:List Expr}{ta:TA}{tb:TE}{b₀:Stmt}{suite:List Stmt}{i:Nat}{ups upD:List Addr}{op:CmpOp}{r:R2}
end
end L2
set_option Elab.async false
set_option linter.all false
set_option maxRecDepth 100000
set_option maxHeartbeats 4000000
namespace L3
open PySem L2
section
variable {K:PySem.W.Frag}{ρ:Bool}{Γr Γl Γ Γ1 Γ2 Γn M:List Nat}{R:Addr→Prop}{t u:TS}{te ta tb tx t1 t2 tz:TE}{de da db dx d1 d2 dz:DE}{d e:DS}
variable {B0:Hp}{fps:Nat→List Addr}{δ:Dl}{σ:St}{H H':Hp}
def flatD:D→Bool
  | .tup ds=>ds.all D.scal
  | d=>D.scal d
theorem Rf.flat0 {H:Hp}:∀{d:D}{v:V}{fp:List Addr},Rf K H d v fp→flatD d=true→fp=[]
  | .tup ds,v,fp,h,f=>by
    obtain ⟨a,xs,e1,e2,h⟩:=h
    exact (h.scals f).2
  | .non,_,_,h,_=>h.2
  | .bl _,_,_,h,_=>h.2
  | .int _,_,_,h,_=>h.2
  | .str _,_,_,h,_=>h.2
  | .lst _,_,_,_,f=>by simp [flatD,D.scal] at f
  | .dic _,_,_,_,f=>by simp [flatD,D.scal] at f
  | .dit _,_,_,_,f=>by simp [flatD,D.scal] at f
  | .scr _,_,_,h,_=>by obtain ⟨a,e1,e2,e3⟩:=h;exact e3
  | .pin _ _,_,_,_,f=>by simp [flatD,D.scal] at f
  | .mem _,_,_,_,f=>by simp [flatD,D.scal] at f
  | .raw _,_,_,_,f=>by simp [flatD,D.scal] at f
  | .ins _ _ _,_,_,_,f=>by simp [flatD,D.scal] at f
theorem Rfs.flat0 {H:Hp}:∀{ds:List D}{vs:List V}{fp:List Addr},Rfs K H ds vs fp→ds.all flatD=true→fp=[]
  | [],_,_,h,_=>h.2
  | d::ds,vs,fp,h,f=>by
    obtain ⟨x,r,f1,f2,e1,e2,h1,h2⟩:=h
    rw[List.all_cons,Bool.and_eq_true] at f
    rw[e2,h1.flat0 f.1,h2.flat0 f.2];rfl
def vCatF (x:D) (y:D) (P:DK):Prop:=match x,y with | .lst a,.lst b=>(a.all flatD=true∧b.all flatD=true∧a.length+b.length≤1000)∧P (.lst (a++b)) | _,_=>False
theorem o_catF:OpV K rCat vCatF:=⟨fun x y P P' k h=>by unfold vCatF at h ⊢;revert h;split<;>first | exact fun h=>⟨h.1,k _ h.2⟩ | exact id,fun {H x y v w Q} r1 r2 h=>by
  unfold vCatF at h
  split at h
  · rename_i a b
    obtain ⟨⟨s1,s2,hl⟩,h⟩:=h
    obtain ⟨f1,l1,xs,q1,rfl,e1,_,hr1⟩:=r1
    obtain ⟨f2,l2,ys,q2,rfl,e2,_,hr2⟩:=r2
    obtain rfl:=hr1.flat0 s1
    obtain rfl:=hr2.flat0 s2
    refine⟨l1,l2,_,_,rfl,rfl,e1,e2,by rw[hr1.length,hr2.length];exact le1000 hl,fun p hp=>?_⟩
    exact h _ _ [p] (Same.new' hp) ⟨p,_,[],rfl,upd_same,rfl,(hr1.append hr2).same (Same.new' hp)⟩ ⟨by simp,fun b hb=>by cases List.mem_singleton.mp hb;exact .inl ⟨_,upd_same⟩,fun b hb=>by cases List.mem_singleton.mp hb;exact .inl hp⟩
  · exact h.elim⟩
theorem SX.post {t:XK→TS} (h:SX K ρ Γr Γl R t Γ Γ1 d) (s:∀i∈Γn,i∈Γ1:=by decide):SX K ρ Γr Γl R t Γ Γn d:=fun _ _ _ _ _ _ _ _ x k o q=>h x ⟨fun o h=>k.nx (o.sub s) h,k.bk,k.ct,k.rt⟩ o q
theorem sx_for {wi:TI}{di:DI}{g:TG}{dg:D→Dl→(Dl→Prop)→Prop}{tb:XK→TS}{db:DS} (hi:IT K Γ wi di) (hg:GT K Γ g dg) (hb:SX K ρ Γr Γ R tb Γ Γ db):SX K ρ Γr Γl R (fun Ex=>tFor wi g (tb Ex)) Γ Γ (vFor di dg db):=by
  intro B0 Dn E Ex fps δ σ H x k o h
  refine hi.run o (hi.mono _ _ _ (fun ds z J H1 fq s1 n1 hit=>?_) h)
  obtain ⟨B1,sB,o1,ag⟩:=(o.same s1).rebase
  have hJ:ItOk K J B1 ds:=hit B1 o1.b0 (fun a ha=>ag a fun j hj=>n1 j hj a ha) fun a u e im=>by
    rw[ag a fun j hj ha=>((o1.own j hj).2 a ha).2.notup u e im];exact e
  refine⟨fun i m σ H=>m=ds.length - i∧i≤ds.length∧∃fps δ,Ok K B1 Γ fps δ σ H∧vLoop dg db E (ds.drop i) δ,⟨ds.length,by omega,Nat.zero_le _,fps,δ,o1,by rw[List.drop_zero];exact z⟩,?_⟩
  rintro i m σ2 H2 ⟨rfl,hi2,fps2,δ2,o2,z2⟩
  by_cases hlt:i<ds.length
  · refine .inr ⟨hJ.go o2.b0 hlt,_,fun σ' H' q=>q,fun x3 H3 hy=>?_⟩
    obtain ⟨s3,fp,r3,n3⟩:=hJ.yld o2.b0 hy (List.getElem?_eq_getElem hlt)
    rw[List.drop_eq_getElem_cons hlt] at z2
    refine hg.run (o2.same s3) r3 (fun j hj a ha hz=>n3 a ha ((o2.own j hj).2 a hz).1) (hg.mono _ _ _ _ (fun δ' z' fps' σ' o' e'=>?_) z2)
    exact hb (E:={ nx:=vLoop dg db E (ds.drop (i+1)),ct:=vLoop dg db E (ds.drop (i+1)),bk:=E.nx,rt:=E.rt }) (fun C H' s z=>x C H' (sB.trans s) z) ⟨fun o4 z4=>⟨ds.length - (i+1),by omega,rfl,hlt,_,_,o4,z4⟩,fun o4 z4=>k.nx (o4.base sB) z4,fun o4 z4=>⟨ds.length - (i+1),by omega,rfl,hlt,_,_,o4,z4⟩,fun o4 r4 i4 z4=>k.rt (o4.base sB) r4 (fun y=>(i4 y).base sB) z4⟩ o' z'
  · have e:i=ds.length:=by omega
    subst e
    rw[List.drop_length] at z2
    exact .inl ⟨hJ.stop o2.b0 (Nat.le_refl _),k.nx (o2.base sB) z2⟩
def spXR (K:PySem.W.Frag) (S:DSX):Sp:=fun vs H Q E=>∃ds,Rps K H ds vs∧S ds (fun x=>∀v H',Same H H'→Rp K H' x v→Q v H') (fun C=>∀H',Same H H'→E (.ref C) none H')
theorem spXR_len {S:DSX}{n:Nat} (hS:∀ds P R,S ds P R→ds.length=n) {vs:List V}{H:Hp}{Q:VK}{E:XK} (h:spXR K S vs H Q E):vs.length=n:=by
  obtain ⟨ds,⟨fp,r⟩,h⟩:=h
  rw[r.length];exact hS _ _ _ h
theorem fn_valXR {S:DSX}{t:XK→TS}{N:List Str}{dR:(Addr→Prop)→DS} (hs:∀R,SX K false [] [] R t [] Γn (dR R)) (hd:∀ds P R,S ds P R→dR R (endsD P) (startD N ds)) :
    ∀{vs H Q E},spXR K S vs H Q E→t E { nx:=fun _ H'=>Q .non H',rt:=Q } (L2.start N vs) H:=by
  rintro vs H Q E ⟨ds,r,h⟩
  obtain ⟨fps,o⟩:=start_ok (N:=N) r
  refine hs _ (E:=endsD _) (Ex:=E) (fun C H' s z=>z H' s) ⟨fun {fps δ σ H'} o z=>?_,fun o (z:False)=>z.elim,fun o (z:False)=>z.elim,fun o r i z=>?_⟩ o (hd ds _ _ h)
  · exact z _ H' o.b0 ⟨[],rfl,rfl⟩
  · exact z _ _ o.b0 ⟨_,r⟩
def vTryEq (C:Addr) (S:DSX) (da:DA) (db:DE) (rv:D2) (dh:DS) (E:DEnds) (δ:Dl):Prop :=
  da δ fun xs=>S xs (fun x=>db δ fun y=>rv x y fun z=>E.rt z δ) fun C'=>C'=C∧dh { nx:=fun _=>False,rt:=E.rt,bk:=fun _=>False,ct:=fun _=>False } δ
def vAsgM2 (i j:Nat) (de:DE) (E:DEnds) (δ:Dl):Prop:=de δ fun x=>∃a b,x=.lst [a,b]∧E.nx ((δ.set i (some a)).set j (some b))
end
end L3
set_option linter.all false
set_option maxRecDepth 100000
namespace L2
open PySem PySem.Spec PyProof.Rows
section
variable {X:Cx}
end
end L2
set_option Elab.async false
set_option linter.all false
set_option maxRecDepth 100000
set_option maxHeartbeats 4000000
namespace L3
open PySem L2
section
variable {K:PySem.W.Frag}{ρ:Bool}{Γr Γl Γ Γ1 Γ2 Γn M:List Nat}{R:Addr→Prop}{t u:TS}{te ta tb tx t1 t2 tz:TE}{de da db dx d1 d2 dz:DE}{d e:DS}
variable {B0:Hp}{fps:Nat→List Addr}{δ:Dl}{σ:St}{H H':Hp}
theorem Rfs.app0 {ds es:List D}{vs ws:List V} (h:Rfs K H ds vs []) (r:Rfs K H es ws []):Rfs K H (ds++es) (vs++ws) []:=h.append r
def vListF (xs:List D) (P:DK):Prop:=match xs with | [x]=>asLst (some x) fun ds=>ds.all flatD=true∧P (.lst ds) | _=>False
def vSlF (de:DE) (dl dh:DO) (δ:Dl) (P:DK):Prop:=de δ fun x=>dl δ fun l=>dh δ fun u=>asLst (some x) fun ds=>ds.all flatD=true∧P (.lst (cutD ds l u))
theorem flat_write (o:Ok K B0 Γ fps δ σ H) {i:Nat} (hi:i∈Γ) {ds:List D} (e:δ[i]?=some (some (.lst ds))) (hf:ds.all flatD=true) :
    ∃a xs,σ[i]?=some (some (.ref a))∧H a=some (.lst xs)∧Rfs K H ds xs []∧∀{ds':List D}{xs':List V},Rfs K H ds' xs' []→Ok K B0 Γ (fun j=>if j=i then [a] else fps j) (δ.set i (some (.lst ds'))) σ (upd H a (.lst xs')):=by
  obtain ⟨a,xs,fq,h1,h2,h3,h4⟩:=o.ownL e
  obtain rfl:=h4.flat0 hf
  have hown:=o.own i hi
  rw[h3] at hown
  have nt:=(hown.2 a List.mem_cons_self).2.notup
  refine⟨a,xs,h1,h2,h4,fun {ds' xs'} r=>o.write hi (d':=.lst ds') (fp':=[a]) h1 ⟨a,xs',[],rfl,upd_same,rfl,r.upd (fun z=>(nomatch z)) nt⟩ (by simp) (fun b hb=>?_) (fun b hb=>?_) ?_⟩
  · cases List.mem_singleton.mp hb;exact .inl ⟨_,upd_same⟩
  · cases List.mem_singleton.mp hb;rw[h3];exact .inl List.mem_cons_self
  · rw[h3];exact updKeep List.mem_cons_self
def vAppF (i:Nat) (de:DE) (E:DEnds) (δ:Dl):Prop:=slotL δ i fun ds=>de δ fun x=>(ds.all flatD=true∧flatD x=true∧ds.length<1000)∧E.nx (δ.set i (some (.lst (ds++[x]))))
def vPopF (i:Nat) (de:DE) (E:DEnds) (δ:Dl):Prop:=slotL δ i fun ds=>de δ fun x=>asI [x] fun m=>(ds.all flatD=true∧0≤m∧m<ds.length∧ds.length≤1000)∧E.nx (δ.set i (some (.lst (ds.eraseIdx m.toNat))))
def vSub2 (i:Nat) (de d1 d2:DE) (E:DEnds) (δ:Dl):Prop:=de δ fun z=>∃x y,z=.tup [x,y]∧flatD x=true∧flatD y=true∧slotL δ i fun ds=>ds.all flatD=true∧d1 δ fun a=>asI [a] fun p=>(0≤p∧p<ds.length)∧d2 (δ.set i (some (.lst (ds.set p.toNat x)))) fun b=>asI [b] fun q=>(0≤q∧q<ds.length)∧E.nx ((δ.set i (some (.lst (ds.set p.toNat x)))).set i (some (.lst ((ds.set p.toNat x).set q.toNat y))))
end
end L3
set_option linter.all false
set_option maxRecDepth 100000
namespace L2
open PySem PySem.Spec PyProof.Rows
section
variable {P:Program}{w:World}{H:Hp}{h:Heap}{a:Addr}
end
section
variable {X:Cx}
end
end L2
namespace L2
open PySem PySem.Spec PyProof.Rows
section
variable {X:Cx}
end
end L2
set_option Elab.async false
set_option linter.all false
set_option maxRecDepth 100000
namespace L3
open PySem L2
section
variable {K:PySem.W.Frag}{Γ:List Nat}{te:TE}{de:DE}
end
end L3
set_option Elab.async false
set_option linter.all false
set_option maxRecDepth 100000
namespace L2
open PySem PySem.Spec PyProof.Rows
section
variable {P:Program}{w:World}{K:PySem.W.Frag}{mg:Str→Option Value}{base:Heap}
section
variable {CX:CXT}{N:List Str}{qual:Str}{sc:Scope}{f:Addr}{cdv:Value}{A:Around}{outer:List Env}{s s':Shared}{H H':Hp}{E:XK}{σ':St}{Q:VK}{v:V}{u:Value}
end
end
section
variable {X:Cx}{a C:Addr}
end
section
variable {X:Cx}{k:Nat}{f a C:Addr}{oe:Obj}{fd:FuncData}{ps:List Str}{sp:Addr→Sp}{E:XK}{x:Str}{p pos:Pos}{e:Expr}{es:List Expr}{t:TA}
end
end L2
set_option Elab.async false
set_option linter.all false
set_option maxRecDepth 100000
namespace L3
open PySem L2
section
variable {K:PySem.W.Frag}{a C:Addr}{cs1 cs2:List Addr}{v1 v2:TA}{Q:VK}{H:Hp}{nx:St→Hp→Prop}
end
end L3
set_option Elab.async false
set_option linter.all false
set_option maxRecDepth 100000
set_option maxHeartbeats 4000000
namespace L2
open PySem PySem.Spec PyProof.Rows PySem.Builtin PySem.Builtin.Str
section
variable {X:Cx}
end
end L2
set_option Elab.async false
set_option linter.all false
set_option maxRecDepth 100000
set_option maxHeartbeats 4000000
namespace L2
open PySem PySem.Spec PyProof.Rows PySem.Builtin PySem.Builtin.Str
section
variable {X:Cx}
end
end L2
set_option Elab.async false
set_option linter.all false
set_option maxRecDepth 100000
set_option maxHeartbeats 4000000
namespace L3
open PySem L2 PySem.Builtin PySem.Builtin.Str
section
variable {K:PySem.W.Frag}{ρ:Bool}{Γr Γl Γ Γ1 Γ2 Γn M:List Nat}{te ta tb tx t1 t2 tz:TE}{de da db dx d1 d2 dz:DE}{u:TA}{dr:DA}
variable {B0:Hp}{fps:Nat→List Addr}{δ:Dl}{σ:St}{H H':Hp}
def signs (x:Str):List D:=x.cps.toList.map fun c=>.str ⟨#[c]⟩
end
end L3
set_option Elab.async false
set_option linter.all false
set_option maxRecDepth 100000
set_option maxHeartbeats 4000000
namespace L3
open PySem PySem.Builtin PySem.Builtin.Str
def dg (n:Nat):List Nat:=(Nat.toDigits 10 n).map Char.toNat
def sI (i:Int):List Nat:=if i<0 then 45::dg i.natAbs else dg i.natAbs
end L3
set_option Elab.async false
set_option linter.all false
set_option maxRecDepth 100000
set_option maxHeartbeats 4000000
namespace L3
open PySem L2 PySem.Builtin PySem.Builtin.Str
end L3
set_option Elab.async false
set_option linter.all false
set_option maxRecDepth 100000
set_option maxHeartbeats 4000000
namespace L3
open PySem L2
section
variable {K:PySem.W.Frag}{ρ:Bool}{Γr Γl Γ:List Nat}{H:Hp}
end
end L3
set_option Elab.async false
set_option linter.all false
set_option maxRecDepth 100000
set_option maxHeartbeats 4000000
namespace L2
open PySem PySem.Spec PyProof.Rows PySem.Builtin PySem.Builtin.Str
section
variable {X:Cx}
end
section
variable {prog:Program}{w:World}{A:Around}{E:Value→Shared→Prop}{s:Shared}
end
section
variable {X:Cx}{K:PySem.W.Frag}{o e:Expr}{to te:TE}{p2 pos2 apos cpos:Pos}
end
end L2
set_option Elab.async false
set_option linter.all false
set_option maxRecDepth 100000
set_option maxHeartbeats 4000000
namespace L3
open PySem L2 PySem.Builtin PySem.Builtin.Str
section
variable {K:PySem.W.Frag}{Γ:List Nat}{ta tb:TE}{da db:DE}
end
end L3
set_option Elab.async false
set_option linter.all false
set_option maxRecDepth 100000
set_option maxHeartbeats 4000000
namespace L3
open PySem L2 PySem.Builtin PySem.Builtin.Str
end L3
set_option Elab.async false
set_option linter.all false
set_option maxRecDepth 100000
set_option maxHeartbeats 4000000
namespace L2
open PySem PySem.Spec PyProof.Rows PySem.Builtin PySem.Builtin.Str
section
variable {X:Cx}
end
end L2
set_option Elab.async false
set_option linter.all false
set_option maxRecDepth 100000
set_option maxHeartbeats 4000000
namespace L3
open PySem L2 PySem.Builtin PySem.Builtin.Str
section
variable {K:PySem.W.Frag}{Γ:List Nat}{te:TE}{de:DE}
end
end L3
set_option Elab.async false
set_option linter.all false
namespace L3
open PySem L2 PySem.Builtin PySem.Builtin.Str
end L3
set_option Elab.async false
set_option linter.all false
set_option maxRecDepth 100000
namespace L3
open PySem L2 PySem.Builtin PySem.Builtin.Str
end L3
set_option Elab.async false
set_option linter.all false
set_option maxRecDepth 100000
namespace L3
open PySem L2 PySem.Builtin PySem.Builtin.Str
end L3
set_option linter.all false
set_option maxRecDepth 100000
namespace L2
open PySem PySem.Spec PyProof.Rows
section
variable {X:Cx}
end
end L2
set_option Elab.async false
set_option linter.all false
set_option maxRecDepth 100000
namespace L3
open PySem L2
section
variable {K:PySem.W.Frag}
end
end L3
set_option Elab.async false
set_option linter.all false
set_option maxRecDepth 100000
set_option maxHeartbeats 4000000
namespace L3
open PySem L2
section
variable {K:PySem.W.Frag}{Γ:List Nat}{ta tb:TE}{da db:DE}
end
end L3
set_option linter.all false
set_option maxRecDepth 100000
namespace Tal
def lines:Nat→List (List Int)
  | 0=>[[]]
  | w+1=>(lines w).map (fun l=>0::l)++(lines w).map (fun l=>1::l)
def linesW (x:Int) (w:Nat):List (List Int):=(lines w).filter fun r=>decide (r.sum=x)
def sub:List Int→List Int→List Int
  | a::as,b::bs=>(a - b)::sub as bs
  | [],_=>[]
  | _::_,[]=>[]
def W:List Int→List Int→Int
  | [],left=>if (∀x∈left,x=0) then 1 else 0
  | r::rs,left=>((linesW r left.length).map fun l=>W rs (sub left l)).sum
def S (w:Nat) (f:List Int→Int):Int:=((lines w).map f).sum
theorem S_zero {f:List Int→Int}:S 0 f=f []:=by simp [S,lines]
theorem S_succ {w:Nat}{f:List Int→Int}:S (w+1) f=S w (fun l=>f (0::l))+S w (fun l=>f (1::l)):=by
  rw[S,lines,List.map_append,List.sum_append,List.map_map,List.map_map];rfl
theorem sum_filter_map (p:List Int→Bool) (f:List Int→Int):∀ls:List (List Int),((ls.filter p).map f).sum=(ls.map fun l=>if p l=true then f l else 0).sum
  | []=>rfl
  | l::ls=>by
    rw[List.map_cons,List.sum_cons,← sum_filter_map p f ls,List.filter_cons]
    split<;>simp
theorem W_cons {r:Int}{rs left:List Int}:W (r::rs) left=S left.length (fun l=>if l.sum=r then W rs (sub left l) else 0):=by
  rw[W,linesW,sum_filter_map,S]
  congr 1
  refine List.map_congr_left fun l _=>?_
  simp
theorem S_nonneg {w:Nat}{f:List Int→Int} (h:∀l∈lines w,0≤f l):0≤S w f:=by
  unfold S
  revert h
  induction lines w with
  | nil=>intro _;simp
  | cons a l ih =>
    intro h
    have h1:=h a List.mem_cons_self
    have h2:=ih fun m hm=>h m (List.mem_cons_of_mem _ hm)
    simp only[List.map_cons,List.sum_cons];omega
theorem S_le {B:Int} (hB:0≤B):∀{w:Nat}{f:List Int→Int},(∀l∈lines w,f l≤B)→S w f≤2 ^ w*B
  | 0,f,h=>by
    rw[S_zero]
    have:=h [] (by simp [lines])
    simpa using this
  | w+1,f,h=>by
    rw[S_succ]
    have h0:=S_le (w:=w) hB (f:=fun l=>f (0::l)) fun l hl=>h _ (by rw[lines,List.mem_append];exact .inl (List.mem_map.mpr ⟨l,hl,rfl⟩))
    have h1:=S_le (w:=w) hB (f:=fun l=>f (1::l)) fun l hl=>h _ (by rw[lines,List.mem_append];exact .inr (List.mem_map.mpr ⟨l,hl,rfl⟩))
    have:(2:Int) ^ (w+1)*B=2 ^ w*B+2 ^ w*B:=by rw[Int.pow_succ,Int.mul_right_comm];omega
    omega
theorem W_nonneg:∀{rs left:List Int},0≤W rs left
  | [],left=>by rw[W];split<;>decide
  | r::rs,left=>by
    rw[W_cons]
    refine S_nonneg fun l _=>?_
    split
    · exact W_nonneg
    · decide
end Tal
set_option linter.all false
set_option maxRecDepth 100000
namespace Tal
def lx:List Int→List Int→Bool
  | [],[]=>false
  | [],_::_=>true
  | _::_,[]=>false
  | x::xs,y::ys=>if x=y then lx xs ys else decide (x<y)
theorem lx_self:∀l:List Int,lx l l=false
  | []=>rfl
  | x::l=>by rw[lx,if_pos rfl];exact lx_self l
theorem lx_cons {x:Int}{a b:List Int}:lx (x::a) (x::b)=lx a b:=by rw[lx,if_pos rfl]
theorem lx_trans:∀{a b c:List Int},lx a b=true→lx b c=true→lx a c=true
  | [],[],_,h,_=>by simp [lx] at h
  | [],y::b,[],_,h=>by simp [lx] at h
  | [],y::b,z::c,_,_=>rfl
  | x::a,[],_,h,_=>by simp [lx] at h
  | x::a,y::b,[],_,h=>by simp [lx] at h
  | x::a,y::b,z::c,h,k=>by
    rw[lx] at h k ⊢
    split at h<;>split at k
    · rename_i e1 e2
      subst e1 e2
      rw[if_pos rfl];exact lx_trans h k
    · rename_i e1 e2
      subst e1
      rw[if_neg e2];exact k
    · rename_i e1 e2
      subst e2
      rw[if_neg e1];exact h
    · rename_i e1 e2
      simp only[decide_eq_true_eq] at h k
      rw[if_neg (by omega)];simp;omega
theorem lx_asymm {a b:List Int} (h:lx a b=true):lx b a=false:=by
  cases e:lx b a
  · rfl
  · have:=lx_trans h e
    rw[lx_self] at this;cases this
theorem lines_sorted:∀w,(lines w).Pairwise (fun a b=>lx a b=true)
  | 0=>by rw[lines];exact List.pairwise_singleton _ _
  | w+1=>by
    have ih:=lines_sorted w
    rw[lines,List.pairwise_append]
    refine⟨?_,?_,?_⟩
    · rw[List.pairwise_map];exact ih.imp fun h=>by rw[lx_cons];exact h
    · rw[List.pairwise_map];exact ih.imp fun h=>by rw[lx_cons];exact h
    · intro a ha b hb
      obtain ⟨x,_,rfl⟩:=List.mem_map.mp ha
      obtain ⟨y,_,rfl⟩:=List.mem_map.mp hb
      rfl
theorem linesW_sorted {x:Int}{w:Nat}:(linesW x w).Pairwise (fun a b=>lx a b=true):=(lines_sorted w).filter _
def A (r:Int) (rs left t:List Int):Int:=(((linesW r left.length).filter fun l=>lx l t).map fun l=>W rs (sub left l)).sum
def N:List Int→List Int→List (List Int)→Int
  | r::rs,left,t::ts=>A r rs left t+N rs (sub left t) ts
  | _,_,_=>0
theorem pick_last {f:List Int→Int} (hf:∀l,0≤f l) {n:Int}:∀{ls:List (List Int)}{acc:Int},ls.Pairwise (fun a b=>lx a b=true)→acc≤n→n<acc+(ls.map f).sum →
    ∃pre x,(ls.filter fun l=>decide (acc+((ls.filter fun m=>lx m l).map f).sum≤n))=pre++[x]∧x∈ls∧acc+((ls.filter fun m=>lx m x).map f).sum≤n∧n<acc+((ls.filter fun m=>lx m x).map f).sum+f x
  | [],acc,_,h1,h2=>by simp at h2;omega
  | y::ls,acc,hs,h1,h2=>by
    obtain ⟨hy,hs'⟩:=List.pairwise_cons.mp hs
    have ay:((y::ls).filter fun m=>lx m y)=[]:=by
      rw[List.filter_eq_nil_iff]
      intro a ha
      rcases List.mem_cons.mp ha with e | e
      · rw[e,lx_self];simp
      · rw[lx_asymm (hy a e)];simp
    have al:∀l∈ls,((y::ls).filter fun m=>lx m l)=y::ls.filter fun m=>lx m l:=fun l hl=>by
      rw[List.filter_cons,if_pos (hy l hl)]
    have nn:∀l,0≤((ls.filter fun m=>lx m l).map f).sum:=fun l=>by
      generalize ls.filter (fun m=>lx m l)=q
      induction q with
      | nil=>simp
      | cons a q ih=>have:=hf a;simp only[List.map_cons,List.sum_cons];omega
    rw[List.map_cons,List.sum_cons] at h2
    have fy:decide (acc+(((y::ls).filter fun m=>lx m y).map f).sum≤n)=true:=by rw[ay];simp;exact h1
    have fl:(ls.filter fun l=>decide (acc+(((y::ls).filter fun m=>lx m l).map f).sum≤n))=ls.filter fun l=>decide ((acc+f y)+((ls.filter fun m=>lx m l).map f).sum≤n):=by
      refine List.filter_congr fun l hl=>?_
      rw[al l hl,List.map_cons,List.sum_cons,Int.add_assoc]
    rw[List.filter_cons,if_pos fy,fl]
    by_cases c:acc+f y≤n
    · obtain ⟨pre,x,e,hx,k1,k2⟩:=pick_last hf (ls:=ls) (acc:=acc+f y) hs' c (by omega)
      refine⟨y::pre,x,by rw[e];rfl,List.mem_cons_of_mem _ hx,?_,?_⟩
      · rw[al x hx,List.map_cons,List.sum_cons];omega
      · rw[al x hx,List.map_cons,List.sum_cons];omega
    · refine⟨[],y,?_,List.mem_cons_self,?_,?_⟩
      · have:(ls.filter fun l=>decide ((acc+f y)+((ls.filter fun m=>lx m l).map f).sum≤n))=[]:=by
          rw[List.filter_eq_nil_iff]
          intro l _
          have:=nn l
          simp;omega
        rw[this];rfl
      · rw[ay];simp;exact h1
      · rw[ay];simp;omega
theorem at_last {r:Int}{rs left:List Int}{n:Int} (h0:0≤n) (h1:n<W (r::rs) left) :
    ∃pre x,((linesW r left.length).filter fun l=>decide (A r rs left l≤n))=pre++[x]∧x∈linesW r left.length∧A r rs left x≤n∧n<A r rs left x+W rs (sub left x):=by
  obtain ⟨pre,x,e,hx,k1,k2⟩:=pick_last (f:=fun l=>W rs (sub left l)) (fun _=>W_nonneg) (ls:=linesW r left.length) (acc:=0) linesW_sorted h0 (by rw[Int.zero_add];exact h1)
  simp only[Int.zero_add] at e k1 k2
  exact⟨pre,x,e,hx,k1,k2⟩
def cols (w:Nat) (T:List (List Int)):List Int:=(List.range w).map fun k=>(T.map fun r=>r.getD k 0).sum
end Tal
set_option Elab.async false
set_option linter.all false
set_option maxRecDepth 100000
set_option maxHeartbeats 4000000
namespace PySem.SeqAt
open PySem PyProof.Rows
open PySem.AutoSeq1 (wpAny_loadPart')
open MeetsSeq MeetsSeq2 MeetsSeq3
end PySem.SeqAt
namespace L2
open PySem PySem.Spec PyProof.Rows
open PySem.SeqAt
section
variable {X:Cx}{pins:List (Addr × Obj)}{σ:St}{H:Hp}{s:Shared}
end
section
variable {X:Cx}
end
end L2
set_option Elab.async false
set_option linter.all false
set_option maxRecDepth 100000
namespace L3
open PySem L2
section
variable {K:PySem.W.Frag}
end
end L3
set_option linter.all false
set_option maxRecDepth 100000
namespace Tal
def bl (w c:Nat):List Int:=(List.range w).map fun (k:Nat)=>((c / 2 ^ k % 2:Nat):Int)
end Tal
set_option Elab.async false
set_option linter.all false
set_option maxRecDepth 100000
set_option maxHeartbeats 4000000
namespace L3
open PySem L2
section
variable {K:PySem.W.Frag}{ρ:Bool}{Γr Γl Γ:List Nat}{H:Hp}
end
end L3
set_option Elab.async false
set_option linter.all false
set_option maxRecDepth 100000
set_option maxHeartbeats 4000000
namespace L3
open PySem L2
section
variable {K:PySem.W.Frag}{ρ:Bool}{Γr Γl Γ Γn:List Nat}{H:Hp}
mutual
def D.strip:D→D
  | .non=>.non
  | .bl b=>.bl b
  | .int i=>.int i
  | .str x=>.str x
  | .lst ds=>.lst (D.strips ds)
  | .tup ds=>.tup (D.strips ds)
  | .dic x=>.dic x
  | .dit x=>.dit x
  | .scr x=>.scr x
  | .pin _ d=>d.strip
  | .mem φ=>.mem φ
  | .raw w=>.raw w
  | .ins C ns ds=>.ins C ns (D.strips ds)
def D.strips:List D→List D
  | []=>[]
  | d::ds=>d.strip::D.strips ds
end
mutual
theorem Rf.strip:∀{d:D}{v:V}{fp:List Addr},Rf K H d v fp→Rf K H d.strip v fp
  | .non,_,_,h=>by rw[D.strip];exact h
  | .bl _,_,_,h=>by rw[D.strip];exact h
  | .int _,_,_,h=>by rw[D.strip];exact h
  | .str _,_,_,h=>by rw[D.strip];exact h
  | .lst ds,_,_,h=>by
    obtain ⟨a,xs,fq,e1,e2,e3,h⟩:=h
    rw[D.strip]
    exact⟨a,xs,fq,e1,e2,e3,Rfs.strips h⟩
  | .tup ds,_,_,h=>by
    obtain ⟨a,xs,e1,e2,h⟩:=h
    rw[D.strip]
    exact⟨a,xs,e1,e2,Rfs.strips h⟩
  | .dic _,_,_,h=>by rw[D.strip];exact h
  | .dit _,_,_,h=>by rw[D.strip];exact h
  | .scr _,_,_,h=>by rw[D.strip];exact h
  | .pin _ d,_,_,h=>by rw[D.strip];exact Rf.strip h.2
  | .mem _,_,_,h=>by rw[D.strip];exact h
  | .raw _,_,_,h=>by rw[D.strip];exact h
  | .ins C ns ds,_,_,h=>by
    obtain ⟨a,dx,xs,fq,e1,e2,e3,h⟩:=h
    rw[D.strip]
    exact⟨a,dx,xs,fq,e1,e2,e3,Rfs.strips h⟩
theorem Rfs.strips:∀{ds:List D}{vs:List V}{fp:List Addr},Rfs K H ds vs fp→Rfs K H (D.strips ds) vs fp
  | [],_,_,h=>by rw[D.strips];exact h
  | d::ds,_,_,h=>by
    obtain ⟨x,r,f1,f2,e1,e2,h1,h2⟩:=h
    rw[D.strips]
    exact⟨x,r,f1,f2,e1,e2,Rf.strip h1,Rfs.strips h2⟩
end
theorem strips_map {ds:List D}:D.strips ds=ds.map D.strip:=by
  induction ds with
  | nil=>rw[D.strips];rfl
  | cons d ds ih=>rw[D.strips,ih];rfl
def vStrip (d:DE) (δ:Dl) (P:DK):Prop:=d δ fun x=>P x.strip
theorem strip_dI {r:List Int}:(dI r).strip=dI r:=by
  rw[D.strip,strips_map,List.map_map]
  congr 1
def vRawOf (d:DE) (δ:Dl) (P:DK):Prop:=d δ fun x=>∃a y,x=.pin a y∧P (.raw (.ref a))
theorem ER.rawOf {t:TE}{d:DE} (h:ER K Γ t d):EM K Γ [] t (vRawOf d) :=
  ⟨fun δ P P' k q=>h.mono _ _ _ (fun x ⟨a,y,e,z⟩=>⟨a,y,e,k _ z⟩) q,fun {B0 fps δ σ H Q} o q=>h.run o (h.mono _ _ _ (fun x z v H1 s1 r1=>by
    obtain ⟨a,y,rfl,z⟩:=z
    obtain ⟨fp,e,_⟩:=r1
    exact z v H1 [] s1 ⟨e,rfl⟩ Nw.nil) q)⟩
end
end L3
set_option linter.all false
set_option maxRecDepth 100000
namespace L2
open PySem PySem.Spec PyProof.Rows
section
variable {X:Cx}
end
end L2
set_option linter.all false
set_option maxRecDepth 100000
namespace L3
open PySem L2
section
variable {K:PySem.W.Frag}
end
end L3
set_option Elab.async false
set_option linter.all false
set_option maxRecDepth 100000
set_option maxHeartbeats 4000000
namespace L3
open PySem
open L2 hiding D Rf Rfs Rp dI dT
theorem sum_set1:∀{l:List Int}{b:Nat}{v:Int},b<l.length→(l.set b v).sum=l.sum+(v - l.getD b 0)
  | [],b,v,h=>by simp at h
  | x::l,0,v,h=>by simp;omega
  | x::l,b+1,v,h=>by
    have:=sum_set1 (l:=l) (b:=b) (v:=v) (by simpa using h)
    simp only[List.set_cons_succ,List.sum_cons,this,List.getD_cons_succ]
    omega
def rsum (t:List (List Int)) (a:Nat):Int:=(rowAt t a).sum
def csum (t:List (List Int)) (c:Nat):Int:=(t.map fun r=>r.getD c 0).sum
theorem rsum_set {t:List (List Int)}{n m a b a':Nat}{v:Int} (hR:Rect n m t) (ha:a<n) (hb:b<m):rsum (setCell t a b v) a'=rsum t a' + if a=a' then v - cellAt t a b else 0:=by
  have hl:=hR.1
  have hr:=hR.row ha
  unfold rsum rowAt setCell cellAt
  by_cases h:a=a'
  · subst h
    rw[if_pos rfl,List.getD_eq_getElem?_getD (l:=t.set a _),List.getElem?_set_self (by omega),Option.getD_some,sum_set1 (by rw[show (t.getD a []).length=m from hr];exact hb)]
  · rw[if_neg h,List.getD_eq_getElem?_getD (l:=t.set a _),List.getElem?_set_ne h,← List.getD_eq_getElem?_getD];omega
theorem csum_set {t:List (List Int)}{n m a b c:Nat}{v:Int} (hR:Rect n m t) (ha:a<n) (hb:b<m):csum (setCell t a b v) c=csum t c+if b=c then v - cellAt t a b else 0:=by
  have hl:=hR.1
  have hr:=hR.row ha
  unfold csum setCell cellAt
  rw[List.map_set,sum_set1 (by rw[List.length_map];omega)]
  have e:(t.map fun r=>r.getD c 0).getD a 0=(t.getD a []).getD c 0:=by
    rw[List.getD_eq_getElem?_getD,List.getElem?_map,List.getElem?_eq_getElem (by omega),List.getD_eq_getElem?_getD (l:=t),List.getElem?_eq_getElem (by omega)]
    rfl
  rw[e]
  have hr':(t.getD a []).length=m:=hr
  by_cases h:b=c
  · subst h
    rw[if_pos rfl,List.getD_eq_getElem?_getD (l:=List.set _ _ _),List.getElem?_set_self (by omega),Option.getD_some]
  · rw[if_neg h,List.getD_eq_getElem?_getD (l:=List.set _ _ _),List.getElem?_set_ne h,← List.getD_eq_getElem?_getD];omega
theorem rsums_ext {t u:List (List Int)} (hl:t.length=u.length) (h:∀a,a<t.length→rsum t a=rsum u a):t.map List.sum=u.map List.sum:=by
  refine List.ext_getElem (by rw[List.length_map,List.length_map];exact hl) fun a h1 h2=>?_
  rw[List.length_map] at h1 h2
  have:=h a h1
  unfold rsum rowAt at this
  rw[List.getD_eq_getElem?_getD,List.getD_eq_getElem?_getD,List.getElem?_eq_getElem h1,List.getElem?_eq_getElem h2] at this
  rw[List.getElem_map,List.getElem_map]
  exact this
theorem square_sums {t:List (List Int)}{n m i j k l:Nat} (hR:Rect n m t) (hi:i<n) (hk:k<n) (hj:j<m) (hl:l<m) (h1:cellAt t i j=1) (h2:cellAt t i l=0) (h3:cellAt t k j=0) (h4:cellAt t k l=1) :
    (∀a,rsum (swapped t i j k l) a=rsum t a)∧∀c,csum (swapped t i j k l) c=csum t c:=by
  have jl:j≠l:=fun z=>by rw[z] at h1;omega
  have ik:i≠k:=fun z=>by rw[z] at h1;omega
  have r1:=hR.setCell (i:=i) (j:=j) (v:=0) hi
  have r2:=r1.setCell (i:=i) (j:=l) (v:=1) hi
  have r3:=r2.setCell (i:=k) (j:=j) (v:=1) hk
  have e2:cellAt (setCell t i j 0) i l=0:=by rw[cell_set hR hi hj,if_neg (fun z=>jl z.2)];exact h2
  have e3:cellAt (setCell (setCell t i j 0) i l 1) k j=0:=by rw[cell_set r1 hi hl,if_neg (fun z=>ik z.1),cell_set hR hi hj,if_neg (fun z=>ik z.1)];exact h3
  have e4:cellAt (setCell (setCell (setCell t i j 0) i l 1) k j 1) k l=1:=by rw[cell_set r2 hk hj,if_neg (fun z=>jl z.2),cell_set r1 hi hl,if_neg (fun z=>ik z.1),cell_set hR hi hj,if_neg (fun z=>ik z.1)];exact h4
  refine⟨fun a=>?_,fun c=>?_⟩
  · unfold swapped
    rw[rsum_set r3 hk hl,rsum_set r2 hk hj,rsum_set r1 hi hl,rsum_set hR hi hj,e2,e3,e4,h1]
    split<;>split<;>omega
  · unfold swapped
    rw[csum_set r3 hk hl,csum_set r2 hk hj,csum_set r1 hi hl,csum_set hR hi hj,e2,e3,e4,h1]
    split<;>split<;>omega
end L3
set_option Elab.async false
set_option linter.all false
set_option maxRecDepth 100000
set_option maxHeartbeats 4000000
namespace L3
namespace Fl
def sN (n:Nat) (f:Nat→Int):Int:=((List.range n).map f).sum
theorem sN_zero {f:Nat→Int}:sN 0 f=0:=rfl
theorem sN_succ {n:Nat}{f:Nat→Int}:sN (n+1) f=sN n f+f n:=by
  unfold sN;rw[List.range_succ,List.map_append,List.sum_append];simp
theorem sN_congr {n:Nat}{f g:Nat→Int} (h:∀i,i<n→f i=g i):sN n f=sN n g:=by
  unfold sN;congr 1;exact List.map_congr_left fun i hi=>h i (List.mem_range.mp hi)
theorem sN_add {f g:Nat→Int}:∀{n:Nat},sN n (fun i=>f i+g i)=sN n f+sN n g
  | 0=>rfl
  | n+1=>by rw[sN_succ,sN_succ,sN_succ,sN_add];omega
theorem sN_sub {f g:Nat→Int}:∀{n:Nat},sN n (fun i=>f i - g i)=sN n f - sN n g
  | 0=>rfl
  | n+1=>by rw[sN_succ,sN_succ,sN_succ,sN_sub];omega
theorem sN_nought:∀{n:Nat},sN n (fun _=>0)=0
  | 0=>rfl
  | n+1=>by rw[sN_succ,sN_nought];rfl
theorem sN_comm {m:Nat}{f:Nat→Nat→Int}:∀{n:Nat},sN n (fun i=>sN m fun j=>f i j)=sN m fun j=>sN n fun i=>f i j
  | 0=>(sN_nought (n:=m)).symm
  | n+1=>by
    rw[sN_succ,sN_comm,← sN_add]
    exact sN_congr fun j _=>sN_succ.symm
theorem sN_nonneg {f:Nat→Int}:∀{n:Nat},(∀i,i<n→0≤f i)→0≤sN n f
  | 0,_=>Int.le_refl _
  | n+1,h=>by
    rw[sN_succ]
    have:=sN_nonneg (f:=f) (n:=n) fun i hi=>h i (by omega)
    have:=h n (by omega)
    omega
theorem sN_pos {f:Nat→Int}{k:Nat}:∀{n:Nat},(∀i,i<n→0≤f i)→k<n→0<f k→0<sN n f
  | 0,_,h,_=>by omega
  | n+1,h,hk,hp=>by
    rw[sN_succ]
    have a:=sN_nonneg (f:=f) (n:=n) fun i hi=>h i (by omega)
    have b:=h n (by omega)
    rcases Nat.lt_or_ge k n with z | z
    · have:=sN_pos (fun i hi=>h i (by omega)) z hp
      omega
    · have e:k=n:=by omega
      subst e;omega
theorem sum_sN {l:List Int}:l.sum=sN l.length fun i=>l.getD i 0:=by
  unfold sN
  congr 1
  refine List.ext_getElem (by simp) fun i h1 h2=>?_
  rw[List.getElem_map,List.getElem_range,List.getD_eq_getElem?_getD,List.getElem?_eq_getElem h1];rfl
theorem rsum_sN {t:List (List Int)}{n m a:Nat} (h:Rect n m t) (ha:a<n):rsum t a=sN m fun j=>cellAt t a j:=by
  unfold rsum;rw[sum_sN,show (rowAt t a).length=m from h.row ha]
theorem csum_sN {t:List (List Int)}{n m b:Nat} (h:Rect n m t):csum t b=sN n fun i=>cellAt t i b:=by
  unfold csum;rw[sum_sN,List.length_map,h.1]
  refine sN_congr fun i hi=>?_
  have hi':i<t.length:=by rw[h.1];exact hi
  unfold cellAt
  rw[List.getD_eq_getElem?_getD,List.getElem?_map,List.getElem?_eq_getElem hi',List.getD_eq_getElem?_getD (l:=t),List.getElem?_eq_getElem hi']
  rfl
structure St (n m:Nat) (rows cols:List Int) (low high:List (List Int)) (t:List (List Int)) (w r:List Int):Prop where
  rt:Rect n m t
  wl:w.length=n
  rl:r.length=m
  bd:∀i j,i<n→j<m→cellAt low i j≤cellAt t i j∧cellAt t i j≤cellAt high i j
  rs:∀i,i<n→rows.getD i 0=w.getD i 0+rsum t i
  cs:∀j,j<m→cols.getD j 0=r.getD j 0+csum t j
  rp:∀j,j<m→0≤r.getD j 0
  ng:∀i,i<n→w.getD i 0<0→∀j,j<m→cellAt t i j=cellAt low i j
theorem filled {n m:Nat}{rows cols:List Int}{low high t:List (List Int)}{w r:List Int} (s:St n m rows cols low high t w r) (hr:rows.length=n) (hc:cols.length=m) (hs:rows.sum=cols.sum) (h:∀i,i<n→w.getD i 0≤0) :
    (∀i,i<n→rsum t i=rows.getD i 0)∧∀j,j<m→csum t j=cols.getD j 0:=by
  have e1:rows.sum=sN n (fun i=>w.getD i 0)+sN n fun i=>sN m fun j=>cellAt t i j:=by
    rw[sum_sN,hr,← sN_add]
    exact sN_congr fun i hi=>by rw[s.rs i hi,rsum_sN s.rt hi]
  have e2:cols.sum=sN m (fun j=>r.getD j 0)+sN n fun i=>sN m fun j=>cellAt t i j:=by
    rw[sum_sN,hc,sN_comm,← sN_add]
    exact sN_congr fun j hj=>by rw[s.cs j hj,csum_sN s.rt]
  have a1:=sN_nonneg (f:=fun j=>r.getD j 0) (n:=m) s.rp
  have a2:0≤sN n (fun i=>0 - w.getD i 0):=sN_nonneg fun i hi=>by have:=h i hi;omega
  rw[sN_sub,sN_nought] at a2
  refine⟨fun i hi=>?_,fun j hj=>?_⟩
  · have:=s.rs i hi
    have hw:=h i hi
    rcases Int.lt_or_le (w.getD i 0) 0 with z | z
    · have p:0<sN n (fun i=>0 - w.getD i 0):=sN_pos (k:=i) (fun i hi=>by have:=h i hi;omega) hi (by omega)
      rw[sN_sub,sN_nought] at p
      omega
    · omega
  · have:=s.cs j hj
    have hr:=s.rp j hj
    rcases Int.lt_or_le 0 (r.getD j 0) with z | z
    · have p:=sN_pos (f:=fun j=>r.getD j 0) (k:=j) s.rp hj z
      omega
    · omega
def Al (Q0 Q1:Nat × Nat→Prop):List (Nat × Nat)→Prop
  | []=>True
  | p::r=>Q0 p∧Al Q1 Q0 r
end Fl
end L3
set_option Elab.async false
set_option linter.all false
set_option maxRecDepth 100000
set_option maxHeartbeats 4000000
namespace L3
namespace Rg
open Fl
abbrev Q4:=Int × Int × Int × Int
def goT (n m:Nat):List (List Int)→List Q4→Option (List (List Int))
  | t,[]=>some t
  | t,(i,j,k,l)::r=>if CanSwap n m t i j k l then goT n m (swapped t i.toNat j.toNat k.toNat l.toNat) r else none
theorem goT_ok {n m:Nat}{t:List (List Int)}{i j k l:Int}{r:List Q4} (h:CanSwap n m t i j k l):goT n m t ((i,j,k,l)::r)=goT n m (swapped t i.toNat j.toNat k.toNat l.toNat) r:=by rw[goT,if_pos h]
theorem goT_no {n m:Nat}{t:List (List Int)}{i j k l:Int}{r:List Q4} (h:¬ CanSwap n m t i j k l):goT n m t ((i,j,k,l)::r)=none:=by rw[goT,if_neg h]
theorem goT_app {n m:Nat}{ys:List Q4}:∀{xs:List Q4}{t u:List (List Int)},goT n m t xs=some u→goT n m t (xs++ys)=goT n m u ys
  | [],t,u,h=>by cases h;rfl
  | (i,j,k,l)::xs,t,u,h=>by
    by_cases c:CanSwap n m t i j k l
    · rw[goT_ok c] at h
      rw[List.cons_append,goT_ok c]
      exact goT_app h
    · rw[goT_no c] at h;cases h
theorem swapped_rect {n m:Nat}{t:List (List Int)}{i j k l:Int} (hR:Rect n m t) (h:CanSwap n m t i j k l):Rect n m (swapped t i.toNat j.toNat k.toNat l.toNat):=by
  obtain ⟨hi,hk,hj,hl,_⟩:=h
  exact (((hR.setCell (by omega)).setCell (by omega)).setCell (by omega)).setCell (by omega)
structure Kp (n m:Nat) (t u:List (List Int)):Prop where
  on:Ones n m u
  rs:∀a,rsum u a=rsum t a
  cs:∀b,csum u b=csum t b
theorem goT_kp {n m:Nat}:∀{xs:List Q4}{t u:List (List Int)},Ones n m t→goT n m t xs=some u→Kp n m t u
  | [],t,u,h,e=>by cases e;exact⟨h,fun _=>rfl,fun _=>rfl⟩
  | (i,j,k,l)::xs,t,u,h,e=>by
    by_cases c:CanSwap n m t i j k l
    · rw[goT_ok c] at e
      obtain ⟨hi,hk,hj,hl,c1,c2,c3,c4⟩:=c
      have q:=goT_kp (swapped_ones h (by omega) (by omega)) e
      have s:=square_sums h.1 (i:=i.toNat) (j:=j.toNat) (k:=k.toNat) (l:=l.toNat) (by omega) (by omega) (by omega) (by omega) c1 c2 c3 c4
      exact⟨q.on,fun a=>(q.rs a).trans (s.1 a),fun b=>(q.cs b).trans (s.2 b)⟩
    · rw[goT_no c] at e;cases e
theorem sN_at {f:Nat→Int}{c:Nat}:∀{m:Nat},c<m→sN m (fun j=>if j=c then f j else 0)=f c
  | 0,h=>by omega
  | m+1,h=>by
    rw[sN_succ]
    rcases Nat.lt_or_ge c m with z | z
    · rw[sN_at z,if_neg (by omega)];omega
    · have e:c=m:=by omega
      subst e
      rw[if_pos rfl,sN_congr (g:=fun _=>0) (fun i hi=>if_neg (by omega)),sN_nought];omega
theorem sN_tel {f:Nat→Int}:∀{m:Nat},sN m (fun q=>f q - f (q+1))=f 0 - f m
  | 0=>by rw[sN_zero];omega
  | m+1=>by rw[sN_succ,sN_tel];omega
def ii (p:Prop) [Decidable p]:Int:=if p then 1 else 0
structure Ring (n m L:Nat) (T:Nat→Nat→Int) (r c:Nat→Nat):Prop where
  two:2≤L
  ri:∀p q,p<L→q<L→r p=r q→p=q
  ci:∀p q,p<L→q<L→c p=c q→p=q
  rn:∀p,p<L→r p<n
  cm:∀p,p<L→c p<m
  a:∀p,p<L→T (r p) (c p)=0
  b:∀p,p+1<L→T (r (p+1)) (c p)=1
  e:T (r 0) (c (L - 1))=1
def dl (L:Nat) (r c:Nat→Nat) (p a b:Nat):Int:=(ii (a=r p) - ii (a=r (p+1)))*(ii (b=c p) - ii (b=c (L - 1)))
def St (n m L:Nat) (T:Nat→Nat→Int) (r c:Nat→Nat) (S:Nat→Bool) (U:List (List Int)):Prop:=Rect n m U∧∀a b,a<n→b<m→cellAt U a b=T a b+sN (L - 1) fun q=>if S q then dl L r c q a b else 0
def q4 (L:Nat) (r c:Nat→Nat) (p:Nat):Q4:=((r p:Int),(c (L - 1):Int),(r (p+1):Int),(c p:Int))
section
variable {n m L:Nat}{T:Nat→Nat→Int}{r c:Nat→Nat}{S:Nat→Bool}{U:List (List Int)}
theorem ii_t {p:Prop} [Decidable p] (h:p):ii p=1:=if_pos h
theorem ii_f {p:Prop} [Decidable p] (h:¬ p):ii p=0:=if_neg h
theorem Ring.inn (h:Ring n m L T r c) {p:Nat} (hp:p+1<L):sN (L - 1) (fun q=>if S q then dl L r c q (r p) (c p) else 0)=if S p then 1 else 0:=by
  have:=h.two
  rw[sN_congr (g:=fun q=>if q=p then (if S q then 1 else 0) else 0) fun q hq=>?_,sN_at (f:=fun q=>if S q then 1 else 0) (show p<L - 1 by omega)]
  by_cases z:q=p
  · subst z
    rw[if_pos rfl]
    unfold dl
    rw[ii_t rfl,ii_f (fun z=>by have:=h.ri _ _ (by omega) (by omega) z;omega),ii_t rfl,ii_f (fun z=>by have:=h.ci _ _ (by omega) (by omega) z;omega)]
    rfl
  · rw[if_neg z]
    unfold dl
    rw[ii_f (p:=c p=c q) (fun y=>z (h.ci _ _ (by omega) (by omega) y).symm),ii_f (p:=c p=c (L - 1)) (fun z=>by have:=h.ci _ _ (by omega) (by omega) z;omega),Int.sub_self,Int.mul_zero]
    split<;>rfl
theorem Ring.out (h:Ring n m L T r c) {p:Nat} (hp:p+1<L):sN (L - 1) (fun q=>if S q then dl L r c q (r (p+1)) (c p) else 0)=if S p then -1 else 0:=by
  have:=h.two
  rw[sN_congr (g:=fun q=>if q=p then (if S q then -1 else 0) else 0) fun q hq=>?_,sN_at (f:=fun q=>if S q then -1 else 0) (show p<L - 1 by omega)]
  by_cases z:q=p
  · subst z
    rw[if_pos rfl]
    unfold dl
    rw[ii_f (fun z=>by have:=h.ri _ _ (by omega) (by omega) z;omega),ii_t rfl,ii_t rfl,ii_f (fun z=>by have:=h.ci _ _ (by omega) (by omega) z;omega)]
    rfl
  · rw[if_neg z]
    unfold dl
    rw[ii_f (p:=c p=c q) (fun y=>z (h.ci _ _ (by omega) (by omega) y).symm),ii_f (p:=c p=c (L - 1)) (fun z=>by have:=h.ci _ _ (by omega) (by omega) z;omega),Int.sub_self,Int.mul_zero]
    split<;>rfl
theorem Ring.las (h:Ring n m L T r c) {p:Nat} (hp:p<L):sN (L - 1) (fun q=>if S q then dl L r c q (r p) (c (L - 1)) else 0)=(if 1≤p∧S (p - 1) then 1 else 0) - (if p+1<L∧S p then 1 else 0):=by
  have:=h.two
  rw[sN_congr (g:=fun q=>(if q=p - 1 then (if 1≤p∧S q then 1 else 0) else 0) - (if q=p then (if S q then 1 else 0) else 0)) fun q hq=>?_,sN_sub]
  · congr 1
    · rw[sN_at (f:=fun q=>if 1≤p∧S q then 1 else 0) (show p - 1<L - 1 by omega)]
    · by_cases z:p+1<L
      · rw[sN_at (f:=fun q=>if S q then 1 else 0) (show p<L - 1 by omega)]
        simp [z]
      · rw[sN_congr (g:=fun _=>0) (fun q hq=>if_neg (by omega)),sN_nought,if_neg (fun y=>z y.1)]
  · unfold dl
    rw[ii_f (p:=c (L - 1)=c q) (fun y=>by have:=h.ci _ _ (by omega) (by omega) y;omega),ii_t (p:=c (L - 1)=c (L - 1)) rfl]
    by_cases z1:q=p
    · subst z1
      rw[ii_t rfl,ii_f (p:=r q=r (q+1)) (fun y=>by have:=h.ri _ _ (by omega) (by omega) y;omega),if_pos rfl]
      rw[show (if q=q - 1 then (if 1≤q∧S q=true then (1:Int) else 0) else 0)=0 by
        split
        · rw[if_neg (by omega)]
        · rfl]
      split<;>rfl
    · rw[if_neg z1,ii_f (p:=r p=r q) (fun y=>z1 (h.ri _ _ (by omega) (by omega) y).symm)]
      by_cases z2:q+1=p
      · rw[if_pos (c:=q=p - 1) (by omega),ii_t (p:=r p=r (q+1)) (by rw[z2])]
        by_cases s:S q=true
        · rw[if_pos s,if_pos ⟨by omega,s⟩];rfl
        · rw[if_neg s,if_neg (fun y=>s y.2)];rfl
      · rw[ii_f (p:=r p=r (q+1)) (fun y=>z2 (h.ri _ _ (by omega) (by omega) y).symm)]
        rw[show (if q=p - 1 then (if 1≤p∧S q=true then (1:Int) else 0) else 0)=0 by
          split
          · rw[if_neg (by omega)]
          · rfl]
        split<;>rfl
theorem Ring.step (h:Ring n m L T r c) (hS:St n m L T r c S U) {p:Nat} (hp:p+1<L) (sp:S p=false) (c1:T (r p) (c (L - 1))+(if 1≤p∧S (p - 1) then 1 else 0)=1) (c2:T (r (p+1)) (c (L - 1))=if p+1+1<L∧S (p+1) then 1 else 0) {rest:List Q4} :
    ∃U',goT n m U (q4 L r c p::rest)=goT n m U' rest∧St n m L T r c (fun q=>S q || decide (q=p)) U':=by
  have two:=h.two
  have rp:=h.rn p (by omega)
  have rp1:=h.rn (p+1) hp
  have cp:=h.cm p (by omega)
  have cl:=h.cm (L - 1) (by omega)
  have nr:r p≠r (p+1):=fun z=>by have:=h.ri _ _ (by omega) (by omega) z;omega
  have nc:c p≠c (L - 1):=fun z=>by have:=h.ci _ _ (by omega) (by omega) z;omega
  have e1:cellAt U (r p) (c (L - 1))=1:=by
    rw[hS.2 _ _ rp cl,h.las (show p<L by omega),if_neg (c:=p+1<L∧S p=true) (fun z=>by rw[sp] at z;exact absurd z.2 Bool.false_ne_true)]
    omega
  have e2:cellAt U (r p) (c p)=0:=by
    rw[hS.2 _ _ rp cp,h.inn hp,h.a p (by omega),sp];rfl
  have e3:cellAt U (r (p+1)) (c (L - 1))=0:=by
    rw[hS.2 _ _ rp1 cl,h.las hp,if_neg (c:=1≤p+1∧S (p+1 - 1)=true) (fun z=>by rw[Nat.add_sub_cancel,sp] at z;exact absurd z.2 Bool.false_ne_true),c2]
    omega
  have e4:cellAt U (r (p+1)) (c p)=1:=by
    rw[hS.2 _ _ rp1 cp,h.out hp,h.b p hp,sp];rfl
  have can:CanSwap n m U (r p:Int) (c (L - 1):Int) (r (p+1):Int) (c p:Int):=⟨⟨by omega,by omega⟩,⟨by omega,by omega⟩,⟨by omega,by omega⟩,⟨by omega,by omega⟩,e1,e2,e3,e4⟩
  refine⟨_,goT_ok can,swapped_rect hS.1 can,fun a b ha hb=>?_⟩
  simp only[Int.toNat_natCast]
  rw[swapped_cell hS.1 rp rp1 cl cp]
  have add:(sN (L - 1) fun q=>if (S q || decide (q=p))=true then dl L r c q a b else 0)=(sN (L - 1) fun q=>if S q then dl L r c q a b else 0)+dl L r c p a b:=by
    rw[← sN_at (f:=fun q=>dl L r c q a b) (show p<L - 1 by omega),← sN_add]
    refine sN_congr fun q _=>?_
    by_cases z:q=p
    · subst z;simp [sp]
    · simp [z]
  rw[add,← Int.add_assoc,← hS.2 a b ha hb]
  unfold dl
  by_cases a1:a=r p
  · subst a1
    rw[ii_t (p:=r p=r p) rfl,ii_f (p:=r p=r (p+1)) nr,if_neg (fun z=>nr z.1.symm),if_neg (fun z=>nr z.1.symm)]
    by_cases b1:b=c p
    · subst b1
      rw[if_pos ⟨rfl,rfl⟩,e2,ii_t rfl,ii_f nc];rfl
    · rw[if_neg (fun z=>b1 z.2.symm),ii_f b1]
      by_cases b2:b=c (L - 1)
      · subst b2
        rw[if_pos ⟨rfl,rfl⟩,e1,ii_t rfl];rfl
      · rw[if_neg (fun z=>b2 z.2.symm),ii_f b2,Int.sub_self,Int.mul_zero,Int.add_zero]
  · rw[ii_f a1]
    by_cases a2:a=r (p+1)
    · subst a2
      rw[ii_t rfl]
      by_cases b1:b=c p
      · subst b1
        rw[if_pos ⟨rfl,rfl⟩,e4,ii_t rfl,ii_f nc];rfl
      · rw[if_neg (fun z=>b1 z.2.symm),ii_f b1]
        by_cases b2:b=c (L - 1)
        · subst b2
          rw[if_pos ⟨rfl,rfl⟩,e3,ii_t rfl];rfl
        · rw[if_neg (fun z=>b2 z.2.symm),if_neg (fun z=>a1 z.1.symm),if_neg (fun z=>a1 z.1.symm),ii_f b2,Int.sub_self,Int.mul_zero,Int.add_zero]
    · rw[ii_f a2,if_neg (fun z=>a2 z.1.symm),if_neg (fun z=>a2 z.1.symm),if_neg (fun z=>a1 z.1.symm),if_neg (fun z=>a1 z.1.symm),Int.sub_self,Int.zero_mul,Int.add_zero]
theorem St.cg {S':Nat→Bool} (h:St n m L T r c S U) (e:∀q,q+1<L→S q=S' q):St n m L T r c S' U:=⟨h.1,fun a b ha hb=>by
  rw[h.2 a b ha hb,sN_congr (n:=L - 1) fun q hq=>by rw[e q (by omega)]]⟩
def ah (L:Nat) (T:Nat→Nat→Int) (r c:Nat→Nat) (p:Nat):Bool:=decide (T (r (p+1)) (c (L - 1))=0)
theorem Ring.first (h:Ring n m L T r c) (hb:∀p,p<L→T (r p) (c (L - 1))=0∨T (r p) (c (L - 1))=1) {p:Nat} (hp:p<L):T (r p) (c (L - 1))+(if 1≤p∧ah L T r c (p - 1)=true then 1 else 0)=1:=by
  rcases Nat.eq_zero_or_pos p with z | z
  · subst z
    rw[if_neg (by omega),h.e];rfl
  · have e:ah L T r c (p - 1)=decide (T (r p) (c (L - 1))=0):=by unfold ah;rw[show p - 1+1=p by omega]
    rw[e]
    rcases hb p hp with y | y
    · rw[y,if_pos ⟨z,by simp⟩];rfl
    · rw[y,if_neg (fun w=>by simp at w)];rfl
theorem Ring.ahead (h:Ring n m L T r c) (hb:∀p,p<L→T (r p) (c (L - 1))=0∨T (r p) (c (L - 1))=1) {t:List (List Int)} (ht:St n m L T r c (fun _=>false) t):∀k,k+1≤L→∃U,goT n m t (((List.range k).filter (ah L T r c)).map (q4 L r c))=some U∧St n m L T r c (fun q=>decide (q<k) && ah L T r c q) U
  | 0,_=>⟨t,rfl,ht.cg fun q _=>by simp⟩
  | k+1,hk=>by
    obtain ⟨U,e,hS⟩:=h.ahead hb ht k (by omega)
    rw[List.range_succ,List.filter_append,List.map_append,goT_app e]
    by_cases z:ah L T r c k=true
    · obtain ⟨U',e',hS'⟩:=h.step hS (p:=k) (by omega) (by simp) (by
        refine Eq.trans (congrArg (T (r k) (c (L - 1))+·) ?_) (h.first hb (p:=k) (by omega))
        by_cases y:1≤k∧ah L T r c (k - 1)=true
        · rw[if_pos y,if_pos ⟨y.1,by simp [y.2];omega⟩]
        · rw[if_neg y,if_neg (fun w=>y ⟨w.1,by simp at w;exact w.2.2⟩)]) (by
        rw[if_neg (fun w=>by simp at w;omega)]
        exact of_decide_eq_true z) (rest:=[])
      refine⟨U',?_,hS'.cg fun q hq=>?_⟩
      · rw[show (List.filter (ah L T r c) [k])=[k] by simp [z]]
        exact e'
      · by_cases y:q=k
        · subst y;simp [z]
        · have:decide (q<k+1)=decide (q<k):=decide_eq_decide.mpr (by omega)
          simp [y,this]
    · refine⟨U,?_,hS.cg fun q hq=>?_⟩
      · rw[show (List.filter (ah L T r c) [k])=[] by simp [z]];rfl
      · by_cases y:q=k
        · subst y;simp [z]
        · have:decide (q<k+1)=decide (q<k):=decide_eq_decide.mpr (by omega)
          simp [this]
theorem Ring.behind (h:Ring n m L T r c) (hb:∀p,p<L→T (r p) (c (L - 1))=0∨T (r p) (c (L - 1))=1):∀M,M+1≤L→∀U,St n m L T r c (fun q=>ah L T r c q || decide (M≤q)) U→∃U',goT n m U ((((List.range M).filter fun q=>!ah L T r c q).reverse).map (q4 L r c))=some U'∧St n m L T r c (fun _=>true) U'
  | 0,_,U,hS=>⟨U,rfl,hS.cg fun q _=>by simp⟩
  | M+1,hM,U,hS=>by
    rw[List.range_succ,List.filter_append,List.reverse_append,List.map_append]
    by_cases z:ah L T r c M=true
    · rw[show (List.filter (fun q=>!ah L T r c q) [M])=[] by simp [z]]
      refine h.behind hb M (by omega) U (hS.cg fun q hq=>?_)
      by_cases y:q=M
      · subst y;simp [z]
      · have:decide (M+1≤q)=decide (M≤q):=decide_eq_decide.mpr (by omega)
        rw[this]
    · have zf:ah L T r c M=false:=by simpa using z
      have one:T (r (M+1)) (c (L - 1))=1:=by
        rcases hb (M+1) (by omega) with y | y
        · exact absurd (show ah L T r c M=true from decide_eq_true y) z
        · exact y
      have lt:M+1+1<L:=by
        rcases Nat.lt_or_ge (M+1+1) L with y | y
        · exact y
        · have e:L - 1=M+1:=by omega
          have:=h.a (M+1) (by omega)
          rw[e] at one
          omega
      rw[show (List.filter (fun q=>!ah L T r c q) [M])=[M] by simp [z]]
      obtain ⟨U',e',hS'⟩:=h.step hS (p:=M) (by omega) (by simp [zf]) (by
        refine Eq.trans (congrArg (T (r M) (c (L - 1))+·) ?_) (h.first hb (p:=M) (by omega))
        by_cases y:1≤M∧ah L T r c (M - 1)=true
        · rw[if_pos y,if_pos ⟨y.1,by simp [y.2]⟩]
        · rw[if_neg y,if_neg (fun w=>y ⟨w.1,by
            have:=w.2
            rw[Bool.or_eq_true] at this
            rcases this with u | u
            · exact u
            · have:=of_decide_eq_true u;omega⟩)]) (by
        rw[one,if_pos ⟨lt,by simp⟩]) (rest:=(((List.range M).filter fun q=>!ah L T r c q).reverse).map (q4 L r c))
      obtain ⟨U2,e2,hS2⟩:=h.behind hb M (by omega) U' (hS'.cg fun q hq=>by
        by_cases y:q=M
        · subst y;simp
        · have:decide (M+1≤q)=decide (M≤q):=decide_eq_decide.mpr (by omega)
          rw[this];simp [y])
      exact⟨U2,e'.trans e2,hS2⟩
def rsw (L:Nat) (T:Nat→Nat→Int) (r c:Nat→Nat):List Nat:=(List.range (L - 1)).filter (ah L T r c)++((List.range (L - 1)).filter fun q=>!ah L T r c q).reverse
theorem rsw_len:(rsw L T r c).length=L - 1:=by
  unfold rsw
  rw[List.length_append,List.length_reverse]
  have:=List.length_eq_countP_add_countP (ah L T r c) (l:=List.range (L - 1))
  rw[List.length_range,List.countP_eq_length_filter,List.countP_eq_length_filter] at this
  have e:(fun q=>!ah L T r c q)=fun a=>decide ¬ ah L T r c a=true:=by
    funext q;cases ah L T r c q<;>rfl
  rw[e]
  omega
theorem Ring.all (h:Ring n m L T r c) (hb:∀p,p<L→T (r p) (c (L - 1))=0∨T (r p) (c (L - 1))=1) {t:List (List Int)} (hR:Rect n m t) (ht:∀a b,a<n→b<m→cellAt t a b=T a b):∃U,goT n m t ((rsw L T r c).map (q4 L r c))=some U∧St n m L T r c (fun _=>true) U:=by
  have:=h.two
  obtain ⟨U,e,hS⟩:=h.ahead hb (t:=t) ⟨hR,fun a b ha hb=>by
    have z:(sN (L - 1) fun q=>if (fun _:Nat=>false) q=true then dl L r c q a b else 0)=0:=(sN_congr (g:=fun _=>0) (fun q _=>rfl)).trans sN_nought
    rw[ht a b ha hb,z,Int.add_zero]⟩ (L - 1) (by omega)
  obtain ⟨U2,e2,hS2⟩:=h.behind hb (L - 1) (by omega) U (hS.cg fun q hq=>by
    have e1:decide (q<L - 1)=true:=decide_eq_true (by omega)
    have e2:decide (L - 1≤q)=false:=decide_eq_false (by omega)
    rw[e1,e2];simp)
  refine⟨U2,?_,hS2⟩
  unfold rsw
  rw[List.map_append,goT_app e]
  exact e2
def nx (L p:Nat):Nat:=if p+1<L then p+1 else 0
theorem Ring.sum (h:Ring n m L T r c) {a b:Nat}:sN (L - 1) (fun q=>dl L r c q a b)=sN L fun p=>(ii (a=r p) - ii (a=r (nx L p)))*ii (b=c p):=by
  have two:=h.two
  obtain ⟨K,rfl⟩:∃K,L=K+1:=⟨L - 1,by omega⟩
  have e0:∀q,q<K→nx (K+1) q=q+1:=fun q hq=>if_pos (by omega)
  have eK:nx (K+1) K=0:=if_neg (by omega)
  rw[Nat.add_sub_cancel,sN_succ,eK,sN_congr (n:=K) (g:=fun q=>(ii (a=r q) - ii (a=r (q+1)))*ii (b=c q) - (ii (a=r q) - ii (a=r (q+1)))*ii (b=c K)) fun q hq=>?_,sN_sub]
  · rw[sN_congr (n:=K) (f:=fun p=>(ii (a=r p) - ii (a=r (nx (K+1) p)))*ii (b=c p)) (g:=fun q=>(ii (a=r q) - ii (a=r (q+1)))*ii (b=c q)) fun q hq=>by rw[e0 q hq]]
    have tel:(sN K fun q=>(ii (a=r q) - ii (a=r (q+1)))*ii (b=c K))=(ii (a=r 0) - ii (a=r K))*ii (b=c K):=by
      rw[← sN_tel (f:=fun q=>ii (a=r q))]
      by_cases z:b=c K
      · rw[ii_t z,Int.mul_one]
        exact sN_congr fun q _=>Int.mul_one _
      · rw[ii_f z,Int.mul_zero,sN_congr (g:=fun _=>0) (fun q _=>Int.mul_zero _),sN_nought]
    rw[tel,Int.sub_mul,Int.sub_mul]
    omega
  · unfold dl
    rw[Nat.add_sub_cancel,Int.mul_sub]
def pos (x y:Int):Int:=if y<x then 1 else 0
def apart (n m:Nat) (t o:List (List Int)):Int:=sN n fun a=>sN m fun b=>pos (cellAt t a b) (cellAt o a b)
theorem apart_nonneg {t o:List (List Int)}:0≤apart n m t o:=sN_nonneg fun a _=>sN_nonneg fun b _=>by unfold pos;split<;>omega
structure Rings (n m L:Nat) (t o:List (List Int)) (r c:Nat→Nat):Prop extends Ring n m L (cellAt t) r c where
  oa:∀p,p<L→cellAt o (r p) (c p)=1
  ob:∀p,p<L→cellAt t (r (nx L p)) (c p)=1∧cellAt o (r (nx L p)) (c p)=0
theorem Rings.less {t o:List (List Int)} (h:Rings n m L t o r c) {U:List (List Int)} (hS:St n m L (cellAt t) r c (fun _=>true) U):apart n m U o=apart n m t o - L:=by
  have two:=h.two
  have nxl:∀p,p<L→nx L p<L:=fun p hp=>by unfold nx;split<;>omega
  have nxn:∀p,p<L→nx L p≠p:=fun p hp=>by unfold nx;split<;>omega
  have pt:∀a b,a<n→b<m→pos (cellAt U a b) (cellAt o a b)=pos (cellAt t a b) (cellAt o a b) - sN L fun p=>ii (a=r (nx L p))*ii (b=c p):=fun a b ha hb=>by
    rw[hS.2 a b ha hb,sN_congr (n:=L - 1) (g:=fun q=>dl L r c q a b) (fun q _=>if_pos rfl),h.toRing.sum]
    by_cases z:∃p,p<L∧b=c p
    · obtain ⟨p,hp,rfl⟩:=z
      have one:∀f:Nat→Int,(sN L fun q=>f q*ii (c p=c q))=f p:=fun f=>by
        rw[← sN_at (f:=f) hp]
        refine sN_congr fun q hq=>?_
        by_cases y:q=p
        · subst y;rw[if_pos rfl,ii_t rfl,Int.mul_one]
        · rw[if_neg y,ii_f (fun w=>y (h.ci _ _ hp hq w).symm),Int.mul_zero]
      rw[one (fun q=>ii (a=r q) - ii (a=r (nx L q))),one fun q=>ii (a=r (nx L q))]
      by_cases a1:a=r p
      · subst a1
        rw[ii_t rfl,ii_f (fun w=>nxn p hp (h.ri _ _ hp (nxl p hp) w).symm),h.a p hp,h.oa p hp];rfl
      · rw[ii_f a1]
        by_cases a2:a=r (nx L p)
        · subst a2
          rw[ii_t rfl,(h.ob p hp).1,(h.ob p hp).2];rfl
        · rw[ii_f a2];simp
    · have nil:∀f:Nat→Int,(sN L fun q=>f q*ii (b=c q))=0:=fun f=>by
        rw[sN_congr (g:=fun _=>0) (fun q hq=>by rw[ii_f (fun w=>z ⟨q,hq,w⟩),Int.mul_zero]),sN_nought]
      rw[nil,nil,Int.add_zero,Int.sub_zero]
  unfold apart
  rw[sN_congr (n:=n) (g:=fun a=>(sN m fun b=>pos (cellAt t a b) (cellAt o a b)) - sN m fun b=>sN L fun p=>ii (a=r (nx L p))*ii (b=c p)) (fun a ha=>by rw[← sN_sub];exact sN_congr fun b hb=>pt a b ha hb),sN_sub]
  congr 1
  rw[sN_congr (n:=n) (g:=fun a=>sN L fun p=>ii (a=r (nx L p))) fun a _=>?_,sN_comm,sN_congr (n:=L) (g:=fun _=>1) fun p hp=>?_]
  · have:∀k:Nat,sN k (fun _=>(1:Int))=k:=fun k=>by
      induction k with
      | zero=>rfl
      | succ k ih=>rw[sN_succ,ih];omega
    exact this L
  · exact sN_at (f:=fun _=>1) (h.rn _ (nxl p hp))
  · rw[sN_comm]
    refine sN_congr fun p hp=>?_
    refine Eq.trans (sN_congr fun b _=>?_) (sN_at (f:=fun _=>ii (a=r (nx L p))) (h.cm p hp))
    by_cases y:b=c p
    · rw[if_pos y,ii_t y,Int.mul_one]
    · rw[if_neg y,ii_f y,Int.mul_zero]
end
end Rg
end L3
set_option Elab.async false
set_option linter.all false
set_option maxRecDepth 100000
set_option maxHeartbeats 4000000
namespace L3
open PySem L2
section
variable {K:PySem.W.Frag}{Γ:List Nat}{te:TE}{de:DE}
def vExtF (i:Nat) (de:DE) (E:DEnds) (δ:Dl):Prop:=slotL δ i fun ds=>de δ fun x=>∃es,x=D.lst es∧ds.all flatD=true∧es.all flatD=true∧ds.length+es.length≤1000∧E.nx (δ.set i (some (.lst (ds++es))))
theorem st0_extF (i:Nat) (he:ER K Γ te de) (hi:i∈Γ:=by decide):ST0 K (tDrop (tBM K "list" rExtend (tVar i) (tCons te tNil))) Γ Γ (vExtF i de):=by
  intro B0 Dn E fps δ σ H k o h
  obtain ⟨ds,e,h⟩:=slotL_out h
  obtain ⟨a0,xs0,fq,g1,g2,g3,g4⟩:=o.ownL e
  refine⟨.ref a0,g1,.inl ⟨rfl,xs0,.inl (.inl g2)⟩,he.run o (he.mono _ _ _ (fun x z v H1 s r=>?_) h)⟩
  obtain ⟨es,rfl,z1,z2,z3,z⟩:=z
  obtain ⟨fp,b,zs,f2,rfl,hb,rfl,r⟩:=r
  obtain rfl:=r.flat0 z2
  obtain ⟨a,xs,h1,h2,h3,h4⟩:=flat_write (o.same s) hi e z1
  rw[g1] at h1;cases h1
  exact⟨a0,b,xs,zs,rfl,rfl,h2,hb,by rw[h3.length,r.length];exact le1000 z3,k (h4 (Rfs.app0 h3 r)) z⟩
end
end L3
set_option Elab.async false
set_option linter.all false
set_option maxRecDepth 100000
set_option maxHeartbeats 4000000
namespace L3
namespace Rg
open Fl
section
variable {n m:Nat}{t o:List (List Int)}
theorem row_less (hT:Rect n m t) (hO:Rect n m o) {a b:Nat} (ha:a<n) (hb:b<m) (hs:rsum t a=rsum o a) (hd:cellAt t a b≠cellAt o a b):∃c,c<m∧cellAt t a c<cellAt o a c:=by
  refine Classical.byContradiction fun z=>?_
  have ge:∀c,c<m→0≤cellAt t a c - cellAt o a c:=fun c hc=>by
    rcases Int.lt_or_le (cellAt t a c) (cellAt o a c) with y | y
    · exact absurd ⟨c,hc,y⟩ z
    · omega
  have p:=sN_pos (f:=fun c=>cellAt t a c - cellAt o a c) ge hb (by have:=ge b hb;omega)
  rw[sN_sub,← rsum_sN hT ha,← rsum_sN hO ha] at p
  omega
theorem col_more (hT:Rect n m t) (hO:Rect n m o) {a b:Nat} (ha:a<n) (hs:csum t b=csum o b) (hd:cellAt t a b<cellAt o a b):∃c,c<n∧cellAt o c b<cellAt t c b:=by
  refine Classical.byContradiction fun z=>?_
  have ge:∀c,c<n→0≤cellAt o c b - cellAt t c b:=fun c hc=>by
    rcases Int.lt_or_le (cellAt o c b) (cellAt t c b) with y | y
    · exact absurd ⟨c,hc,y⟩ z
    · omega
  have p:=sN_pos (f:=fun c=>cellAt o c b - cellAt t c b) ge ha (by omega)
  rw[sN_sub,← csum_sN hT,← csum_sN hO] at p
  omega
structure Pt (n m:Nat) (t o:List (List Int)) (f:Nat→Nat) (row:Nat) (rs cs:List Nat):Prop where
  len:cs.length=rs.length
  nd:rs.Nodup
  rn:∀x∈rs,x<n
  cm:∀x∈cs,x<m
  a:∀p,p<rs.length→cellAt t (rs.getD p 0) (cs.getD p 0)=0∧cellAt o (rs.getD p 0) (cs.getD p 0)=1
  b:∀p,p+1<rs.length→rs.getD (p+1) 0=f (cs.getD p 0)
  l:1≤rs.length→row=f (cs.getD (rs.length - 1) 0)
  fb:∀p,p<rs.length→cellAt t (f (cs.getD p 0)) (cs.getD p 0)=1∧cellAt o (f (cs.getD p 0)) (cs.getD p 0)=0
  hr:row<n∧∃b,b<m∧cellAt t row b≠cellAt o row b
theorem gA {xs:List Nat}{x p:Nat} (h:p<xs.length):(xs++[x]).getD p 0=xs.getD p 0:=by
  rw[List.getD_eq_getElem?_getD,List.getElem?_append_left h,← List.getD_eq_getElem?_getD]
theorem gL {xs:List Nat}{x:Nat}:(xs++[x]).getD xs.length 0=x:=by
  rw[List.getD_eq_getElem?_getD,List.getElem?_append_right (Nat.le_refl _),Nat.sub_self];rfl
theorem Pt.step {f:Nat→Nat}{row c:Nat}{rs cs:List Nat} (h:Pt n m t o f row rs cs) (hn:row∉rs) (hc:c<m) (c1:cellAt t row c=0) (c2:cellAt o row c=1) (fn:f c<n) (f1:cellAt t (f c) c=1) (f2:cellAt o (f c) c=0):Pt n m t o f (f c) (rs++[row]) (cs++[c]):=by
  have e:=h.len
  have lr:(rs++[row]).length=rs.length+1:=by rw[List.length_append];rfl
  have gl:(cs++[c]).getD rs.length 0=c:=by rw[← e];exact gL
  refine⟨by rw[lr,List.length_append,e];rfl,?_,?_,?_,?_,?_,?_,?_,fn,c,hc,by omega⟩
  · rw[List.nodup_append]
    exact⟨h.nd,by simp,fun x hx y hy z=>hn (by rw[List.mem_singleton.mp hy] at z;rw[← z];exact hx)⟩
  · intro x hx
    rcases List.mem_append.mp hx with y | y
    · exact h.rn x y
    · rw[List.mem_singleton.mp y];exact h.hr.1
  · intro x hx
    rcases List.mem_append.mp hx with y | y
    · exact h.cm x y
    · rw[List.mem_singleton.mp y];exact hc
  · intro p hp
    rw[lr] at hp
    rcases Nat.lt_or_ge p rs.length with y | y
    · rw[gA y,gA (by omega)];exact h.a p y
    · have:p=rs.length:=by omega
      subst this
      rw[gL,gl];exact⟨c1,c2⟩
  · intro p hp
    rw[lr] at hp
    rw[gA (xs:=cs) (by omega)]
    rcases Nat.lt_or_ge (p+1) rs.length with y | y
    · rw[gA y];exact h.b p y
    · have:rs.length=p+1:=by omega
      rw[← this,gL,h.l (by omega),this,Nat.add_sub_cancel]
  · intro _
    rw[lr,Nat.add_sub_cancel,gl]
  · intro p hp
    rw[lr] at hp
    rcases Nat.lt_or_ge p rs.length with y | y
    · rw[gA (by omega)];exact h.fb p y
    · have:p=rs.length:=by omega
      subst this
      rw[gl];exact⟨f1,f2⟩
theorem gD {xs:List Nat}{s p:Nat}:(xs.drop s).getD p 0=xs.getD (s+p) 0:=by
  rw[List.getD_eq_getElem?_getD,List.getElem?_drop,← List.getD_eq_getElem?_getD]
theorem Pt.ring {f:Nat→Nat}{row s:Nat}{rs cs:List Nat} (h:Pt n m t o f row rs cs) (hs:rs[s]?=some row):Rings n m (rs.drop s).length t o (fun p=>(rs.drop s).getD p 0) (fun p=>(cs.drop s).getD p 0):=by
  obtain ⟨sl,se⟩:=List.getElem?_eq_some_iff.mp hs
  have e:=h.len
  have lr:(rs.drop s).length=rs.length - s:=List.length_drop
  have sg:rs.getD s 0=row:=by rw[List.getD_eq_getElem?_getD,hs];rfl
  have mem:∀p,p<rs.length→rs.getD p 0∈rs:=fun p hp=>by rw[List.getD_eq_getElem?_getD,List.getElem?_eq_getElem hp];exact List.getElem_mem hp
  have memc:∀p,p<rs.length→cs.getD p 0∈cs:=fun p hp=>by rw[List.getD_eq_getElem?_getD,List.getElem?_eq_getElem (by omega)];exact List.getElem_mem _
  have inj:∀p q,p<rs.length→q<rs.length→rs.getD p 0=rs.getD q 0→p=q:=fun p q hp hq z=>by
    rw[List.getD_eq_getElem?_getD,List.getElem?_eq_getElem hp,List.getD_eq_getElem?_getD,List.getElem?_eq_getElem hq] at z
    exact (List.getElem_inj h.nd).mp z
  have nxt:∀p,p<rs.length - s→rs.getD (s+nx (rs.length - s) p) 0=f (cs.getD (s+p) 0):=fun p hp=>by
    unfold nx
    by_cases y:p+1<rs.length - s
    · rw[if_pos y,← Nat.add_assoc,h.b (s+p) (by omega)]
    · rw[if_neg y,Nat.add_zero,sg,h.l (by omega),show rs.length - 1=s+p by omega]
  have two:2≤rs.length - s:=by
    rcases Nat.lt_or_ge (rs.length - s) 2 with y | y
    · have e1:rs.length - 1=s:=by omega
      have h1:=h.l (by omega)
      have h2:=(h.fb s sl).1
      have h3:=(h.a s sl).1
      rw[e1] at h1
      rw[← h1] at h2
      rw[sg] at h3
      omega
    · exact y
  have nxl:∀p,p<rs.length - s→nx (rs.length - s) p<rs.length - s:=fun p hp=>by unfold nx;split<;>omega
  rw[lr]
  refine⟨⟨two,fun p q hp hq z=>?_,fun p q hp hq z=>?_,fun p hp=>?_,fun p hp=>?_,fun p hp=>?_,fun p hp=>?_,?_⟩,fun p hp=>?_,fun p hp=>?_⟩
  · rw[gD,gD] at z
    have:=inj _ _ (by omega) (by omega) z
    omega
  · rw[gD,gD] at z
    have h1:=nxt p hp
    rw[z,← nxt q hq] at h1
    have l1:=nxl p hp
    have l2:=nxl q hq
    have h2:=inj _ _ (by omega) (by omega) h1
    unfold nx at h2
    split at h2<;>split at h2<;>omega
  · show (rs.drop s).getD p 0<n
    rw[gD];exact h.rn _ (mem _ (by omega))
  · show (cs.drop s).getD p 0<m
    rw[gD];exact h.cm _ (memc _ (by omega))
  · show cellAt t ((rs.drop s).getD p 0) ((cs.drop s).getD p 0)=0
    rw[gD,gD];exact (h.a _ (by omega)).1
  · show cellAt t ((rs.drop s).getD (p+1) 0) ((cs.drop s).getD p 0)=1
    rw[gD,gD,← Nat.add_assoc,h.b (s+p) (by omega)]
    exact (h.fb _ (by omega)).1
  · show cellAt t ((rs.drop s).getD 0 0) ((cs.drop s).getD (rs.length - s - 1) 0)=1
    rw[gD,gD,Nat.add_zero,sg,show s+(rs.length - s - 1)=rs.length - 1 by omega,h.l (by omega)]
    exact (h.fb _ (by omega)).1
  · show cellAt o ((rs.drop s).getD p 0) ((cs.drop s).getD p 0)=1
    rw[gD,gD];exact (h.a _ (by omega)).2
  · show cellAt t ((rs.drop s).getD (nx (rs.length - s) p) 0) ((cs.drop s).getD p 0)=1∧cellAt o ((rs.drop s).getD (nx (rs.length - s) p) 0) ((cs.drop s).getD p 0)=0
    rw[gD,gD,nxt p hp]
    exact h.fb _ (by omega)
end
end Rg
end L3
set_option Elab.async false
set_option linter.all false
set_option maxRecDepth 100000
set_option maxHeartbeats 4000000
namespace L3
open PySem L2
section
variable {K:PySem.W.Frag}{ρ:Bool}{Γr Γl Γ:List Nat}{te:TE}{de:DE}{H:Hp}
def isTp:D→Bool | .tup _=>true | _=>false
theorem rows_fp:∀{u:List (List Int)}{ys:List V}{f:List Addr},Rfs K H (u.map dI) ys f→∀c∈f,∃r∈u,H c=some (.lst (r.map V.int))
  | [],ys,f,h,c,hc=>by obtain ⟨_,rfl⟩:=h;nomatch hc
  | r::u,ys,f,h,c,hc=>by
    obtain ⟨x,q,f1,f2,rfl,rfl,h1,h2⟩:=h
    obtain ⟨a,xs,fq,rfl,ha,rfl,hr⟩:=h1
    have e1:=hr.intsV
    have e2:fq=[]:=hr.flat0 (by rw[List.all_map];exact List.all_eq_true.mpr fun _ _=>rfl)
    subst e1;subst e2
    rcases List.mem_append.mp hc with z | z
    · rw[List.mem_singleton.mp z];exact⟨r,List.mem_cons_self,ha⟩
    · obtain ⟨r',hm,e⟩:=rows_fp h2 c z
      exact⟨r',List.mem_cons_of_mem _ hm,e⟩
theorem er_noXR {S:DSX}{Ex:XK}{ta:TA}{da:DA} (hS:DMonoX S) (ha:AR K Γ ta da):ER K Γ (tCall (spXR K S) [] Ex ta) (vCall (noX S) da) :=
  ⟨fun δ P P' k h=>ha.mono _ _ _ (fun y z=>noX_mono hS _ _ _ k z) h,
   fun {B0 fps δ σ H Q} o q=>ha.run o (ha.mono _ _ _ (fun xs z vs H1 s1 r1=>⟨xs,by rw[List.append_nil];exact r1,hS _ _ _ _ _ (fun u z u' H' s r=>z u' H' (s1.trans s) r) (fun C z=>z.elim) z⟩) q)⟩
def vSetTb (i a:Nat) (de:DE) (E:DEnds) (δ:Dl):Prop:=slotL δ i fun es=>es.all flatD=true∧es.all isTp=true∧de δ fun x=>∃u:List (List Int),x=dT u∧u≠[]∧(∀r∈u,r≠[])∧E.nx (δ.set a (some x))
theorem st_setTb (i a:Nat) (he:ER K [i] te de) (hia:i≠a:=by decide):ST K ρ Γr Γl (tAsg te (gName a)) [i] [i] (vSetTb i a de):=by
  intro B0 Dn E fps δ σ H k o h
  obtain ⟨es,e,z1,z2,h⟩:=slotL_out h
  refine he.run o (he.mono _ _ _ (fun x z v H' s r=>?_) h)
  obtain ⟨u,rfl,u1,u2,hE⟩:=z
  obtain ⟨fp,r⟩:=r
  obtain ⟨a0,xs,fq,g1,g2,g3,g4⟩:=(o.same s).ownL e
  obtain rfl:=g4.flat0 z1
  obtain ⟨b,ys,f2,rfl,hb,rfl,hr⟩:=r
  have tp:∀x ys',xs=x::ys'→∃c ts,x=.ref c∧H' c=some (.tup ts):=fun x ys' ex=>by
    subst ex
    cases es with
    | nil=>exact absurd g4.length (by simp)
    | cons d es =>
      obtain ⟨x',q',f1,f3,e1,e2,h1,h2⟩:=g4
      cases e1
      rw[List.all_cons,Bool.and_eq_true] at z2
      cases d with
      | tup ds=>obtain ⟨c,ts,ec,hc,_⟩:=h1;exact⟨c,ts,ec,hc⟩
      | _=>exact absurd z2.1 Bool.false_ne_true
  have no:∀c∈b::f2,c≠a0:=fun c hc y=>by
    subst y
    rcases List.mem_cons.mp hc with w | w
    · subst w
      rw[g2] at hb;cases hb
      cases u with
      | nil=>exact u1 rfl
      | cons r u =>
        obtain ⟨x,q,f1,f3,rfl,_,h1,h2⟩:=hr
        obtain ⟨c,ts,rfl,hc'⟩:=tp x q rfl
        obtain ⟨c2,zs,fz,e1,e2,_⟩:=h1
        cases e1
        rw[hc'] at e2;cases e2
    · obtain ⟨r,hm,e1⟩:=rows_fp hr c w
      rw[g2] at e1;cases e1
      cases r with
      | nil=>exact u2 _ hm rfl
      | cons i0 r =>
        obtain ⟨c,ts,ex,_⟩:=tp _ _ rfl
        cases ex
  have ok:=o.setSh a s (x:=dT u) (v:=.ref b) (fp:=b::f2) ⟨b,ys,f2,rfl,hb,rfl,hr⟩ (fun j hj c hc=>by
    rw[List.mem_singleton.mp hj,g3]
    exact fun y=>no c hc (List.mem_singleton.mp y))
  exact k.nx (ok.sub fun j hj=>mem_minus.mpr ⟨hj,fun y=>by rw[List.mem_singleton] at y hj;exact hia (hj.symm.trans y)⟩) hE
end
end L3
set_option Elab.async false
set_option linter.all false
set_option maxRecDepth 100000
set_option maxHeartbeats 4000000
namespace L3
open PySem L2
section
variable {K:PySem.W.Frag}{ρ:Bool}{Γr Γl Γ Γn M:List Nat}{H:Hp}{te tl tx:TE}{de dl dx:DE}{t:TS}{d:DS}
def pR (A:Nat→Addr) (u:List (List Int)):List D:=(List.range u.length).map fun k=>D.pin (A k) (dI (rowAt u k))
theorem pR_get {A:Nat→Addr}{u:List (List Int)}{k:Nat} (h:k<u.length):(pR A u)[k]?=some (D.pin (A k) (dI (rowAt u k))):=by
  unfold pR;rw[List.getElem?_map,List.getElem?_range h];rfl
theorem pR_len {A:Nat→Addr}{u:List (List Int)}:(pR A u).length=u.length:=by unfold pR;rw[List.length_map,List.length_range]
theorem pR_set {A:Nat→Addr}{u:List (List Int)}{k:Nat}{r:List Int} (h:k<u.length):(pR A u).set k (D.pin (A k) (dI r))=pR A (u.set k r):=by
  refine List.ext_getElem? fun j=>?_
  rcases Nat.lt_or_ge j u.length with y | y
  · rw[pR_get (u:=u.set k r) (by rw[List.length_set];exact y),List.getElem?_set]
    unfold rowAt
    by_cases z:k=j
    · subst z
      rw[if_pos rfl,if_pos (by rw[pR_len];exact y),List.getD_eq_getElem?_getD,List.getElem?_set_self y];rfl
    · rw[if_neg z,pR_get y,List.getD_eq_getElem?_getD (l:=u.set k r),List.getElem?_set_ne z];unfold rowAt;rw[List.getD_eq_getElem?_getD]
  · rw[List.getElem?_eq_none (by rw[List.length_set,pR_len];exact y),List.getElem?_eq_none (by rw[pR_len,List.length_set];exact y)]
theorem pR_strip {A:Nat→Addr}{u:List (List Int)}:(D.lst (pR A u)).strip=dT u:=by
  rw[D.strip,strips_map]
  unfold pR
  rw[List.map_map]
  show D.lst _=D.lst (u.map dI)
  congr 1
  refine List.ext_getElem (by simp) fun i h1 h2=>?_
  have hi:i<u.length:=by simpa using h2
  rw[List.getElem_map,List.getElem_range,List.getElem_map]
  show (D.pin (A i) (dI (rowAt u i))).strip=dI u[i]
  rw[D.strip,strip_dI]
  unfold rowAt
  rw[List.getD_eq_getElem?_getD,List.getElem?_eq_getElem hi];rfl
def tabOf:D→Option (List D) | .lst ds=>some ds | .pin _ (.lst ds)=>some ds | _=>none
def setTab (x:D) (ds:List D):D:=match x with | .pin p _=>.pin p (.lst ds) | _=>.lst ds
theorem tabOf_rf {x:D}{ds:List D}{v:V}{fp:List Addr} (e:tabOf x=some ds) (h:Rf K H x v fp):∃b ys fq,v=.ref b∧H b=some (.lst ys)∧fp=b::fq∧Rfs K H ds ys fq∧∀{H':Hp}{ds':List D},H' b=some (.lst ys)→Rfs K H' ds' ys fq→Rf K H' (setTab x ds') v fp:=by
  cases x with
  | lst es=>cases e;obtain ⟨b,ys,fq,rfl,h1,rfl,h2⟩:=h;exact⟨b,ys,fq,rfl,h1,rfl,h2,fun a b'=>⟨b,ys,fq,rfl,a,rfl,b'⟩⟩
  | pin p y =>
    cases y with
    | lst es=>cases e;obtain ⟨rfl,b,ys,fq,e1,h1,rfl,h2⟩:=h;cases e1;exact⟨_,ys,fq,rfl,h1,rfl,h2,fun a b'=>⟨rfl,_,ys,fq,rfl,a,rfl,b'⟩⟩
    | _=>cases e
  | _=>cases e
def vPinR (i:Nat) (d:DS) (E:DEnds) (δ:Dl):Prop:=∃(x:D) (u:List (List Int)),δ[i]?=some (some x)∧tabOf x=some (u.map dI)∧∀A:Nat→Addr,(∀j k,j<u.length→k<u.length→A j=A k→j=k)→d E (δ.set i (some (setTab x (pR A u))))
theorem rows_addr:∀{u:List (List Int)}{ys:List V}{f:List Addr},Rfs K H (u.map dI) ys f→ys=f.map V.ref∧f.length=u.length∧Rfs K H ((List.range u.length).map fun k=>D.pin (f.getD k 0) (dI (rowAt u k))) ys f
  | [],ys,f,h=>by obtain ⟨rfl,rfl⟩:=h;exact⟨rfl,rfl,rfl,rfl⟩
  | r::u,ys,f,h=>by
    obtain ⟨x,q,f1,f2,rfl,rfl,h1,h2⟩:=h
    obtain ⟨e1,e2,h3⟩:=rows_addr h2
    obtain ⟨a,xs,fq,rfl,ha,rfl,hr⟩:=h1
    have e3:fq=[]:=hr.flat0 (by rw[List.all_map];exact List.all_eq_true.mpr fun _ _=>rfl)
    subst e3
    refine⟨by rw[e1];rfl,by rw[List.length_append,e2];simp;omega,?_⟩
    rw[List.length_cons,List.range_succ_eq_map,List.map_cons,List.map_map]
    exact⟨.ref a,q,[a],f2,rfl,rfl,⟨rfl,a,xs,[],rfl,ha,rfl,hr⟩,h3⟩
theorem st_pinR (i:Nat) (h:ST K ρ Γr Γl t Γ Γn d) (hi:i∈Γ:=by decide):ST K ρ Γr Γl t Γ Γn (vPinR i d):=by
  intro B0 Dn E fps δ σ H k o q
  obtain ⟨x,u,e,ex,q⟩:=q
  obtain ⟨v,hv,r⟩:=o.val i _ e
  obtain ⟨b,ys,fq,rfl,h1,h2,h3,mk⟩:=tabOf_rf ex r
  obtain ⟨e1,e2,h4⟩:=rows_addr h3
  have nd:=(o.own i hi).1
  rw[h2] at nd
  have nq:=(List.nodup_cons.mp nd).2
  refine h k (o.redata (y:=setTab x (pR (fun k=>fq.getD k 0) u)) e fun v' hv' _=>?_) (q _ fun j k hj hk z=>?_)
  · rw[hv] at hv';cases hv'
    exact mk h1 h4
  · rw[List.getD_eq_getElem?_getD,List.getElem?_eq_getElem (by omega),List.getD_eq_getElem?_getD,List.getElem?_eq_getElem (by omega)] at z
    exact (List.getElem_inj nq).mp z
def vViaR (L S:Nat) (δ:Dl) (P:DK):Prop:=∃(a:Addr) (x:D) (ds:List D) (k:Nat) (y:D),δ[L]?=some (some (.raw (.ref a)))∧δ[S]?=some (some x)∧tabOf x=some ds∧ds[k]?=some (.pin a y)∧P y
theorem er_viaR (L S:Nat):ER K Γ (tVar L) (vViaR L S) :=
  ⟨fun δ P P' k ⟨a,x,ds,k',y,e1,e2,e3,e4,q⟩=>⟨a,x,ds,k',y,e1,e2,e3,e4,k _ q⟩,fun {B0 fps δ σ H Q} o q=>by
    obtain ⟨a,x,ds,k,y,eL,eS,ex,ek,q⟩:=q
    obtain ⟨vL,hvL,rL⟩:=o.val L _ eL
    obtain rfl:vL=.ref a:=rL.1
    obtain ⟨vS,hvS,r⟩:=o.val S _ eS
    obtain ⟨b,ys,fq,rfl,h1,h2,h3,mk⟩:=tabOf_rf ex r
    obtain ⟨z,f,ez,h9,_⟩:=h3.get ek
    obtain ⟨rfl,h10⟩:z=.ref a∧_:=h9
    exact⟨.ref a,hvL,q _ H (Same.refl H) ⟨f,h10⟩⟩⟩
def vRawV (d:DE) (δ:Dl) (P:DK):Prop:=d δ fun x=>∃w,x=.raw w∧P x
theorem ER.rawV (h:ER K Γ te de):EM K Γ [] te (vRawV de) :=
  ⟨fun δ P P' k q=>h.mono _ _ _ (fun x ⟨w,e,z⟩=>⟨w,e,k _ z⟩) q,fun {B0 fps δ σ H Q} o q=>h.run o (h.mono _ _ _ (fun x z v H1 s1 r1=>by
    obtain ⟨w,rfl,z⟩:=z
    obtain ⟨fp,e,_⟩:=r1
    exact z v H1 [] s1 ⟨e,rfl⟩ Nw.nil) q)⟩
theorem Rfs.updAt {a:Addr}{r r':List Int}:∀{ds:List D}{ys:List V}{fq:List Addr}{j:Nat},Rfs K H ds ys fq→fq.Nodup→ds[j]?=some (.pin a (dI r))→(∀o,H a=some o→¬ Im o)→Rfs K (L2.upd H a (.lst (r'.map V.int))) (ds.set j (.pin a (dI r'))) ys fq
  | [],_,_,_,_,_,e,_=>by simp at e
  | d0::ds,ys,fq,0,h,nd,e,nt=>by
    obtain ⟨x,q,f1,f2,rfl,rfl,h1,h2⟩:=h
    simp at e;subst e
    obtain ⟨rfl,a',xs,fz,ea,ha,rfl,hr⟩:=h1
    cases ea
    have e3:fz=[]:=hr.flat0 (by rw[List.all_map];exact List.all_eq_true.mpr fun _ _=>rfl)
    subst e3
    have na:a∉f2:=fun z=>(List.nodup_append.mp nd).2.2 a List.mem_cons_self a z rfl
    exact⟨.ref a,q,[a],f2,rfl,rfl,⟨rfl,a,_,[],rfl,upd_same,rfl,Rfs.ofInts⟩,h2.upd na nt⟩
  | d0::ds,ys,fq,j+1,h,nd,e,nt=>by
    obtain ⟨x,q,f1,f2,rfl,rfl,h1,h2⟩:=h
    obtain ⟨n1,n2,n3⟩:=List.nodup_append.mp nd
    have e':ds[j]?=some (.pin a (dI r)):=by simpa using e
    obtain ⟨z,f,ez,h9,hf,_⟩:=h2.getN n2 e'
    obtain ⟨rfl,a',xs,fz,ea,ha,rfl,hr⟩:=h9
    cases ea
    have na:a∉f1:=fun z=>n3 a z a (hf a List.mem_cons_self) rfl
    exact⟨x,q,f1,f2,rfl,rfl,h1.upd na nt,Rfs.updAt h2 n2 e' nt⟩
def vViaPut (S:Nat) (de dl dx:DE) (E:DEnds) (δ:Dl):Prop:=de δ fun x=>∃v:Int,x=.int v∧dl δ fun y=>∃a:Addr,y=.raw (.ref a)∧dx δ fun k=>∃q:Int,k=.int q∧∃(d0:D) (ds:List D) (j:Nat) (r:List Int),δ[S]?=some (some d0)∧tabOf d0=some ds∧ds[j]?=some (.pin a (dI r))∧0≤q∧q<r.length∧E.nx (δ.set S (some (setTab d0 (ds.set j (.pin a (dI (r.set q.toNat v)))))))
theorem st_viaPut (S:Nat) (he:EM K Γ [] te de) (hl:ER K Γ tl dl) (hx:ER K Γ tx dx) (hS:S∈Γ:=by decide):ST K ρ Γr Γl (tAsg te (gSub tl tx rSetL)) Γ Γ (vViaPut S de dl dx):=by
  intro B0 Dn E fps δ σ H k o h
  refine he.run o (he.mono _ _ _ (fun x z v H1 fp s r n=>?_) h)
  obtain ⟨iv,rfl,z⟩:=z
  obtain rfl:v=.int iv:=r.1
  refine hl.run (o.same s) (hl.mono _ _ _ (fun y z w H2 s2 r2=>?_) z)
  obtain ⟨a,rfl,z⟩:=z
  obtain ⟨_,rfl,_⟩:=r2
  refine hx.run ((o.same s).same s2) (hx.mono _ _ _ (fun y z w H3 s3 r3=>?_) z)
  obtain ⟨q,rfl,d0,ds,j,rr,e,ed,ej,q0,q1,hE⟩:=z
  obtain rfl:=r3.int
  have o3:=((o.same s).same s2).same s3
  obtain ⟨vS,hv,rS⟩:=o3.val S _ e
  obtain ⟨b,ys,fq,rfl,hb,hfp,hrs,mk⟩:=tabOf_rf ed rS
  have own:=o3.own S hS
  rw[hfp] at own
  obtain ⟨nb,nq⟩:=List.nodup_cons.mp own.1
  obtain ⟨z,f,ez,h9,hf,_⟩:=hrs.getN nq ej
  obtain ⟨rfl,a',xs,fz,ea,ha,rfl,hr⟩:=h9
  cases ea
  have e1:=hr.intsV
  subst e1
  have afq:a∈fq:=hf a List.mem_cons_self
  have nt:=(own.2 a (List.mem_cons_of_mem _ afq)).2.notup
  refine⟨a,rr.map V.int,q,q.toNat,rfl,rfl,ha,by rw[List.length_map];exact ixN_nat q0 q1,?_⟩
  have es:(rr.map V.int).set q.toNat (.int iv)=(rr.set q.toNat iv).map V.int:=(List.map_set ..).symm
  rw[es]
  have nba:b≠a:=fun z=>nb (by rw[z];exact afq)
  refine k.nx (o3.write hS (d':=setTab d0 (ds.set j (.pin a (dI (rr.set q.toNat iv))))) (fp':=fps S) hv (mk (by rw[upd_ne nba];exact hb) (hrs.updAt nq ej nt)) (by rw[hfp];exact own.1) (fun c hc=>Mu.upd ((o3.own S hS).2 c hc).2 (.inl ⟨_,rfl⟩)) (fun c hc=>.inl hc) ?_) hE
  exact updKeep (by rw[hfp];exact List.mem_cons_of_mem _ afq)
def stripAt (S:Nat) (δ:Dl):Dl:=match δ[S]? with | some (some (.pin p x))=>δ.set S (some (.pin p x.strip)) | some (some x)=>δ.set S (some x.strip) | _=>δ
theorem Ok.stripAt {B0:Hp}{fps:Nat→List Addr}{δ:Dl}{σ:St} (o:Ok K B0 Γ fps δ σ H) (S:Nat):Ok K B0 Γ fps (L3.stripAt S δ) σ H:=by
  unfold L3.stripAt
  split
  · rename_i p x e
    exact o.redata e fun v _ r=>⟨r.1,Rf.strip r.2⟩
  · rename_i x _ e
    exact o.redata e fun v _ r=>Rf.strip r
  · exact o
def vStripE (S:Nat) (d:DS) (E:DEnds) (δ:Dl):Prop:=d { E with nx:=fun δ'=>E.nx (stripAt S δ') } δ
theorem st_stripE (S:Nat) (h:ST K ρ Γr Γl t Γ Γn d):ST K ρ Γr Γl t Γ Γn (vStripE S d) :=
  fun B0 Dn E fps δ σ H k o q=>h (E:={ E with nx:=fun δ'=>E.nx (L3.stripAt S δ') }) ⟨fun {fps δ σ H} o' q'=>k.nx (o'.stripAt S) q',k.bk,k.ct,k.rt⟩ o q
theorem EM.strip (h:EM K Γ M te de):EM K Γ M te (vStrip de) :=
  ⟨fun δ P P' k q=>h.mono _ _ _ (fun x z=>k _ z) q,fun o q=>h.run o (h.mono _ _ _ (fun x z v H1 fp s1 r1 n=>z v H1 fp s1 (Rf.strip r1) n) q)⟩
theorem ES.strip (h:ES K Γ te de):ES K Γ te (vStrip de) :=
  ⟨fun δ P P' k q=>h.mono _ _ _ (fun x z=>k _ z) q,fun o q=>h.run o (h.mono _ _ _ (fun x z v H1 fp s1 r1 n=>z v H1 fp s1 (Rf.strip r1) n) q)⟩
end
end L3
set_option Elab.async false
set_option linter.all false
set_option maxRecDepth 100000
set_option maxHeartbeats 4000000
namespace L3
open PySem L2
section
variable {K:PySem.W.Frag}{ρ:Bool}{Γr Γl Γ Γn M:List Nat}{H:Hp}{te:TE}{de:DE}{t:TS}{d:DS}
def vItT (de:DE) (δ:Dl) (P:List D→Prop):Prop:=de δ fun x=>∃ds,x=.tup ds∧ds.all D.scal=true∧P ds
theorem it_tup (he:ER K Γ te de):IT K Γ (iTup K te) (vItT de) :=
  ⟨fun δ P P' k h=>he.mono _ _ _ (fun x ⟨ds,e,z1,z⟩=>⟨ds,e,z1,k _ z⟩) h,
   fun {B0 fps δ σ H R} o h=>he.run o (he.mono _ _ _ (fun x z v H' s r=>by
    obtain ⟨ds,rfl,z1,z⟩:=z
    obtain ⟨fp,a,xs,rfl,ha,hr⟩:=r
    have sc:=hr.scals z1
    refine⟨a,rfl,⟨xs,.inl (.inl ha)⟩,z (Itt K a) H' [] s (fun _ _ _ h=>(nomatch h)) fun B sB ag im=>?_⟩
    have hB:B a=some (.tup xs):=im a _ ha (.inl ⟨_,rfl⟩)
    have hl:=hr.length
    refine⟨fun {i H2} s2 hi=>⟨xs,xs[i]'(by omega),.inl (.inl (s2 _ _ hB)),by simp [hl,hi]⟩,fun {i H2 y H3 d} s2 hy hd=>?_,fun {i H2} s2 hi=>⟨xs,.inl (.inl (s2 _ _ hB)),by omega⟩⟩
    obtain ⟨rfl,hy⟩:=hy
    have ex:=hy xs (.inl (.inl (s2 _ _ hB)))
    obtain ⟨w,f,hw,rw',hf⟩:=hr.get hd
    rw[ex] at hw;cases hw
    have hds:d.scal=true:=List.all_eq_true.mp z1 d (List.mem_of_getElem? hd)
    obtain ⟨rfl,rfl⟩:=rw'.scal hds
    exact⟨Same.refl _,[],Rf.ofScal hds,fun _ h=>(nomatch h)⟩) h)⟩
def hd0:List D→Bool
  | .int _::_=>true
  | .lst _::_=>true
  | .str _::_=>true
  | .bl _::_=>true
  | .non::_=>true
  | _=>false
mutual
def D.clean:D→Bool
  | .non=>true
  | .bl _=>true
  | .int _=>true
  | .str _=>true
  | .lst ds=>hd0 ds && D.cleans ds
  | .tup ds=>D.cleans ds
  | .dic _=>false
  | .dit _=>false
  | .scr _=>true
  | .pin _ d=>d.clean
  | .mem _=>true
  | .raw _=>true
  | .ins _ _ _=>false
def D.cleans:List D→Bool
  | []=>true
  | d::ds=>d.clean && D.cleans ds
end
def TpL (H:Hp) (xs:List V):Prop:=∀x r,xs=x::r→∃c ts,x=.ref c∧H c=some (.tup ts)
mutual
theorem Rf.clean {a:Addr}{xs:List V} (ha:H a=some (.lst xs)) (hx:TpL H xs):∀{d:D}{v:V}{fp:List Addr},Rf K H d v fp→d.clean=true→a∉fp
  | .non,_,_,h,_,z=>by obtain ⟨_,rfl⟩:=h;nomatch z
  | .bl _,_,_,h,_,z=>by obtain ⟨_,rfl⟩:=h;nomatch z
  | .int _,_,_,h,_,z=>by obtain ⟨_,rfl⟩:=h;nomatch z
  | .str _,_,_,h,_,z=>by obtain ⟨_,rfl⟩:=h;nomatch z
  | .lst ds,_,_,h,c,z=>by
    obtain ⟨b,ys,fq,rfl,hb,rfl,hr⟩:=h
    rw[D.clean,Bool.and_eq_true] at c
    rcases List.mem_cons.mp z with y | y
    · subst y
      rw[hb] at ha;cases ha
      cases ds with
      | nil=>exact absurd c.1 Bool.false_ne_true
      | cons d ds =>
        obtain ⟨x,r,f1,f2,rfl,_,h1,h2⟩:=hr
        obtain ⟨e,ts,rfl,he⟩:=hx _ _ rfl
        cases d with
        | lst es=>obtain ⟨b',ys',f',e1,e2,_⟩:=h1;cases e1;rw[he] at e2;cases e2
        | non=>cases h1.1
        | bl _=>cases h1.1
        | int _=>cases h1.1
        | str _=>cases h1.1
        | _=>exact absurd c.1 Bool.false_ne_true
    · exact Rfs.clean ha hx hr c.2 y
  | .tup ds,_,_,h,c,z=>by
    obtain ⟨b,ys,rfl,hb,hr⟩:=h
    rw[D.clean] at c
    exact Rfs.clean ha hx hr c z
  | .dic _,_,_,h,c,z=>by rw[D.clean] at c;cases c
  | .dit _,_,_,h,c,z=>by rw[D.clean] at c;cases c
  | .scr _,_,_,h,_,z=>by obtain ⟨_,_,_,rfl⟩:=h;nomatch z
  | .pin _ d,_,_,h,c,z=>by rw[D.clean] at c;exact Rf.clean ha hx h.2 c z
  | .mem _,_,_,h,_,z=>by obtain ⟨_,_,_,rfl⟩:=h;nomatch z
  | .raw _,_,_,h,_,z=>by obtain ⟨_,rfl⟩:=h;nomatch z
  | .ins _ _ _,_,_,h,c,z=>by rw[D.clean] at c;cases c
theorem Rfs.clean {a:Addr}{xs:List V} (ha:H a=some (.lst xs)) (hx:TpL H xs):∀{ds:List D}{vs:List V}{fp:List Addr},Rfs K H ds vs fp→D.cleans ds=true→a∉fp
  | [],_,_,h,_,z=>by obtain ⟨_,rfl⟩:=h;nomatch z
  | d::ds,_,_,h,c,z=>by
    obtain ⟨x,r,f1,f2,rfl,rfl,h1,h2⟩:=h
    rw[D.cleans,Bool.and_eq_true] at c
    rcases List.mem_append.mp z with y | y
    · exact Rf.clean ha hx h1 c.1 y
    · exact Rfs.clean ha hx h2 c.2 y
end
def vForO (Γ:List Nat) (i k:Nat) (db:DS) (E:DEnds) (δ:Dl):Prop:=∃es:List D,δ[i]?=some (some (.lst es))∧es.all flatD=true∧es.all isTp=true∧∀p:Addr,vLoop (vgName k) db { E with nx:=fun δ'=>δ'[i]?=some (some (.pin p (.lst es)))∧(∀j d,j≠i→j∉Γ→δ'[j]?=some (some d)→d.clean=true)∧E.nx (δ'.set i (some (.lst es))) } es (δ.set i (some (.pin p (.lst es))))
theorem tpl_of {es:List D}{xs:List V}{fq:List Addr} (h:Rfs K H es xs fq) (z:es.all isTp=true):TpL H xs:=fun x r ex=>by
  subst ex
  cases es with
  | nil=>exact absurd h.length (by simp)
  | cons d es =>
    obtain ⟨x',q',f1,f3,e1,e2,h1,h2⟩:=h
    cases e1
    rw[List.all_cons,Bool.and_eq_true] at z
    cases d with
    | tup ds=>obtain ⟨c,ts,ec,hc,_⟩:=h1;exact⟨c,ts,ec,hc⟩
    | _=>exact absurd z.1 Bool.false_ne_true
theorem es_varP (i:Nat) (h:i∉Γ:=by decide):ES K Γ (tVar i) (vVarP i):=⟨fun δ P P' k h=>by obtain ⟨a,x,e,z⟩:=slotP_out h;exact slotP_in e (k _ z),fun {B0 fps δ σ H Q} o q=>by
  obtain ⟨a,x,e,q⟩:=slotP_out q
  obtain ⟨v,e1,r⟩:=o.val i _ e
  exact⟨v,e1,q v H _ (Same.refl H) r.2 fun j hj b hb z=>o.dj j hj i (fun y=>h (by rw[y];exact hj)) b z hb⟩⟩
theorem st_forO (i k:Nat) (hb:ST K ρ [] (minus Γ [i]) t (minus Γ [i]) (minus Γ [i]) d) (hi:i∈Γ:=by decide) (hk:k∉minus Γ [i]:=by decide):ST K ρ [] [] (tFor (iList K (tVar i)) (gName k) t) Γ Γ (vForO Γ i k d):=by
  intro B0 Dn E fps δ σ H kk o h
  obtain ⟨es,e,z1,z2,h⟩:=h
  obtain ⟨a,xs,fq,g1,g2,g3,g4⟩:=o.ownL e
  obtain rfl:=g4.flat0 z1
  have own:=o.own i hi
  have B0a:B0 a=none:=(own.2 a (by rw[g3];exact List.mem_cons_self)).1
  obtain ⟨B1,hB1⟩:∃B1:Hp,B1=fun b=>if b=a then H a else B0 b:=⟨_,rfl⟩
  have b1a:B1 a=some (.lst xs):=by rw[hB1];show (if a=a then H a else B0 a)=_;rw[if_pos rfl];exact g2
  have b1n:∀b,b≠a→B1 b=B0 b:=fun b hb=>by rw[hB1];exact if_neg hb
  have b01:Same B0 B1:=fun b u e=>by
    have:b≠a:=fun z=>by rw[z,B0a] at e;cases e
    rw[b1n b this];exact e
  have o1:Ok K B1 (minus Γ [i]) fps (δ.set i (some (.pin a (.lst es)))) σ H:=by
    have o':=o.redata (y:=.pin a (.lst es)) e fun v hv r=>by rw[g1] at hv;cases hv;exact⟨rfl,r⟩
    refine⟨o'.len,fun b u e=>?_,o'.val,o'.non,fun j hj=>⟨(o'.own j (mem_minus.mp hj).1).1,fun b hb=>⟨?_,((o'.own j (mem_minus.mp hj).1).2 b hb).2⟩⟩,fun j hj=>o'.dj j (mem_minus.mp hj).1⟩
    · by_cases z:b=a
      · subst z;rw[b1a] at e;rw[← e];exact g2
      · rw[b1n b z] at e;exact o.b0 b u e
    · have:b≠a:=fun z=>o.dj j (mem_minus.mp hj).1 i (fun y=>(mem_minus.mp hj).2 (by rw[y];exact List.mem_singleton.mpr rfl)) b hb (by rw[g3,z];exact List.mem_cons_self)
      rw[b1n b this];exact ((o'.own j (mem_minus.mp hj).1).2 b hb).1
  have st:=st_for (K:=K) (ρ:=ρ) (Γr:=[]) (Γl:=[]) (it_list (es_varP (K:=K) (Γ:=minus Γ [i]) i (fun z=>(mem_minus.mp z).2 (List.mem_singleton.mpr rfl)))) (gt_name (K:=K) k hk) hb
  have down:∀{fps δ σ H},Ok K B1 [] fps δ σ H→Ok K B0 [] fps δ σ H:=fun o'=>⟨o'.len,b01.trans o'.b0,o'.val,o'.non,fun j hj=>(nomatch hj),fun j hj=>(nomatch hj)⟩
  have hd:vFor (vItL (vVarP i)) (vgName k) d { E with nx:=fun δ'=>δ'[i]?=some (some (.pin a (.lst es)))∧(∀j d,j≠i→j∉Γ→δ'[j]?=some (some d)→d.clean=true)∧E.nx (δ'.set i (some (.lst es))) } (δ.set i (some (.pin a (.lst es)))):=by
    have hl:i<δ.length:=(List.getElem?_eq_some_iff.mp e).1
    refine slotP_in (a:=a) (x:=.lst es) (by rw[List.getElem?_set_self hl]) ?_
    exact h a
  refine st (E:={ E with nx:=fun δ'=>δ'[i]?=some (some (.pin a (.lst es)))∧(∀j d,j≠i→j∉Γ→δ'[j]?=some (some d)→d.clean=true)∧E.nx (δ'.set i (some (.lst es))) }) ⟨fun {fps' δ' σ' H'} o' q=>?_,fun o' q=>kk.bk (down o') q,fun o' q=>kk.ct (down o') q,fun {fps' δ' σ' H' x v fp} o' r ri z=>kk.rt (down o') r (fun hρ=>⟨(ri hρ).nd,(ri hρ).mu,fun b hb=>b01.free ((ri hρ).nw b hb),fun j hj=>(nomatch hj)⟩) z⟩ o1 hd
  obtain ⟨e',cl,hE⟩:=q
  obtain ⟨v',hv',rfl,b,ys,fq',eb,h2,h3,h4⟩:=o'.val i _ e'
  cases eb
  obtain rfl:=h4.flat0 z1
  have tp:=tpl_of h4 z2
  have o2:=o'.redata (y:=.lst es) e' fun v hv r=>r.2
  have free:∀b,B1 b=none→B0 b=none:=fun b hb=>b01.free hb
  refine kk.nx ⟨o2.len,b01.trans o2.b0,o2.val,o2.non,fun j hj=>?_,fun j hj l hl b hbm=>?_⟩ hE
  · by_cases z:j=i
    · subst z
      rw[h3]
      exact⟨by simp,fun b hb=>by rw[List.mem_singleton.mp hb];exact⟨B0a,.inl ⟨_,h2⟩⟩⟩
    · have m:=mem_minus.mpr ⟨hj,fun y=>z (List.mem_singleton.mp y)⟩
      exact⟨(o2.own j m).1,fun b hb=>⟨free b ((o2.own j m).2 b hb).1,((o2.own j m).2 b hb).2⟩⟩
  · by_cases z:j=i
    · subst z
      rw[h3] at hbm
      rw[List.mem_singleton.mp hbm]
      by_cases lg:l∈Γ
      · intro y
        have:=((o2.own l (mem_minus.mpr ⟨lg,fun w=>hl (List.mem_singleton.mp w)⟩)).2 _ y).1
        rw[b1a] at this;cases this
      · by_cases ex:∃dd,δ'[l]?=some (some dd)
        · obtain ⟨dd,edd⟩:=ex
          obtain ⟨v2,_,r2⟩:=o'.val l dd edd
          exact Rf.clean h2 tp r2 (cl l dd hl lg edd)
        · rw[o'.non l fun dd y=>ex ⟨dd,y⟩]
          exact List.not_mem_nil
    · exact o2.dj j (mem_minus.mpr ⟨hj,fun y=>z (List.mem_singleton.mp y)⟩) l hl b hbm
end
end L3
set_option Elab.async false
set_option linter.all false
set_option maxRecDepth 100000
set_option maxHeartbeats 4000000
namespace L3
open PySem L2
section
variable {K:PySem.W.Frag}{ρ:Bool}{Γr Γl Γ Γ1 Γ2 Γn M:List Nat}{t u:TS}{te ta tb tz:TE}{de da db dz:DE}{d e:DS}
variable {B0:Hp}{fps:Nat→List Addr}{δ:Dl}{σ:St}{H H':Hp}
theorem Rfs.dropS:∀{ds:List D}{xs:List V}{fq:List Addr} (n:Nat),Rfs K H ds xs fq→∃fq',Rfs K H (ds.drop n) (xs.drop n) fq'∧fq'.Sublist fq
  | ds,xs,fq,0,h=>⟨fq,h,List.Sublist.refl _⟩
  | [],xs,fq,n+1,h=>by obtain ⟨rfl,rfl⟩:=h;exact⟨[],⟨rfl,rfl⟩,List.Sublist.refl _⟩
  | d::ds,xs,fq,n+1,h=>by
    obtain ⟨x,r,f1,f2,rfl,rfl,h1,h2⟩:=h
    obtain ⟨fq',h3,h4⟩:=Rfs.dropS n h2
    exact⟨fq',h3,h4.trans (List.sublist_append_right _ _)⟩
theorem Rfs.takeS:∀{ds:List D}{xs:List V}{fq:List Addr} (n:Nat),Rfs K H ds xs fq→∃fq',Rfs K H (ds.take n) (xs.take n) fq'∧fq'.Sublist fq
  | ds,xs,fq,0,h=>⟨[],⟨rfl,rfl⟩,List.nil_sublist _⟩
  | [],xs,fq,n+1,h=>by obtain ⟨rfl,rfl⟩:=h;exact⟨[],⟨rfl,rfl⟩,List.Sublist.refl _⟩
  | d::ds,xs,fq,n+1,h=>by
    obtain ⟨x,r,f1,f2,rfl,rfl,h1,h2⟩:=h
    obtain ⟨fq',h3,h4⟩:=Rfs.takeS n h2
    exact⟨f1++fq',⟨x,r.take n,f1,fq',rfl,rfl,h1,h3⟩,List.Sublist.append (List.Sublist.refl _) h4⟩
def vSlM (i:Nat) (dl dh:DO) (δ:Dl) (P:DK):Prop:=slotL δ i fun ds=>dl δ fun l=>dh δ fun u=>P (.lst (cutD ds l u))
theorem em_slM (i:Nat) {tl th:TO}{dl dh:DO} (hl:OR K Γ tl dl) (hh:OR K Γ th dh) (hi:i∈Γ:=by decide):EM K Γ [i] (tSl (rSlL K) (tVar i) tl th) (vSlM i dl dh) :=
  ⟨fun δ P P' k h=>by
    obtain ⟨ds,e,z⟩:=slotL_out h
    exact (slotL_s e).mpr (hl.mono _ _ _ (fun l z=>hh.mono _ _ _ (fun u z=>k _ z) z) z),
   fun {B0 fps δ σ H Q} o h=>by
    obtain ⟨ds,e,z⟩:=slotL_out h
    obtain ⟨a,xs,fq,g1,g2,g3,g4⟩:=o.ownL e
    have hown:=o.own i hi
    refine⟨.ref a,g1,hl.run o (hl.mono _ _ _ (fun l z H2 s2=>hh.run (o.same s2) (hh.mono _ _ _ (fun u z H3 s3=>⟨a,xs,rfl,.inl (.inl (s3 _ _ (s2 _ _ g2))),fun p hp=>?_⟩) z)) z)⟩
    have r3:=g4.same (s2.trans s3)
    obtain ⟨f1,r4,b1⟩:=r3.dropS (HT.sIx ds.length 0 l)
    obtain ⟨f2,r5,b2⟩:=r4.takeS (HT.sIx ds.length ds.length u - HT.sIx ds.length 0 l)
    have sub:f2.Sublist (fps i):=(b2.trans b1).trans (by rw[g3];exact List.sublist_cons_self _ _)
    have hp0:H p=none:=(s2.trans s3).free hp
    have s4:Same H3 (upd H3 p (.lst (cutV xs l u))):=Same.new' hp
    have r6:Rfs K H3 (cutD ds l u) (cutV xs l u) f2:=by
      unfold cutD cutV
      rw[r3.length]
      exact r5
    refine z _ _ (p::f2) ((s2.trans s3).trans s4) ⟨p,_,f2,rfl,upd_same,rfl,r6.same s4⟩ ⟨?_,fun b hb=>?_,fun b hb=>?_⟩
    · exact List.nodup_cons.mpr ⟨fun z=>o.dom (sub.subset z) hp0,sub.nodup hown.1⟩
    · rcases List.mem_cons.mp hb with rfl | hb
      · exact .inl ⟨_,upd_same⟩
      · exact ((hown.2 b (sub.subset hb)).2.same (s2.trans s3)).same s4
    · rcases List.mem_cons.mp hb with rfl | hb
      · exact .inl hp0
      · exact .inr ⟨i,List.mem_singleton.mpr rfl,sub.subset hb⟩⟩
end
end L3
set_option Elab.async false
set_option linter.all false
set_option maxRecDepth 100000
set_option maxHeartbeats 4000000
namespace L3
open PySem L2
inductive Pth where | l (m:Nat) | t (m k:Nat)
  deriving DecidableEq
section
variable {K:PySem.W.Frag}{H:Hp}
end
abbrev Al:=List (Nat × Pth)
section
variable {K:PySem.W.Frag}{Γ:List Nat}{B0:Hp}{i:Nat}{al:Al}{fps:Nat→List Addr}{δ:Dl}{σ:St}{H H':Hp}
end
section
variable {K:PySem.W.Frag}{Γ Γl Γn:List Nat}{i j:Nat}{t u:TS}{d e:Al→DS}{te tx t1:TE}{de dx d1:DE}
end
end L3
set_option Elab.async false
set_option linter.all false
set_option maxRecDepth 100000
set_option maxHeartbeats 4000000
namespace L2
open PySem PySem.Spec PyProof.Rows PySem.Calls
section
variable {prog:Program}{w:World}{A:Around}{E:Value→Shared→Prop}{s:Shared}
end
section
variable {X:Cx}{pins:List (Addr × Obj)}{σ:St}{H:Hp}{s:Shared}
end
end L2
set_option Elab.async false
set_option linter.all false
set_option maxRecDepth 100000
set_option maxHeartbeats 4000000
namespace L3
open PySem L2
section
variable {K:PySem.W.Frag}{ρ:Bool}{Γr Γl Γ Γ1 Γn M:List Nat}{te ta tx t1 t2:TE}{de da dx d1 d2:DE}
variable {B0:Hp}{fps:Nat→List Addr}{δ:Dl}{σ:St}{H:Hp}{C:Addr}{f:Str}
end
end L3
set_option Elab.async false
set_option linter.all false
set_option maxRecDepth 100000
set_option maxHeartbeats 4000000
namespace L3
open PySem L2
section
variable {K:PySem.W.Frag}{ρ:Bool}{Γr Γl Γ Γ1 Γn M:List Nat}{te ta tx t1 t2:TE}{de da dx d1 d2:DE}
variable {B0:Hp}{fps:Nat→List Addr}{δ:Dl}{σ:St}{H:Hp}{C:Addr}{f:Str}
end
end L3
namespace L3
open PySem L2
end L3
set_option Elab.async false
set_option linter.all false
set_option maxRecDepth 100000
set_option maxHeartbeats 4000000
namespace L3
namespace Fl
open PySem L2
abbrev nw (new:List (Nat × Nat)):List (Nat × Option Nat):=new.map fun p=>(p.1,some p.2)
variable {n m:Nat}{low high t:List (List Int)}{w r:List Int}{as bs:List (Nat × Option Nat)}{rk ck:Nat→Nat}{D:Nat}
end Fl
end L3
set_option Elab.async false
set_option linter.all false
set_option maxRecDepth 100000
set_option maxHeartbeats 4000000
namespace L3
open PySem L2
section
variable {K:PySem.W.Frag}{ρ:Bool}{Γr Γl Γ Γ1 Γn M:List Nat}{te t0 t1 t2:TE}{de d0 d1 d2:DE}
end
end L3
namespace L3.Fl
end L3.Fl
set_option Elab.async false
set_option linter.all false
set_option maxRecDepth 100000
set_option maxHeartbeats 4000000
namespace L2
open PySem PySem.Spec PyProof.Rows
open Sem (wp)
section
variable {prog:Program}{w:World}{A:Around}{E:Value→Shared→Prop}{s:Shared}
end
section
variable {prog:Program}{w:World}{A:Around}{E:Value→Shared→Prop}{s:Shared}
end
end L2
set_option Elab.async false
set_option linter.all false
set_option maxRecDepth 100000
set_option maxHeartbeats 4000000
namespace L2
open PySem PySem.Spec PyProof.Rows
section
variable {X:Cx}
end
end L2
set_option Elab.async false
set_option linter.all false
set_option maxRecDepth 100000
set_option maxHeartbeats 4000000
namespace L3
open PySem L2
section
variable {K:PySem.W.Frag}{Γ:List Nat}{ta tb tc:TE}{da db dc:DE}
end
end L3
set_option Elab.async false
set_option linter.all false
set_option maxRecDepth 100000
set_option maxHeartbeats 4000000
namespace L3
open PySem L2
section
variable {K:PySem.W.Frag}{ρ:Bool}{Γr Γl Γ:List Nat}
theorem EM.free {te:TE}{de:DE} (h:EM K [] [] te de):EM K Γ [] te de:=⟨h.mono,fun o z=>h.run (o.sub fun _ h=>(nomatch h)) z⟩
end
end L3
set_option Elab.async false
set_option linter.all false
set_option maxRecDepth 100000
set_option maxHeartbeats 4000000
namespace L3
open PySem L2
section
variable {K:PySem.W.Frag}{Γ:List Nat}{te:TE}{de:DE}
def vLendR (L S:Nat) (de:DE) (δ:Dl) (P:DK):Prop:=∃(a:Addr) (x:D) (ds:List D) (k:Nat) (y:D),δ[L]?=some (some (.raw (.ref a)))∧δ[S]?=some (some x)∧tabOf x=some ds∧ds[k]?=some (.pin a y)∧de (δ.set L (some y)) P
theorem EM.lendR (L S:Nat) (h:EM K [] [] te de):EM K Γ [] te (vLendR L S de) :=
  ⟨fun δ P P' k ⟨a,x,ds,k',y,e1,e2,e3,e4,q⟩=>⟨a,x,ds,k',y,e1,e2,e3,e4,h.mono _ _ _ k q⟩,fun {B0 fps δ σ H Q} o q=>by
    obtain ⟨a,x,ds,k,y,eL,eS,ex,ek,q⟩:=q
    obtain ⟨vL,hvL,rL⟩:=o.val L _ eL
    obtain rfl:vL=.ref a:=rL.1
    obtain ⟨vS,hvS,r⟩:=o.val S _ eS
    obtain ⟨b,ys,fq,rfl,h1,h2,h3,mk⟩:=tabOf_rf ex r
    obtain ⟨z,f,ez,h9,_⟩:=h3.get ek
    obtain ⟨rfl,h10⟩:z=.ref a∧_:=h9
    have hl:L<δ.length:=(List.getElem?_eq_some_iff.mp eL).1
    have o':Ok K B0 [] (fun j=>if j=L then f else fps j) (δ.set L (some y)) σ H:=by
      refine⟨by rw[List.length_set];exact o.len,o.b0,fun j d e=>?_,fun j e=>?_,fun j hj=>(nomatch hj),fun j hj=>(nomatch hj)⟩
      · by_cases w:j=L
        · subst w
          rw[List.getElem?_set_self hl] at e
          cases e
          exact⟨.ref a,hvL,by rw[if_pos rfl];exact h10⟩
        · rw[List.getElem?_set_ne (Ne.symm w)] at e
          rw[if_neg w]
          exact o.val j d e
      · by_cases w:j=L
        · subst w
          exact absurd (List.getElem?_set_self hl) (e y)
        · rw[if_neg w]
          exact o.non j fun d z=>e d (by rw[List.getElem?_set_ne (Ne.symm w)];exact z)
    exact h.run o' (h.mono _ _ _ (fun x z v H' fp s r n=>z v H' fp s r n.any) q)⟩
end
end L3
set_option Elab.async false
set_option linter.all false
set_option maxRecDepth 100000
set_option maxHeartbeats 4000000
namespace Mine
open PySem L3
open L2 hiding D Rf Rfs Rp dI dT
open PyProof.Rows hiding St
open L3.Fl hiding St
open L3.Rg hiding St
local macro_rules | `(tactic| walk_at "v1") => `(tactic| simp only [vSlM,vStrip,vItT,vRawOf,vRawV,vStripE,vSetTb,vExtF,vSub2,vCatF,vAsgM2,vTryEq,vSlF,vListF,vAppF,vPopF,vNext,vSeq,vSetM,vSet,vDrop,vRet,vRetN,vIfS,vAsg,vgName,vgTup2,vgCons_c,vgNil_n,vFor,vIf,vVar,vC,vOp,vUn,vI0_int,vI_int,vU_int,vTest,asB_bl,vAnd,vOr,vNot,vAndV,vOrV,vNotV,vChain,vNil,vCons,vInts,vLst,vTup,vCall,vItL,vRng1,vRng2,asI_int,asII_int,asL_lst,asL_scr,vIxL_lst,vIxL_scr,vIxT_tup,vNoPart,vPart,vLen_lst,vLen_scr,vLen_tup,slotL,vAppend,vClear,vIs,tyn_int,tyn_bl,tyn_lst,tyn_tup,tyn_str,tyn_non,isB_ii,isB_ib,isB_ll,isB_tt,isB_ss,isB_bb,isB_bi,isB_il,isB_nl,vIsN_non,D.isNon,vScal,D.scal,vFlat,flat_int,flat_bl,flat_tup2,flat_tup3,flat_tup4,vAbs,vIntB,asIB_int,asIB_bl,vMax2,vMin2,vYes,vCat_lst,vRep_lst,vList_lst,vList_scr,vSum_ints,asNs_ints,vSorted,vRev,vSl,vSlR,vCatR_lst,vRepR_lst,vListR_lst,vRevR,vAll_bools,vAny_bools,vMinL_ints,vMaxL_ints,vListRng,vAppPop,vPin,slotP,vVarP,vCallI,vSetI,vDGet,vDIn,vDPut,slotD,asDic_dic,vIndex,vSort_ints,vLenD_dic,vClearTs,vClearTL,vTupOf_lst,vTupR_lst,asTI_in,asDit_dit,vDInT,vDPutT,vClearT,slotT,isRef_lst,isRef_dic,ofV_int,ofV_bl,ofV_non,D.toV,Option.some.injEq,forall_eq',vEqS_bl,vEqS_str,vPar,vgLst,vTryI,vTry,vKnow,vWhen,vRaise,vDropX,vSetX,vRetX,noX,vDef,atI_c0,atI_c1,atI_c2,atI_c3,asO_some,kill,List.foldl_nil,List.foldl_cons,List.set_cons_zero,List.set_cons_succ,List.getElem?_cons_zero,List.getElem?_cons_succ,List.getElem?_nil,endsD,vEqS_int,Bool.false_eq_true,Bool.not_false,Bool.not_true,if_true,if_false,ite_true,ite_false,true_and,and_true,List.length_cons,List.length_nil,decide_eq_true_eq,Bool.not_eq_true',decide_eq_false_iff_not,List.length_map,Bool.true_eq_false,eq_self,not_true_eq_false,not_false_eq_true,Int.reduceToNat,Int.reduceEq,Int.reduceLT,Int.reduceLE,Int.reducePow,Int.reduceAdd,Int.reduceMul,Int.reduceSub,Int.reduceNeg,Int.toNat_natCast])
local macro_rules | `(tactic| walk_at "vb1") => `(tactic| simp only [vSlM,vStrip,vItT,vRawOf,vRawV,vStripE,vSetTb,vExtF,vSub2,vCatF,vAsgM2,vTryEq,vSlF,vListF,vAppF,vPopF,vNext,vSeq,vSetM,vSet,vDrop,vRet,vRetN,vIfS,vAsg,vgName,vgTup2,vgCons_c,vgNil_n,vFor,vIf,vVar,vC,vOp,vUn,vI0_int,vI_int,vU_int,vTest,asB_bl,vAnd,vOr,vNot,vAndV,vOrV,vNotV,vChain,vNil,vCons,vInts,vLst,vTup,vCall,vItL,vRng1,vRng2,asI_int,asII_int,asL_lst,asL_scr,vIxL_lst,vIxL_scr,vIxT_tup,vNoPart,vPart,vLen_lst,vLen_scr,vLen_tup,slotL,vAppend,vClear,vIs,tyn_int,tyn_bl,tyn_lst,tyn_tup,tyn_str,tyn_non,isB_ii,isB_ib,isB_ll,isB_tt,isB_ss,isB_bb,isB_bi,isB_il,isB_nl,vIsN_non,D.isNon,vScal,D.scal,vFlat,flat_int,flat_bl,flat_tup2,flat_tup3,flat_tup4,vAbs,vIntB,asIB_int,asIB_bl,vMax2,vMin2,vYes,vCat_lst,vRep_lst,vList_lst,vList_scr,vSum_ints,asNs_ints,vSorted,vRev,vSl,vSlR,vCatR_lst,vRepR_lst,vListR_lst,vRevR,vAll_bools,vAny_bools,vMinL_ints,vMaxL_ints,vListRng,vAppPop,vPin,slotP,vVarP,vCallI,vSetI,vDGet,vDIn,vDPut,slotD,asDic_dic,vIndex,vSort_ints,vLenD_dic,vClearTs,vClearTL,vTupOf_lst,vTupR_lst,asTI_in,asDit_dit,vDInT,vDPutT,vClearT,slotT,isRef_lst,isRef_dic,ofV_int,ofV_bl,ofV_non,D.toV,Option.some.injEq,forall_eq',vEqS_bl,vEqS_str,vPar,vgLst,vTryI,vTry,vKnow,vWhen,vRaise,vDropX,vSetX,vRetX,noX,vDef,atI_c0,atI_c1,atI_c2,atI_c3,asO_some,kill,List.foldl_nil,List.foldl_cons,List.set_cons_zero,List.set_cons_succ,List.getElem?_cons_zero,List.getElem?_cons_succ,List.getElem?_nil,endsD,vEqS_int,Bool.false_eq_true,Bool.not_false,Bool.not_true,if_true,if_false,ite_true,ite_false,true_and,and_true,List.length_cons,List.length_nil,decide_eq_true_eq,Bool.not_eq_true',decide_eq_false_iff_not,List.length_map,Bool.true_eq_false,eq_self,not_true_eq_false,not_false_eq_true,Int.reduceToNat,Int.reduceEq,Int.reduceLT,Int.reduceLE,Int.reducePow,Int.reduceAdd,Int.reduceMul,Int.reduceSub,Int.reduceNeg,Int.toNat_natCast,vBody,cbaseD,List.reduceReplicate,List.replicate_succ,List.replicate_zero,List.map_cons,List.map_nil,Option.getD_some,List.cons_append,List.nil_append,Nat.reduceAdd])
local macro_rules | `(tactic| walk_at "v") => `(tactic| try (walk_at "v1"))
local macro_rules | `(tactic| walk_at "vb") => `(tactic| try (walk_at "vb1"))
local macro_rules | `(tactic| walk_at "cd") => `(tactic| first | exact ⟨by decide,100,by decide,by decide⟩ | exact ⟨by omega,100,by omega,by decide⟩ | omega | decide | rfl | exact ⟨by decide,by decide,by decide⟩ | exact ⟨64,64,by omega,by omega,by decide⟩ | exact ⟨200,200,by omega,by omega,by decide⟩ | exact scal_ints)
local macro_rules | `(tactic| walk_at "go") => `(tactic| repeat (first | (walk_at "v1") | ((with_reducible refine And.intro ?k1 ?_); (case k1 => walk_at "cd"))))
local macro_rules | `(tactic| walk_at "gb") => `(tactic| repeat (first | (walk_at "vb1") | ((with_reducible refine And.intro ?k1 ?_); (case k1 => walk_at "cd"))))
def top (i:Nat):Stmt:=PySem.Challenge.pw_evenmix_k35_whole_swaps.main.body.getD i (.Pass ⟨0,0,0,0⟩)
abbrev s_places_below:Stmt:=top 16
abbrev N_places_below:List Str:=["one","other"]
abbrev P_places_below:List Str:=["one","other"]
theorem sc_places_below:FnScope N_places_below P_places_below (defScope s_places_below):=⟨rfl,rfl,rfl,by decide +kernel,rfl,by decide +kernel,by decide +kernel⟩
abbrev s_is_place:Stmt:=top 18
abbrev N_is_place:List Str:=["number","many"]
abbrev P_is_place:List Str:=["number","many"]
theorem sc_is_place:FnScope N_is_place P_is_place (defScope s_is_place):=⟨rfl,rfl,rfl,by decide +kernel,rfl,by decide +kernel,by decide +kernel⟩
abbrev s_copied_table:Stmt:=top 19
abbrev N_copied_table:List Str:=["table"]
abbrev P_copied_table:List Str:=["table"]
theorem sc_copied_table:FnScope N_copied_table P_copied_table (defScope s_copied_table):=⟨rfl,rfl,rfl,by decide +kernel,rfl,by decide +kernel,by decide +kernel⟩
abbrev s_sums_of_rows:Stmt:=top 20
abbrev N_sums_of_rows:List Str:=["table"]
abbrev P_sums_of_rows:List Str:=["table"]
theorem sc_sums_of_rows:FnScope N_sums_of_rows P_sums_of_rows (defScope s_sums_of_rows):=⟨rfl,rfl,rfl,by decide +kernel,rfl,by decide +kernel,by decide +kernel⟩
abbrev s_sums_of_columns:Stmt:=top 21
abbrev N_sums_of_columns:List Str:=["table"]
abbrev P_sums_of_columns:List Str:=["table"]
theorem sc_sums_of_columns:FnScope N_sums_of_columns P_sums_of_columns (defScope s_sums_of_columns):=⟨rfl,rfl,rfl,by decide +kernel,rfl,by decide +kernel,by decide +kernel⟩
abbrev s_turned_table:Stmt:=top 22
abbrev N_turned_table:List Str:=["table"]
abbrev P_turned_table:List Str:=["table"]
theorem sc_turned_table:FnScope N_turned_table P_turned_table (defScope s_turned_table):=⟨rfl,rfl,rfl,by decide +kernel,rfl,by decide +kernel,by decide +kernel⟩
abbrev s_column_of:Stmt:=top 23
abbrev N_column_of:List Str:=["table","place"]
abbrev P_column_of:List Str:=["table","place"]
theorem sc_column_of:FnScope N_column_of P_column_of (defScope s_column_of):=⟨rfl,rfl,rfl,by decide +kernel,rfl,by decide +kernel,by decide +kernel⟩
abbrev s_can_swap:Stmt:=top 25
abbrev N_can_swap:List Str:=["table","swap","first","second"]
abbrev P_can_swap:List Str:=["table","swap"]
theorem sc_can_swap:FnScope N_can_swap P_can_swap (defScope s_can_swap):=⟨rfl,rfl,rfl,by decide +kernel,rfl,by decide +kernel,by decide +kernel⟩
abbrev s_swap_made:Stmt:=top 26
abbrev N_swap_made:List Str:=["table","swap","made"]
abbrev P_swap_made:List Str:=["table","swap"]
theorem sc_swap_made:FnScope N_swap_made P_swap_made (defScope s_swap_made):=⟨rfl,rfl,rfl,by decide +kernel,rfl,by decide +kernel,by decide +kernel⟩
abbrev s_swaps_between:Stmt:=top 27
abbrev N_swaps_between:List Str:=["one","other","table","swaps","ring","some"]
abbrev P_swaps_between:List Str:=["one","other"]
theorem sc_swaps_between:FnScope N_swaps_between P_swaps_between (defScope s_swaps_between):=⟨rfl,rfl,rfl,by decide +kernel,rfl,by decide +kernel,by decide +kernel⟩
abbrev s_table_behind:Stmt:=top 28
abbrev N_table_behind:List Str:=["table","swaps","swap"]
abbrev P_table_behind:List Str:=["table","swaps"]
theorem sc_table_behind:FnScope N_table_behind P_table_behind (defScope s_table_behind):=⟨rfl,rfl,rfl,by decide +kernel,rfl,by decide +kernel,by decide +kernel⟩
abbrev s_ring_between:Stmt:=top 29
abbrev N_ring_between:List Str:=["table","other","row","rows","columns","column","start"]
abbrev P_ring_between:List Str:=["table","other"]
theorem sc_ring_between:FnScope N_ring_between P_ring_between (defScope s_ring_between):=⟨rfl,rfl,rfl,by decide +kernel,rfl,by decide +kernel,by decide +kernel⟩
abbrev s_first_unlike:Stmt:=top 30
abbrev N_first_unlike:List Str:=["table","other"]
abbrev P_first_unlike:List Str:=["table","other"]
theorem sc_first_unlike:FnScope N_first_unlike P_first_unlike (defScope s_first_unlike):=⟨rfl,rfl,rfl,by decide +kernel,rfl,by decide +kernel,by decide +kernel⟩
abbrev s_ring_swaps:Stmt:=top 31
abbrev N_ring_swaps:List Str:=["table","rows","columns","ahead","behind","last","place","swap"]
abbrev P_ring_swaps:List Str:=["table","rows","columns"]
theorem sc_ring_swaps:FnScope N_ring_swaps P_ring_swaps (defScope s_ring_swaps):=⟨rfl,rfl,rfl,by decide +kernel,rfl,by decide +kernel,by decide +kernel⟩
abbrev s_law_cell_at:Stmt:=top 33
abbrev N_law_cell_at:List Str:=["_law_script","_law_k"]
abbrev P_law_cell_at:List Str:=["_law_script","_law_k"]
theorem sc_law_cell_at:FnScope N_law_cell_at P_law_cell_at (defScope s_law_cell_at):=⟨rfl,rfl,rfl,by decide +kernel,rfl,by decide +kernel,by decide +kernel⟩
abbrev s_law_whole:Stmt:=top 34
abbrev N_law_whole:List Str:=["_law_found"]
abbrev P_law_whole:List Str:=["_law_found"]
theorem sc_law_whole:FnScope N_law_whole P_law_whole (defScope s_law_whole):=⟨rfl,rfl,rfl,by decide +kernel,rfl,by decide +kernel,by decide +kernel⟩
abbrev s_law_mixed:Stmt:=top 35
abbrev N_law_mixed:List Str:=["_law_script","_law_number","_law_cell"]
abbrev P_law_mixed:List Str:=["_law_script","_law_number"]
theorem sc_law_mixed:FnScope N_law_mixed P_law_mixed (defScope s_law_mixed):=⟨rfl,rfl,rfl,by decide +kernel,rfl,by decide +kernel,by decide +kernel⟩
abbrev s_law_flipped:Stmt:=top 36
abbrev N_law_flipped:List Str:=["_law_script","_law_high","_law_wide","_law_ones","_law_cell","_law_line","_law_at"]
abbrev P_law_flipped:List Str:=["_law_script","_law_high","_law_wide"]
theorem sc_law_flipped:FnScope N_law_flipped P_law_flipped (defScope s_law_flipped):=⟨rfl,rfl,rfl,by decide +kernel,rfl,by decide +kernel,by decide +kernel⟩
abbrev s_law_swapped:Stmt:=top 37
abbrev N_law_swapped:List Str:=["_law_ones","_law_cell","_law_high","_law_wide","_law_one","_law_other","_law_k","_law_j","_law_l","_law_row"]
abbrev P_law_swapped:List Str:=["_law_ones","_law_cell"]
theorem sc_law_swapped:FnScope N_law_swapped P_law_swapped (defScope s_law_swapped):=⟨rfl,rfl,rfl,by decide +kernel,rfl,by decide +kernel,by decide +kernel⟩
abbrev s_law_can:Stmt:=top 38
abbrev N_law_can:List Str:=["_law_ones","_law_swap","_law_high","_law_wide","_law_i","_law_j","_law_k","_law_l"]
abbrev P_law_can:List Str:=["_law_ones","_law_swap"]
theorem sc_law_can:FnScope N_law_can P_law_can (defScope s_law_can):=⟨rfl,rfl,rfl,by decide +kernel,rfl,by decide +kernel,by decide +kernel⟩
abbrev s_law_walked:Stmt:=top 39
abbrev N_law_walked:List Str:=["_law_one","_law_other","_law_handed","_law_found","_law_apart","_law_ones","_law_swap","_law_row","_law_column"]
abbrev P_law_walked:List Str:=["_law_one","_law_other"]
theorem sc_law_walked:FnScope N_law_walked P_law_walked (defScope s_law_walked):=⟨rfl,rfl,rfl,by decide +kernel,rfl,by decide +kernel,by decide +kernel⟩
abbrev s_law_refused:Stmt:=top 40
abbrev N_law_refused:List Str:=["_law_one","_law_other","_law_word","error"]
abbrev P_law_refused:List Str:=["_law_one","_law_other"]
theorem sc_law_refused:FnScope N_law_refused P_law_refused (defScope s_law_refused):=⟨rfl,rfl,rfl,by decide +kernel,rfl,by decide +kernel,by decide +kernel⟩
abbrev s_law_third:Stmt:=top 41
abbrev N_law_third:List Str:=["_law_ones","_law_mixed_here","_law_found","_law_row","_law_at","_law_others"]
abbrev P_law_third:List Str:=["_law_ones","_law_mixed_here"]
theorem sc_law_third:FnScope N_law_third P_law_third (defScope s_law_third):=⟨rfl,rfl,rfl,by decide +kernel,rfl,by decide +kernel,by decide +kernel⟩
abbrev s_law_one_swap:Stmt:=top 42
abbrev N_law_one_swap:List Str:=["_law_ones","_law_cell","_law_one","_law_other","_law_j","_law_l","_law_row"]
abbrev P_law_one_swap:List Str:=["_law_ones","_law_cell"]
theorem sc_law_one_swap:FnScope N_law_one_swap P_law_one_swap (defScope s_law_one_swap):=⟨rfl,rfl,rfl,by decide +kernel,rfl,by decide +kernel,by decide +kernel⟩
abbrev s_law_two:Stmt:=top 43
abbrev N_law_two:List Str:=["_law_script","_law_first","_law_high","_law_wide","_law_one","_law_other","_law_cell"]
abbrev P_law_two:List Str:=["_law_script"]
theorem sc_law_two:FnScope N_law_two P_law_two (defScope s_law_two):=⟨rfl,rfl,rfl,by decide +kernel,rfl,by decide +kernel,by decide +kernel⟩
abbrev s_law:Stmt:=top 44
abbrev N_law:List Str:=["_law_script","_law_one","_law_other","_law_mixed_here","_law_third_here","_law_handed"]
abbrev P_law:List Str:=["_law_script"]
theorem sc_law:FnScope N_law P_law (defScope s_law):=⟨rfl,rfl,rfl,by decide +kernel,rfl,by decide +kernel,by decide +kernel⟩
structure Txt (K:PySem.W.Frag) (mg:Str→Option Value):Prop where
  len_:mg "len" = none
  isinstance_:mg "isinstance" = none
  int_:mg "int" = none
  bool_:mg "bool" = none
  list_:mg "list" = none
  range_:mg "range" = none
  sum_:mg "sum" = none
  max_:mg "max" = none
  reversed_:mg "reversed" = none
  tuple_:mg "tuple" = none
  zip_:mg "zip" = none
  ValueError_:mg "ValueError" = none
structure Fns (K:PySem.W.Frag) (mg:Str→Option Value):Prop where
  h_places_below:∃f fd,FnAt K mg "places_below" s_places_below P_places_below f fd
  h_is_place:∃f fd,FnAt K mg "is_place" s_is_place P_is_place f fd
  h_copied_table:∃f fd,FnAt K mg "copied_table" s_copied_table P_copied_table f fd
  h_sums_of_rows:∃f fd,FnAt K mg "sums_of_rows" s_sums_of_rows P_sums_of_rows f fd
  h_sums_of_columns:∃f fd,FnAt K mg "sums_of_columns" s_sums_of_columns P_sums_of_columns f fd
  h_turned_table:∃f fd,FnAt K mg "turned_table" s_turned_table P_turned_table f fd
  h_column_of:∃f fd,FnAt K mg "column_of" s_column_of P_column_of f fd
  h_can_swap:∃f fd,FnAt K mg "can_swap" s_can_swap P_can_swap f fd
  h_swap_made:∃f fd,FnAt K mg "swap_made" s_swap_made P_swap_made f fd
  h_swaps_between:∃f fd,FnAt K mg "swaps_between" s_swaps_between P_swaps_between f fd
  h_table_behind:∃f fd,FnAt K mg "table_behind" s_table_behind P_table_behind f fd
  h_ring_between:∃f fd,FnAt K mg "ring_between" s_ring_between P_ring_between f fd
  h_first_unlike:∃f fd,FnAt K mg "first_unlike" s_first_unlike P_first_unlike f fd
  h_ring_swaps:∃f fd,FnAt K mg "ring_swaps" s_ring_swaps P_ring_swaps f fd
  h_law_cell_at:∃f fd,FnAt K mg "_law_cell_at" s_law_cell_at P_law_cell_at f fd
  h_law_whole:∃f fd,FnAt K mg "_law_whole" s_law_whole P_law_whole f fd
  h_law_mixed:∃f fd,FnAt K mg "_law_mixed" s_law_mixed P_law_mixed f fd
  h_law_flipped:∃f fd,FnAt K mg "_law_flipped" s_law_flipped P_law_flipped f fd
  h_law_swapped:∃f fd,FnAt K mg "_law_swapped" s_law_swapped P_law_swapped f fd
  h_law_can:∃f fd,FnAt K mg "_law_can" s_law_can P_law_can f fd
  h_law_walked:∃f fd,FnAt K mg "_law_walked" s_law_walked P_law_walked f fd
  h_law_refused:∃f fd,FnAt K mg "_law_refused" s_law_refused P_law_refused f fd
  h_law_third:∃f fd,FnAt K mg "_law_third" s_law_third P_law_third f fd
  h_law_one_swap:∃f fd,FnAt K mg "_law_one_swap" s_law_one_swap P_law_one_swap f fd
  h_law_two:∃f fd,FnAt K mg "_law_two" s_law_two P_law_two f fd
  h_law:∃f fd,FnAt K mg "law" s_law P_law f fd
structure Cs where
  (MixError NoTable NoBottom NotAlike NoStep NoMix NotEven NoSwap NoBounds NoPlace NoSums TooGreat NoNumber NoText:Addr)
structure Exs (K:PySem.W.Frag) (mg:Str→Option Value) (base:Heap) (c:Cs):Prop where
  m_MixError:mg "MixError" = some (.ref c.MixError)
  m_NoTable:mg "NoTable" = some (.ref c.NoTable)
  m_NoBottom:mg "NoBottom" = some (.ref c.NoBottom)
  m_NotAlike:mg "NotAlike" = some (.ref c.NotAlike)
  m_NoStep:mg "NoStep" = some (.ref c.NoStep)
  m_NoMix:mg "NoMix" = some (.ref c.NoMix)
  m_NotEven:mg "NotEven" = some (.ref c.NotEven)
  m_NoSwap:mg "NoSwap" = some (.ref c.NoSwap)
  m_NoBounds:mg "NoBounds" = some (.ref c.NoBounds)
  m_NoPlace:mg "NoPlace" = some (.ref c.NoPlace)
  m_NoSums:mg "NoSums" = some (.ref c.NoSums)
  m_TooGreat:mg "TooGreat" = some (.ref c.TooGreat)
  m_NoNumber:mg "NoNumber" = some (.ref c.NoNumber)
  m_NoText:mg "NoText" = some (.ref c.NoText)
  o_MixError:ExcObj base c.MixError []
  o_NoSwap:ExcObj base c.NoSwap [c.MixError]
  k_NoSwap:PySem.W.ExcK K c.NoSwap
  o_NotAlike:ExcObj base c.NotAlike [c.MixError]
  k_NotAlike:PySem.W.ExcK K c.NotAlike
  t1:PySem.W.kitAny K (.ref c.NotAlike) ([c.NoBottom,c.NoTable,c.NoStep,c.NoMix,c.NotEven,c.NoSwap].map Value.ref)=some false
  t2:PySem.W.kitAny K (.ref c.NotAlike) ([c.NoBounds,c.NoPlace,c.NoSums,c.TooGreat,c.NoNumber,c.NoText].map Value.ref)=some false
  v_NotAlike:PySem.W.kitOne K (.ref c.NotAlike) (.type "ValueError")=some true
section
variable {P:Program}{w:World}{K:PySem.W.Frag}{mg:Str→Option Value}{base:Heap}
def S_is_place:DSp:=fun ds P=>∃x m,ds=[.int x,.int m]∧P (.bl (decide (0≤x∧x<m)))
theorem mono_is_place:DMono S_is_place:=by
  intro xs P P' k h
  unfold S_is_place at h ⊢
  grind
theorem len_is_place:∀ds P,S_is_place ds P→ds.length=2:=by
  intro ds P h
  obtain ⟨_,_,e,_⟩:=h
  rw[e];rfl
theorem ok_is_place {f:Addr}{fd:FuncData} (F:FnAt K mg "is_place" s_is_place P_is_place f fd) (A_:Fns K mg) (T:Txt K mg) {c:Cs} (xs:Exs K mg base c):FnOk P w K mg base CX0 1 f fd P_is_place (spP K S_is_place):=by
  refine F.fn.ok sc_is_place (fun vs H Q E h=>spP_len len_is_place h) (fun cdv A outer s H vs Q E hr h=>?_)
  refine⟨_,(pss_one (ps_ret (pe_chain op_le op_lt pe_int (pv 0) (pv 1)))),fn_val (Γn:=[]) (N:=N_is_place) (st_ret (M:=[]) (em_chain o_bl o_bl (EM.er em_int) (ES.er (es_var 0)) (ES.er (es_var 1)))) (fun ds P hS=>?_) h⟩
  obtain ⟨x,m,rfl,hP⟩:=hS
  rw[show startD N_is_place [.int x,.int m]=[some (.int x),some (.int m)] from rfl]
  walk_at "v"
  split
  · rename_i c
    have e:decide (0≤x∧x<m)=decide (x<m):=by rw[Bool.eq_iff_iff,decide_eq_true_eq,decide_eq_true_eq];exact⟨fun z=>z.2,fun z=>⟨c,z⟩⟩
    rw[e] at hP
    exact hP
  · rename_i c
    rw[decide_eq_false (fun z=>c z.1)] at hP
    exact hP
def belowL (one other:List Int):List Nat:=(List.range one.length).filter fun p=>decide (one.getD p 0<other.getD p 0)
def S_places_below:DSp:=fun ds P=>∃one other,ds=[dI one,dI other]∧one.length≤1000∧one.length=other.length∧P (dI ((belowL one other).map fun (p:Nat)=>(p:Int)))
theorem mono_places_below:DMono S_places_below:=by
  intro xs P P' k h
  unfold S_places_below at h ⊢
  grind
theorem len_places_below:∀ds P,S_places_below ds P→ds.length=2:=by
  intro ds P h
  obtain ⟨_,_,e,_⟩:=h
  rw[e];rfl
theorem ok_places_below {f:Addr}{fd:FuncData} (F:FnAt K mg "places_below" s_places_below P_places_below f fd) (A_:Fns K mg) (T:Txt K mg) {c:Cs} (xs:Exs K mg base c):FnOk P w K mg base CX0 1 f fd P_places_below (spP K S_places_below):=by
  refine F.fn.ok sc_places_below (fun vs H Q E h=>spP_len len_places_below h) (fun cdv A outer s H vs Q E hr h=>?_)
  refine⟨_,(pss_one (ps_ret (pe_comp rfl (CompScope.of (sc0:=(defScope s_places_below)) (tn:=["place"]) (cap:=["one","other"]) (idx:=[0,1]) (by decide +kernel) rfl rfl) (pi_range1 rfl T.range_ (pa_cons (pe_callB (call_lenK (K:=K) rfl) (by rfl) T.len_ PySem.boot_len (pa_cons (pv 0) pa_nil)) pa_nil)) (GSet.name (by decide)) (fun _ _ _ _ _=>pg_name (i:=0) (nodupB_iff (l:=["place","one","other"]) (by decide +kernel)) rfl (by first | exact Or.inl rfl | exact Or.inr rfl) (by first | exact .inl rfl | exact .inr rfl)) (fun _ _ _ _ _=>pts_one (pt_cmpR op_lt (pe_ix (ix_listK (K:=K) rfl) (pv 1) (pv 0) (fun _ _=>rfl)) (pe_ix (ix_listK (K:=K) rfl) (pv 2) (pv 0) (fun _ _=>rfl)) (nomark _))) (fun _ _ _ _ _=>(pv 0)) (by intro _;rfl)))),fn_val (Γn:=[]) (N:=N_places_below) (st_ret (M:=[]) (em_comp (it_rng1 (ar_cons (EM.er (em_cb c_len (ar_cons (ES.er (es_var 0)) ar_nil))) ar_nil)) (gt_name 0) (tr_test (EM.er (em_op o_bl (ES.er (es_ixL (es_var 1) (ES.er (es_var 0)))) (ES.er (es_ixL (es_var 2) (ES.er (es_var 0))))))) (ER.scal (ES.er (es_var 0))))) (fun ds P hS=>?_) h⟩
  obtain ⟨one,other,rfl,hl,he,hP⟩:=hS
  rw[show startD N_places_below [dI one,dI other]=[some (dI one),some (dI other)] from rfl]
  walk_at "v"
  refine comp_rngF (lo:=0) (n:=one.length) (p:=fun p=>decide (one.getD p 0<other.getD p 0)) (g:=fun (p:Nat)=>.int (p:Int)) (fun R h=>?_) hl (fun i hi R h=>?_) ?_
  · walk_at "go";exact h
  · walk_at "gb"
    rw[Int.zero_add]
    refine asO_ints (by omega) (asO_ints (by omega) ?_)
    walk_at "gb"
    split
    · rename_i c
      rw[decide_eq_true c] at h
      exact h
    · rename_i c
      rw[decide_eq_false c] at h
      exact h
  · rw[map_int];exact hP
def S_copied_table:DSp:=fun ds P=>∃t,ds=[dT t]∧t.length≤1000∧P (dT t)
theorem mono_copied_table:DMono S_copied_table:=by
  intro xs P P' k h
  unfold S_copied_table at h ⊢
  grind
theorem len_copied_table:∀ds P,S_copied_table ds P→ds.length=1:=by
  intro ds P h
  obtain ⟨_,e,_⟩:=h
  rw[e];rfl
theorem ok_copied_table {f:Addr}{fd:FuncData} (F:FnAt K mg "copied_table" s_copied_table P_copied_table f fd) (A_:Fns K mg) (T:Txt K mg) {c:Cs} (xs:Exs K mg base c):FnOk P w K mg base CX0 1 f fd P_copied_table (spP K S_copied_table):=by
  refine F.fn.ok sc_copied_table (fun vs H Q E h=>spP_len len_copied_table h) (fun cdv A outer s H vs Q E hr h=>?_)
  refine⟨_,(pss_one (ps_ret (pe_comp0 (CompScope.of (sc0:=(defScope s_copied_table)) (tn:=["row"]) (cap:=[]) (idx:=[]) (by decide +kernel) rfl rfl) (pi_listK (K:=K) rfl (pv 0)) (GSet.name (by decide)) (fun _ _ _ _ _=>pg_name (i:=0) (nodupB_iff (l:=["row"]) (by decide +kernel)) rfl (by first | exact Or.inl rfl | exact Or.inr rfl) (by first | exact .inl rfl | exact .inr rfl)) (fun _ _ _ _ _=>(pe_callTy (call_listK (K:=K) rfl) (by rfl) T.list_ boot_list (pa_cons (pv 0) pa_nil)))))),fn_val (Γn:=[]) (N:=N_copied_table) (st_ret (M:=[]) (em_comp0 (it_list (es_var 0)) (gt_name 0) (em_cb c_list (ar_cons (ES.er (es_var 0)) ar_nil)))) (fun ds P hS=>?_) h⟩
  obtain ⟨t,rfl,hl,hP⟩:=hS
  rw[show startD N_copied_table [dT t]=[some (dT t)] from rfl]
  walk_at "v"
  refine comp_copy (t:=t) (fun R h=>h) hl (fun r hr R h=>by walk_at "gb";exact h) ?_
  exact hP
def S_sums_of_rows:DSp:=fun ds P=>∃t,ds=[dT t]∧t.length≤1000∧P (dI (t.map List.sum))
theorem mono_sums_of_rows:DMono S_sums_of_rows:=by
  intro xs P P' k h
  unfold S_sums_of_rows at h ⊢
  grind
theorem len_sums_of_rows:∀ds P,S_sums_of_rows ds P→ds.length=1:=by
  intro ds P h
  obtain ⟨_,e,_⟩:=h
  rw[e];rfl
theorem ok_sums_of_rows {f:Addr}{fd:FuncData} (F:FnAt K mg "sums_of_rows" s_sums_of_rows P_sums_of_rows f fd) (A_:Fns K mg) (T:Txt K mg) {c:Cs} (xs:Exs K mg base c):FnOk P w K mg base CX0 1 f fd P_sums_of_rows (spP K S_sums_of_rows):=by
  refine F.fn.ok sc_sums_of_rows (fun vs H Q E h=>spP_len len_sums_of_rows h) (fun cdv A outer s H vs Q E hr h=>?_)
  refine⟨_,(pss_one (ps_ret (pe_comp0 (CompScope.of (sc0:=(defScope s_sums_of_rows)) (tn:=["row"]) (cap:=[]) (idx:=[]) (by decide +kernel) rfl rfl) (pi_listK (K:=K) rfl (pv 0)) (GSet.name (by decide)) (fun _ _ _ _ _=>pg_name (i:=0) (nodupB_iff (l:=["row"]) (by decide +kernel)) rfl (by first | exact Or.inl rfl | exact Or.inr rfl) (by first | exact .inl rfl | exact .inr rfl)) (fun _ _ _ _ _=>(pe_callB (call_sumK (K:=K) rfl rfl) (by rfl) T.sum_ boot_sum (pa_cons (pv 0) pa_nil)))))),fn_val (Γn:=[]) (N:=N_sums_of_rows) (st_ret (M:=[]) (em_comp0 (it_list (es_var 0)) (gt_name 0) (em_cb c_sum (ar_cons (ES.er (es_var 0)) ar_nil)))) (fun ds P hS=>?_) h⟩
  obtain ⟨t,rfl,hl,hP⟩:=hS
  rw[show startD N_sums_of_rows [dT t]=[some (dT t)] from rfl]
  walk_at "v"
  refine comp_rows (t:=t) (g:=fun r=>.int r.sum) (fun R h=>h) hl (fun r hr R h=>?_) ?_
  · walk_at "gb"
    exact h
  · rw[map_int];exact hP
def S_column_of:DSp:=fun ds P=>∃(t:List (List Int)) (j:Nat),ds=[dT t,.int j]∧t.length≤1000∧(∀r∈t,j<r.length)∧P (dI (colOf t j))
theorem mono_column_of:DMono S_column_of:=by
  intro xs P P' k h
  unfold S_column_of at h ⊢
  grind
theorem len_column_of:∀ds P,S_column_of ds P→ds.length=2:=by
  intro ds P h
  obtain ⟨_,_,e,_⟩:=h
  rw[e];rfl
theorem ok_column_of {f:Addr}{fd:FuncData} (F:FnAt K mg "column_of" s_column_of P_column_of f fd) (A_:Fns K mg) (T:Txt K mg) {c:Cs} (xs:Exs K mg base c):FnOk P w K mg base CX0 1 f fd P_column_of (spP K S_column_of):=by
  refine F.fn.ok sc_column_of (fun vs H Q E h=>spP_len len_column_of h) (fun cdv A outer s H vs Q E hr h=>?_)
  refine⟨_,(pss_one (ps_ret (pe_comp0 (CompScope.of (sc0:=(defScope s_column_of)) (tn:=["row"]) (cap:=["place"]) (idx:=[1]) (by decide +kernel) rfl rfl) (pi_listK (K:=K) rfl (pv 0)) (GSet.name (by decide)) (fun _ _ _ _ _=>pg_name (i:=0) (nodupB_iff (l:=["row","place"]) (by decide +kernel)) rfl (by first | exact Or.inl rfl | exact Or.inr rfl) (by first | exact .inl rfl | exact .inr rfl)) (fun _ _ _ _ _=>(pe_ix (ix_listK (K:=K) rfl) (pv 0) (pv 1) (fun _ _=>rfl)))))),fn_val (Γn:=[]) (N:=N_column_of) (st_ret (M:=[]) (em_comp0 (it_list (es_var 0)) (gt_name 0) (ER.scal (ES.er (es_ixL (es_var 0) (ES.er (es_var 1))))))) (fun ds P hS=>?_) h⟩
  obtain ⟨t,j,rfl,hl,hj,hP⟩:=hS
  rw[show startD N_column_of [dT t,.int j]=[some (dT t),some (.int j)] from rfl]
  walk_at "v"
  refine comp_rows (t:=t) (g:=fun r=>.int (r.getD j 0)) (fun R h=>h) hl (fun r hr R h=>?_) ?_
  · walk_at "gb"
    have:=hj r hr
    refine asO_ints (by omega) ?_
    rw[Int.toNat_natCast]
    exact⟨rfl,h⟩
  · rw[map_int];exact hP
def turned (m:Nat) (t:List (List Int)):List (List Int):=(List.range m).map fun (j:Nat)=>colOf t j
def S_turned_table:DSp:=fun ds P=>∃(t:List (List Int)) (n m:Nat),ds=[dT t]∧Rect n m t∧1≤n∧n≤1000∧m≤1000∧P (dT (turned m t))
theorem mono_turned_table:DMono S_turned_table:=by
  intro xs P P' k h
  unfold S_turned_table at h ⊢
  grind
theorem len_turned_table:∀ds P,S_turned_table ds P→ds.length=1:=by
  intro ds P h
  obtain ⟨_,_,_,e,_⟩:=h
  rw[e];rfl
theorem ok_turned_table {f:Addr}{fd:FuncData} (F:FnAt K mg "turned_table" s_turned_table P_turned_table f fd) (A_:Fns K mg) (T:Txt K mg) {c:Cs} (xs:Exs K mg base c):FnOk P w K mg base CX0 2 f fd P_turned_table (spP K S_turned_table):=by
  obtain ⟨f0,d0,E_column_of⟩:=A_.h_column_of
  have G_column_of:FnOk P w K mg base CX0 1 f0 d0 P_column_of (spP K S_column_of):=ok_column_of E_column_of A_ T xs
  refine F.fn.ok sc_turned_table (fun vs H Q E h=>spP_len len_turned_table h) (fun cdv A outer s H vs Q E hr h=>?_)
  refine⟨_,(pss_one (ps_ret (pe_comp0 (CompScope.of (sc0:=(defScope s_turned_table)) (tn:=["place"]) (cap:=["table"]) (idx:=[0]) (by decide +kernel) rfl rfl) (pi_range1 rfl T.range_ (pa_cons (pe_callB (call_lenK (K:=K) rfl) (by rfl) T.len_ PySem.boot_len (pa_cons (pe_ix (ix_listK (K:=K) rfl) (pv 0) pe_int (fun _ _=>rfl)) pa_nil)) pa_nil)) (GSet.name (by decide)) (fun _ _ _ _ _=>pg_name (i:=0) (nodupB_iff (l:=["place","table"]) (by decide +kernel)) rfl (by first | exact Or.inl rfl | exact Or.inr rfl) (by first | exact .inl rfl | exact .inr rfl)) (fun _ _ _ _ _=>(pe_call G_column_of (hr.mono (by decide)) rfl E_column_of.mg E_column_of.fn.kp E_column_of.bd .nil pass0 (pa_cons (pv 1) (pa_cons (pv 0) pa_nil))))))),fn_val (Γn:=[]) (N:=N_turned_table) (st_ret (M:=[]) (em_comp0 (it_rng1 (ar_cons (EM.er (em_cb c_len (ar_cons (ES.er (es_ixL (es_var 0) (EM.er em_int))) ar_nil))) ar_nil)) (gt_name 0) (em_call (S:=S_column_of) mono_column_of (ar_cons (ES.er (es_var 1)) (ar_cons (ES.er (es_var 0)) ar_nil))))) (fun ds P hS=>?_) h⟩
  obtain ⟨t,n,m,rfl,hR,hn,hn2,hm,hP⟩:=hS
  rw[show startD N_turned_table [dT t]=[some (dT t)] from rfl]
  have ht:=hR.1
  have h0:=hR.row (i:=0) (by omega)
  walk_at "v"
  refine comp_rng (lo:=0) (n:=m) (g:=fun (j:Nat)=>dI (colOf t j)) (fun R h=>?_) hm (fun j hj R h=>?_) ?_
  · walk_at "v"
    refine asO_rows (by omega) ?_
    walk_at "v"
    rw[h0]
    exact⟨by omega,h⟩
  · walk_at "gb"
    rw[Int.zero_add]
    exact⟨t,j,rfl,by omega,fun r hr=>by rw[hR.2 r hr];exact hj,h⟩
  · rw[map_dI];exact hP
def S_sums_of_columns:DSp:=fun ds P=>∃(t:List (List Int)) (n m:Nat),ds=[dT t]∧Rect n m t∧1≤n∧n≤1000∧m≤1000∧P (dI ((turned m t).map List.sum))
theorem mono_sums_of_columns:DMono S_sums_of_columns:=by
  intro xs P P' k h
  unfold S_sums_of_columns at h ⊢
  grind
theorem len_sums_of_columns:∀ds P,S_sums_of_columns ds P→ds.length=1:=by
  intro ds P h
  obtain ⟨_,_,_,e,_⟩:=h
  rw[e];rfl
theorem ok_sums_of_columns {f:Addr}{fd:FuncData} (F:FnAt K mg "sums_of_columns" s_sums_of_columns P_sums_of_columns f fd) (A_:Fns K mg) (T:Txt K mg) {c:Cs} (xs:Exs K mg base c):FnOk P w K mg base CX0 3 f fd P_sums_of_columns (spP K S_sums_of_columns):=by
  obtain ⟨f0,d0,E_sums_of_rows⟩:=A_.h_sums_of_rows
  have G_sums_of_rows:FnOk P w K mg base CX0 1 f0 d0 P_sums_of_rows (spP K S_sums_of_rows):=ok_sums_of_rows E_sums_of_rows A_ T xs
  obtain ⟨f1,d1,E_turned_table⟩:=A_.h_turned_table
  have G_turned_table:FnOk P w K mg base CX0 2 f1 d1 P_turned_table (spP K S_turned_table):=ok_turned_table E_turned_table A_ T xs
  refine F.fn.ok sc_sums_of_columns (fun vs H Q E h=>spP_len len_sums_of_columns h) (fun cdv A outer s H vs Q E hr h=>?_)
  refine⟨_,(pss_one (ps_ret (pe_call G_sums_of_rows (hr.mono (by decide)) rfl E_sums_of_rows.mg E_sums_of_rows.fn.kp E_sums_of_rows.bd .nil pass0 (pa_cons (pe_call G_turned_table (hr.mono (by decide)) rfl E_turned_table.mg E_turned_table.fn.kp E_turned_table.bd .nil pass0 (pa_cons (pv 0) pa_nil)) pa_nil)))),fn_val (Γn:=[]) (N:=N_sums_of_columns) (st_ret (M:=[]) (em_call (S:=S_sums_of_rows) mono_sums_of_rows (ar_cons (EM.er (em_call (S:=S_turned_table) mono_turned_table (ar_cons (ES.er (es_var 0)) ar_nil))) ar_nil))) (fun ds P hS=>?_) h⟩
  obtain ⟨t,n,m,rfl,hR,hn,hn2,hm,hP⟩:=hS
  rw[show startD N_sums_of_columns [dT t]=[some (dT t)] from rfl]
  walk_at "v"
  refine⟨t,n,m,rfl,hR,hn,hn2,hm,?_⟩
  exact⟨turned m t,rfl,by unfold turned;rw[List.length_map,List.length_range];exact hm,hP⟩
def dW (i j k l:Int):D:=.tup [.int i,.int j,.int k,.int l]
def S_can_swap:DSp:=fun ds P=>∃(t:List (List Int)) (n m:Nat) (i j k l:Int),ds=[dT t,dW i j k l]∧Rect n m t∧1≤n∧P (.bl (decide (CanSwap n m t i j k l)))
theorem mono_can_swap:DMono S_can_swap:=by
  intro xs P P' k h
  unfold S_can_swap at h ⊢
  grind
theorem len_can_swap:∀ds P,S_can_swap ds P→ds.length=2:=by
  intro ds P h
  obtain ⟨_,_,_,_,_,_,_,e,_⟩:=h
  rw[e];rfl
theorem ok_can_swap {f:Addr}{fd:FuncData} (F:FnAt K mg "can_swap" s_can_swap P_can_swap f fd) (A_:Fns K mg) (T:Txt K mg) {c:Cs} (xs:Exs K mg base c):FnOk P w K mg base CX0 2 f fd P_can_swap (spP K S_can_swap):=by
  obtain ⟨f0,d0,E_is_place⟩:=A_.h_is_place
  have G_is_place:FnOk P w K mg base CX0 1 f0 d0 P_is_place (spP K S_is_place):=ok_is_place E_is_place A_ T xs
  refine F.fn.ok sc_can_swap (fun vs H Q E h=>spP_len len_can_swap h) (fun cdv A outer s H vs Q E hr h=>?_)
  refine⟨_,(pss_cons (ps_if (PW.pt (pw_or (pt_not (pt_val (pe_call G_is_place (hr.mono (by decide)) rfl E_is_place.mg E_is_place.fn.kp E_is_place.bd .nil pass0 (pa_cons (pe_ix (ix_tupK (K:=K) rfl) (pv 1) pe_int (fun _ _=>rfl)) (pa_cons (pe_callB (call_lenK (K:=K) rfl) (by rfl) T.len_ PySem.boot_len (pa_cons (pv 0) pa_nil)) pa_nil))))) (pw_or1 (pt_not (pt_val (pe_call G_is_place (hr.mono (by decide)) rfl E_is_place.mg E_is_place.fn.kp E_is_place.bd .nil pass0 (pa_cons (pe_ix (ix_tupK (K:=K) rfl) (pv 1) pe_int (fun _ _=>rfl)) (pa_cons (pe_callB (call_lenK (K:=K) rfl) (by rfl) T.len_ PySem.boot_len (pa_cons (pv 0) pa_nil)) pa_nil)))))))) (pss_one (ps_ret pe_bl)) pss_nil)
      (pss_cons (ps_set (i:=2) sc_can_swap.nd rfl (by first | exact Or.inl rfl | exact Or.inr rfl) (pe_ix (ix_listK (K:=K) rfl) (pv 0) (pe_ix (ix_tupK (K:=K) rfl) (pv 1) pe_int (fun _ _=>rfl)) (fun _ _=>rfl)))
      (pss_cons (ps_set (i:=3) sc_can_swap.nd rfl (by first | exact Or.inl rfl | exact Or.inr rfl) (pe_ix (ix_listK (K:=K) rfl) (pv 0) (pe_ix (ix_tupK (K:=K) rfl) (pv 1) pe_int (fun _ _=>rfl)) (fun _ _=>rfl)))
      (pss_cons (ps_if (PW.pt (pw_or (pt_not (pt_val (pe_call G_is_place (hr.mono (by decide)) rfl E_is_place.mg E_is_place.fn.kp E_is_place.bd .nil pass0 (pa_cons (pe_ix (ix_tupK (K:=K) rfl) (pv 1) pe_int (fun _ _=>rfl)) (pa_cons (pe_callB (call_lenK (K:=K) rfl) (by rfl) T.len_ PySem.boot_len (pa_cons (pv 2) pa_nil)) pa_nil))))) (pw_or1 (pt_not (pt_val (pe_call G_is_place (hr.mono (by decide)) rfl E_is_place.mg E_is_place.fn.kp E_is_place.bd .nil pass0 (pa_cons (pe_ix (ix_tupK (K:=K) rfl) (pv 1) pe_int (fun _ _=>rfl)) (pa_cons (pe_callB (call_lenK (K:=K) rfl) (by rfl) T.len_ PySem.boot_len (pa_cons (pv 2) pa_nil)) pa_nil)))))))) (pss_one (ps_ret pe_bl)) pss_nil)
      (pss_one (ps_ret (pe_and (pe_chain op_eq op_eq (pe_ix (ix_listK (K:=K) rfl) (pv 2) (pe_ix (ix_tupK (K:=K) rfl) (pv 1) pe_int (fun _ _=>rfl)) (fun _ _=>rfl)) (pe_ix (ix_listK (K:=K) rfl) (pv 3) (pe_ix (ix_tupK (K:=K) rfl) (pv 1) pe_int (fun _ _=>rfl)) (fun _ _=>rfl)) pe_int) (pe_one (pe_chain op_eq op_eq (pe_ix (ix_listK (K:=K) rfl) (pv 2) (pe_ix (ix_tupK (K:=K) rfl) (pv 1) pe_int (fun _ _=>rfl)) (fun _ _=>rfl)) (pe_ix (ix_listK (K:=K) rfl) (pv 3) (pe_ix (ix_tupK (K:=K) rfl) (pv 1) pe_int (fun _ _=>rfl)) (fun _ _=>rfl)) pe_int))))))))),fn_val (Γn:=[]) (N:=N_can_swap) (st_seq (st_if (tr_or (tr_not (tr_b (EM.er (em_call (S:=S_is_place) mono_is_place (ar_cons (ES.er (es_ixT (es_var 1) (EM.er em_int))) (ar_cons (EM.er (em_cb c_len (ar_cons (ES.er (es_var 0)) ar_nil))) ar_nil)))))) (tr_not (tr_b (EM.er (em_call (S:=S_is_place) mono_is_place (ar_cons (ES.er (es_ixT (es_var 1) (EM.er em_int))) (ar_cons (EM.er (em_cb c_len (ar_cons (ES.er (es_var 0)) ar_nil))) ar_nil))))))) (st_ret (M:=[]) em_bl) st_next)
      (st_seq (ST.post (Γn:=[]) (st_setS 2 (es_ixL (es_var 0) (ES.er (es_ixT (es_var 1) (EM.er em_int))))))
      (st_seq (ST.post (Γn:=[]) (st_setS 3 (es_ixL (es_var 0) (ES.er (es_ixT (es_var 1) (EM.er em_int))))))
      (st_seq (st_if (tr_or (tr_not (tr_b (EM.er (em_call (S:=S_is_place) mono_is_place (ar_cons (ES.er (es_ixT (es_var 1) (EM.er em_int))) (ar_cons (EM.er (em_cb c_len (ar_cons (ES.er (es_var 2)) ar_nil))) ar_nil)))))) (tr_not (tr_b (EM.er (em_call (S:=S_is_place) mono_is_place (ar_cons (ES.er (es_ixT (es_var 1) (EM.er em_int))) (ar_cons (EM.er (em_cb c_len (ar_cons (ES.er (es_var 2)) ar_nil))) ar_nil))))))) (st_ret (M:=[]) em_bl) st_next)
      (st_ret (M:=[]) (em_andV (EM.er (em_chain o_eq o_eq (ES.er (es_ixL (es_var 2) (ES.er (es_ixT (es_var 1) (EM.er em_int))))) (ES.er (es_ixL (es_var 3) (ES.er (es_ixT (es_var 1) (EM.er em_int))))) (EM.er em_int))) (em_chain o_eq o_eq (ES.er (es_ixL (es_var 2) (ES.er (es_ixT (es_var 1) (EM.er em_int))))) (ES.er (es_ixL (es_var 3) (ES.er (es_ixT (es_var 1) (EM.er em_int))))) (EM.er em_int)))))))) (fun ds P hS=>?_) h⟩
  obtain ⟨t,n,m,i,j,k,l,rfl,hR,hn,hP⟩:=hS
  rw[show startD N_can_swap [dT t,dW i j k l]=[some (dT t),some (dW i j k l),none,none] from rfl]
  have hlen:=hR.1
  unfold dW
  walk_at "v"
  rw[hlen]
  refine⟨_,_,rfl,?_⟩
  by_cases hi:0≤i∧i<(n:Int)
  · rw[decide_eq_true hi]
    walk_at "v"
    refine⟨_,_,rfl,?_⟩
    by_cases hk:0≤k∧k<(n:Int)
    · rw[decide_eq_true hk]
      walk_at "v"
      have ri:=hR.row (i:=i.toNat) (by omega)
      have rk:=hR.row (i:=k.toNat) (by omega)
      refine asO_rows (by omega) ?_
      walk_at "v"
      refine asO_rows (by omega) ?_
      walk_at "v"
      rw[ri]
      refine⟨_,_,rfl,?_⟩
      by_cases hj:0≤j∧j<(m:Int)
      · rw[decide_eq_true hj]
        walk_at "v"
        refine⟨_,_,rfl,?_⟩
        by_cases hl:0≤l∧l<(m:Int)
        · rw[decide_eq_true hl]
          walk_at "v"
          refine asO_ints (by omega) (asO_ints (by omega) ?_)
          walk_at "v"
          have key:∀b:Bool,(b=true↔cellAt t i.toNat j.toNat=1∧cellAt t i.toNat l.toNat=0∧cellAt t k.toNat j.toNat=0∧cellAt t k.toNat l.toNat=1)→P (.bl b):=fun b hb=>by
            have e:decide (CanSwap n m t i j k l)=b:=by
              rw[Bool.eq_iff_iff,decide_eq_true_eq,hb]
              exact⟨fun z=>z.2.2.2.2,fun z=>⟨hi,hk,hj,hl,z⟩⟩
            rw[e] at hP;exact hP
          split
          · rename_i a1
            by_cases a2:cellAt t k.toNat l.toNat=1
            · rw[if_pos (show (rowAt t k.toNat).getD l.toNat 0=1 from a2)]
              walk_at "v"
              refine asO_ints (by omega) (asO_ints (by omega) ?_)
              walk_at "v"
              split
              · rename_i a3
                refine key _ ?_
                rw[decide_eq_true_eq]
                exact⟨fun z=>⟨Eq.trans a1 a2,Eq.trans a3 z,z,a2⟩,fun z=>z.2.2.1⟩
              · rename_i a3
                refine key _ ⟨fun z=>(nomatch z),fun z=>?_⟩
                exact absurd (Eq.trans z.2.1 z.2.2.1.symm) a3
            · rw[if_neg (show ¬ (rowAt t k.toNat).getD l.toNat 0=1 from a2)]
              walk_at "v"
              exact key _ ⟨fun z=>(nomatch z),fun z=>absurd z.2.2.2 a2⟩
          · rename_i a1
            refine key _ ⟨fun z=>(nomatch z),fun z=>?_⟩
            exact absurd (Eq.trans z.1 z.2.2.2.symm) a1
        · rw[decide_eq_false hl]
          walk_at "v"
          rw[decide_eq_false (fun z=>hl z.2.2.2.1)] at hP;exact hP
      · rw[decide_eq_false hj]
        walk_at "v"
        rw[decide_eq_false (fun z=>hj z.2.2.1)] at hP;exact hP
    · rw[decide_eq_false hk]
      walk_at "v"
      rw[decide_eq_false (fun z=>hk z.2.1)] at hP;exact hP
  · rw[decide_eq_false hi]
    walk_at "v"
    rw[decide_eq_false (fun z=>hi z.1)] at hP;exact hP
def S_swap_made (c:Cs):DSX:=fun ds P R=>∃(t:List (List Int)) (n m:Nat) (i j k l:Int),ds=[dT t,dW i j k l]∧Rect n m t∧1≤n∧n≤8∧(CanSwap n m t i j k l→P (dT (swapped t i.toNat j.toNat k.toNat l.toNat)))∧(¬ CanSwap n m t i j k l→R c.NoSwap)
theorem mono_swap_made {c:Cs}:DMonoX (S_swap_made c):=by
  intro xs P P' R R' k kr h
  obtain ⟨t,n,m,i,j,k',l,e,h1,h2,h3,h4,h5⟩:=h
  exact⟨t,n,m,i,j,k',l,e,h1,h2,h3,fun z=>k _ (h4 z),fun z=>kr _ (h5 z)⟩
theorem len_swap_made {c:Cs}:∀ds P R,S_swap_made c ds P R→ds.length=2:=by
  intro ds P R h
  obtain ⟨t,n,m,i,j,k',l,e,h1⟩:=h
  rw[e];rfl
theorem ok_swap_made {f:Addr}{fd:FuncData} (F:FnAt K mg "swap_made" s_swap_made P_swap_made f fd) (A_:Fns K mg) (T:Txt K mg) {c:Cs} (xs:Exs K mg base c):FnOk P w K mg base (CXR P w) 3 f fd P_swap_made (spX K (S_swap_made c)):=by
  obtain ⟨f0,d0,E_copied_table⟩:=A_.h_copied_table
  have G_copied_table:FnOk P w K mg base CX0 1 f0 d0 P_copied_table (spP K S_copied_table):=ok_copied_table E_copied_table A_ T xs
  obtain ⟨f1,d1,E_can_swap⟩:=A_.h_can_swap
  have G_can_swap:FnOk P w K mg base CX0 2 f1 d1 P_can_swap (spP K S_can_swap):=ok_can_swap E_can_swap A_ T xs
  refine F.fn.okX sc_swap_made (fun vs H Q E h=>spX_len len_swap_made h) (fun cdv A outer s H vs Q E hr h=>?_)
  refine⟨_,(pss_cons (ps_if (PT.nox (pt_not (pt_val (pe_call G_can_swap (hr.mono (by decide)) rfl E_can_swap.mg E_can_swap.fn.kp E_can_swap.bd .nil pass0 (pa_cons (pv 0) (pa_cons (pv 1) pa_nil)))))) (pss_one (ps_raise (xs.o_NoSwap.own xs.m_NoSwap) PySem.F.excBase_ValueError rfl rfl raise_x (pa_cons pe_str pa_nil))) pss_nil)
      (PSs.nox (pss_cons (ps_set (i:=2) sc_swap_made.nd rfl (by first | exact Or.inl rfl | exact Or.inr rfl) (pe_call G_copied_table (hr.mono (by decide)) rfl E_copied_table.mg E_copied_table.fn.kp E_copied_table.bd .nil pass0 (pa_cons (pv 0) pa_nil)))
      (pss_cons (ps_asg pe_int (pg_sub (pe_ix (ix_listK (K:=K) rfl) (pv 2) (pe_ix (ix_tupK (K:=K) rfl) (pv 1) pe_int (fun _ _=>rfl)) (fun _ _=>rfl)) (pe_ix (ix_tupK (K:=K) rfl) (pv 1) pe_int (fun _ _=>rfl)) set_list))
      (pss_cons (ps_asg pe_int (pg_sub (pe_ix (ix_listK (K:=K) rfl) (pv 2) (pe_ix (ix_tupK (K:=K) rfl) (pv 1) pe_int (fun _ _=>rfl)) (fun _ _=>rfl)) (pe_ix (ix_tupK (K:=K) rfl) (pv 1) pe_int (fun _ _=>rfl)) set_list))
      (pss_cons (ps_asg pe_int (pg_sub (pe_ix (ix_listK (K:=K) rfl) (pv 2) (pe_ix (ix_tupK (K:=K) rfl) (pv 1) pe_int (fun _ _=>rfl)) (fun _ _=>rfl)) (pe_ix (ix_tupK (K:=K) rfl) (pv 1) pe_int (fun _ _=>rfl)) set_list))
      (pss_cons (ps_asg pe_int (pg_sub (pe_ix (ix_listK (K:=K) rfl) (pv 2) (pe_ix (ix_tupK (K:=K) rfl) (pv 1) pe_int (fun _ _=>rfl)) (fun _ _=>rfl)) (pe_ix (ix_tupK (K:=K) rfl) (pv 1) pe_int (fun _ _=>rfl)) set_list))
      (pss_one (ps_ret (pv 2)))))))))),fn_valX (Γn:=[2]) (N:=N_swap_made) (fun R=>(sx_seq (sx_if (tr_not (tr_b (EM.er (em_call (S:=S_can_swap) mono_can_swap (ar_cons (ES.er (es_var 0)) (ar_cons (ES.er (es_var 1)) ar_nil)))))) (sx_raise (ar_cons (EM.er em_str) ar_nil)) (ST.sx st_next))
      (ST.sx (st_seq (ST.post (Γn:=[2]) (st_setM (M:=[]) 2 (em_call (S:=S_copied_table) mono_copied_table (ar_cons (ES.er (es_var 0)) ar_nil))))
      (st_seq (st_setItem2 2 em_int (ES.er (es_ixT (es_var 1) (EM.er em_int))) (ES.er (es_ixT (es_var 1) (EM.er em_int))))
      (st_seq (st_setItem2 2 em_int (ES.er (es_ixT (es_var 1) (EM.er em_int))) (ES.er (es_ixT (es_var 1) (EM.er em_int))))
      (st_seq (st_setItem2 2 em_int (ES.er (es_ixT (es_var 1) (EM.er em_int))) (ES.er (es_ixT (es_var 1) (EM.er em_int))))
      (st_seq (st_setItem2 2 em_int (ES.er (es_ixT (es_var 1) (EM.er em_int))) (ES.er (es_ixT (es_var 1) (EM.er em_int))))
      (st_ret (M:=[2]) (em_var 2)))))))))) (fun ds P R hS=>?_) h⟩
  obtain ⟨t,n,m,i,j,k,l,rfl,hR,hn,hn8,hP,hR'⟩:=hS
  rw[show startD N_swap_made [dT t,dW i j k l]=[some (dT t),some (dW i j k l),none] from rfl]
  walk_at "v"
  refine⟨t,n,m,i,j,k,l,rfl,hR,hn,?_⟩
  by_cases h:CanSwap n m t i j k l
  · rw[decide_eq_true h]
    obtain ⟨hi,hk,hj,hl,_⟩:=id h
    have hP:=hP h
    walk_at "go"
    have hlen:=hR.1
    refine⟨t,rfl,by omega,?_⟩
    have hR1:Rect n m (setCell t i.toNat j.toNat 0):=hR.setCell (by omega)
    have hR2:Rect n m (setCell (setCell t i.toNat j.toNat 0) i.toNat l.toNat 1):=hR1.setCell (by omega)
    have hR3:Rect n m (setCell (setCell (setCell t i.toNat j.toNat 0) i.toNat l.toNat 1) k.toNat j.toNat 1):=hR2.setCell (by omega)
    unfold swapped at hP
    have r0:=hR.row (i:=i.toNat) (by omega)
    have r1:=hR1.row (i:=i.toNat) (by omega)
    have r2:=hR2.row (i:=k.toNat) (by omega)
    have r3:=hR3.row (i:=k.toNat) (by omega)
    have l1:=hR1.1
    have l2:=hR2.1
    have l3:=hR3.1
    walk_at "v"
    refine setItem2_tab (t:=t) (a:=i) (b:=j) (v:=0) rfl (fun R h=>h) (fun R h=>?_) (fun R h=>?_) (by omega) (by rw[r0];omega) ?_
    · unfold dW;walk_at "v";exact h
    · unfold dW;walk_at "v";exact h
    walk_at "v"
    refine setItem2_tab (t:=setCell t i.toNat j.toNat 0) (a:=i) (b:=l) (v:=1) rfl (fun R h=>h) (fun R h=>?_) (fun R h=>?_) (by omega) (by rw[r1];omega) ?_
    · unfold dW;walk_at "v";exact h
    · unfold dW;walk_at "v";exact h
    walk_at "v"
    refine setItem2_tab (t:=setCell (setCell t i.toNat j.toNat 0) i.toNat l.toNat 1) (a:=k) (b:=j) (v:=1) rfl (fun R h=>h) (fun R h=>?_) (fun R h=>?_) (by omega) (by rw[r2];omega) ?_
    · unfold dW;walk_at "v";exact h
    · unfold dW;walk_at "v";exact h
    walk_at "v"
    refine setItem2_tab (t:=setCell (setCell (setCell t i.toNat j.toNat 0) i.toNat l.toNat 1) k.toNat j.toNat 1) (a:=k) (b:=l) (v:=0) rfl (fun R h=>h) (fun R h=>?_) (fun R h=>?_) (by omega) (by rw[r3];omega) ?_
    · unfold dW;walk_at "v";exact h
    · unfold dW;walk_at "v";exact h
    walk_at "v"
    exact hP
  · rw[decide_eq_false h]
    walk_at "go"
    exact hR' h
def dS4 (q:Q4):D:=dW q.1 q.2.1 q.2.2.1 q.2.2.2
theorem flat_S4 {ss:List Q4}:(ss.map dS4).all L3.flatD=true:=by
  rw[List.all_map,List.all_eq_true];exact fun _ _=>rfl
def S_table_behind (c:Cs):DSX:=fun ds P R=>∃(t:List (List Int)) (n m:Nat) (ss:List Q4),ds=[dT t,.lst (ss.map dS4)]∧Rect n m t∧1≤n∧n≤8∧(∀u,goT n m t ss=some u→P (dT u))∧(goT n m t ss=none→R c.NoSwap)
theorem mono_table_behind {c:Cs}:DMonoX (S_table_behind c):=by
  intro xs P P' R R' k kr h
  obtain ⟨t,n,m,ss,e,a,b,d,h1,h2⟩:=h
  exact⟨t,n,m,ss,e,a,b,d,fun z y=>k _ (h1 z y),fun z=>kr _ (h2 z)⟩
theorem len_table_behind {c:Cs}:∀ds P R,S_table_behind c ds P R→ds.length=2:=by
  intro ds P R h
  unfold S_table_behind at h
  grind
theorem ok_table_behind {f:Addr}{fd:FuncData} (F:FnAt K mg "table_behind" s_table_behind P_table_behind f fd) (A_:Fns K mg) (T:Txt K mg) {c:Cs} (xs:Exs K mg base c):FnOk P w K mg base (CXR P w) 4 f fd P_table_behind (spXR K (S_table_behind c)):=by
  obtain ⟨f0,d0,E_swap_made⟩:=A_.h_swap_made
  have G_swap_made:FnOk P w K mg base (CXR P w) 3 f0 d0 P_swap_made (spX K (S_swap_made c)):=ok_swap_made E_swap_made A_ T xs
  refine F.fn.okX sc_table_behind (fun vs H Q E h=>spXR_len len_table_behind h) (fun cdv A outer s H vs Q E hr h=>?_)
  refine⟨_,(pss_cons (ps_for PassesOwn.leaving rfl (pi_listK (K:=K) rfl (pv 1)) (pg_name (i:=2) sc_table_behind.nd rfl (by first | exact Or.inl rfl | exact Or.inr rfl)) (pss_one (ps_set (i:=0) sc_table_behind.nd rfl (by first | exact Or.inl rfl | exact Or.inr rfl) (pe_call G_swap_made (hr.mono (by decide)) rfl E_swap_made.mg E_swap_made.fn.kp E_swap_made.bd .nil pass_x (PA.nox (pa_cons (pv 0) (pa_cons (pv 2) pa_nil)))))))
      (PSs.nox (pss_one (ps_ret (pv 0))))),fn_valXR (Γn:=[]) (N:=N_table_behind) (fun R=>(sx_seq (sx_for (it_list (es_var 1)) (gt_name 2) (SX.post (Γn:=[]) (sx_set 0 mono_swap_made (ar_cons (ES.er (es_var 0)) (ar_cons (ES.er (es_var 2)) ar_nil)))))
      (ST.sx (st_retR (ES.er (es_var 0)))))) (fun ds P R hS=>?_) h⟩
  obtain ⟨t,n,m,ss,rfl,hR,n1,n8,hP,hX⟩:=hS
  rw[show startD N_table_behind [dT t,.lst (ss.map dS4)]=[some (dT t),some (.lst (ss.map dS4)),none] from rfl]
  walk_at "go"
  refine loop_any (as:=ss) (f:=dS4) (fun i δ=>∃(u:List (List Int)) (o2:Option D),δ=[some (dT u),some (.lst (ss.map dS4)),o2]∧Rect n m u∧goT n m u (ss.drop i)=goT n m t ss) ⟨t,none,rfl,hR,rfl⟩ ?_ ?_
  · rintro a ⟨i,j,k,l⟩ δ N e ⟨u,o2,rfl,hU,hW⟩ hN
    obtain ⟨h1,h2⟩:=List.getElem?_eq_some_iff.mp e
    rw[List.drop_eq_getElem_cons h1,h2] at hW
    walk_at "go"
    refine⟨u,n,m,i,j,k,l,rfl,hU,n1,n8,fun h=>hN _ ⟨_,_,rfl,swapped_rect hU h,by rw[← hW,goT_ok h]⟩,fun h=>hX (by rw[← hW,goT_no h])⟩
  · rintro δ ⟨u,o2,rfl,hU,hW⟩
    rw[List.drop_length] at hW
    walk_at "go"
    exact hP u hW.symm
abbrev dN (rs:List Nat):D:=dI (rs.map fun (r:Nat)=>(r:Int))
def S_first_unlike:DSp:=fun ds P=>∃(t o:List (List Int)) (n m:Nat),ds=[dT t,dT o]∧Rect n m t∧Rect n m o∧n≤8∧t≠o∧∀a:Nat,a<n→rowAt t a≠rowAt o a→P (.int (a:Int))
theorem mono_first_unlike:DMono S_first_unlike:=by
  intro xs P P' k h
  unfold S_first_unlike at h ⊢
  grind
theorem len_first_unlike:∀ds P,S_first_unlike ds P→ds.length=2:=by
  intro ds P h
  obtain ⟨_,_,_,_,e,_⟩:=h
  rw[e];rfl
theorem ok_first_unlike {f:Addr}{fd:FuncData} (F:FnAt K mg "first_unlike" s_first_unlike P_first_unlike f fd) (A_:Fns K mg) (T:Txt K mg) {c:Cs} (xs:Exs K mg base c):FnOk P w K mg base CX0 1 f fd P_first_unlike (spP K S_first_unlike):=by
  refine F.fn.ok sc_first_unlike (fun vs H Q E h=>spP_len len_first_unlike h) (fun cdv A outer s H vs Q E hr h=>?_)
  refine⟨_,(pss_one (ps_ret (pe_ix (ix_listK (K:=K) rfl) (pe_comp rfl (CompScope.of (sc0:=(defScope s_first_unlike)) (tn:=["row"]) (cap:=["table","other"]) (idx:=[0,1]) (by decide +kernel) rfl rfl) (pi_range1 rfl T.range_ (pa_cons (pe_callB (call_lenK (K:=K) rfl) (by rfl) T.len_ PySem.boot_len (pa_cons (pv 0) pa_nil)) pa_nil)) (GSet.name (by decide)) (fun _ _ _ _ _=>pg_name (i:=0) (nodupB_iff (l:=["row","table","other"]) (by decide +kernel)) rfl (by first | exact Or.inl rfl | exact Or.inr rfl) (by first | exact .inl rfl | exact .inr rfl)) (fun _ _ _ _ _=>pts_one (pt_cmpR (op_neL hr.units) (pe_ix (ix_listK (K:=K) rfl) (pv 1) (pv 0) (fun _ _=>rfl)) (pe_ix (ix_listK (K:=K) rfl) (pv 2) (pv 0) (fun _ _=>rfl)) (nomark _))) (fun _ _ _ _ _=>(pv 0)) (by intro _;rfl)) pe_int (fun _ _=>rfl)))),fn_val (Γn:=[]) (N:=N_first_unlike) (st_ret (M:=[]) (ER.scal (ES.er (es_ixL (EM.es (em_comp (it_rng1 (ar_cons (EM.er (em_cb c_len (ar_cons (ES.er (es_var 0)) ar_nil))) ar_nil)) (gt_name 0) (tr_test (EM.er (em_op o_neL (ES.er (es_ixL (es_var 1) (ES.er (es_var 0)))) (ES.er (es_ixL (es_var 2) (ES.er (es_var 0))))))) (ER.scal (ES.er (es_var 0))))) (EM.er em_int))))) (fun ds P hS=>?_) h⟩
  obtain ⟨t,o,n,m,rfl,hT,hO,n8,hne,hP⟩:=hS
  rw[show startD N_first_unlike [dT t,dT o]=[some (dT t),some (dT o)] from rfl]
  have lt:=hT.1
  have lo:=hO.1
  walk_at "go"
  refine comp_rngF (lo:=0) (n:=n) (p:=fun a=>decide (rowAt t a≠rowAt o a)) (g:=fun (a:Nat)=>.int (a:Int)) (fun R h=>?_) (by omega) (fun a ha R h=>?_) ?_
  · walk_at "go"
    rw[lt]
    exact h
  · walk_at "gb"
    rw[Int.zero_add]
    refine asO_rows (by omega) ?_
    rw[Int.toNat_natCast]
    walk_at "gb"
    refine asO_rows (by omega) ?_
    rw[Int.toNat_natCast]
    walk_at "gb"
    refine vEqL_ints ?_
    by_cases e:rowAt t a=rowAt o a
    · have h':R []:=by rw[decide_eq_false (show ¬ rowAt t a≠rowAt o a from fun y=>y e)] at h;exact h
      rw[if_pos rfl,decide_eq_true e]
      walk_at "gb"
      exact h'
    · have h':R [.int (a:Int)]:=by rw[decide_eq_true (show rowAt t a≠rowAt o a from e)] at h;exact h
      rw[if_pos rfl,decide_eq_false e]
      walk_at "gb"
      exact h'
  obtain ⟨a,l,hl⟩:∃a l,(List.range n).filter (fun a=>decide (rowAt t a≠rowAt o a))=a::l:=by
    cases e:(List.range n).filter (fun a=>decide (rowAt t a≠rowAt o a)) with
    | cons a l=>exact⟨a,l,rfl⟩
    | nil =>
      refine absurd (List.ext_getElem (by omega) fun i h1 h2=>?_) hne
      have:=List.filter_eq_nil_iff.mp e i (List.mem_range.mpr (by omega))
      rw[decide_eq_true_eq,Classical.not_not] at this
      unfold rowAt at this
      rw[List.getD_eq_getElem?_getD,List.getElem?_eq_getElem h1,List.getD_eq_getElem?_getD,List.getElem?_eq_getElem h2] at this
      exact this
  have ha:a∈(List.range n).filter (fun a=>decide (rowAt t a≠rowAt o a)):=by rw[hl];exact List.mem_cons_self
  have hm:=List.mem_filter.mp ha
  rw[hl,List.map_cons]
  walk_at "go"
  exact hP a (List.mem_range.mp hm.1) (of_decide_eq_true hm.2)
theorem inD_I {ns:List Int}{x:Int}:inD (.int x) (ns.map L3.D.int)=decide (x∈ns):=by
  have:inD (.int x) (ns.map L3.D.int)=true↔x∈ns:=by
    unfold inD inV
    rw[List.any_eq_true]
    constructor
    · rintro ⟨v,hv,e⟩
      obtain ⟨d,hd,rfl⟩:=List.mem_map.mp hv
      obtain ⟨z,hz,rfl⟩:=List.mem_map.mp hd
      have e':(z == x)=true:=e
      rw[← eq_of_beq e'];exact hz
    · intro h
      exact⟨.int x,List.mem_map.mpr ⟨.int x,List.mem_map.mpr ⟨x,h,rfl⟩,rfl⟩,by show (x == x)=true;exact beq_self_eq_true _⟩
  by_cases h:x∈ns
  · rw[decide_eq_true h];exact this.mpr h
  · rw[decide_eq_false h]
    cases e:inD (.int x) (ns.map L3.D.int) with
    | false=>rfl
    | true=>exact absurd (this.mp e) h
theorem vIn_I {neg:Bool}{x:Int}{ns:List Int}{P:DK} (h:P (.bl (if neg then !decide (x∈ns) else decide (x∈ns)))):vIn neg (.int x) (dI ns) P:=by
  refine⟨rfl,scal_ints,?_⟩
  rw[inD_I]
  exact h
theorem memN {U:List Nat}{k:Nat}:((k:Int)∈U.map fun (r:Nat)=>(r:Int))↔k∈U:=by
  rw[List.mem_map]
  exact ⟨fun ⟨a, ha, e⟩ => by have : a = k := by omega
                              rw[← this];exact ha,fun h=>⟨k,h,rfl⟩⟩
theorem vIn_N {neg:Bool}{k:Nat}{U:List Nat}{P:DK} (h:P (.bl (if neg then !decide (k∈U) else decide (k∈U)))):vIn neg (.int (k:Int)) (dN U) P:=by
  refine vIn_I ?_
  rw[show decide ((k:Int)∈U.map fun (r:Nat)=>(r:Int))=decide (k∈U) from decide_eq_decide.mpr memN]
  exact h
theorem cutN {rs:List Nat}{s:Nat} (h:s≤rs.length):L3.cutD ((rs.map fun (r:Nat)=>(r:Int)).map L3.D.int) (some (s:Int)) none=((rs.drop s).map fun (r:Nat)=>(r:Int)).map L3.D.int:=by
  unfold L3.cutD
  rw[List.length_map,List.length_map,HT.sIx_none,HT.sIx_nat,Nat.min_eq_left h,List.take_of_length_le (by rw[List.length_drop,List.length_map,List.length_map];exact Nat.le_refl _),List.map_drop,List.map_drop]
theorem snoc_dN {rs:List Nat}{x:Nat}:dN (rs++[x])=L3.D.lst ((rs.map fun (p:Nat)=>(p:Int)).map L3.D.int++[L3.D.int (x:Int)]):=by
  show L3.D.lst _=_
  rw[List.map_append,List.map_append];rfl
theorem gN {rs:List Nat}{p:Nat}:(rs.map fun (r:Nat)=>(r:Int)).getD p 0=((rs.getD p 0:Nat):Int):=by
  rw[List.getD_eq_getElem?_getD,List.getElem?_map,List.getD_eq_getElem?_getD]
  cases rs[p]?<;>rfl
theorem col_at {n m a b:Nat}{t:List (List Int)} (hR:Rect n m t) (ha:a<n):(colOf t b).getD a 0=cellAt t a b:=by
  have:=hR.1
  unfold colOf cellAt
  rw[List.getD_eq_getElem?_getD,List.getElem?_map,List.getElem?_eq_getElem (by omega),List.getD_eq_getElem?_getD (l:=t),List.getElem?_eq_getElem (by omega)];rfl
theorem below_mem {a b:List Int}{c:Nat} (h:c∈belowL a b):c<a.length∧a.getD c 0<b.getD c 0:=by
  unfold belowL at h
  have:=List.mem_filter.mp h
  exact⟨List.mem_range.mp this.1,of_decide_eq_true this.2⟩
theorem below_head {a b:List Int}{c:Nat} (hc:c<a.length) (h:a.getD c 0<b.getD c 0):∃d l,belowL a b=d::l∧d<a.length∧a.getD d 0<b.getD d 0:=by
  have m:c∈belowL a b:=List.mem_filter.mpr ⟨List.mem_range.mpr hc,decide_eq_true h⟩
  cases e:belowL a b with
  | nil=>rw[e] at m;nomatch m
  | cons d l =>
    have:=below_mem (a:=a) (b:=b) (c:=d) (by rw[e];exact List.mem_cons_self)
    exact⟨d,l,rfl,this⟩
theorem row_ne {n m a:Nat}{t o:List (List Int)} (hT:Rect n m t) (hO:Rect n m o) (ha:a<n) (h:rowAt t a≠rowAt o a):∃b,b<m∧cellAt t a b≠cellAt o a b:=by
  refine Classical.byContradiction fun z=>h (List.ext_getElem (by rw[hT.row ha,hO.row ha]) fun i h1 h2=>?_)
  refine Classical.byContradiction fun y=>z ⟨i,by rw[hT.row ha] at h1;exact h1,fun w=>y ?_⟩
  have w:(rowAt t a).getD i 0=(rowAt o a).getD i 0:=w
  rw[List.getD_eq_getElem?_getD,List.getElem?_eq_getElem h1,List.getD_eq_getElem?_getD,List.getElem?_eq_getElem h2] at w
  exact w
def S_ring_between:DSp:=fun ds P=>∃(t o:List (List Int)) (n m:Nat),ds=[dT t,dT o]∧Ones n m t∧Ones n m o∧1≤n∧n≤8∧1≤m∧m≤8∧(∀a,a<n→rsum t a=rsum o a)∧(∀b,b<m→csum t b=csum o b)∧t≠o∧∀rs cs:List Nat,cs.length=rs.length→rs.length≤8→Rg.Rings n m rs.length t o (fun p=>rs.getD p 0) (fun p=>cs.getD p 0)→P (.tup [dN rs,dN cs])
theorem mono_ring_between:DMono S_ring_between:=by
  intro xs P P' k h
  unfold S_ring_between at h ⊢
  grind
theorem len_ring_between:∀ds P,S_ring_between ds P→ds.length=2:=by
  intro ds P h
  obtain ⟨_,_,_,_,e,_⟩:=h
  rw[e];rfl
theorem ok_ring_between {f:Addr}{fd:FuncData} (F:FnAt K mg "ring_between" s_ring_between P_ring_between f fd) (A_:Fns K mg) (T:Txt K mg) {c:Cs} (xs:Exs K mg base c):FnOk P w K mg base CX0 2 f fd P_ring_between (spP K S_ring_between):=by
  obtain ⟨f0,d0,E_first_unlike⟩:=A_.h_first_unlike
  have G_first_unlike:FnOk P w K mg base CX0 1 f0 d0 P_first_unlike (spP K S_first_unlike):=ok_first_unlike E_first_unlike A_ T xs
  obtain ⟨f1,d1,E_places_below⟩:=A_.h_places_below
  have G_places_below:FnOk P w K mg base CX0 1 f1 d1 P_places_below (spP K S_places_below):=ok_places_below E_places_below A_ T xs
  obtain ⟨f2,d2,E_column_of⟩:=A_.h_column_of
  have G_column_of:FnOk P w K mg base CX0 1 f2 d2 P_column_of (spP K S_column_of):=ok_column_of E_column_of A_ T xs
  refine F.fn.ok sc_ring_between (fun vs H Q E h=>spP_len len_ring_between h) (fun cdv A outer s H vs Q E hr h=>?_)
  refine⟨_,(pss_cons (ps_set (i:=2) sc_ring_between.nd rfl (by first | exact Or.inl rfl | exact Or.inr rfl) (pe_call G_first_unlike (hr.mono (by decide)) rfl E_first_unlike.mg E_first_unlike.fn.kp E_first_unlike.bd .nil pass0 (pa_cons (pv 0) (pa_cons (pv 1) pa_nil))))
      (pss_cons (ps_set (i:=3) sc_ring_between.nd rfl (by first | exact Or.inl rfl | exact Or.inr rfl) (pe_lst pa_nil))
      (pss_cons (ps_set (i:=4) sc_ring_between.nd rfl (by first | exact Or.inl rfl | exact Or.inr rfl) (pe_lst pa_nil))
      (pss_cons (ps_while PassesOwn.never (pt_cmpR (op_notInK (K:=K) rfl) (pv 2) (pv 3) (by with_unfolding_all rfl)) (pss_cons (ps_set (i:=5) sc_ring_between.nd rfl (by first | exact Or.inl rfl | exact Or.inr rfl) (pe_ix (ix_listK (K:=K) rfl) (pe_call G_places_below (hr.mono (by decide)) rfl E_places_below.mg E_places_below.fn.kp E_places_below.bd .nil pass0 (pa_cons (pe_ix (ix_listK (K:=K) rfl) (pv 0) (pv 2) (fun _ _=>rfl)) (pa_cons (pe_ix (ix_listK (K:=K) rfl) (pv 1) (pv 2) (fun _ _=>rfl)) pa_nil))) pe_int (fun _ _=>rfl)))
      (pss_cons (ps_expr (pe_bm PySem.F.plainAttrs_list PySem.F.slot_list_append PySem.F.type_list_append mt_append (pv 3) (pa_cons (pv 2) pa_nil)))
      (pss_cons (ps_expr (pe_bm PySem.F.plainAttrs_list PySem.F.slot_list_append PySem.F.type_list_append mt_append (pv 4) (pa_cons (pv 5) pa_nil)))
      (pss_one (ps_set (i:=2) sc_ring_between.nd rfl (by first | exact Or.inl rfl | exact Or.inr rfl) (pe_ix (ix_listK (K:=K) rfl) (pe_call G_places_below (hr.mono (by decide)) rfl E_places_below.mg E_places_below.fn.kp E_places_below.bd .nil pass0 (pa_cons (pe_call G_column_of (hr.mono (by decide)) rfl E_column_of.mg E_column_of.fn.kp E_column_of.bd .nil pass0 (pa_cons (pv 1) (pa_cons (pv 5) pa_nil))) (pa_cons (pe_call G_column_of (hr.mono (by decide)) rfl E_column_of.mg E_column_of.fn.kp E_column_of.bd .nil pass0 (pa_cons (pv 0) (pa_cons (pv 5) pa_nil))) pa_nil))) pe_int (fun _ _=>rfl))))))))
      (pss_cons (ps_set (i:=6) sc_ring_between.nd rfl (by first | exact Or.inl rfl | exact Or.inr rfl) (pe_bm PySem.F.plainAttrs_list PySem.F.slot_list_index PySem.F.type_list_index mt_index (pv 3) (pa_cons (pv 2) pa_nil)))
      (pss_one (ps_ret (pe_tup (pa_cons (pe_slice (sl_listK (K:=K) rfl) (pv 3) (po_some (pv 6)) po_none) (pa_cons (pe_slice (sl_listK (K:=K) rfl) (pv 4) (po_some (pv 6)) po_none) pa_nil)))))))))),fn_val (Γn:=[4,3]) (N:=N_ring_between) (st_seq (ST.post (Γn:=[]) (st_setS 2 (EM.es (em_call (S:=S_first_unlike) mono_first_unlike (ar_cons (ES.er (es_var 0)) (ar_cons (ES.er (es_var 1)) ar_nil))))))
      (st_seq (ST.post (Γn:=[3]) (st_setM (M:=[]) 3 (em_lst am_nil)))
      (st_seq (ST.post (Γn:=[4,3]) (st_setM (M:=[]) 4 (em_lst am_nil)))
      (st_seq (st_while (tr_test (EM.er (em_op o_in (ES.er (es_var 2)) (er_var 3)))) (st_seq (ST.post (Γn:=[4,3]) (st_setS 5 (es_ixL (EM.es (em_call (S:=S_places_below) mono_places_below (ar_cons (ES.er (es_ixL (es_var 0) (ES.er (es_var 2)))) (ar_cons (ES.er (es_ixL (es_var 1) (ES.er (es_var 2)))) ar_nil)))) (EM.er em_int))))
      (st_seq (ST.post (Γn:=[4,3]) (st_append (M:=[]) 3 (ER.scal (ES.er (es_var 2)))))
      (st_seq (ST.post (Γn:=[4,3]) (st_append (M:=[]) 4 (ER.scal (ES.er (es_var 5)))))
      (ST.post (Γn:=[4,3]) (st_setS 2 (es_ixL (EM.es (em_call (S:=S_places_below) mono_places_below (ar_cons (EM.er (em_call (S:=S_column_of) mono_column_of (ar_cons (ES.er (es_var 1)) (ar_cons (ES.er (es_var 5)) ar_nil)))) (ar_cons (EM.er (em_call (S:=S_column_of) mono_column_of (ar_cons (ES.er (es_var 0)) (ar_cons (ES.er (es_var 5)) ar_nil)))) ar_nil)))) (EM.er em_int))))))))
      (st_seq (ST.post (Γn:=[4,3]) (st_setS 6 (EM.es (em_index (er_var 3) (ES.er (es_var 2))))))
      (st_ret (M:=[]) (em_tup (am_cons0 (em_sl (er_var 3) (or_some (ES.er (es_var 6))) or_none) (am_cons0 (em_sl (er_var 4) (or_some (ES.er (es_var 6))) or_none) am_nil))))))))) (fun ds P hS=>?_) h⟩
  obtain ⟨t,o,n,m,rfl,hT,hO,n1,n8,m1,m8,hr,hc0,hne,hP⟩:=hS
  rw[show startD N_ring_between [dT t,dT o]=[some (dT t),some (dT o),none,none,none,none,none] from rfl]
  walk_at "go"
  refine⟨t,o,n,m,rfl,hT.1,hO.1,n8,hne,fun a ha hu=>?_⟩
  walk_at "go"
  obtain ⟨f,hf⟩:∃f:Nat→Nat,∀c,f c=(belowL (colOf o c) (colOf t c)).getD 0 0:=⟨fun c=>(belowL (colOf o c) (colOf t c)).getD 0 0,fun _=>rfl⟩
  have lt:=hT.1.1
  have lo:=hO.1.1
  have bit:∀{x y:Int},(x=0∨x=1)→(y=0∨y=1)→x<y→x=0∧y=1:=fun h1 h2 h3=>by omega
  refine⟨fun k δ=>∃(row:Nat) (rs cs:List Nat) (o5:Option D),δ=[some (dT t),some (dT o),some (.int (row:Int)),some (dN rs),some (dN cs),o5,none]∧Rg.Pt n m t o f row rs cs∧k=n - rs.length,⟨_,a,[],[],none,rfl,⟨rfl,List.nodup_nil,fun x h=>(nomatch h),fun x h=>(nomatch h),fun p h=>absurd h (Nat.not_lt_zero _),fun p h=>absurd h (Nat.not_lt_zero _),fun h=>absurd h (by decide),fun p h=>absurd h (Nat.not_lt_zero _),ha,row_ne hT.1 hO.1 ha hu⟩,rfl⟩,?_⟩
  rintro k δ ⟨row,rs,cs,o5,rfl,hp,rfl⟩
  have lrs:rs.length≤n:=Mat.nodup_lt hp.nd hp.rn
  have lcs:=hp.len
  obtain ⟨hrow,b0,hb0,hd0⟩:=hp.hr
  walk_at "go"
  refine vIn_N ?_
  by_cases hin:row∈rs
  · simp only[if_true,decide_eq_true hin,Bool.not_true]
    walk_at "go"
    obtain ⟨s',hs'⟩:=List.getElem?_of_mem hin
    obtain ⟨sl,se⟩:=List.getElem?_eq_some_iff.mp hs'
    unfold asLst
    dsimp only
    refine⟨scal_ints,s',⟨.int (row:Int),by rw[List.getElem?_map,List.getElem?_map,hs'];rfl,by show ((row:Int) == (row:Int))=true;exact beq_self_eq_true _⟩,fun m' z hm hz=>?_,scal_ints,scal_ints,by decide,?_⟩
    · rw[List.getElem?_map,List.getElem?_map,List.getElem?_eq_getElem (show m' < rs.length by omega)] at hz
      cases hz
      show (((rs[m']:Nat):Int) == (row:Int))=false
      refine beq_eq_false_iff_ne.mpr fun y=>?_
      have y:rs[m']=rs[s']:=by rw[se];omega
      have:=(List.getElem_inj hp.nd).mp y
      omega
    · rw[cutN (by omega),cutN (by omega)]
      exact hP (rs.drop s') (cs.drop s') (by rw[List.length_drop,List.length_drop];omega) (by rw[List.length_drop];omega) (hp.ring hs')
  · simp only[if_true,decide_eq_false hin,Bool.not_false]
    walk_at "go"
    have lr1:=hT.1.row hrow
    have lr2:=hO.1.row hrow
    refine asO_rows (by omega) ?_
    rw[Int.toNat_natCast]
    refine asO_rows (by omega) ?_
    rw[Int.toNat_natCast]
    obtain ⟨c',hc',hlt'⟩:=Rg.row_less hT.1 hO.1 hrow hb0 (hr row hrow) hd0
    obtain ⟨c,l,hl,hc,hlt⟩:=below_head (a:=rowAt t row) (b:=rowAt o row) (c:=c') (by omega) hlt'
    refine⟨rowAt t row,rowAt o row,rfl,by omega,by omega,?_⟩
    rw[hl,List.map_cons]
    walk_at "go"
    rw[List.map_cons]
    walk_at "go"
    have cm:c<m:=by omega
    obtain ⟨c1,c2⟩:=bit (hT.cell hrow cm) (hO.cell hrow cm) hlt
    have lr:(rs++[row]).length≤n:=Mat.nodup_lt (n:=n) (by
      rw[List.nodup_append]
      exact⟨hp.nd,by simp,fun x hx y hy z=>hin (by rw[List.mem_singleton.mp hy] at z;rw[← z];exact hx)⟩) (fun x hx=>by
      rcases List.mem_append.mp hx with y | y
      · exact hp.rn x y
      · rw[List.mem_singleton.mp y];exact hrow)
    rw[List.length_append,List.length_singleton] at lr
    refine⟨o,c,rfl,by omega,fun r hr=>by rw[hO.1.2 r hr];exact cm,?_⟩
    refine⟨t,c,rfl,by omega,fun r hr=>by rw[hT.1.2 r hr];exact cm,?_⟩
    obtain ⟨d',hd',hlt2⟩:=Rg.col_more hT.1 hO.1 hrow (hc0 c cm) (show cellAt t row c<cellAt o row c by omega)
    obtain ⟨d,l2,hl2,hdl,hlt3⟩:=below_head (a:=colOf o c) (b:=colOf t c) (c:=d') (by rw[len_colOf];omega) (by rw[col_at hO.1 hd',col_at hT.1 hd'];exact hlt2)
    rw[len_colOf] at hdl
    have dn:d<n:=by omega
    rw[col_at hO.1 dn,col_at hT.1 dn] at hlt3
    obtain ⟨d1,d2⟩:=bit (hO.cell dn cm) (hT.cell dn cm) hlt3
    have fc:f c=d:=by rw[hf,hl2];rfl
    refine⟨colOf o c,colOf t c,rfl,by rw[len_colOf];omega,by rw[len_colOf,len_colOf];omega,?_⟩
    rw[hl2,List.map_cons]
    walk_at "go"
    rw[List.map_cons]
    walk_at "go"
    refine⟨n - (rs.length+1),by omega,d,rs++[row],cs++[c],some (.int (c:Int)),by rw[snoc_dN,snoc_dN],?_,by rw[List.length_append,List.length_singleton]⟩
    rw[← fc]
    exact hp.step hin cm c1 c2 (by rw[fc];exact dn) (by rw[fc];exact d2) (by rw[fc];exact d1)
theorem asO_lastI {ns:List Int}{Q:DK} (h:0<ns.length) (k:Q (.int (ns.getD (ns.length - 1) 0))):asO (atI (ns.map L3.D.int) (-1)) Q:=by
  have:ixN (ns.map L3.D.int).length (-1)=some (ns.length - 1):=by
    unfold ixN
    rw[List.length_map,if_neg (by omega),if_pos (by omega)]
    congr 1;omega
  unfold atI
  rw[this]
  show asO ((ns.map L3.D.int)[ns.length - 1]?) Q
  rw[List.getElem?_map,List.getElem?_eq_getElem (by omega)]
  rw[List.getD_eq_getElem?_getD,List.getElem?_eq_getElem (by omega)] at k
  exact k
theorem fS {g:Nat→Bool}{p:Nat} (h:g p=true):(List.range (p+1)).filter g=(List.range p).filter g++[p]:=by
  rw[List.range_succ,List.filter_append];simp [h]
theorem fN {g:Nat→Bool}{p:Nat} (h:g p=false):(List.range (p+1)).filter g=(List.range p).filter g:=by
  rw[List.range_succ,List.filter_append];simp [h]
def S_ring_swaps:DSp:=fun ds P=>∃(t o:List (List Int)) (n m:Nat) (rs cs:List Nat),ds=[dT t,dN rs,dN cs]∧Ones n m t∧n≤8∧m≤8∧cs.length=rs.length∧rs.length≤8∧Rg.Rings n m rs.length t o (fun p=>rs.getD p 0) (fun p=>cs.getD p 0)∧P (.lst (((Rg.rsw rs.length (cellAt t) (fun p=>rs.getD p 0) (fun p=>cs.getD p 0)).map (Rg.q4 rs.length (fun p=>rs.getD p 0) (fun p=>cs.getD p 0))).map dS4))
theorem mono_ring_swaps:DMono S_ring_swaps:=by
  intro xs P P' k h
  unfold S_ring_swaps at h ⊢
  grind
theorem len_ring_swaps:∀ds P,S_ring_swaps ds P→ds.length=3:=by
  intro ds P h
  obtain ⟨_,_,_,_,_,_,e,_⟩:=h
  rw[e];rfl
theorem ok_ring_swaps {f:Addr}{fd:FuncData} (F:FnAt K mg "ring_swaps" s_ring_swaps P_ring_swaps f fd) (A_:Fns K mg) (T:Txt K mg) {c:Cs} (xs:Exs K mg base c):FnOk P w K mg base CX0 1 f fd P_ring_swaps (spP K S_ring_swaps):=by
  refine F.fn.ok sc_ring_swaps (fun vs H Q E h=>spP_len len_ring_swaps h) (fun cdv A outer s H vs Q E hr h=>?_)
  refine⟨_,(pss_cons (ps_set (i:=3) sc_ring_swaps.nd rfl (by first | exact Or.inl rfl | exact Or.inr rfl) (pe_lst pa_nil))
      (pss_cons (ps_set (i:=4) sc_ring_swaps.nd rfl (by first | exact Or.inl rfl | exact Or.inr rfl) (pe_lst pa_nil))
      (pss_cons (ps_set (i:=5) sc_ring_swaps.nd rfl (by first | exact Or.inl rfl | exact Or.inr rfl) (pe_ix (ix_listK (K:=K) rfl) (pv 2) (pe_un un_neg pe_int) (fun _ _=>rfl)))
      (pss_cons (ps_for PassesOwn.never rfl (pi_range1 rfl T.range_ (pa_cons (pe_op op_sub (pe_callB (call_lenK (K:=K) rfl) (by rfl) T.len_ PySem.boot_len (pa_cons (pv 1) pa_nil)) pe_int) pa_nil)) (pg_name (i:=6) sc_ring_swaps.nd rfl (by first | exact Or.inl rfl | exact Or.inr rfl)) (pss_cons (ps_set (i:=7) sc_ring_swaps.nd rfl (by first | exact Or.inl rfl | exact Or.inr rfl) (pe_tup (pa_cons (pe_ix (ix_listK (K:=K) rfl) (pv 1) (pv 6) (fun _ _=>rfl)) (pa_cons (pv 5) (pa_cons (pe_ix (ix_listK (K:=K) rfl) (pv 1) (pe_op op_add (pv 6) pe_int) (fun _ _=>rfl)) (pa_cons (pe_ix (ix_listK (K:=K) rfl) (pv 2) (pv 6) (fun _ _=>rfl)) pa_nil))))))
      (pss_one (ps_if (pt_cmpR op_eq (pe_ix (ix_listK (K:=K) rfl) (pe_ix (ix_listK (K:=K) rfl) (pv 0) (pe_ix (ix_listK (K:=K) rfl) (pv 1) (pe_op op_add (pv 6) pe_int) (fun _ _=>rfl)) (fun _ _=>rfl)) (pv 5) (fun _ _=>rfl)) pe_int (nomark _)) (pss_one (ps_expr (pe_bm PySem.F.plainAttrs_list PySem.F.slot_list_append PySem.F.type_list_append mt_append (pv 3) (pa_cons (pv 7) pa_nil)))) (pss_one (ps_expr (pe_bm PySem.F.plainAttrs_list PySem.F.slot_list_append PySem.F.type_list_append mt_append (pv 4) (pa_cons (pv 7) pa_nil))))))))
      (pss_one (ps_ret (pe_op op_cat (pv 3) (pe_listRevK (K:=K) rfl rfl rfl T.list_ rfl T.reversed_ (pv 4))))))))),fn_val (Γn:=[4,3]) (N:=N_ring_swaps) (st_seq (ST.post (Γn:=[3]) (st_setM (M:=[]) 3 (em_lst am_nil)))
      (st_seq (ST.post (Γn:=[4,3]) (st_setM (M:=[]) 4 (em_lst am_nil)))
      (st_seq (ST.post (Γn:=[4,3]) (st_setS 5 (es_ixL (es_var 2) (EM.er (em_un u_int (EM.er em_int))))))
      (st_seq (st_for (it_rng1 (ar_cons (EM.er (em_op o_int (EM.er (em_cb c_len (ar_cons (ES.er (es_var 1)) ar_nil))) (EM.er em_int))) ar_nil)) (gt_name 6) (st_seq (ST.post (Γn:=[4,3]) (st_setS 7 (EM.es (em_tup (am_cons0 (ER.flat (ES.er (es_ixL (es_var 1) (ES.er (es_var 6))))) (am_cons0 (ER.flat (ES.er (es_var 5))) (am_cons0 (ER.flat (ES.er (es_ixL (es_var 1) (EM.er (em_op o_int (ES.er (es_var 6)) (EM.er em_int)))))) (am_cons0 (ER.flat (ES.er (es_ixL (es_var 2) (ES.er (es_var 6))))) am_nil))))))))
      (st_if (tr_test (EM.er (em_op o_eq (ES.er (es_ixL (es_ixL (es_var 0) (ES.er (es_ixL (es_var 1) (EM.er (em_op o_int (ES.er (es_var 6)) (EM.er em_int)))))) (ES.er (es_var 5)))) (EM.er em_int)))) (ST.post (Γn:=[4,3]) (st_append (M:=[]) 3 (ER.flat (ES.er (es_var 7))))) (ST.post (Γn:=[4,3]) (st_append (M:=[]) 4 (ER.flat (ES.er (es_var 7))))))))
      (st_ret (M:=[]) (em_op o_catF (er_var 3) (er_listRev (er_var 4)))))))) (fun ds P hS=>?_) h⟩
  obtain ⟨t,o,n,m,rs,cs,rfl,hT,n8,m8,lc,l8,hR,hP⟩:=hS
  rw[show startD N_ring_swaps [dT t,dN rs,dN cs]=[some (dT t),some (dN rs),some (dN cs),none,none,none,none,none] from rfl]
  have two:=hR.two
  have lt:=hT.1.1
  have lm1:(rs.map fun (r:Nat)=>(r:Int)).length=rs.length:=List.length_map ..
  have lm2:(cs.map fun (r:Nat)=>(r:Int)).length=cs.length:=List.length_map ..
  obtain ⟨r,er⟩:∃r:Nat→Nat,(fun p=>rs.getD p 0)=r:=⟨_,rfl⟩
  obtain ⟨cc,ec⟩:∃c:Nat→Nat,(fun p=>cs.getD p 0)=c:=⟨_,rfl⟩
  have gr:∀p,rs.getD p 0=r p:=fun p=>by rw[← er]
  have gc:∀p,cs.getD p 0=cc p:=fun p=>by rw[← ec]
  rw[er,ec] at hR hP
  walk_at "go"
  refine asO_lastI (by omega) ?_
  rw[lm2,gN,gc,lc]
  walk_at "go"
  rw[show ((rs.length:Int) - 1).toNat=rs.length - 1 by omega]
  refine loop_rng (lo:=0) (n:=rs.length - 1) (fun k δ=>∃(o6 o7:Option D),δ=[some (dT t),some (dN rs),some (dN cs),some (.lst ((((List.range k).filter (Rg.ah rs.length (cellAt t) r cc)).map (Rg.q4 rs.length r cc)).map dS4)),some (.lst ((((List.range k).filter fun q=>!Rg.ah rs.length (cellAt t) r cc q).map (Rg.q4 rs.length r cc)).map dS4)),some (.int ((cc (rs.length - 1):Nat):Int)),o6,o7]) ⟨none,none,rfl⟩ ?_ ?_
  · rintro p δ N hp ⟨o6,o7,rfl⟩ hN
    rw[Int.zero_add]
    have l1:∀g:Nat→Bool,((((List.range p).filter g).map (Rg.q4 rs.length r cc)).map dS4).length≤p:=fun g=>by
      rw[List.length_map,List.length_map]
      exact Nat.le_trans (List.length_filter_le ..) (by rw[List.length_range];exact Nat.le_refl _)
    have rp:=hR.rn (p+1) (by omega)
    have cl:=hR.cm (rs.length - 1) (by omega)
    have lrow:=hT.1.row rp
    walk_at "go"
    refine asO_ints (by omega) ?_
    rw[Int.toNat_natCast,gN,gr]
    walk_at "go"
    refine asO_ints (by omega) ?_
    rw[show ((p:Int)+1).toNat=p+1 by omega,gN,gr]
    walk_at "go"
    refine asO_ints (by omega) ?_
    rw[Int.toNat_natCast,gN,gc]
    walk_at "go"
    refine asO_ints (by omega) ?_
    rw[show ((p:Int)+1).toNat=p+1 by omega,gN,gr]
    walk_at "go"
    refine asO_rows (by omega) ?_
    rw[Int.toNat_natCast]
    walk_at "go"
    refine asO_ints (by omega) ?_
    rw[Int.toNat_natCast]
    walk_at "go"
    have q1:=l1 (Rg.ah rs.length (cellAt t) r cc)
    have q2:=l1 fun q=>!Rg.ah rs.length (cellAt t) r cc q
    rw[List.length_map,List.length_map] at q1 q2
    by_cases e:(rowAt t (r (p+1))).getD (cc (rs.length - 1)) 0=0
    · have ea:Rg.ah rs.length (cellAt t) r cc p=true:=decide_eq_true e
      rw[if_pos e]
      refine⟨by omega,hN _ ⟨some (.int (p:Int)),some (dS4 (Rg.q4 rs.length r cc p)),?_⟩⟩
      rw[fS (g:=Rg.ah rs.length (cellAt t) r cc) ea,fN (g:=fun q=>!Rg.ah rs.length (cellAt t) r cc q) (by simp [ea]),List.map_append,List.map_append]
      rfl
    · have ea:Rg.ah rs.length (cellAt t) r cc p=false:=decide_eq_false e
      rw[if_neg e]
      refine⟨by omega,hN _ ⟨some (.int (p:Int)),some (dS4 (Rg.q4 rs.length r cc p)),?_⟩⟩
      rw[fN (g:=Rg.ah rs.length (cellAt t) r cc) ea,fS (g:=fun q=>!Rg.ah rs.length (cellAt t) r cc q) (by simp [ea]),List.map_append,List.map_append]
      rfl
  · rintro δ ⟨o6,o7,rfl⟩
    have l1:∀g:Nat→Bool,((List.range (rs.length - 1)).filter g).length≤rs.length - 1:=fun g=>Nat.le_trans (List.length_filter_le ..) (by rw[List.length_range];exact Nat.le_refl _)
    have q1:=l1 (Rg.ah rs.length (cellAt t) r cc)
    have q2:=l1 fun q=>!Rg.ah rs.length (cellAt t) r cc q
    walk_at "go"
    refine⟨⟨flat_S4,by rw[List.all_reverse];exact flat_S4,by rw[List.length_reverse,List.length_map,List.length_map];omega⟩,?_⟩
    unfold Rg.rsw at hP
    rw[List.map_append,List.map_append,List.map_reverse,List.map_reverse] at hP
    exact hP
theorem sN_le {B:Int}{f:Nat→Int}:∀{n:Nat},(∀i,i<n→f i≤B)→sN n f≤n*B
  | 0,_=>by rw[sN_zero];simp
  | n+1,h=>by
    rw[sN_succ,show ((n+1:Nat):Int)*B=n*B+B by rw[Int.natCast_add,Int.add_mul];simp]
    have:=sN_le (n:=n) fun i hi=>h i (by omega)
    have:=h n (by omega)
    omega
theorem apart_le {n m:Nat}{t o:List (List Int)} (n8:n≤8) (m8:m≤8):Rg.apart n m t o≤64:=by
  unfold Rg.apart
  have h1:∀a,a<n→(sN m fun b=>Rg.pos (cellAt t a b) (cellAt o a b))≤8:=fun a _=>by
    have:=sN_le (B:=1) (n:=m) (f:=fun b=>Rg.pos (cellAt t a b) (cellAt o a b)) fun b _=>by unfold Rg.pos;split<;>omega
    omega
  have:=sN_le h1
  omega
theorem rows_eq {n m n' m':Nat}{t o:List (List Int)} (hT:Rect n m t) (hO:Rect n' m' o):t.map List.sum=o.map List.sum↔n=n'∧∀a,a<n→rsum t a=rsum o a:=by
  have g:∀{u:List (List Int)}{a:Nat},(u.map List.sum).getD a 0=rsum u a:=fun {u a}=>by
    unfold rsum rowAt
    rw[List.getD_eq_getElem?_getD,List.getElem?_map,List.getD_eq_getElem?_getD]
    cases u[a]?<;>rfl
  constructor
  · intro e
    refine⟨?_,fun a _=>by rw[← g,← g,e]⟩
    have:=congrArg List.length e
    rw[List.length_map,List.length_map,hT.1,hO.1] at this
    exact this
  · rintro ⟨rfl,h⟩
    exact rsums_ext (by rw[hT.1,hO.1]) fun a ha=>h a (by rw[← hT.1];exact ha)
theorem cols_eq {m m':Nat}{t o:List (List Int)}:(turned m t).map List.sum=(turned m' o).map List.sum↔m=m'∧∀b,b<m→csum t b=csum o b:=by
  have e:∀{k:Nat}{u:List (List Int)},(turned k u).map List.sum=(List.range k).map fun b=>csum u b:=fun {k u}=>by unfold turned;rw[List.map_map];rfl
  rw[e,e]
  constructor
  · intro z
    have hl:=congrArg List.length z
    rw[List.length_map,List.length_map,List.length_range,List.length_range] at hl
    subst hl
    refine⟨rfl,fun b hb=>?_⟩
    have:=congrArg (fun l=>l.getD b 0) z
    simp only[List.getD_eq_getElem?_getD,List.getElem?_map,List.getElem?_range hb] at this
    exact this
  · rintro ⟨rfl,h⟩
    exact List.map_congr_left fun b hb=>h b (List.mem_range.mp hb)
theorem tp_S4 {ss:List Q4}:(ss.map dS4).all L3.isTp=true:=by
  rw[List.all_map,List.all_eq_true];exact fun _ _=>rfl
def S_swaps_between (c:Cs):DSX:=fun ds P R=>∃(t o:List (List Int)) (n m n' m':Nat),ds=[dT t,dT o]∧Ones n m t∧Ones n' m' o∧1≤n∧n≤8∧1≤m∧m≤8∧1≤n'∧n'≤8∧1≤m'∧m'≤8 ∧
  (∀ss:List Rg.Q4,n=n'→m=m'→Rg.goT n m t ss=some o→(ss.length:Int)≤64→(t=o∧ss=[]∨(ss.length:Int)+1≤Rg.apart n m t o)→P (.lst (ss.map dS4)))∧((¬ (n=n'∧m=m'∧(∀a,a<n→rsum t a=rsum o a)∧∀b,b<m→csum t b=csum o b))→R c.NotAlike)
theorem mono_swaps_between {c:Cs}:DMonoX (S_swaps_between c):=by
  intro xs P P' R R' k kr h
  obtain ⟨t,o,n,m,n',m',e,a1,a2,a3,a4,a5,a6,a7,a8,a9,a10,h1,h2⟩:=h
  exact⟨t,o,n,m,n',m',e,a1,a2,a3,a4,a5,a6,a7,a8,a9,a10,fun ss b1 b2 b3 b4 b5=>k _ (h1 ss b1 b2 b3 b4 b5),fun z=>kr _ (h2 z)⟩
theorem len_swaps_between {c:Cs}:∀ds P R,S_swaps_between c ds P R→ds.length=2:=by
  intro ds P R h
  obtain ⟨_,_,_,_,_,_,e,_⟩:=h
  rw[e];rfl
theorem ok_swaps_between {f:Addr}{fd:FuncData} (F:FnAt K mg "swaps_between" s_swaps_between P_swaps_between f fd) (A_:Fns K mg) (T:Txt K mg) {c:Cs} (xs:Exs K mg base c):FnOk P w K mg base (CXR P w) 5 f fd P_swaps_between (spX K (S_swaps_between c)):=by
  obtain ⟨f0,d0,E_ring_between⟩:=A_.h_ring_between
  have G_ring_between:FnOk P w K mg base CX0 2 f0 d0 P_ring_between (spP K S_ring_between):=ok_ring_between E_ring_between A_ T xs
  obtain ⟨f1,d1,E_ring_swaps⟩:=A_.h_ring_swaps
  have G_ring_swaps:FnOk P w K mg base CX0 1 f1 d1 P_ring_swaps (spP K S_ring_swaps):=ok_ring_swaps E_ring_swaps A_ T xs
  obtain ⟨f2,d2,E_table_behind⟩:=A_.h_table_behind
  have G_table_behind:FnOk P w K mg base (CXR P w) 4 f2 d2 P_table_behind (spXR K (S_table_behind c)):=ok_table_behind E_table_behind A_ T xs
  obtain ⟨f3,d3,E_sums_of_rows⟩:=A_.h_sums_of_rows
  have G_sums_of_rows:FnOk P w K mg base CX0 1 f3 d3 P_sums_of_rows (spP K S_sums_of_rows):=ok_sums_of_rows E_sums_of_rows A_ T xs
  obtain ⟨f4,d4,E_sums_of_columns⟩:=A_.h_sums_of_columns
  have G_sums_of_columns:FnOk P w K mg base CX0 3 f4 d4 P_sums_of_columns (spP K S_sums_of_columns):=ok_sums_of_columns E_sums_of_columns A_ T xs
  refine F.fn.okX sc_swaps_between (fun vs H Q E h=>spX_len len_swaps_between h) (fun cdv A outer s H vs Q E hr h=>?_)
  refine⟨_,(pss_cons (ps_if (PT.nox (PW.pt (pw_or (pt_cmpR (op_neL hr.units) (pe_call G_sums_of_rows (hr.mono (by decide)) rfl E_sums_of_rows.mg E_sums_of_rows.fn.kp E_sums_of_rows.bd .nil pass0 (pa_cons (pv 0) pa_nil)) (pe_call G_sums_of_rows (hr.mono (by decide)) rfl E_sums_of_rows.mg E_sums_of_rows.fn.kp E_sums_of_rows.bd .nil pass0 (pa_cons (pv 1) pa_nil)) (nomark _)) (pw_or1 (pt_cmpR (op_neL hr.units) (pe_call G_sums_of_columns (hr.mono (by decide)) rfl E_sums_of_columns.mg E_sums_of_columns.fn.kp E_sums_of_columns.bd .nil pass0 (pa_cons (pv 0) pa_nil)) (pe_call G_sums_of_columns (hr.mono (by decide)) rfl E_sums_of_columns.mg E_sums_of_columns.fn.kp E_sums_of_columns.bd .nil pass0 (pa_cons (pv 1) pa_nil)) (nomark _)))))) (pss_one (ps_raise (xs.o_NotAlike.own xs.m_NotAlike) PySem.F.excBase_ValueError rfl rfl raise_x (pa_cons pe_str pa_nil))) pss_nil)
      (PSs.nox (pss_cons (ps_set (i:=2) sc_swaps_between.nd rfl (by first | exact Or.inl rfl | exact Or.inr rfl) (pv 0))
      (pss_cons (ps_set (i:=3) sc_swaps_between.nd rfl (by first | exact Or.inl rfl | exact Or.inr rfl) (pe_lst pa_nil))
      (pss_cons (ps_while PassesOwn.never (pt_cmpR (op_neL hr.units) (pv 2) (pv 1) (nomark _)) (pss_cons (ps_set (i:=4) sc_swaps_between.nd rfl (by first | exact Or.inl rfl | exact Or.inr rfl) (pe_call G_ring_between (hr.mono (by decide)) rfl E_ring_between.mg E_ring_between.fn.kp E_ring_between.bd .nil pass0 (pa_cons (pv 2) (pa_cons (pv 1) pa_nil))))
      (pss_cons (ps_set (i:=5) sc_swaps_between.nd rfl (by first | exact Or.inl rfl | exact Or.inr rfl) (pe_call G_ring_swaps (hr.mono (by decide)) rfl E_ring_swaps.mg E_ring_swaps.fn.kp E_ring_swaps.bd .nil pass0 (pa_cons (pv 2) (pa_cons (pe_ix (ix_tupK (K:=K) rfl) (pv 4) pe_int (fun _ _=>rfl)) (pa_cons (pe_ix (ix_tupK (K:=K) rfl) (pv 4) pe_int (fun _ _=>rfl)) pa_nil)))))
      (pss_cons (ps_set (i:=2) sc_swaps_between.nd rfl (by first | exact Or.inl rfl | exact Or.inr rfl) (pe_call G_table_behind (hr.mono (by decide)) rfl E_table_behind.mg E_table_behind.fn.kp E_table_behind.bd .nil passN (pa_cons (pv 2) (pa_cons (pv 5) pa_nil))))
      (pss_one (ps_expr (pe_bm PySem.F.plainAttrs_list PySem.F.slot_list_extend PySem.F.type_list_extend mt_extend (pv 3) (pa_cons (pv 5) pa_nil))))))))
      (pss_one (ps_ret (pv 3)))))))),fn_valX (Γn:=[3]) (N:=N_swaps_between) (fun R=>(sx_seq (sx_if (tr_or (tr_test (EM.er (em_op o_neL (EM.er (em_call (S:=S_sums_of_rows) mono_sums_of_rows (ar_cons (ES.er (es_var 0)) ar_nil))) (EM.er (em_call (S:=S_sums_of_rows) mono_sums_of_rows (ar_cons (ES.er (es_var 1)) ar_nil)))))) (tr_test (EM.er (em_op o_neL (EM.er (em_call (S:=S_sums_of_columns) mono_sums_of_columns (ar_cons (ES.er (es_var 0)) ar_nil))) (EM.er (em_call (S:=S_sums_of_columns) mono_sums_of_columns (ar_cons (ES.er (es_var 1)) ar_nil))))))) (sx_raise (ar_cons (EM.er em_str) ar_nil)) (ST.sx st_next))
      (ST.sx (st_seq (ST.post (Γn:=[]) (st_setS 2 (es_var 0)))
      (st_seq (ST.post (Γn:=[3]) (st_setM (M:=[]) 3 (em_lst am_nil)))
      (st_seq (st_while (tr_test (EM.er (em_op o_neL (ES.er (es_var 2)) (ES.er (es_var 1))))) (st_seq (ST.post (Γn:=[3]) (st_setS 4 (EM.es (em_call (S:=S_ring_between) mono_ring_between (ar_cons (ES.er (es_var 2)) (ar_cons (ES.er (es_var 1)) ar_nil))))))
      (st_seq (ST.post (Γn:=[3]) (st_setS 5 (EM.es (em_call (S:=S_ring_swaps) mono_ring_swaps (ar_cons (ES.er (es_var 2)) (ar_cons (ES.er (es_ixT (es_var 4) (EM.er em_int))) (ar_cons (ES.er (es_ixT (es_var 4) (EM.er em_int))) ar_nil)))))))
      (st_seq (st_setTb 3 2 (er_noXR mono_table_behind (ar_cons (ES.er (es_var 2)) (ar_cons (ES.er (es_var 5)) ar_nil))))
      (ST0.st (st0_extF 3 (ES.er (es_var 5))))))))
      (st_ret (M:=[3]) (em_var 3)))))))) (fun ds P R hS=>?_) h⟩
  obtain ⟨t,o,n,m,n',m',rfl,hT,hO,n1,n8,m1,m8,n1',n8',m1',m8',hP,hX⟩:=hS
  rw[show startD N_swaps_between [dT t,dT o]=[some (dT t),some (dT o),none,none,none,none] from rfl]
  have lt:=hT.1.1
  have lo:=hO.1.1
  walk_at "go"
  refine⟨t,rfl,by omega,o,rfl,by omega,?_⟩
  refine vEqL_ints ?_
  by_cases e1:t.map List.sum=o.map List.sum
  · rw[if_pos rfl,decide_eq_true e1]
    walk_at "go"
    refine⟨t,n,m,rfl,hT.1,n1,by omega,by omega,o,n',m',rfl,hO.1,n1',by omega,by omega,?_⟩
    refine vEqL_ints ?_
    by_cases e2:(turned m t).map List.sum=(turned m' o).map List.sum
    · rw[if_pos rfl,decide_eq_true e2]
      walk_at "go"
      obtain ⟨en,hr⟩:=(rows_eq hT.1 hO.1).mp e1
      obtain ⟨em,hcs⟩:=cols_eq.mp e2
      subst en
      subst em
      clear e1 e2 hX
      have a64:=apart_le (n:=n) (m:=m) (t:=t) (o:=o) n8 m8
      refine⟨fun k δ=>∃(u:List (List Int)) (ss:List Q4) (o4 o5:Option D),δ=[some (dT t),some (dT o),some (dT u),some (.lst (ss.map dS4)),o4,o5]∧Rg.goT n m t ss=some u∧((u=t∧ss=[])∨(ss.length:Int)+1+Rg.apart n m u o≤Rg.apart n m t o)∧k=(Rg.apart n m u o).toNat,⟨_,t,[],none,none,rfl,rfl,.inl ⟨rfl,rfl⟩,rfl⟩,?_⟩
      rintro k δ ⟨u,ss,o4,o5,rfl,hg,hs,rfl⟩
      have kp:=Rg.goT_kp hT hg
      have lu:=kp.on.1.1
      have a0:=Rg.apart_nonneg (n:=n) (m:=m) (t:=u) (o:=o)
      have sl:(ss.length:Int)≤64:=by
        rcases hs with ⟨_,rfl⟩ | h
        · simp
        · omega
      walk_at "go"
      refine vEqL_rows ?_
      by_cases eu:u=o
      · rw[if_pos rfl,decide_eq_true eu]
        walk_at "go"
        subst eu
        refine hP ss rfl rfl hg sl ?_
        rcases hs with ⟨h1,h2⟩ | h
        · exact .inl ⟨h1.symm,h2⟩
        · exact .inr (by omega)
      · rw[if_pos rfl,decide_eq_false eu]
        walk_at "go"
        refine⟨u,o,n,m,rfl,kp.on,hO,n1,n8,m1,m8,fun a ha=>by rw[kp.rs a,hr a ha],fun b hb=>by rw[kp.cs b,hcs b hb],eu,fun rs cs l1 l8 hR=>?_⟩
        walk_at "go"
        refine⟨u,o,n,m,rs,cs,rfl,kp.on,n8,m8,l1,l8,hR,?_⟩
        have two:=hR.two
        obtain ⟨U,hU,hSt⟩:=hR.toRing.all (fun p hp=>kp.on.cell (hR.rn p hp) (hR.cm _ (by omega))) kp.on.1 (fun a b _ _=>rfl)
        have less:=hR.less hSt
        have A0:=Rg.apart_nonneg (n:=n) (m:=m) (t:=U) (o:=o)
        obtain ⟨sw,hsw⟩:∃sw,(Rg.rsw rs.length (cellAt u) (fun p=>rs.getD p 0) (fun p=>cs.getD p 0)).map (Rg.q4 rs.length (fun p=>rs.getD p 0) (fun p=>cs.getD p 0))=sw:=⟨_,rfl⟩
        have lsw:sw.length=rs.length - 1:=by rw[← hsw,List.length_map,Rg.rsw_len]
        rw[hsw] at hU ⊢
        have kU:=Rg.goT_kp kp.on hU
        have lU:=kU.on.1.1
        walk_at "go"
        refine⟨flat_S4,tp_S4,u,n,m,sw,rfl,kp.on.1,n1,n8,fun u' e=>?_,fun e=>by rw[hU] at e;cases e⟩
        rw[hU] at e
        cases e
        refine⟨U,rfl,fun z=>by rw[z] at lU;simp at lU;omega,fun r hr z=>by have:=kU.on.1.2 r hr;rw[z] at this;simp at this;omega,_,rfl,flat_S4,flat_S4,by rw[List.length_map];omega,(Rg.apart n m U o).toNat,by omega,U,ss++sw,_,_,by rw[List.map_append],by rw[Rg.goT_app hg];exact hU,.inr ?_,rfl⟩
        rw[List.length_append,lsw,less]
        rcases hs with ⟨rfl,rfl⟩ | h
        · simp;omega
        · omega
    · rw[if_pos rfl,decide_eq_false e2]
      walk_at "go"
      exact hX fun z=>e2 (cols_eq.mpr ⟨z.2.1,z.2.2.2⟩)
  · rw[if_pos rfl,decide_eq_false e1]
    walk_at "go"
    exact hX fun z=>e1 ((rows_eq hT.1 hO.1).mpr ⟨z.1,z.2.2.1⟩)
def S_law_cell_at:DSp:=fun ds P=>∃(ns:List Int) (j:Nat),ds=[.scr ns,.int j]∧P (.int (ns.getD j 0))
theorem cell_at {ns:List Int}{x:Int}{P:DK} (h0:0≤x) (h:P (.int (ns.getD x.toNat 0))):S_law_cell_at [.scr ns,.int x] P:=⟨ns,x.toNat,by rw[Int.toNat_of_nonneg h0],h⟩
theorem mono_law_cell_at:DMono S_law_cell_at:=by
  intro xs P P' k h
  unfold S_law_cell_at at h ⊢
  grind
theorem len_law_cell_at:∀ds P,S_law_cell_at ds P→ds.length=2:=by
  intro ds P h
  obtain ⟨_,_,e,_⟩:=h
  rw[e];rfl
theorem ok_law_cell_at {f:Addr}{fd:FuncData} (F:FnAt K mg "_law_cell_at" s_law_cell_at P_law_cell_at f fd) (A_:Fns K mg) (T:Txt K mg) {c:Cs} (xs:Exs K mg base c):FnOk P w K mg base CX0 1 f fd P_law_cell_at (spP K S_law_cell_at):=by
  refine F.fn.ok sc_law_cell_at (fun vs H Q E h=>spP_len len_law_cell_at h) (fun cdv A outer s H vs Q E hr h=>?_)
  refine⟨_,(pss_cons (ps_if (pt_cmpR op_lt (pv 1) (pe_callB (call_lenK (K:=K) rfl) (by rfl) T.len_ PySem.boot_len (pa_cons (pv 0) pa_nil)) (nomark _)) (pss_one (ps_ret (pe_ix (ix_listK (K:=K) rfl) (pv 0) (pv 1) (fun _ _=>rfl)))) pss_nil)
      (pss_one (ps_ret pe_int))),fn_val (Γn:=[]) (N:=N_law_cell_at) (st_seq (st_if (tr_test (EM.er (em_op o_bl (ES.er (es_var 1)) (EM.er (em_cb c_len (ar_cons (ES.er (es_var 0)) ar_nil)))))) (st_ret (M:=[]) (ER.scal (ES.er (es_ixL (es_var 0) (ES.er (es_var 1)))))) st_next)
      (st_ret (M:=[]) em_int)) (fun ds P hS=>?_) h⟩
  obtain ⟨ns,j,rfl,hP⟩:=hS
  rw[show startD N_law_cell_at [.scr ns,.int j]=[some (.scr ns),some (.int j)] from rfl]
  walk_at "v"
  split
  · rename_i c
    rw[at_dI (by omega) c,asO_some,Int.toNat_natCast]
    exact⟨rfl,hP⟩
  · rename_i c
    have e:ns.getD j 0=0:=by rw[List.getD_eq_getElem?_getD,List.getElem?_eq_none (by omega)];rfl
    rw[e] at hP
    exact hP
def S_law_whole:DSp:=fun ds P=>∃i,ds=[.int i]∧P (.bl true)
theorem mono_law_whole:DMono S_law_whole:=by
  intro xs P P' k h
  unfold S_law_whole at h ⊢
  grind
theorem len_law_whole:∀ds P,S_law_whole ds P→ds.length=1:=by
  intro ds P h
  obtain ⟨_,e,_⟩:=h
  rw[e];rfl
theorem ok_law_whole {f:Addr}{fd:FuncData} (F:FnAt K mg "_law_whole" s_law_whole P_law_whole f fd) (A_:Fns K mg) (T:Txt K mg) {c:Cs} (xs:Exs K mg base c):FnOk P w K mg base CX0 1 f fd P_law_whole (spP K S_law_whole):=by
  refine F.fn.ok sc_law_whole (fun vs H Q E h=>spP_len len_law_whole h) (fun cdv A outer s H vs Q E hr h=>?_)
  refine⟨_,(pss_one (ps_ret (pe_and (pe_callB (call_isinstK (K:=K) rfl) (by rfl) T.isinstance_ boot_isinstance (pa_cons (pv 0) (pa_cons (pe_bltn (v:=.ty "int") rfl T.int_ boot_int rfl) pa_nil))) (pe_one (pe_not (pe_callB (call_isinstK (K:=K) rfl) (by rfl) T.isinstance_ boot_isinstance (pa_cons (pv 0) (pa_cons (pe_bltn (v:=.ty "bool") rfl T.bool_ boot_bool rfl) pa_nil)))))))),fn_val (Γn:=[]) (N:=N_law_whole) (st_ret (M:=[]) (em_andV (EM.er (em_isinst kit_int (ES.er (es_var 0)))) (em_notV (EM.er (em_isinst kit_bool (ES.er (es_var 0))))))) (fun ds P hS=>?_) h⟩
  obtain ⟨i,rfl,hP⟩:=hS
  rw[show startD N_law_whole [.int i]=[some (.int i)] from rfl]
  walk_at "v"
  exact hP
def S_law_mixed:DSp:=fun ds P=>∃(ns:List Int) (x:Int),ds=[.scr ns,.int x]∧ns.length≤63∧0≤x∧x<2 ^ 60∧∀y:Int,0≤y→y<2 ^ 60→P (.int y)
theorem mono_law_mixed:DMono S_law_mixed:=by
  intro xs P P' k h
  unfold S_law_mixed at h ⊢
  grind
theorem len_law_mixed:∀ds P,S_law_mixed ds P→ds.length=2:=by
  intro ds P h
  obtain ⟨_,_,e,_⟩:=h
  rw[e];rfl
theorem ok_law_mixed {f:Addr}{fd:FuncData} (F:FnAt K mg "_law_mixed" s_law_mixed P_law_mixed f fd) (A_:Fns K mg) (T:Txt K mg) {c:Cs} (xs:Exs K mg base c):FnOk P w K mg base CX0 1 f fd P_law_mixed (spP K S_law_mixed):=by
  refine F.fn.ok sc_law_mixed (fun vs H Q E h=>spP_len len_law_mixed h) (fun cdv A outer s H vs Q E hr h=>?_)
  refine⟨_,(pss_cons (ps_for PassesOwn.never rfl (pi_listK (K:=K) rfl (pv 0)) (pg_name (i:=2) sc_law_mixed.nd rfl (by first | exact Or.inl rfl | exact Or.inr rfl)) (pss_one (ps_set (i:=1) sc_law_mixed.nd rfl (by first | exact Or.inl rfl | exact Or.inr rfl) (pe_op op_mod (pe_op op_add (pe_op op_mulB (pv 1) pe_int) (pv 2)) (pe_op op_add (pe_op op_pow pe_int pe_int) pe_int)))))
      (pss_one (ps_ret (pv 1)))),fn_val (Γn:=[]) (N:=N_law_mixed) (st_seq (st_for (it_list (es_var 0)) (gt_name 2) (ST.post (Γn:=[]) (st_setS 1 (EM.es (em_op o_intC (EM.er (em_op o_int (EM.er (em_op o_intC (ES.er (es_var 1)) (EM.er em_int))) (ES.er (es_var 2)))) (EM.er (em_op o_int (EM.er (em_op o_intC (EM.er em_int) (EM.er em_int))) (EM.er em_int))))))))
      (st_ret (M:=[]) (ER.scal (ES.er (es_var 1))))) (fun ds P hS=>?_) h⟩
  obtain ⟨ns,x,rfl,hz,x0,x1,hP⟩:=hS
  rw[show startD N_law_mixed [.scr ns,.int x]=[some (.scr ns),some (.int x),none] from rfl]
  walk_at "go"
  refine loop_any (as:=ns) (f:=L3.D.int) (fun i δ=>∃(y:Int) (o2:Option D),δ=[some (.scr ns),some (.int y),o2]∧0≤y∧y<2 ^ 60) ⟨_,none,rfl,x0,x1⟩ ?_ ?_
  · rintro i a δ N e ⟨y,o2,rfl,h0,h1⟩ hN
    walk_at "go"
    have h:=emod_lt (x:=y*48271+a) (n:=1000000000000000009) (by decide)
    exact hN _ ⟨_,_,rfl,h.1,Int.lt_of_lt_of_le h.2 (by decide)⟩
  · rintro δ ⟨y,o2,rfl,h0,h1⟩
    walk_at "go"
    exact hP y h0 h1
theorem peel {A R:DS}{E:DEnds}{δ:Dl} (h:∀R',R'=R→vSeq A R' E δ):vSeq A R E δ:=h R rfl
theorem asO_pR {A:Nat→Addr}{u:List (List Int)}{k:Nat}{P:DK} (h:k<u.length) (q:P (.pin (A k) (dI (rowAt u k)))):asO (atI (pR A u) (k:Int)) P:=by
  unfold atI
  rw[ixN_nat (by omega) (by rw[pR_len];omega),Int.toNat_natCast]
  show asO ((pR A u)[k]?) P
  rw[pR_get h]
  exact q
structure Kept (n m:Nat) (t u:List (List Int)):Prop where
  on:Ones n m u
  rs:∀a,rsum u a=rsum t a
  cs:∀b,csum u b=csum t b
theorem Kept.swap {n m i j k l:Nat}{t u:List (List Int)} (h:Kept n m t u) (hi:i<n) (hk:k<n) (hj:j<m) (hl:l<m) (h1:cellAt u i j=1) (h2:cellAt u i l=0) (h3:cellAt u k j=0) (h4:cellAt u k l=1):Kept n m t (swapped u i j k l):=by
  have s:=square_sums h.on.1 hi hk hj hl h1 h2 h3 h4
  exact⟨swapped_ones h.on hi hk,fun a=>(s.1 a).trans (h.rs a),fun b=>(s.2 b).trans (h.cs b)⟩
def S_law_one_swap:DSI:=fun ds P=>∃(t:List (List Int)) (n m:Nat) (x:Int),ds=[dT t,.int x]∧Ones n m t∧1≤n∧n≤8∧1≤m∧m≤8∧∀u,Kept n m t u→P .non (dT u)
theorem mono_law_one_swap:DMonoI S_law_one_swap:=by
  intro xs P P' k h
  unfold S_law_one_swap at h ⊢
  grind
theorem len_law_one_swap:∀ds P,S_law_one_swap ds P→ds.length=2:=by
  intro ds P h
  unfold S_law_one_swap at h
  grind
theorem ok_law_one_swap {f:Addr}{fd:FuncData} (F:FnAt K mg "_law_one_swap" s_law_one_swap P_law_one_swap f fd) (A_:Fns K mg) (T:Txt K mg) {c:Cs} (xs:Exs K mg base c):FnOk P w K mg base CX0 1 f fd P_law_one_swap (spI K 0 S_law_one_swap):=by
  refine F.fn.ok sc_law_one_swap (fun vs H Q E h=>spI_len len_law_one_swap h) (fun cdv A outer s H vs Q E hr h=>?_)
  refine⟨_,(pss_cons (ps_set (i:=2) sc_law_one_swap.nd rfl (by first | exact Or.inl rfl | exact Or.inr rfl) (pe_ix (ix_listK (K:=K) rfl) (pv 0) (pe_op op_mod (pv 1) (pe_callB (call_lenK (K:=K) rfl) (by rfl) T.len_ PySem.boot_len (pa_cons (pv 0) pa_nil))) (fun _ _=>rfl)))
      (pss_cons (ps_set (i:=3) sc_law_one_swap.nd rfl (by first | exact Or.inl rfl | exact Or.inr rfl) (pe_ix (ix_listK (K:=K) rfl) (pv 0) (pe_op op_mod (pe_op op_fdivB (pv 1) pe_int) (pe_callB (call_lenK (K:=K) rfl) (by rfl) T.len_ PySem.boot_len (pa_cons (pv 0) pa_nil))) (fun _ _=>rfl)))
      (pss_cons (ps_set (i:=4) sc_law_one_swap.nd rfl (by first | exact Or.inl rfl | exact Or.inr rfl) (pe_op op_mod (pe_op op_fdivB (pv 1) pe_int) (pe_callB (call_lenK (K:=K) rfl) (by rfl) T.len_ PySem.boot_len (pa_cons (pv 2) pa_nil))))
      (pss_cons (ps_set (i:=5) sc_law_one_swap.nd rfl (by first | exact Or.inl rfl | exact Or.inr rfl) (pe_op op_mod (pe_op op_fdivB (pv 1) pe_int) (pe_callB (call_lenK (K:=K) rfl) (by rfl) T.len_ PySem.boot_len (pa_cons (pv 2) pa_nil))))
      (pss_one (ps_if (PW.pt (pw_and (pt_cmpR op_eq (pe_ix (ix_listK (K:=K) rfl) (pv 2) (pv 4) (fun _ _=>rfl)) pe_int (nomark _)) (pw_and (pt_cmpR op_eq (pe_ix (ix_listK (K:=K) rfl) (pv 3) (pv 4) (fun _ _=>rfl)) pe_int (nomark _)) (pw_and (pt_cmpR op_eq (pe_ix (ix_listK (K:=K) rfl) (pv 2) (pv 5) (fun _ _=>rfl)) pe_int (nomark _)) (pw_and1 (pt_cmpR op_eq (pe_ix (ix_listK (K:=K) rfl) (pv 3) (pv 5) (fun _ _=>rfl)) pe_int (nomark _))))))) (pss_one (ps_for PassesOwn.never rfl (pi_listK (K:=K) rfl (pe_lst (pa_cons (pv 2) (pa_cons (pv 3) pa_nil)))) (pg_name (i:=6) sc_law_one_swap.nd rfl (by first | exact Or.inl rfl | exact Or.inr rfl)) (pss_cons (ps_asg (pe_op op_sub pe_int (pe_ix (ix_listK (K:=K) rfl) (pv 6) (pv 4) (fun _ _=>rfl))) (pg_sub (pv 6) (pv 4) set_list))
      (pss_one (ps_asg (pe_op op_sub pe_int (pe_ix (ix_listK (K:=K) rfl) (pv 6) (pv 5) (fun _ _=>rfl))) (pg_sub (pv 6) (pv 5) set_list)))))) pss_nil)))))),fn_valI (Γn:=[0]) (N:=N_law_one_swap) (p:=0) (st_seq (st_pinR 0 (ST.post (Γn:=[0]) (st_setS 2 (EM.es (ER.rawOf (er_ixL (er_varP 0) (EM.er (em_op o_intC (ES.er (es_var 1)) (EM.er (em_cb c_len (ar_cons (er_varP 0) ar_nil)))))))))))
      (st_seq (ST.post (Γn:=[0]) (st_setS 3 (EM.es (ER.rawOf (er_ixL (er_varP 0) (EM.er (em_op o_intC (EM.er (em_op o_intC (ES.er (es_var 1)) (EM.er em_int))) (EM.er (em_cb c_len (ar_cons (er_varP 0) ar_nil))))))))))
      (st_seq (ST.post (Γn:=[0]) (st_setS 4 (EM.es (em_op o_intC (EM.er (em_op o_intC (ES.er (es_var 1)) (EM.er em_int))) (EM.er (em_cb c_len (ar_cons (er_viaR 2 0) ar_nil)))))))
      (st_seq (ST.post (Γn:=[0]) (st_setS 5 (EM.es (em_op o_intC (EM.er (em_op o_intC (ES.er (es_var 1)) (EM.er em_int))) (EM.er (em_cb c_len (ar_cons (er_viaR 2 0) ar_nil)))))))
      (st_stripE 0 (st_if (tr_and (tr_test (EM.er (em_op o_eq (er_ixL (er_viaR 2 0) (ES.er (es_var 4))) (EM.er em_int)))) (tr_and (tr_test (EM.er (em_op o_eq (er_ixL (er_viaR 3 0) (ES.er (es_var 4))) (EM.er em_int)))) (tr_and (tr_test (EM.er (em_op o_eq (er_ixL (er_viaR 2 0) (ES.er (es_var 5))) (EM.er em_int)))) (tr_test (EM.er (em_op o_eq (er_ixL (er_viaR 3 0) (ES.er (es_var 5))) (EM.er em_int))))))) (st_for (it_list (EM.es (em_lst (am_cons0 (ER.rawV (ES.er (es_var 2))) (am_cons0 (ER.rawV (ES.er (es_var 3))) am_nil))))) (gt_name 6) (st_seq (st_viaPut 0 (em_op o_int (EM.er em_int) (er_ixL (er_viaR 6 0) (ES.er (es_var 4)))) (ES.er (es_var 6)) (ES.er (es_var 4)))
      (st_viaPut 0 (em_op o_int (EM.er em_int) (er_ixL (er_viaR 6 0) (ES.er (es_var 5)))) (ES.er (es_var 6)) (ES.er (es_var 5))))) st_next)))))) (fun ds P a x hS hx=>?_) (by decide) (fun ds P h=>by have:=len_law_one_swap ds P h;omega) h⟩
  obtain ⟨t,n,m,x,rfl,hT,n1,n8,m1,m8,hP⟩:=hS
  cases hx
  simp only[List.set_cons_zero,List.set_cons_succ]
  rw[show startD N_law_one_swap [.pin a (dT t),.int x]=[some (.pin a (dT t)),some (.int x),none,none,none,none,none] from rfl]
  have lt:=hT.1.1
  have p0:=emod_lt (x:=x) (n:=(t.length:Int)) (by omega)
  have q0:=emod_lt (x:=x / 8) (n:=(t.length:Int)) (by omega)
  obtain ⟨p,hp⟩:∃p:Nat,x % (t.length:Int)=p:=⟨(x % (t.length:Int)).toNat,by omega⟩
  obtain ⟨q,hq⟩:∃q:Nat,x / 8 % (t.length:Int)=q:=⟨(x / 8 % (t.length:Int)).toNat,by omega⟩
  have lp:=hT.1.row (i:=p) (by omega)
  have lq:=hT.1.row (i:=q) (by omega)
  refine peel fun R1 e1=>?_
  refine⟨.pin a (dT t),t,rfl,rfl,fun A hA=>?_⟩
  rw[show setTab (L3.D.pin a (dT t)) (pR A t)=.pin a (.lst (pR A t)) from rfl]
  have lpr:(pR A t).length=t.length:=pR_len
  walk_at "go"
  rw[lpr,hp]
  refine asO_pR (by omega) ⟨_,_,rfl,?_⟩
  subst e1
  refine peel fun R1 e1=>?_
  walk_at "go"
  rw[lpr,hq]
  refine asO_pR (by omega) ⟨_,_,rfl,?_⟩
  subst e1
  have via:∀{u:List (List Int)}{k s:Nat}{δ:Dl}{P:DK},k<u.length→δ[s]?=some (some (.raw (.ref (A k))))→δ[0]?=some (some (.pin a (.lst (pR A u))))→P (dI (rowAt u k))→vViaR s 0 δ P:=fun hk h1 h2 h3=>⟨_,_,_,_,_,h1,h2,rfl,pR_get hk,h3⟩
  have put:∀{u:List (List Int)}{k jj s:Nat}{v:Int}{de dx:DE}{E:DEnds}{δ:Dl},k<u.length→jj<(rowAt u k).length→δ[s]?=some (some (.raw (.ref (A k))))→δ[0]?=some (some (.pin a (.lst (pR A u))))→(∀R:DK,R (.int v)→de δ R)→(∀R:DK,R (.int (jj:Int))→dx δ R)→E.nx (δ.set 0 (some (.pin a (.lst (pR A (setCell u k jj v))))))→vViaPut 0 de (vVar s) dx E δ:=fun {u k jj s v de dx E δ} hk hj h1 h2 h3 h4 h5=>by
    refine h3 _ ⟨v,rfl,?_⟩
    have:vVar s δ fun y=>∃a_1,y=L3.D.raw (.ref a_1)∧dx δ fun k_1=>∃q,k_1=L3.D.int q∧∃(d0:D) (ds:List D) (j:Nat) (r:List Int),δ[0]?=some (some d0)∧tabOf d0=some ds∧ds[j]?=some (.pin a_1 (dI r))∧0≤q∧q<r.length∧E.nx (δ.set 0 (some (setTab d0 (ds.set j (.pin a_1 (dI (r.set q.toNat v))))))):=by
      unfold vVar
      rw[h1]
      refine⟨_,rfl,h4 _ ⟨_,rfl,_,_,k,rowAt u k,h2,rfl,pR_get hk,by omega,by omega,?_⟩⟩
      rw[Int.toNat_natCast,pR_set hk]
      exact h5
    exact this
  refine peel fun R1 e1=>?_
  walk_at "go"
  refine via (k:=p) (by omega) rfl rfl ?_
  walk_at "go"
  have j0:=emod_lt (x:=x / 64) (n:=((rowAt t p).length:Int)) (by omega)
  obtain ⟨j,hj⟩:∃j:Nat,x / 64 % ((rowAt t p).length:Int)=j:=⟨(x / 64 % ((rowAt t p).length:Int)).toNat,by omega⟩
  rw[hj]
  subst e1
  refine peel fun R1 e1=>?_
  walk_at "go"
  refine via (k:=p) (by omega) rfl rfl ?_
  walk_at "go"
  have l0:=emod_lt (x:=x / 512) (n:=((rowAt t p).length:Int)) (by omega)
  obtain ⟨l,hl⟩:∃l:Nat,x / 512 % ((rowAt t p).length:Int)=l:=⟨(x / 512 % ((rowAt t p).length:Int)).toNat,by omega⟩
  rw[hl]
  subst e1
  have fin:∀(u:List (List Int)) (o6:Option D),Kept n m t u→(endsI 0 a P).nx (stripAt 0 [some (.pin a (.lst (pR A u))),some (.int x),some (.raw (.ref (A p))),some (.raw (.ref (A q))),some (.int (j:Int)),some (.int (l:Int)),o6]):=fun u o6 hu=>by
    show (endsI 0 a P).nx [some (.pin a (L3.D.lst (pR A u)).strip),some (.int x),some (.raw (.ref (A p))),some (.raw (.ref (A q))),some (.int (j:Int)),some (.int (l:Int)),o6]
    rw[pR_strip]
    exact⟨rfl,hP u hu⟩
  have self:Kept n m t t:=⟨hT,fun _=>rfl,fun _=>rfl⟩
  walk_at "go"
  refine via (k:=p) (by omega) rfl rfl ?_
  walk_at "go"
  refine asO_ints (by omega) ?_
  rw[Int.toNat_natCast]
  walk_at "go"
  by_cases c1:(rowAt t p).getD j 0=1
  · rw[if_pos c1]
    refine via (k:=q) (by omega) rfl rfl ?_
    walk_at "go"
    refine asO_ints (by omega) ?_
    rw[Int.toNat_natCast]
    walk_at "go"
    by_cases c2:(rowAt t q).getD j 0=0
    · rw[if_pos c2]
      refine via (k:=p) (by omega) rfl rfl ?_
      walk_at "go"
      refine asO_ints (by omega) ?_
      rw[Int.toNat_natCast]
      walk_at "go"
      by_cases c3:(rowAt t p).getD l 0=0
      · rw[if_pos c3]
        refine via (k:=q) (by omega) rfl rfl ?_
        walk_at "go"
        refine asO_ints (by omega) ?_
        rw[Int.toNat_natCast]
        walk_at "go"
        by_cases c4:(rowAt t q).getD l 0=1
        · rw[if_pos c4]
          walk_at "go"
          refine⟨_,rfl,_,rfl,by decide,?_⟩
          have hpn:p<n:=by omega
          have hqn:q<n:=by omega
          have hjm:j<m:=by omega
          have hlm:l<m:=by omega
          have c1:cellAt t p j=1:=c1
          have c2:cellAt t q j=0:=c2
          have c3:cellAt t p l=0:=c3
          have c4:cellAt t q l=1:=c4
          have npq:p≠q:=fun z=>by rw[z] at c1;omega
          have njl:j≠l:=fun z=>by rw[z] at c1;omega
          have R1':=hT.1.setCell (i:=p) (j:=j) (v:=0) hpn
          have R2':=R1'.setCell (i:=p) (j:=l) (v:=1) hpn
          have R3':=R2'.setCell (i:=q) (j:=j) (v:=1) hqn
          obtain ⟨st,h0,h1,h2⟩:∃st:Nat→List (List Int),st 0=t∧st 1=setCell (setCell t p j 0) p l 1∧st 2=swapped t p j q l:=⟨fun i=>if i=0 then t else if i=1 then setCell (setCell t p j 0) p l 1 else swapped t p j q l,rfl,rfl,rfl⟩
          have v1:cellAt (setCell t p j 0) p l=0:=by rw[cell_set hT.1 hpn hjm,if_neg (fun z=>njl z.2)];exact c3
          have v2:cellAt (setCell (setCell t p j 0) p l 1) q j=0:=by rw[cell_set R1' hpn hlm,if_neg (fun z=>npq z.1),cell_set hT.1 hpn hjm,if_neg (fun z=>npq z.1)];exact c2
          have v3:cellAt (setCell (setCell (setCell t p j 0) p l 1) q j 1) q l=1:=by rw[cell_set R2' hqn hjm,if_neg (fun z=>njl z.2),cell_set R1' hpn hlm,if_neg (fun z=>npq z.1),cell_set hT.1 hpn hjm,if_neg (fun z=>npq z.1)];exact c4
          refine loop_any (as:=[A p,A q]) (f:=fun b=>L3.D.raw (.ref b)) (fun i δ=>∃o6,δ=[some (.pin a (.lst (pR A (st i)))),some (.int x),some (.raw (.ref (A p))),some (.raw (.ref (A q))),some (.int (j:Int)),some (.int (l:Int)),o6]) ⟨none,by rw[h0]⟩ ?_ ?_
          · rintro i b δ N e ⟨o6,rfl⟩ hN
            have:i=0∨i=1:=by have:=(List.getElem?_eq_some_iff.mp e).1;simp at this;omega
            rcases this with rfl | rfl
            · cases e
              rw[h0]
              walk_at "v"
              refine put (u:=t) (k:=p) (jj:=j) (v:=0) (by omega) (by omega) rfl rfl (fun R h=>?_) (fun R h=>?_) ?_
              · walk_at "v"
                refine via (k:=p) (by omega) rfl rfl ?_
                walk_at "v"
                refine asO_ints (by omega) ?_
                rw[Int.toNat_natCast,show (rowAt t p).getD j 0=1 from c1]
                walk_at "v"
                exact h
              · walk_at "v"
                exact h
              walk_at "v"
              refine put (u:=setCell t p j 0) (k:=p) (jj:=l) (v:=1) (by rw[R1'.1];exact hpn) (by rw[R1'.row hpn];exact hlm) rfl rfl (fun R h=>?_) (fun R h=>?_) ?_
              · walk_at "v"
                refine via (u:=setCell t p j 0) (k:=p) (by rw[R1'.1];exact hpn) rfl rfl ?_
                walk_at "v"
                refine asO_ints (by rw[R1'.row hpn];omega) ?_
                rw[Int.toNat_natCast,show (rowAt (setCell t p j 0) p).getD l 0=0 from v1]
                walk_at "v"
                exact h
              · walk_at "v"
                exact h
              exact hN _ ⟨_,by rw[h1];rfl⟩
            · cases e
              rw[h1]
              walk_at "v"
              refine put (u:=setCell (setCell t p j 0) p l 1) (k:=q) (jj:=j) (v:=1) (by rw[R2'.1];exact hqn) (by rw[R2'.row hqn];exact hjm) rfl rfl (fun R h=>?_) (fun R h=>?_) ?_
              · walk_at "v"
                refine via (u:=setCell (setCell t p j 0) p l 1) (k:=q) (by rw[R2'.1];exact hqn) rfl rfl ?_
                walk_at "v"
                refine asO_ints (by rw[R2'.row hqn];omega) ?_
                rw[Int.toNat_natCast,show (rowAt (setCell (setCell t p j 0) p l 1) q).getD j 0=0 from v2]
                walk_at "v"
                exact h
              · walk_at "v"
                exact h
              walk_at "v"
              refine put (u:=setCell (setCell (setCell t p j 0) p l 1) q j 1) (k:=q) (jj:=l) (v:=0) (by rw[R3'.1];exact hqn) (by rw[R3'.row hqn];exact hlm) rfl rfl (fun R h=>?_) (fun R h=>?_) ?_
              · walk_at "v"
                refine via (u:=setCell (setCell (setCell t p j 0) p l 1) q j 1) (k:=q) (by rw[R3'.1];exact hqn) rfl rfl ?_
                walk_at "v"
                refine asO_ints (by rw[R3'.row hqn];omega) ?_
                rw[Int.toNat_natCast,show (rowAt (setCell (setCell (setCell t p j 0) p l 1) q j 1) q).getD l 0=1 from v3]
                walk_at "v"
                exact h
              · walk_at "v"
                exact h
              exact hN _ ⟨_,by rw[h2];rfl⟩
          · rintro δ ⟨o6,rfl⟩
            rw[show ([A p,A q]:List Addr).length=2 from rfl,h2]
            exact fin _ o6 (self.swap hpn hqn hjm hlm c1 c3 c2 c4)
        · rw[if_neg c4];exact fin t none self
      · rw[if_neg c3];exact fin t none self
    · rw[if_neg c2];exact fin t none self
  · rw[if_neg c1];exact fin t none self
def S_law_swapped:DSI:=fun ds P=>∃(t:List (List Int)) (n m:Nat) (x:Int),ds=[dT t,.int x]∧Ones n m t∧1≤n∧n≤8∧1≤m∧m≤8∧∀u,Kept n m t u→P .non (dT u)
theorem mono_law_swapped:DMonoI S_law_swapped:=by
  intro xs P P' k h
  unfold S_law_swapped at h ⊢
  grind
theorem len_law_swapped:∀ds P,S_law_swapped ds P→ds.length=2:=by
  intro ds P h
  unfold S_law_swapped at h
  grind
theorem ok_law_swapped {f:Addr}{fd:FuncData} (F:FnAt K mg "_law_swapped" s_law_swapped P_law_swapped f fd) (A_:Fns K mg) (T:Txt K mg) {c:Cs} (xs:Exs K mg base c):FnOk P w K mg base CX0 1 f fd P_law_swapped (spI K 0 S_law_swapped):=by
  refine F.fn.ok sc_law_swapped (fun vs H Q E h=>spI_len len_law_swapped h) (fun cdv A outer s H vs Q E hr h=>?_)
  refine⟨_,(pss_cons (ps_set (i:=2) sc_law_swapped.nd rfl (by first | exact Or.inl rfl | exact Or.inr rfl) (pe_callB (call_lenK (K:=K) rfl) (by rfl) T.len_ PySem.boot_len (pa_cons (pv 0) pa_nil)))
      (pss_cons (ps_set (i:=3) sc_law_swapped.nd rfl (by first | exact Or.inl rfl | exact Or.inr rfl) (pe_callB (call_lenK (K:=K) rfl) (by rfl) T.len_ PySem.boot_len (pa_cons (pe_ix (ix_listK (K:=K) rfl) (pv 0) pe_int (fun _ _=>rfl)) pa_nil)))
      (pss_cons (ps_set (i:=4) sc_law_swapped.nd rfl (by first | exact Or.inl rfl | exact Or.inr rfl) (pe_ix (ix_listK (K:=K) rfl) (pv 0) (pe_op op_mod (pv 1) (pv 2)) (fun _ _=>rfl)))
      (pss_cons (ps_set (i:=5) sc_law_swapped.nd rfl (by first | exact Or.inl rfl | exact Or.inr rfl) (pe_ix (ix_listK (K:=K) rfl) (pv 0) (pe_op op_mod (pe_op op_fdivB (pv 1) (pv 2)) (pv 2)) (fun _ _=>rfl)))
      (pss_one (ps_for PassesOwn.never rfl (pi_range1 rfl T.range_ (pa_cons (pv 3) pa_nil)) (pg_name (i:=6) sc_law_swapped.nd rfl (by first | exact Or.inl rfl | exact Or.inr rfl)) (pss_cons (ps_set (i:=7) sc_law_swapped.nd rfl (by first | exact Or.inl rfl | exact Or.inr rfl) (pe_op op_mod (pe_op op_add (pe_op op_fdivB (pv 1) pe_int) (pv 6)) (pv 3)))
      (pss_one (ps_for PassesOwn.never rfl (pi_range1 rfl T.range_ (pa_cons (pv 3) pa_nil)) (pg_name (i:=8) sc_law_swapped.nd rfl (by first | exact Or.inl rfl | exact Or.inr rfl)) (pss_one (ps_if (PW.pt (pw_and (pt_cmpR op_eq (pe_ix (ix_listK (K:=K) rfl) (pv 4) (pv 7) (fun _ _=>rfl)) pe_int (nomark _)) (pw_and (pt_cmpR op_eq (pe_ix (ix_listK (K:=K) rfl) (pv 5) (pv 7) (fun _ _=>rfl)) pe_int (nomark _)) (pw_and (pt_cmpR op_eq (pe_ix (ix_listK (K:=K) rfl) (pv 4) (pv 8) (fun _ _=>rfl)) pe_int (nomark _)) (pw_and1 (pt_cmpR op_eq (pe_ix (ix_listK (K:=K) rfl) (pv 5) (pv 8) (fun _ _=>rfl)) pe_int (nomark _))))))) (pss_one (ps_for PassesOwn.never rfl (pi_listK (K:=K) rfl (pe_lst (pa_cons (pv 4) (pa_cons (pv 5) pa_nil)))) (pg_name (i:=9) sc_law_swapped.nd rfl (by first | exact Or.inl rfl | exact Or.inr rfl)) (pss_cons (ps_asg (pe_op op_sub pe_int (pe_ix (ix_listK (K:=K) rfl) (pv 9) (pv 7) (fun _ _=>rfl))) (pg_sub (pv 9) (pv 7) set_list))
      (pss_one (ps_asg (pe_op op_sub pe_int (pe_ix (ix_listK (K:=K) rfl) (pv 9) (pv 8) (fun _ _=>rfl))) (pg_sub (pv 9) (pv 8) set_list)))))) pss_nil))))))))))),fn_valI (Γn:=[0]) (N:=N_law_swapped) (p:=0) (st_seq (ST.post (Γn:=[0]) (st_setS 2 (EM.es (em_cb c_len (ar_cons (er_varP 0) ar_nil)))))
      (st_seq (ST.post (Γn:=[0]) (st_setS 3 (EM.es (em_cb c_len (ar_cons (er_ixL (er_varP 0) (EM.er em_int)) ar_nil)))))
      (st_seq (st_pinR 0 (ST.post (Γn:=[0]) (st_setS 4 (EM.es (ER.rawOf (er_ixL (er_varP 0) (EM.er (em_op o_intC (ES.er (es_var 1)) (ES.er (es_var 2))))))))))
      (st_seq (ST.post (Γn:=[0]) (st_setS 5 (EM.es (ER.rawOf (er_ixL (er_varP 0) (EM.er (em_op o_intC (EM.er (em_op o_intC (ES.er (es_var 1)) (ES.er (es_var 2)))) (ES.er (es_var 2)))))))))
      (st_stripE 0 (st_for (it_rng1 (ar_cons (ES.er (es_var 3)) ar_nil)) (gt_name 6) (st_seq (ST.post (Γn:=[0]) (st_setS 7 (EM.es (em_op o_intC (EM.er (em_op o_int (EM.er (em_op o_intC (ES.er (es_var 1)) (EM.er em_int))) (ES.er (es_var 6)))) (ES.er (es_var 3))))))
      (st_for (it_rng1 (ar_cons (ES.er (es_var 3)) ar_nil)) (gt_name 8) (st_if (tr_and (tr_test (EM.er (em_op o_eq (er_ixL (er_viaR 4 0) (ES.er (es_var 7))) (EM.er em_int)))) (tr_and (tr_test (EM.er (em_op o_eq (er_ixL (er_viaR 5 0) (ES.er (es_var 7))) (EM.er em_int)))) (tr_and (tr_test (EM.er (em_op o_eq (er_ixL (er_viaR 4 0) (ES.er (es_var 8))) (EM.er em_int)))) (tr_test (EM.er (em_op o_eq (er_ixL (er_viaR 5 0) (ES.er (es_var 8))) (EM.er em_int))))))) (st_for (it_list (EM.es (em_lst (am_cons0 (ER.rawV (ES.er (es_var 4))) (am_cons0 (ER.rawV (ES.er (es_var 5))) am_nil))))) (gt_name 9) (st_seq (st_viaPut 0 (em_op o_int (EM.er em_int) (er_ixL (er_viaR 9 0) (ES.er (es_var 7)))) (ES.er (es_var 9)) (ES.er (es_var 7)))
      (st_viaPut 0 (em_op o_int (EM.er em_int) (er_ixL (er_viaR 9 0) (ES.er (es_var 8)))) (ES.er (es_var 9)) (ES.er (es_var 8))))) st_next))))))))) (fun ds P a x hS hx=>?_) (by decide) (fun ds P h=>by have:=len_law_swapped ds P h;omega) h⟩
  obtain ⟨t,n,m,x,rfl,hT,n1,n8,m1,m8,hP⟩:=hS
  cases hx
  simp only[List.set_cons_zero,List.set_cons_succ]
  rw[show startD N_law_swapped [.pin a (dT t),.int x]=[some (.pin a (dT t)),some (.int x),none,none,none,none,none,none,none,none] from rfl]
  have lt:=hT.1.1
  have r0:=hT.1.row (i:=0) (by omega)
  have p0:=emod_lt (x:=x) (n:=(t.length:Int)) (by omega)
  have q0:=emod_lt (x:=x / (t.length:Int)) (n:=(t.length:Int)) (by omega)
  obtain ⟨p,hp⟩:∃p:Nat,x % (t.length:Int)=p:=⟨(x % (t.length:Int)).toNat,by omega⟩
  obtain ⟨q,hq⟩:∃q:Nat,x / (t.length:Int) % (t.length:Int)=q:=⟨(x / (t.length:Int) % (t.length:Int)).toNat,by omega⟩
  refine peel fun R1 e1=>?_
  walk_at "go"
  subst e1
  refine peel fun R1 e1=>?_
  walk_at "go"
  refine asO_rows (by omega) ?_
  walk_at "go"
  rw[show (rowAt t 0).length=m from r0]
  subst e1
  refine peel fun R1 e1=>?_
  refine⟨.pin a (dT t),t,rfl,rfl,fun A hA=>?_⟩
  rw[show setTab (L3.D.pin a (dT t)) (pR A t)=.pin a (.lst (pR A t)) from rfl]
  have lpr:(pR A t).length=t.length:=pR_len
  walk_at "go"
  rw[hp]
  refine asO_pR (by omega) ⟨_,_,rfl,?_⟩
  subst e1
  refine peel fun R1 e1=>?_
  walk_at "go"
  rw[hq]
  refine asO_pR (by omega) ⟨_,_,rfl,?_⟩
  subst e1
  have via:∀{u:List (List Int)}{k s:Nat}{δ:Dl}{P:DK},k<u.length→δ[s]?=some (some (.raw (.ref (A k))))→δ[0]?=some (some (.pin a (.lst (pR A u))))→P (dI (rowAt u k))→vViaR s 0 δ P:=fun hk h1 h2 h3=>⟨_,_,_,_,_,h1,h2,rfl,pR_get hk,h3⟩
  have put:∀{u:List (List Int)}{k jj s:Nat}{v:Int}{de dx:DE}{E:DEnds}{δ:Dl},k<u.length→jj<(rowAt u k).length→δ[s]?=some (some (.raw (.ref (A k))))→δ[0]?=some (some (.pin a (.lst (pR A u))))→(∀R:DK,R (.int v)→de δ R)→(∀R:DK,R (.int (jj:Int))→dx δ R)→E.nx (δ.set 0 (some (.pin a (.lst (pR A (setCell u k jj v))))))→vViaPut 0 de (vVar s) dx E δ:=fun {u k jj s v de dx E δ} hk hj h1 h2 h3 h4 h5=>by
    refine h3 _ ⟨v,rfl,?_⟩
    have:vVar s δ fun y=>∃a_1,y=L3.D.raw (.ref a_1)∧dx δ fun k_1=>∃q,k_1=L3.D.int q∧∃(d0:D) (ds:List D) (j:Nat) (r:List Int),δ[0]?=some (some d0)∧tabOf d0=some ds∧ds[j]?=some (.pin a_1 (dI r))∧0≤q∧q<r.length∧E.nx (δ.set 0 (some (setTab d0 (ds.set j (.pin a_1 (dI (r.set q.toNat v))))))):=by
      unfold vVar
      rw[h1]
      refine⟨_,rfl,h4 _ ⟨_,rfl,_,_,k,rowAt u k,h2,rfl,pR_get hk,by omega,by omega,?_⟩⟩
      rw[Int.toNat_natCast,pR_set hk]
      exact h5
    exact this
  have self:Kept n m t t:=⟨hT,fun _=>rfl,fun _=>rfl⟩
  walk_at "go"
  refine loop_rng (lo:=0) (n:=m) (fun i δ=>∃(u:List (List Int)) (o6 o7 o8 o9:Option D),δ=[some (.pin a (.lst (pR A u))),some (.int x),some (.int (t.length:Int)),some (.int (m:Int)),some (.raw (.ref (A p))),some (.raw (.ref (A q))),o6,o7,o8,o9]∧Kept n m t u) ⟨t,none,none,none,none,rfl,self⟩ ?_ ?_
  · rintro kk δ N hkk ⟨u,o6,o7,o8,o9,rfl,hU⟩ hN
    rw[Int.zero_add]
    have j0:=emod_lt (x:=x / 64+(kk:Int)) (n:=(m:Int)) (by omega)
    obtain ⟨j,hj⟩:∃j:Nat,(x / 64+(kk:Int)) % (m:Int)=j:=⟨((x / 64+(kk:Int)) % (m:Int)).toNat,by omega⟩
    walk_at "go"
    rw[hj]
    refine loop_rng (lo:=0) (n:=m) (fun i δ=>∃(u:List (List Int)) (o8 o9:Option D),δ=[some (.pin a (.lst (pR A u))),some (.int x),some (.int (t.length:Int)),some (.int (m:Int)),some (.raw (.ref (A p))),some (.raw (.ref (A q))),some (.int (kk:Int)),some (.int (j:Int)),o8,o9]∧Kept n m t u) ⟨u,o8,o9,rfl,hU⟩ ?_ ?_
    · clear hU
      rintro l δ N' hlm ⟨u,o8,o9,rfl,hU⟩ hN'
      rw[Int.zero_add]
      have lu:=hU.on.1.1
      have lp:=hU.on.1.row (i:=p) (by omega)
      have lq:=hU.on.1.row (i:=q) (by omega)
      walk_at "go"
      refine via (u:=u) (k:=p) (by omega) rfl rfl ?_
      walk_at "go"
      refine asO_ints (by omega) ?_
      rw[Int.toNat_natCast]
      walk_at "go"
      by_cases c1:(rowAt u p).getD j 0=1
      · rw[if_pos c1]
        refine via (u:=u) (k:=q) (by omega) rfl rfl ?_
        walk_at "go"
        refine asO_ints (by omega) ?_
        rw[Int.toNat_natCast]
        walk_at "go"
        by_cases c2:(rowAt u q).getD j 0=0
        · rw[if_pos c2]
          refine via (u:=u) (k:=p) (by omega) rfl rfl ?_
          walk_at "go"
          refine asO_ints (by omega) ?_
          rw[Int.toNat_natCast]
          walk_at "go"
          by_cases c3:(rowAt u p).getD l 0=0
          · rw[if_pos c3]
            refine via (u:=u) (k:=q) (by omega) rfl rfl ?_
            walk_at "go"
            refine asO_ints (by omega) ?_
            rw[Int.toNat_natCast]
            walk_at "go"
            by_cases c4:(rowAt u q).getD l 0=1
            · rw[if_pos c4]
              walk_at "go"
              refine⟨_,rfl,_,rfl,by decide,?_⟩
              have hpn:p<n:=by omega
              have hqn:q<n:=by omega
              have hjm:j<m:=by omega
              have hlm:l<m:=by omega
              have c1:cellAt u p j=1:=c1
              have c2:cellAt u q j=0:=c2
              have c3:cellAt u p l=0:=c3
              have c4:cellAt u q l=1:=c4
              have npq:p≠q:=fun z=>by rw[z] at c1;omega
              have njl:j≠l:=fun z=>by rw[z] at c1;omega
              have R1':=hU.on.1.setCell (i:=p) (j:=j) (v:=0) hpn
              have R2':=R1'.setCell (i:=p) (j:=l) (v:=1) hpn
              have R3':=R2'.setCell (i:=q) (j:=j) (v:=1) hqn
              obtain ⟨st,h0,h1,h2⟩:∃st:Nat→List (List Int),st 0=u∧st 1=setCell (setCell u p j 0) p l 1∧st 2=swapped u p j q l:=⟨fun i=>if i=0 then u else if i=1 then setCell (setCell u p j 0) p l 1 else swapped u p j q l,rfl,rfl,rfl⟩
              have v1:cellAt (setCell u p j 0) p l=0:=by rw[cell_set hU.on.1 hpn hjm,if_neg (fun z=>njl z.2)];exact c3
              have v2:cellAt (setCell (setCell u p j 0) p l 1) q j=0:=by rw[cell_set R1' hpn hlm,if_neg (fun z=>npq z.1),cell_set hU.on.1 hpn hjm,if_neg (fun z=>npq z.1)];exact c2
              have v3:cellAt (setCell (setCell (setCell u p j 0) p l 1) q j 1) q l=1:=by rw[cell_set R2' hqn hjm,if_neg (fun z=>njl z.2),cell_set R1' hpn hlm,if_neg (fun z=>npq z.1),cell_set hU.on.1 hpn hjm,if_neg (fun z=>npq z.1)];exact c4
              refine loop_any (as:=[A p,A q]) (f:=fun b=>L3.D.raw (.ref b)) (fun i δ=>∃o6,δ=[some (.pin a (.lst (pR A (st i)))),some (.int x),some (.int (t.length:Int)),some (.int (m:Int)),some (.raw (.ref (A p))),some (.raw (.ref (A q))),some (.int (kk:Int)),some (.int (j:Int)),some (.int (l:Int)),o6]) ⟨o9,by rw[h0]⟩ ?_ ?_
              · rintro i b δ N e ⟨o6,rfl⟩ hN
                have:i=0∨i=1:=by have:=(List.getElem?_eq_some_iff.mp e).1;simp at this;omega
                rcases this with rfl | rfl
                · cases e
                  rw[h0]
                  walk_at "v"
                  refine put (u:=u) (k:=p) (jj:=j) (v:=0) (by omega) (by omega) rfl rfl (fun R h=>?_) (fun R h=>?_) ?_
                  · walk_at "v"
                    refine via (k:=p) (by omega) rfl rfl ?_
                    walk_at "v"
                    refine asO_ints (by omega) ?_
                    rw[Int.toNat_natCast,show (rowAt u p).getD j 0=1 from c1]
                    walk_at "v"
                    exact h
                  · walk_at "v"
                    exact h
                  walk_at "v"
                  refine put (u:=setCell u p j 0) (k:=p) (jj:=l) (v:=1) (by rw[R1'.1];exact hpn) (by rw[R1'.row hpn];exact hlm) rfl rfl (fun R h=>?_) (fun R h=>?_) ?_
                  · walk_at "v"
                    refine via (u:=setCell u p j 0) (k:=p) (by rw[R1'.1];exact hpn) rfl rfl ?_
                    walk_at "v"
                    refine asO_ints (by rw[R1'.row hpn];omega) ?_
                    rw[Int.toNat_natCast,show (rowAt (setCell u p j 0) p).getD l 0=0 from v1]
                    walk_at "v"
                    exact h
                  · walk_at "v"
                    exact h
                  exact hN _ ⟨_,by rw[h1];rfl⟩
                · cases e
                  rw[h1]
                  walk_at "v"
                  refine put (u:=setCell (setCell u p j 0) p l 1) (k:=q) (jj:=j) (v:=1) (by rw[R2'.1];exact hqn) (by rw[R2'.row hqn];exact hjm) rfl rfl (fun R h=>?_) (fun R h=>?_) ?_
                  · walk_at "v"
                    refine via (u:=setCell (setCell u p j 0) p l 1) (k:=q) (by rw[R2'.1];exact hqn) rfl rfl ?_
                    walk_at "v"
                    refine asO_ints (by rw[R2'.row hqn];omega) ?_
                    rw[Int.toNat_natCast,show (rowAt (setCell (setCell u p j 0) p l 1) q).getD j 0=0 from v2]
                    walk_at "v"
                    exact h
                  · walk_at "v"
                    exact h
                  walk_at "v"
                  refine put (u:=setCell (setCell (setCell u p j 0) p l 1) q j 1) (k:=q) (jj:=l) (v:=0) (by rw[R3'.1];exact hqn) (by rw[R3'.row hqn];exact hlm) rfl rfl (fun R h=>?_) (fun R h=>?_) ?_
                  · walk_at "v"
                    refine via (u:=setCell (setCell (setCell u p j 0) p l 1) q j 1) (k:=q) (by rw[R3'.1];exact hqn) rfl rfl ?_
                    walk_at "v"
                    refine asO_ints (by rw[R3'.row hqn];omega) ?_
                    rw[Int.toNat_natCast,show (rowAt (setCell (setCell (setCell u p j 0) p l 1) q j 1) q).getD l 0=1 from v3]
                    walk_at "v"
                    exact h
                  · walk_at "v"
                    exact h
                  exact hN _ ⟨_,by rw[h2];rfl⟩
              · rintro δ ⟨o6,rfl⟩
                rw[show ([A p,A q]:List Addr).length=2 from rfl,h2]
                exact hN' _ ⟨_,_,_,rfl,hU.swap hpn hqn hjm hlm c1 c3 c2 c4⟩
            · rw[if_neg c4];exact hN' _ ⟨u,_,_,rfl,hU⟩
          · rw[if_neg c3];exact hN' _ ⟨u,_,_,rfl,hU⟩
        · rw[if_neg c2];exact hN' _ ⟨u,_,_,rfl,hU⟩
      · rw[if_neg c1];exact hN' _ ⟨u,_,_,rfl,hU⟩
    · rintro δ ⟨u,o8,o9,rfl,hU⟩
      exact hN _ ⟨u,_,_,_,_,rfl,hU⟩
  · rintro δ ⟨u,o6,o7,o8,o9,rfl,hU⟩
    show (endsI 0 a P).nx [some (.pin a (L3.D.lst (pR A u)).strip),some (.int x),some (.int (t.length:Int)),some (.int (m:Int)),some (.raw (.ref (A p))),some (.raw (.ref (A q))),o6,o7,o8,o9]
    rw[pR_strip]
    exact⟨rfl,hP u hU⟩
def S_law_can:DSp:=fun ds P=>∃(t:List (List Int)) (n m:Nat) (i j k l:Int),ds=[dT t,dW i j k l]∧Rect n m t∧1≤n∧n≤8∧1≤m∧m≤8∧CanSwap n m t i j k l∧P (.bl true)
theorem mono_law_can:DMono S_law_can:=by
  intro xs P P' k h
  unfold S_law_can at h ⊢
  grind
theorem len_law_can:∀ds P,S_law_can ds P→ds.length=2:=by
  intro ds P h
  obtain ⟨_,_,_,_,_,_,_,e,_⟩:=h
  rw[e];rfl
theorem ok_law_can {f:Addr}{fd:FuncData} (F:FnAt K mg "_law_can" s_law_can P_law_can f fd) (A_:Fns K mg) (T:Txt K mg) {c:Cs} (xs:Exs K mg base c):FnOk P w K mg base CX0 2 f fd P_law_can (spP K S_law_can):=by
  obtain ⟨f0,d0,E_law_whole⟩:=A_.h_law_whole
  have G_law_whole:FnOk P w K mg base CX0 1 f0 d0 P_law_whole (spP K S_law_whole):=ok_law_whole E_law_whole A_ T xs
  refine F.fn.ok sc_law_can (fun vs H Q E h=>spP_len len_law_can h) (fun cdv A outer s H vs Q E hr h=>?_)
  refine⟨_,(pss_cons (ps_if (PW.pt (pw_or (pt_not (pt_val (pe_callB (call_isinstK (K:=K) rfl) (by rfl) T.isinstance_ boot_isinstance (pa_cons (pv 1) (pa_cons (pe_bltn (v:=.ty "tuple") rfl T.tuple_ boot_tuple rfl) pa_nil))))) (pw_or (pt_cmpR op_ne (pe_callB (call_lenK (K:=K) rfl) (by rfl) T.len_ PySem.boot_len (pa_cons (pv 1) pa_nil)) pe_int (nomark _)) (pw_or1 (pt_cmpR op_ne (pe_callB (call_lenK (K:=K) rfl) (by rfl) T.len_ PySem.boot_len (pa_cons (pe_comp rfl (CompScope.of (sc0:=(defScope s_law_can)) (tn:=["_law_one"]) (cap:=[]) (idx:=[]) (by decide +kernel) rfl rfl) (pi_tupK (K:=K) rfl (pv 1)) (GSet.name (by decide)) (fun _ _ _ _ _=>pg_name (i:=0) (nodupB_iff (l:=["_law_one"]) (by decide +kernel)) rfl (by first | exact Or.inl rfl | exact Or.inr rfl) (by first | exact .inl rfl | exact .inr rfl)) (fun _ _ _ _ _=>pts_one (pt_val (pe_call G_law_whole (hr.mono (by decide)) rfl E_law_whole.mg E_law_whole.fn.kp E_law_whole.bd .nil pass0 (pa_cons (pv 0) pa_nil)))) (fun _ _ _ _ _=>(pv 0)) (by intro _;rfl)) pa_nil)) pe_int (nomark _)))))) (pss_one (ps_ret pe_bl)) pss_nil)
      (pss_cons (ps_set (i:=2) sc_law_can.nd rfl (by first | exact Or.inl rfl | exact Or.inr rfl) (pe_callB (call_lenK (K:=K) rfl) (by rfl) T.len_ PySem.boot_len (pa_cons (pv 0) pa_nil)))
      (pss_cons (ps_set (i:=3) sc_law_can.nd rfl (by first | exact Or.inl rfl | exact Or.inr rfl) (pe_callB (call_lenK (K:=K) rfl) (by rfl) T.len_ PySem.boot_len (pa_cons (pe_ix (ix_listK (K:=K) rfl) (pv 0) pe_int (fun _ _=>rfl)) pa_nil)))
      (pss_cons (ps_asg (pv 1) (pg_tupK (K:=K) rfl rfl (pgs_cons (pg_name (i:=4) sc_law_can.nd rfl (by first | exact Or.inl rfl | exact Or.inr rfl)) (pgs_cons (pg_name (i:=5) sc_law_can.nd rfl (by first | exact Or.inl rfl | exact Or.inr rfl)) (pgs_cons (pg_name (i:=6) sc_law_can.nd rfl (by first | exact Or.inl rfl | exact Or.inr rfl)) (pgs_cons (pg_name (i:=7) sc_law_can.nd rfl (by first | exact Or.inl rfl | exact Or.inr rfl)) pgs_nil))))))
      (pss_cons (ps_if (PW.pt (pw_or (pt_not (pt_chain op_le op_lt pe_int (pv 4) (pv 2))) (pw_or (pt_not (pt_chain op_le op_lt pe_int (pv 6) (pv 2))) (pw_or (pt_not (pt_chain op_le op_lt pe_int (pv 5) (pv 3))) (pw_or1 (pt_not (pt_chain op_le op_lt pe_int (pv 7) (pv 3)))))))) (pss_one (ps_ret pe_bl)) pss_nil)
      (pss_one (ps_ret (pe_and (pe_cmpR op_eq (pe_ix (ix_listK (K:=K) rfl) (pe_ix (ix_listK (K:=K) rfl) (pv 0) (pv 4) (fun _ _=>rfl)) (pv 5) (fun _ _=>rfl)) pe_int (nomark _)) (pe_and (pe_cmpR op_eq (pe_ix (ix_listK (K:=K) rfl) (pe_ix (ix_listK (K:=K) rfl) (pv 0) (pv 4) (fun _ _=>rfl)) (pv 7) (fun _ _=>rfl)) pe_int (nomark _)) (pe_and (pe_cmpR op_eq (pe_ix (ix_listK (K:=K) rfl) (pe_ix (ix_listK (K:=K) rfl) (pv 0) (pv 6) (fun _ _=>rfl)) (pv 5) (fun _ _=>rfl)) pe_int (nomark _)) (pe_one (pe_cmpR op_eq (pe_ix (ix_listK (K:=K) rfl) (pe_ix (ix_listK (K:=K) rfl) (pv 0) (pv 6) (fun _ _=>rfl)) (pv 7) (fun _ _=>rfl)) pe_int (nomark _))))))))))))),fn_val (Γn:=[]) (N:=N_law_can) (st_seq (st_if (tr_or (tr_not (tr_b (EM.er (em_isinst kit_tuple (ES.er (es_var 1)))))) (tr_or (tr_test (EM.er (em_op o_ne (EM.er (em_cb c_len (ar_cons (ES.er (es_var 1)) ar_nil))) (EM.er em_int)))) (tr_test (EM.er (em_op o_ne (EM.er (em_cb c_len (ar_cons (EM.er (em_comp (it_tup (ES.er (es_var 1))) (gt_name 0) (tr_b (EM.er (em_call (S:=S_law_whole) mono_law_whole (ar_cons (ES.er (es_var 0)) ar_nil)))) (ER.scal (ES.er (es_var 0))))) ar_nil))) (EM.er em_int)))))) (st_ret (M:=[]) em_bl) st_next)
      (st_seq (ST.post (Γn:=[]) (st_setS 2 (EM.es (em_cb c_len (ar_cons (ES.er (es_var 0)) ar_nil)))))
      (st_seq (ST.post (Γn:=[]) (st_setS 3 (EM.es (em_cb c_len (ar_cons (ES.er (es_ixL (es_var 0) (EM.er em_int))) ar_nil)))))
      (st_seq (st_asgS (es_var 1) (gt_tup (gts_cons (gt_name 4) (gts_cons (gt_name 5) (gts_cons (gt_name 6) (gts_cons (gt_name 7) gts_nil))))))
      (st_seq (st_if (tr_or (tr_not (tr_test (EM.er (em_chain o_bl o_bl (EM.er em_int) (ES.er (es_var 4)) (ES.er (es_var 2)))))) (tr_or (tr_not (tr_test (EM.er (em_chain o_bl o_bl (EM.er em_int) (ES.er (es_var 6)) (ES.er (es_var 2)))))) (tr_or (tr_not (tr_test (EM.er (em_chain o_bl o_bl (EM.er em_int) (ES.er (es_var 5)) (ES.er (es_var 3)))))) (tr_not (tr_test (EM.er (em_chain o_bl o_bl (EM.er em_int) (ES.er (es_var 7)) (ES.er (es_var 3))))))))) (st_ret (M:=[]) em_bl) st_next)
      (st_ret (M:=[]) (em_andV (EM.er (em_op o_eq (ES.er (es_ixL (es_ixL (es_var 0) (ES.er (es_var 4))) (ES.er (es_var 5)))) (EM.er em_int))) (em_andV (EM.er (em_op o_eq (ES.er (es_ixL (es_ixL (es_var 0) (ES.er (es_var 4))) (ES.er (es_var 7)))) (EM.er em_int))) (em_andV (EM.er (em_op o_eq (ES.er (es_ixL (es_ixL (es_var 0) (ES.er (es_var 6))) (ES.er (es_var 5)))) (EM.er em_int))) (em_op o_eq (ES.er (es_ixL (es_ixL (es_var 0) (ES.er (es_var 6))) (ES.er (es_var 7)))) (EM.er em_int))))))))))) (fun ds P hS=>?_) h⟩
  obtain ⟨t,n,m,i,j,k,l,rfl,hR,n1,n8,m1,m8,hC,hP⟩:=hS
  rw[show startD N_law_can [dT t,dW i j k l]=[some (dT t),some (dW i j k l),none,none,none,none,none,none] from rfl]
  obtain ⟨hi,hk,hj,hl,c1,c2,c3,c4⟩:=hC
  have lt:=hR.1
  have r0:=hR.row (i:=0) (by omega)
  have li:=hR.row (i:=i.toNat) (by omega)
  have lk:=hR.row (i:=k.toNat) (by omega)
  unfold dW
  refine peel fun R1 e1=>?_
  walk_at "go"
  rw[if_neg (fun z=>z (by decide))]
  refine comp_any (as:=[i,j,k,l]) (f:=L3.D.int) (p:=fun _=>true) (g:=L3.D.int) (fun R h=>?_) (by show 4≤1000;omega) (fun x hx R h=>?_) ?_
  · walk_at "go"
    exact⟨_,rfl,rfl,h⟩
  · walk_at "gb"
    refine⟨_,rfl,?_⟩
    walk_at "gb"
    exact h
  rw[show ([i,j,k,l].filter fun _=>true)=[i,j,k,l] from rfl]
  walk_at "go"
  rw[if_neg (fun z=>z (by decide))]
  subst e1
  refine peel fun R1 e1=>?_
  walk_at "go"
  subst e1
  refine peel fun R1 e1=>?_
  walk_at "go"
  refine asO_rows (by omega) ?_
  walk_at "go"
  rw[show (rowAt t 0).length=m from r0]
  subst e1
  refine peel fun R1 e1=>?_
  walk_at "go"
  subst e1
  refine peel fun R1 e1=>?_
  walk_at "go"
  rw[if_pos hi.1,if_neg (fun z=>z (by omega)),if_pos hk.1,if_neg (fun z=>z (by omega)),if_pos hj.1,if_neg (fun z=>z hj.2),if_pos hl.1,if_neg (fun z=>z hl.2)]
  subst e1
  walk_at "go"
  refine asO_cell hR (by omega) (by omega) ?_
  walk_at "go"
  rw[if_pos c1]
  refine asO_cell hR (by omega) (by omega) ?_
  walk_at "go"
  rw[if_pos c2]
  refine asO_cell hR (by omega) (by omega) ?_
  walk_at "go"
  rw[if_pos c3]
  refine asO_cell hR (by omega) (by omega) ?_
  walk_at "go"
  rw[decide_eq_true c4]
  exact hP
theorem neq_tabs {l h:List (List Int)}{P:DK} (k:P (.bl false)):vEqL true (L3.D.lst [dT l,dT h]) (L3.D.lst [dT l,dT h]) P:=by
  have e:L3.D.old (L3.D.lst [dT l,dT h])=some (.lst [L2.dT l,L2.dT h]):=by
    simp only[L3.D.old,L3.D.olds,olds_rows,olds_ints];rfl
  have p:L2.D.plains [L2.dT l,L2.dT h]=true:=by
    simp only[L2.D.plains,L2.D.plain,L2.D.plains_rows,L2.D.plains_ints,Bool.and_true,Bool.true_and]
  refine⟨_,_,e,e,p,p,?_,?_⟩
  · have d3:=L2.D.depths_rows l
    have d4:=L2.D.depths_rows h
    simp only[L2.D.depths,L2.D.depth] at *
    omega
  · simp only[L2.D.eqbs,L2.D.eqb,L2.D.eqbs_rows,L2.D.eqbs_ints,decide_true,Bool.and_true,Bool.true_and,if_true,Bool.not_true]
    exact k
theorem zip_rows {t s:List (List Int)} (h:t.length=s.length):(((t.map dI).zip (s.map dI)).map fun p=>L3.D.tup [p.1,p.2])=(List.range t.length).map fun i=>L3.D.tup [dI (rowAt t i),dI (rowAt s i)]:=by
  refine List.ext_getElem (by simp [h]) fun i h1 h2=>?_
  have q1:i<t.length:=by simpa using h2
  have q2:i<s.length:=by omega
  rw[List.getElem_map,List.getElem_zip,List.getElem_map,List.getElem_map,List.getElem_map,List.getElem_range]
  show L3.D.tup [dI t[i],dI s[i]]=L3.D.tup [dI (t.getD i []),dI (s.getD i [])]
  rw[List.getD_eq_getElem?_getD,List.getD_eq_getElem?_getD,List.getElem?_eq_getElem q1,List.getElem?_eq_getElem q2];rfl
theorem flen {p:Nat→Bool}:∀{m:Nat},((((List.range m).filter p).length:Nat):Int)=sN m fun b=>if p b then 1 else 0
  | 0=>rfl
  | m+1=>by
    rw[List.range_succ,List.filter_append,List.length_append,sN_succ,← flen,Int.natCast_add]
    congr 1
    cases h:p m<;>simp [h]
theorem cl_ints:∀{r:List Int},L3.D.cleans (r.map L3.D.int)=true
  | []=>by rw[List.map_nil,L3.D.cleans]
  | x::r=>by rw[List.map_cons,L3.D.cleans,cl_ints,L3.D.clean];rfl
theorem cl_dI {r:List Int} (h:r≠[]):(dI r).clean=true:=by
  cases r with
  | nil=>exact absurd rfl h
  | cons x r=>rw[L3.D.clean,cl_ints];rfl
theorem cl_rows:∀{t:List (List Int)},(∀r∈t,r≠[])→L3.D.cleans (t.map dI)=true
  | [],_=>by rw[List.map_nil,L3.D.cleans]
  | r::t,h=>by rw[List.map_cons,L3.D.cleans,cl_dI (h r List.mem_cons_self),cl_rows fun x hx=>h x (List.mem_cons_of_mem _ hx)];rfl
theorem cl_dT {n m:Nat}{t:List (List Int)} (h:Rect n m t) (n1:1≤n) (m1:1≤m):(dT t).clean=true:=by
  have hr:∀r∈t,r≠[]:=fun r hr z=>by have:=h.2 r hr;rw[z] at this;simp at this;omega
  have hl:=h.1
  cases t with
  | nil=>simp at hl;omega
  | cons r t=>rw[L3.D.clean,cl_rows hr];rfl
def CO (o:Option D):Prop:=∀d,o=some d→d.clean=true
theorem CO.non:CO none:=fun d h=>(nomatch h)
theorem CO.int {x:Int}:CO (some (.int x)):=fun d h=>by cases h;rw[L3.D.clean]
theorem CO.s4 {q:Q4}:CO (some (dS4 q)):=fun d h=>by cases h;unfold dS4 dW;rw[L3.D.clean,L3.D.cleans,L3.D.cleans,L3.D.cleans,L3.D.cleans,L3.D.cleans,L3.D.clean,L3.D.clean,L3.D.clean,L3.D.clean];rfl
def S_law_walked:DSp:=fun ds P=>∃(t o:List (List Int)) (n m:Nat),ds=[dT t,dT o]∧Ones n m t∧Ones n m o∧1≤n∧n≤8∧1≤m∧m≤8∧(∀a,a<n→rsum t a=rsum o a)∧(∀b,b<m→csum t b=csum o b)∧P (.bl true)
theorem mono_law_walked:DMono S_law_walked:=by
  intro xs P P' k h
  unfold S_law_walked at h ⊢
  grind
theorem len_law_walked:∀ds P,S_law_walked ds P→ds.length=2:=by
  intro ds P h
  obtain ⟨_,_,_,_,e,_⟩:=h
  rw[e];rfl
theorem ok_law_walked {f:Addr}{fd:FuncData} (F:FnAt K mg "_law_walked" s_law_walked P_law_walked f fd) (A_:Fns K mg) (T:Txt K mg) {c:Cs} (xs:Exs K mg base c):FnOk P w K mg base CX0 6 f fd P_law_walked (spP K S_law_walked):=by
  obtain ⟨f0,d0,E_swaps_between⟩:=A_.h_swaps_between
  have G_swaps_between:FnOk P w K mg base (CXR P w) 5 f0 d0 P_swaps_between (spX K (S_swaps_between c)):=ok_swaps_between E_swaps_between A_ T xs
  obtain ⟨f1,d1,E_law_can⟩:=A_.h_law_can
  have G_law_can:FnOk P w K mg base CX0 2 f1 d1 P_law_can (spP K S_law_can):=ok_law_can E_law_can A_ T xs
  refine F.fn.ok sc_law_walked (fun vs H Q E h=>spP_len len_law_walked h) (fun cdv A outer s H vs Q E hr h=>?_)
  refine⟨_,(pss_cons (ps_set (i:=2) sc_law_walked.nd rfl (by first | exact Or.inl rfl | exact Or.inr rfl) (pe_lst (pa_cons (pe_comp0 (CompScope.of (sc0:=(defScope s_law_walked)) (tn:=["_law_row"]) (cap:=[]) (idx:=[]) (by decide +kernel) rfl rfl) (pi_listK (K:=K) rfl (pv 0)) (GSet.name (by decide)) (fun _ _ _ _ _=>pg_name (i:=0) (nodupB_iff (l:=["_law_row"]) (by decide +kernel)) rfl (by first | exact Or.inl rfl | exact Or.inr rfl) (by first | exact .inl rfl | exact .inr rfl)) (fun _ _ _ _ _=>(pe_callTy (call_listK (K:=K) rfl) (by rfl) T.list_ boot_list (pa_cons (pv 0) pa_nil)))) (pa_cons (pe_comp0 (CompScope.of (sc0:=(defScope s_law_walked)) (tn:=["_law_row"]) (cap:=[]) (idx:=[]) (by decide +kernel) rfl rfl) (pi_listK (K:=K) rfl (pv 1)) (GSet.name (by decide)) (fun _ _ _ _ _=>pg_name (i:=0) (nodupB_iff (l:=["_law_row"]) (by decide +kernel)) rfl (by first | exact Or.inl rfl | exact Or.inr rfl) (by first | exact .inl rfl | exact .inr rfl)) (fun _ _ _ _ _=>(pe_callTy (call_listK (K:=K) rfl) (by rfl) T.list_ boot_list (pa_cons (pv 0) pa_nil)))) pa_nil))))
      (pss_cons (ps_set (i:=3) sc_law_walked.nd rfl (by first | exact Or.inl rfl | exact Or.inr rfl) (pe_call G_swaps_between (hr.mono (by decide)) rfl E_swaps_between.mg E_swaps_between.fn.kp E_swaps_between.bd .nil passN (pa_cons (pe_ix (ix_listK (K:=K) rfl) (pv 2) pe_int (fun _ _=>rfl)) (pa_cons (pe_ix (ix_listK (K:=K) rfl) (pv 2) pe_int (fun _ _=>rfl)) pa_nil))))
      (pss_cons (ps_if (PW.pt (pw_or (pt_not (pt_val (pe_callB (call_isinstK (K:=K) rfl) (by rfl) T.isinstance_ boot_isinstance (pa_cons (pv 3) (pa_cons (pe_bltn (v:=.ty "list") rfl T.list_ boot_list rfl) pa_nil))))) (pw_or1 (pt_cmpR (op_neL hr.units) (pv 2) (pe_lst (pa_cons (pv 0) (pa_cons (pv 1) pa_nil))) (nomark _))))) (pss_one (ps_ret pe_bl)) pss_nil)
      (pss_cons (ps_set (i:=4) sc_law_walked.nd rfl (by first | exact Or.inl rfl | exact Or.inr rfl) (pe_callB (call_sumK (K:=K) rfl rfl) (by rfl) T.sum_ boot_sum (pa_cons (pe_comp0 (CompScope.of (sc0:=(defScope s_law_walked)) (tn:=["_law_row","_law_line"]) (cap:=[]) (idx:=[]) (by decide +kernel) rfl rfl) (pi_zipK (K:=K) rfl rfl T.zip_ (pa_cons (pv 0) (pa_cons (pv 1) pa_nil))) (GSet.tup (GSets.cons (by decide) (GSets.cons (by decide) GSets.nil))) (fun _ _ _ _ _=>pg_tupK (K:=K) (n:=2) rfl rfl (pgs_cons (pg_name (i:=0) (nodupB_iff (l:=["_law_row","_law_line"]) (by decide +kernel)) rfl (by first | exact Or.inl rfl | exact Or.inr rfl) (by first | exact .inl rfl | exact .inr rfl)) (pgs_cons (pg_name (i:=1) (nodupB_iff (l:=["_law_row","_law_line"]) (by decide +kernel)) rfl (by first | exact Or.inl rfl | exact Or.inr rfl) (by first | exact .inl rfl | exact .inr rfl)) pgs_nil))) (fun _ _ _ _ _=>(pe_callB (call_lenK (K:=K) rfl) (by rfl) T.len_ PySem.boot_len (pa_cons (pe_comp rfl (CompScope.of (sc0:=(relabelS _ (defScope s_law_walked))) (tn:=["_law_k"]) (cap:=["_law_row","_law_line"]) (idx:=[0,1]) (by decide +kernel) rfl rfl) (pi_range1 rfl T.range_ (pa_cons (pe_callB (call_lenK (K:=K) rfl) (by rfl) T.len_ PySem.boot_len (pa_cons (pv 0) pa_nil)) pa_nil)) (GSet.name (by decide)) (fun _ _ _ _ _=>pg_name (i:=0) (nodupB_iff (l:=["_law_k","_law_row","_law_line"]) (by decide +kernel)) rfl (by first | exact Or.inl rfl | exact Or.inr rfl) (by first | exact .inl rfl | exact .inr rfl)) (fun _ _ _ _ _=>pts_one (pt_cmpR op_gt (pe_ix (ix_listK (K:=K) rfl) (pv 1) (pv 0) (fun _ _=>rfl)) (pe_ix (ix_listK (K:=K) rfl) (pv 2) (pv 0) (fun _ _=>rfl)) (nomark _))) (fun _ _ _ _ _=>(pv 0)) (by intro _;rfl)) pa_nil)))) pa_nil)))
      (pss_cons (ps_if (pt_cmpR op_gt (pe_callB (call_lenK (K:=K) rfl) (by rfl) T.len_ PySem.boot_len (pa_cons (pv 3) pa_nil)) (pe_callB (call_max2 rfl) (by rfl) T.max_ boot_max (pa_cons pe_int (pa_cons (pe_op op_sub (pv 4) pe_int) pa_nil))) (nomark _)) (pss_one (ps_ret pe_bl)) pss_nil)
      (pss_cons (ps_setC0 (i:=5) (CompScope.of (sc0:=(defScope s_law_walked)) (tn:=["_law_row"]) (cap:=[]) (idx:=[]) (by decide +kernel) rfl rfl) sc_law_walked.nd rfl (by first | exact Or.inl rfl | exact Or.inr rfl) (pi_listK (K:=K) rfl (pv 0)) (GSet.name (by decide)) (fun _ _ _ _ _=>pg_name (i:=0) (nodupB_iff (l:=["_law_row"]) (by decide +kernel)) rfl (by first | exact Or.inl rfl | exact Or.inr rfl) (by first | exact .inl rfl | exact .inr rfl)) (fun _ _ _ _ _=>(pe_callTy (call_listK (K:=K) rfl) (by rfl) T.list_ boot_list (pa_cons (pv 0) pa_nil))))
      (pss_cons (ps_for PassesOwn.never rfl (pi_listK (K:=K) rfl (pv 3)) (pg_name (i:=6) sc_law_walked.nd rfl (by first | exact Or.inl rfl | exact Or.inr rfl)) (pss_cons (ps_if (pt_not (pt_val (pe_call G_law_can (hr.mono (by decide)) rfl E_law_can.mg E_law_can.fn.kp E_law_can.bd .nil pass0 (pa_cons (pv 5) (pa_cons (pv 6) pa_nil))))) (pss_one (ps_ret pe_bl)) pss_nil)
      (pss_one (ps_for PassesOwn.never rfl (pi_listK (K:=K) rfl (pe_lst (pa_cons (pe_ix (ix_tupK (K:=K) rfl) (pv 6) pe_int (fun _ _=>rfl)) (pa_cons (pe_ix (ix_tupK (K:=K) rfl) (pv 6) pe_int (fun _ _=>rfl)) pa_nil)))) (pg_name (i:=7) sc_law_walked.nd rfl (by first | exact Or.inl rfl | exact Or.inr rfl)) (pss_one (ps_for PassesOwn.never rfl (pi_listK (K:=K) rfl (pe_lst (pa_cons (pe_ix (ix_tupK (K:=K) rfl) (pv 6) pe_int (fun _ _=>rfl)) (pa_cons (pe_ix (ix_tupK (K:=K) rfl) (pv 6) pe_int (fun _ _=>rfl)) pa_nil)))) (pg_name (i:=8) sc_law_walked.nd rfl (by first | exact Or.inl rfl | exact Or.inr rfl)) (pss_one (ps_asg (pe_op op_sub pe_int (pe_ix (ix_listK (K:=K) rfl) (pe_ix (ix_listK (K:=K) rfl) (pv 5) (pv 7) (fun _ _=>rfl)) (pv 8) (fun _ _=>rfl))) (pg_sub (pe_ix (ix_listK (K:=K) rfl) (pv 5) (pv 7) (fun _ _=>rfl)) (pv 8) set_list)))))))))
      (pss_cons (ps_expr (pe_bm0 PySem.F.plainAttrs_list PySem.F.slot_list_clear PySem.F.type_list_clear mt_clear (pv 3)))
      (pss_one (ps_ret (pe_cmpR (op_eqL hr.units) (pv 5) (pv 1) (nomark _)))))))))))),fn_val (Γn:=[5,3]) (N:=N_law_walked) (st_seq (ST.post (Γn:=[]) (st_setS 2 (EM.es (em_lst (am_cons0 (em_comp0 (it_list (es_var 0)) (gt_name 0) (em_cb c_list (ar_cons (ES.er (es_var 0)) ar_nil))) (am_cons0 (em_comp0 (it_list (es_var 1)) (gt_name 0) (em_cb c_list (ar_cons (ES.er (es_var 0)) ar_nil))) am_nil))))))
      (st_seq (ST.post (Γn:=[3]) (st_setM (M:=[]) 3 (em_noX mono_swaps_between (ar_cons (ES.er (es_ixL (es_var 2) (EM.er em_int))) (ar_cons (ES.er (es_ixL (es_var 2) (EM.er em_int))) ar_nil)))))
      (st_seq (st_if (tr_or (tr_not (tr_b (EM.er (em_isinst kit_list (er_var 3))))) (tr_test (EM.er (em_op o_neL (ES.er (es_var 2)) (er_lst (ar_cons (ES.er (es_var 0)) (ar_cons (ES.er (es_var 1)) ar_nil))))))) (st_ret (M:=[]) em_bl) st_next)
      (st_seq (ST.post (Γn:=[3]) (st_setS 4 (EM.es (em_cb c_sum (ar_cons (EM.er (em_comp0 (it_zip (es_var 0) (es_var 1)) (gt_tup (gts_cons (gt_name 0) (gts_cons (gt_name 1) gts_nil))) (em_cb c_len (ar_cons (EM.er (em_comp (it_rng1 (ar_cons (EM.er (em_cb c_len (ar_cons (ES.er (es_var 0)) ar_nil))) ar_nil)) (gt_name 0) (tr_test (EM.er (em_op o_bl (ES.er (es_ixL (es_var 1) (ES.er (es_var 0)))) (ES.er (es_ixL (es_var 2) (ES.er (es_var 0))))))) (ER.scal (ES.er (es_var 0))))) ar_nil)))) ar_nil)))))
      (st_seq (st_if (tr_test (EM.er (em_op o_bl (EM.er (em_cb c_len (ar_cons (er_var 3) ar_nil))) (EM.er (em_cb c_max2 (ar_cons (EM.er em_int) (ar_cons (EM.er (em_op o_int (ES.er (es_var 4)) (EM.er em_int))) ar_nil))))))) (st_ret (M:=[]) em_bl) st_next)
      (st_seq (ST.post (Γn:=[5,3]) (st_setM (M:=[]) 5 (em_comp0 (it_list (es_var 0)) (gt_name 0) (em_cb c_list (ar_cons (ES.er (es_var 0)) ar_nil)))))
      (st_seq (st_forO 3 6 (st_seq (st_if (tr_not (tr_b (EM.er (em_call (S:=S_law_can) mono_law_can (ar_cons (er_var 5) (ar_cons (ES.er (es_var 6)) ar_nil)))))) (st_ret (M:=[]) em_bl) st_next)
      (st_for (it_list (EM.es (em_lst (am_cons0 (ER.scal (ES.er (es_ixT (es_var 6) (EM.er em_int)))) (am_cons0 (ER.scal (ES.er (es_ixT (es_var 6) (EM.er em_int)))) am_nil))))) (gt_name 7) (st_for (it_list (EM.es (em_lst (am_cons0 (ER.scal (ES.er (es_ixT (es_var 6) (EM.er em_int)))) (am_cons0 (ER.scal (ES.er (es_ixT (es_var 6) (EM.er em_int)))) am_nil))))) (gt_name 8) (st_setItem2 5 (em_op o_int (EM.er em_int) (er_ixL (er_ixL (er_var 5) (ES.er (es_var 7))) (ES.er (es_var 8)))) (ES.er (es_var 7)) (ES.er (es_var 8)))))))
      (st_seq (st_clear 3)
      (st_ret (M:=[]) (em_op o_eqL (er_var 5) (ES.er (es_var 1)))))))))))) (fun ds P hS=>?_) h⟩
  obtain ⟨t,o,n,m,rfl,hT,hO,n1,n8,m1,m8,hr,hc,hP⟩:=hS
  rw[show startD N_law_walked [dT t,dT o]=[some (dT t),some (dT o),none,none,none,none,none,none,none] from rfl]
  have lt:=hT.1.1
  have lo:=hO.1.1
  refine peel fun R1 e1=>?_
  walk_at "go"
  refine comp_copy (t:=t) (fun R h=>by walk_at "go";exact h) (by omega) (fun r hr R h=>by walk_at "gb";exact h) ?_
  refine comp_copy (t:=o) (fun R h=>by walk_at "go";exact h) (by omega) (fun r hr R h=>by walk_at "gb";exact h) ?_
  walk_at "go"
  subst e1
  refine peel fun R1 e1=>?_
  walk_at "go"
  refine⟨t,o,n,m,n,m,rfl,hT,hO,n1,n8,m1,m8,n1,n8,m1,m8,fun ss _ _ hg h64 hap=>?_,fun z=>absurd ⟨rfl,rfl,hr,hc⟩ z⟩
  walk_at "go"
  subst e1
  refine peel fun R1 e1=>?_
  walk_at "go"
  refine neq_tabs (l:=t) (h:=o) ?_
  walk_at "go"
  subst e1
  refine peel fun R1 e1=>?_
  walk_at "go"
  refine comp_all (as:=List.range n) (f:=fun a=>L3.D.tup [dI (rowAt t a),dI (rowAt o a)]) (g:=fun a=>.int ((((List.range m).filter fun b=>decide (cellAt o a b<cellAt t a b)).length:Nat):Int)) (fun R h=>?_) (by rw[List.length_range];omega) (fun a ha R h=>?_) ?_
  · unfold vZip
    walk_at "go"
    rw[zip_rows (by omega),lt]
    exact h
  · have ha:=List.mem_range.mp ha
    have l1:=hT.1.row ha
    have l2:=hO.1.row ha
    walk_at "gb"
    refine comp_rngF (lo:=0) (n:=m) (p:=fun b=>decide (cellAt o a b<cellAt t a b)) (g:=fun (b:Nat)=>.int (b:Int)) (fun R h=>?_) (by omega) (fun b hb R h=>?_) ?_
    · walk_at "gb"
      rw[l1]
      exact h
    · walk_at "gb"
      rw[Int.zero_add]
      refine asO_ints (by omega) ?_
      rw[Int.toNat_natCast]
      walk_at "gb"
      refine asO_ints (by omega) ?_
      rw[Int.toNat_natCast]
      walk_at "gb"
      by_cases e:cellAt o a b<cellAt t a b
      · rw[if_pos (show (rowAt o a).getD b 0<(rowAt t a).getD b 0 from e)]
        rw[decide_eq_true e] at h
        exact h
      · rw[if_neg (show ¬ (rowAt o a).getD b 0<(rowAt t a).getD b 0 from e)]
        rw[decide_eq_false e] at h
        exact h
    walk_at "gb"
    exact h
  rw[map_int]
  walk_at "go"
  have eap:((List.range n).map fun a=>((((List.range m).filter fun b=>decide (cellAt o a b<cellAt t a b)).length:Nat):Int)).sum=Rg.apart n m t o:=by
    show sN n _=sN n _
    refine sN_congr fun a _=>?_
    rw[flen]
    refine sN_congr fun b _=>?_
    unfold Rg.pos
    simp only[decide_eq_true_eq]
  rw[eap]
  subst e1
  refine peel fun R1 e1=>?_
  walk_at "go"
  have nlt:¬ (if Rg.apart n m t o - 1>0 then Rg.apart n m t o - 1 else 0)<(ss.length:Int):=by
    rcases hap with ⟨_,rfl⟩ | h
    · split<;>simp<;>omega
    · split<;>omega
  rw[if_neg nlt]
  subst e1
  refine peel fun R1 e1=>?_
  walk_at "go"
  refine comp_copy (t:=t) (fun R h=>by walk_at "go";exact h) (by omega) (fun r hr R h=>by walk_at "gb";exact h) ?_
  walk_at "go"
  subst e1
  refine peel fun R1 e1=>?_
  refine⟨ss.map dS4,rfl,flat_S4,tp_S4,fun pa=>?_⟩
  refine loop_any (as:=ss) (f:=dS4) (fun i δ=>∃(u:List (List Int)) (o6 o7 o8:Option D),δ=[some (dT t),some (dT o),some (.lst [dT t,dT o]),some (.pin pa (.lst (ss.map dS4))),some (.int (Rg.apart n m t o)),some (dT u),o6,o7,o8]∧Rg.goT n m t (ss.take i)=some u∧CO o6∧CO o7∧CO o8) ⟨t,none,none,none,rfl,rfl,CO.non,CO.non,CO.non⟩ ?_ ?_
  · rintro i q δ N e ⟨u,o6,o7,o8,rfl,hgu,k6,k7,k8⟩ hN
    obtain ⟨hi,eq⟩:=List.getElem?_eq_some_iff.mp e
    have kp:=Rg.goT_kp hT hgu
    obtain ⟨qi,qj,qk,ql⟩:=q
    have hgo:Rg.goT n m u ((qi,qj,qk,ql)::ss.drop (i+1))=some o:=by
      rw[← Rg.goT_app hgu,← eq,← List.drop_eq_getElem_cons hi,List.take_append_drop];exact hg
    have can:CanSwap n m u qi qj qk ql:=Classical.byContradiction fun z=>by rw[Rg.goT_no z] at hgo;cases hgo
    have nxt:Rg.goT n m t (ss.take (i+1))=some (swapped u qi.toNat qj.toNat qk.toNat ql.toNat):=by
      rw[List.take_add_one,e]
      show Rg.goT n m t (ss.take i++[(qi,qj,qk,ql)])=_
      rw[Rg.goT_app hgu,Rg.goT_ok can];rfl
    have lu:=kp.on.1.1
    obtain ⟨bi,bk,bj,bl,c1,c2,c3,c4⟩:=id can
    walk_at "go"
    refine⟨u,n,m,qi,qj,qk,ql,rfl,kp.on.1,n1,n8,m1,m8,can,?_⟩
    have e4:dS4 (qi,qj,qk,ql)=L3.D.tup [.int qi,.int qj,.int qk,.int ql]:=rfl
    have njl:qj.toNat≠ql.toNat:=fun z=>by rw[z] at c1;omega
    have nik:qi.toNat≠qk.toNat:=fun z=>by rw[z] at c1;omega
    have inn:∀(w:List (List Int)) (r:Int) (o8:Option D) (x y:Int) (E:DEnds),Rect n m w→0≤r∧r<n→cellAt w r.toNat qj.toNat=x→cellAt w r.toNat ql.toNat=y→CO o8 →
        (∀o8',CO o8'→E.nx [some (dT t),some (dT o),some (.lst [dT t,dT o]),some (.pin pa (.lst (ss.map dS4))),some (.int (Rg.apart n m t o)),some (dT (setCell (setCell w r.toNat qj.toNat (1 - x)) r.toNat ql.toNat (1 - y))),some (L3.D.tup [.int qi,.int qj,.int qk,.int ql]),some (.int r),o8']) →
        vFor (vItL (vLst (vCons (vScal (vOp vIxT (vVar 6) (vC (L3.D.int 1)))) (vCons (vScal (vOp vIxT (vVar 6) (vC (L3.D.int 3)))) vNil)))) (vgName 8) (vSetItem2 5 (vOp (vI0 fun i j=>L3.D.int (i - j)) (vC (L3.D.int 1)) (vOp vIxL (vOp vIxL (vVar 5) (vVar 7)) (vVar 8))) (vVar 7) (vVar 8)) E
          [some (dT t),some (dT o),some (.lst [dT t,dT o]),some (.pin pa (.lst (ss.map dS4))),some (.int (Rg.apart n m t o)),some (dT w),some (L3.D.tup [.int qi,.int qj,.int qk,.int ql]),some (.int r),o8]:=by
      intro w r o8 x y E hw hr ex ey k8 hE
      have lw:=hw.1
      have rr:=hw.row (i:=r.toNat) (by omega)
      have hw1:=hw.setCell (i:=r.toNat) (j:=qj.toNat) (v:=1 - x) (by omega)
      have rr1:=hw1.row (i:=r.toNat) (by omega)
      have lw1:=hw1.1
      obtain ⟨st,h0,h1,h2⟩:∃st:Nat→List (List Int),st 0=w∧st 1=setCell w r.toNat qj.toNat (1 - x)∧st 2=setCell (setCell w r.toNat qj.toNat (1 - x)) r.toNat ql.toNat (1 - y):=⟨fun i=>if i=0 then w else if i=1 then setCell w r.toNat qj.toNat (1 - x) else setCell (setCell w r.toNat qj.toNat (1 - x)) r.toNat ql.toNat (1 - y),rfl,rfl,rfl⟩
      have ey1:cellAt (setCell w r.toNat qj.toNat (1 - x)) r.toNat ql.toNat=y:=by rw[cell_set hw (by omega) (by omega),if_neg (fun z=>njl z.2)];exact ey
      walk_at "go"
      refine loop_any (as:=[qj,ql]) (f:=L3.D.int) (fun i δ=>∃o8',CO o8'∧δ=[some (dT t),some (dT o),some (.lst [dT t,dT o]),some (.pin pa (.lst (ss.map dS4))),some (.int (Rg.apart n m t o)),some (dT (st i)),some (L3.D.tup [.int qi,.int qj,.int qk,.int ql]),some (.int r),o8']) ⟨o8,k8,by rw[h0]⟩ ?_ ?_
      · rintro i b δ N e ⟨o8',k8',rfl⟩ hN
        have:i=0∨i=1:=by have:=(List.getElem?_eq_some_iff.mp e).1;simp at this;omega
        rcases this with rfl | rfl
        · cases e
          rw[h0]
          refine setItem2_tab (t:=w) (a:=r) (b:=qj) (v:=1 - x) rfl (fun R h=>?_) (fun R h=>?_) (fun R h=>?_) (by omega) (by omega) ?_
          · walk_at "v"
            refine asO_cell hw (by omega) (by omega) ?_
            rw[ex]
            walk_at "v"
            exact h
          · walk_at "v"
            exact h
          · walk_at "v"
            exact h
          · exact hN _ ⟨_,CO.int,by rw[h1];rfl⟩
        · cases e
          rw[h1]
          refine setItem2_tab (t:=setCell w r.toNat qj.toNat (1 - x)) (a:=r) (b:=ql) (v:=1 - y) rfl (fun R h=>?_) (fun R h=>?_) (fun R h=>?_) (by omega) (by omega) ?_
          · walk_at "v"
            refine asO_cell hw1 (by omega) (by omega) ?_
            rw[ey1]
            walk_at "v"
            exact h
          · walk_at "v"
            exact h
          · walk_at "v"
            exact h
          · exact hN _ ⟨_,CO.int,by rw[h2];rfl⟩
      · rintro δ ⟨o8',k8',rfl⟩
        rw[show ([qj,ql]:List Int).length=2 from rfl,h2]
        exact hE o8' k8'
    have U1:=kp.on.1.setCell (i:=qi.toNat) (j:=qj.toNat) (v:=1 - 1) (by omega)
    have U2:=U1.setCell (i:=qi.toNat) (j:=ql.toNat) (v:=1 - 0) (by omega)
    have d3:cellAt (setCell (setCell u qi.toNat qj.toNat (1 - 1)) qi.toNat ql.toNat (1 - 0)) qk.toNat qj.toNat=0:=by rw[cell_set U1 (by omega) (by omega),if_neg (fun z=>nik z.1),cell_set kp.on.1 (by omega) (by omega),if_neg (fun z=>nik z.1)];exact c3
    have d4:cellAt (setCell (setCell u qi.toNat qj.toNat (1 - 1)) qi.toNat ql.toNat (1 - 0)) qk.toNat ql.toNat=1:=by rw[cell_set U1 (by omega) (by omega),if_neg (fun z=>nik z.1),cell_set kp.on.1 (by omega) (by omega),if_neg (fun z=>nik z.1)];exact c4
    obtain ⟨st,h0,h1,h2⟩:∃st:Nat→List (List Int),st 0=u∧st 1=setCell (setCell u qi.toNat qj.toNat (1 - 1)) qi.toNat ql.toNat (1 - 0)∧st 2=swapped u qi.toNat qj.toNat qk.toNat ql.toNat:=⟨fun i=>if i=0 then u else if i=1 then setCell (setCell u qi.toNat qj.toNat (1 - 1)) qi.toNat ql.toNat (1 - 0) else swapped u qi.toNat qj.toNat qk.toNat ql.toNat,rfl,rfl,rfl⟩
    rw[e4]
    walk_at "go"
    refine loop_any (as:=[qi,qk]) (f:=L3.D.int) (fun i δ=>∃o7' o8',CO o7'∧CO o8'∧δ=[some (dT t),some (dT o),some (.lst [dT t,dT o]),some (.pin pa (.lst (ss.map dS4))),some (.int (Rg.apart n m t o)),some (dT (st i)),some (L3.D.tup [.int qi,.int qj,.int qk,.int ql]),o7',o8']) ⟨o7,o8,k7,k8,by rw[h0]⟩ ?_ ?_
    · rintro i' b δ N' e' ⟨o7',o8',k7',k8',rfl⟩ hN'
      have:i'=0∨i'=1:=by have:=(List.getElem?_eq_some_iff.mp e').1;simp at this;omega
      rcases this with rfl | rfl
      · cases e'
        rw[h0]
        exact inn u qi o8' 1 0 _ kp.on.1 bi c1 c2 k8' fun o8'' k8''=>hN' _ ⟨_,_,CO.int,k8'',by rw[h1]⟩
      · cases e'
        rw[h1]
        exact inn _ qk o8' 0 1 _ U2 bk d3 d4 k8' fun o8'' k8''=>hN' _ ⟨_,_,CO.int,k8'',by rw[h2];rfl⟩
    · rintro δ ⟨o7',o8',k7',k8',rfl⟩
      rw[show ([qi,qk]:List Int).length=2 from rfl,h2]
      exact hN _ ⟨_,_,_,_,rfl,nxt,CO.s4 (q:=(qi,qj,qk,ql)),k7',k8'⟩
  · rintro δ ⟨u,o6,o7,o8,rfl,hgu,k6,k7,k8⟩
    rw[List.take_length,hg] at hgu
    cases hgu
    refine⟨rfl,fun j d hj hjg hd=>?_,?_⟩
    · match j,hj,hjg,hd with
      | 0,_,_,h=>cases h;exact cl_dT hT.1 n1 m1
      | 1,_,_,h=>cases h;exact cl_dT hO.1 n1 m1
      | 2,_,_,h=>cases h;rw[L3.D.clean,L3.D.cleans,L3.D.cleans,L3.D.cleans,cl_dT hT.1 n1 m1,cl_dT hO.1 n1 m1];rfl
      | 4,_,_,h=>cases h;rw[L3.D.clean]
      | 6,_,_,h=>exact k6 d (Option.some.inj h)
      | 7,_,_,h=>exact k7 d (Option.some.inj h)
      | 8,_,_,h=>exact k8 d (Option.some.inj h)
      | 3,hj,_,_=>exact absurd rfl hj
      | 5,_,hg',_=>exact absurd (by decide) hg'
      | _+9,_,_,h=>cases h
    · subst e1
      walk_at "go"
      refine vEqL_rows ?_
      rw[if_neg (by decide),decide_eq_true rfl]
      exact hP
def S_law_refused:DSp:=fun ds P=>∃(t o:List (List Int)) (n m n' m':Nat),ds=[dT t,dT o]∧Ones n m t∧Ones n' m' o∧1≤n∧n≤8∧1≤m∧m≤8∧1≤n'∧n'≤8∧1≤m'∧m'≤8∧¬ (n=n'∧m=m'∧(∀a,a<n→rsum t a=rsum o a)∧∀b,b<m→csum t b=csum o b)∧P (.bl true)
theorem mono_law_refused:DMono S_law_refused:=by
  intro xs P P' k h
  unfold S_law_refused at h ⊢
  grind
theorem len_law_refused:∀ds P,S_law_refused ds P→ds.length=2:=by
  intro ds P h
  obtain ⟨_,_,_,_,_,_,e,_⟩:=h
  rw[e];rfl
theorem ok_law_refused {f:Addr}{fd:FuncData} (F:FnAt K mg "_law_refused" s_law_refused P_law_refused f fd) (A_:Fns K mg) (T:Txt K mg) {c:Cs} (xs:Exs K mg base c):FnOk P w K mg base CX0 6 f fd P_law_refused (spP K S_law_refused):=by
  obtain ⟨f0,d0,E_swaps_between⟩:=A_.h_swaps_between
  have G_swaps_between:FnOk P w K mg base (CXR P w) 5 f0 d0 P_swaps_between (spX K (S_swaps_between c)):=ok_swaps_between E_swaps_between A_ T xs
  refine F.fn.ok sc_law_refused (fun vs H Q E h=>spP_len len_law_refused h) (fun cdv A outer s H vs Q E hr h=>?_)
  refine⟨_,(pss_cons (ps_set (i:=2) sc_law_refused.nd rfl (by first | exact Or.inl rfl | exact Or.inr rfl) pe_int)
      (pss_cons (ps_try (i:=3) rfl rfl G_swaps_between (hr.mono (by decide)) rfl E_swaps_between.mg E_swaps_between.fn.kp E_swaps_between.bd (pa_cons (pv 0) (pa_cons (pv 1) pa_nil)) xs.o_NotAlike xs.o_NotAlike xs.m_NotAlike rfl (by simp) sc_law_refused.nd rfl rfl (fun a oe hc=>(pss_cons (ps_set (i:=2) sc_law_refused.nd rfl (by first | exact Or.inl rfl | exact Or.inr rfl) pe_int)
      (pss_cons (ps_if (pt_val (pe_callB (call_isx hc xs.k_NotAlike) (by rfl) T.isinstance_ boot_isinstance (pa_cons (pv 3) (pa_cons (pe_tup (pa_cons (pe_glob (v:=.ref c.NoBottom) rfl xs.m_NoBottom rfl) (pa_cons (pe_glob (v:=.ref c.NoTable) rfl xs.m_NoTable rfl) (pa_cons (pe_glob (v:=.ref c.NoStep) rfl xs.m_NoStep rfl) (pa_cons (pe_glob (v:=.ref c.NoMix) rfl xs.m_NoMix rfl) (pa_cons (pe_glob (v:=.ref c.NotEven) rfl xs.m_NotEven rfl) (pa_cons (pe_glob (v:=.ref c.NoSwap) rfl xs.m_NoSwap rfl) pa_nil))))))) pa_nil)))) (pss_one (ps_set (i:=2) sc_law_refused.nd rfl (by first | exact Or.inl rfl | exact Or.inr rfl) pe_int)) pss_nil)
      (pss_one (ps_if (pt_val (pe_callB (call_isx hc xs.k_NotAlike) (by rfl) T.isinstance_ boot_isinstance (pa_cons (pv 3) (pa_cons (pe_tup (pa_cons (pe_glob (v:=.ref c.NoBounds) rfl xs.m_NoBounds rfl) (pa_cons (pe_glob (v:=.ref c.NoPlace) rfl xs.m_NoPlace rfl) (pa_cons (pe_glob (v:=.ref c.NoSums) rfl xs.m_NoSums rfl) (pa_cons (pe_glob (v:=.ref c.TooGreat) rfl xs.m_TooGreat rfl) (pa_cons (pe_glob (v:=.ref c.NoNumber) rfl xs.m_NoNumber rfl) (pa_cons (pe_glob (v:=.ref c.NoText) rfl xs.m_NoText rfl) pa_nil))))))) pa_nil)))) (pss_one (ps_set (i:=2) sc_law_refused.nd rfl (by first | exact Or.inl rfl | exact Or.inr rfl) pe_int)) pss_nil))))))
      (pss_cons (ps_if (pt_cmpR op_ne (pv 2) pe_int (nomark _)) (pss_one (ps_ret pe_bl)) pss_nil)
      (pss_cons (ps_try (i:=3) rfl rfl G_swaps_between (hr.mono (by decide)) rfl E_swaps_between.mg E_swaps_between.fn.kp E_swaps_between.bd (pa_cons (pv 0) (pa_cons (pv 1) pa_nil)) xs.o_NotAlike xs.o_MixError xs.m_MixError rfl (by simp) sc_law_refused.nd rfl rfl (fun a oe hc=>(pss_one (ps_set (i:=2) sc_law_refused.nd rfl (by first | exact Or.inl rfl | exact Or.inr rfl) (pe_op op_mulB pe_int (pe_callTy call_int1 (by rfl) T.int_ boot_int (pa_cons (pe_callB (call_isx hc xs.k_NotAlike) (by rfl) T.isinstance_ boot_isinstance (pa_cons (pv 3) (pa_cons (pe_bltn (v:=.ty "ValueError") rfl T.ValueError_ (by rfl) rfl) pa_nil))) pa_nil)))))))
      (pss_one (ps_ret (pe_cmpR op_eq (pv 2) pe_int (nomark _)))))))),fn_val (Γn:=[]) (N:=N_law_refused) (st_seq (ST.post (Γn:=[]) (st_setS 2 (EM.es em_int)))
      (st_seq (st_tryI 3 mono_swaps_between (ar_cons (ES.er (es_var 0)) (ar_cons (ES.er (es_var 1)) ar_nil)) (sti_seq (sti_set 2 (EM.es em_int)) (sti_seq (sti_if (b:=false) (fun a σ H Q hi q=>isx_tup (fun _ _ _ h=>h) (by simp) xs.t1 hi (fun H' s=>⟨_,rfl,q H' s⟩)) (sti_set 2 (EM.es em_int)) sti_next) (sti_if (b:=false) (fun a σ H Q hi q=>isx_tup (fun _ _ _ h=>h) (by simp) xs.t2 hi (fun H' s=>⟨_,rfl,q H' s⟩)) (sti_set 2 (EM.es em_int)) sti_next))))
      (st_seq (st_if (tr_test (EM.er (em_op o_ne (ES.er (es_var 2)) (EM.er em_int)))) (st_ret (M:=[]) em_bl) st_next)
      (st_seq (st_tryI 3 mono_swaps_between (ar_cons (ES.er (es_var 0)) (ar_cons (ES.er (es_var 1)) ar_nil)) (sti_know 2 (n:=3) (fun a σ H Q hi q=>isx_one xs.v_NotAlike hi (.inr ⟨true,rfl,⟨3,1,rfl,rfl,⟨64,64,by decide,by decide,by decide⟩,q _ (Same.refl _)⟩⟩))))
      (st_ret (M:=[]) (em_op o_eq (ES.er (es_var 2)) (EM.er em_int))))))) (fun ds P hS=>?_) h⟩
  obtain ⟨t,o,n,m,n',m',rfl,hT,hO,n1,n8,m1,m8,n1',n8',m1',m8',hne,hP⟩:=hS
  rw[show startD N_law_refused [dT t,dT o]=[some (dT t),some (dT o),none,none] from rfl]
  walk_at "go"
  refine⟨t,o,n,m,n',m',rfl,hT,hO,n1,n8,m1,m8,n1',n8',m1',m8',fun ss en em hg _ _=>absurd ?_ hne,fun _=>?_⟩
  · subst en
    subst em
    have kp:=Rg.goT_kp hT hg
    exact⟨rfl,rfl,fun a _=>(kp.rs a).symm,fun b _=>(kp.cs b).symm⟩
  · refine⟨rfl,by decide,t,o,n,m,n',m',rfl,hT,hO,n1,n8,m1,m8,n1',n8',m1',m8',fun ss en em hg _ _=>absurd ?_ hne,fun _=>⟨rfl,?_⟩⟩
    · subst en
      subst em
      have kp:=Rg.goT_kp hT hg
      exact⟨rfl,rfl,fun a _=>(kp.rs a).symm,fun b _=>(kp.cs b).symm⟩
    · rw[decide_true]
      exact hP
theorem cut_from1 {α:Type}{as:List α}{f:α→D}:L3.cutD (as.map f) (some 1) none=(as.drop 1).map f:=by
  unfold L3.cutD
  rw[List.length_map,HT.sIx_none,show (some (1:Int))=some ((1:Nat):Int) from rfl,HT.sIx_nat,List.map_drop]
  rcases Nat.lt_or_ge as.length 1 with h | h
  · have:as=[]:=List.length_eq_zero_iff.mp (by omega)
    subst this;rfl
  · rw[Nat.min_eq_left h,List.take_of_length_le (by rw[List.length_drop,List.length_map];exact Nat.le_refl _)]
theorem ones_rep {n m:Nat}{x:Int} (hx:x=0∨x=1):Ones n m ((List.range n).map fun _=>List.replicate m x):=⟨⟨by rw[List.length_map,List.length_range],fun r hr=>by
  obtain ⟨_,_,rfl⟩:=List.mem_map.mp hr
  exact List.length_replicate⟩,fun r hr y hy=>by
  obtain ⟨_,_,rfl⟩:=List.mem_map.mp hr
  rw[(List.mem_replicate.mp hy).2];exact hx⟩
theorem rep_one {m:Nat}{x:Int}:repD [L3.D.int x] m=(List.replicate m x).map L3.D.int:=by
  unfold repD
  rw[List.map_replicate]
  induction m with
  | zero=>rfl
  | succ m ih=>rw[List.replicate_succ,List.replicate_succ,List.flatten_cons,ih];rfl
def S_law_flipped:DSp:=fun ds P=>∃(ns:List Int) (n m:Nat),ds=[.scr ns,.int (n:Int),.int (m:Int)]∧ns.length≤63∧1≤n∧n≤8∧1≤m∧m≤8∧∀t:List (List Int),Ones n m t→P (dT t)
theorem mono_law_flipped:DMono S_law_flipped:=by
  intro xs P P' k h
  unfold S_law_flipped at h ⊢
  grind
theorem len_law_flipped:∀ds P,S_law_flipped ds P→ds.length=3:=by
  intro ds P h
  obtain ⟨_,_,_,e,_⟩:=h
  rw[e];rfl
theorem ok_law_flipped {f:Addr}{fd:FuncData} (F:FnAt K mg "_law_flipped" s_law_flipped P_law_flipped f fd) (A_:Fns K mg) (T:Txt K mg) {c:Cs} (xs:Exs K mg base c):FnOk P w K mg base CX0 2 f fd P_law_flipped (spP K S_law_flipped):=by
  obtain ⟨f0,d0,E_law_cell_at⟩:=A_.h_law_cell_at
  have G_law_cell_at:FnOk P w K mg base CX0 1 f0 d0 P_law_cell_at (spP K S_law_cell_at):=ok_law_cell_at E_law_cell_at A_ T xs
  refine F.fn.ok sc_law_flipped (fun vs H Q E h=>spP_len len_law_flipped h) (fun cdv A outer s H vs Q E hr h=>?_)
  refine⟨_,(pss_cons (ps_setC0 (i:=3) (CompScope.of (sc0:=(defScope s_law_flipped)) (tn:=["_law_row"]) (cap:=["_law_script","_law_wide"]) (idx:=[0,2]) (by decide +kernel) rfl rfl) sc_law_flipped.nd rfl (by first | exact Or.inl rfl | exact Or.inr rfl) (pi_range1 rfl T.range_ (pa_cons (pv 1) pa_nil)) (GSet.name (by decide)) (fun _ _ _ _ _=>pg_name (i:=0) (nodupB_iff (l:=["_law_row","_law_script","_law_wide"]) (by decide +kernel)) rfl (by first | exact Or.inl rfl | exact Or.inr rfl) (by first | exact .inl rfl | exact .inr rfl)) (fun _ _ _ _ _=>(pe_op op_rep (pe_lst (pa_cons (pe_op op_mod (pe_op op_fdivB (pe_call G_law_cell_at (hr.mono (by decide)) rfl E_law_cell_at.mg E_law_cell_at.fn.kp E_law_cell_at.bd .nil pass0 (pa_cons (pv 1) (pa_cons pe_int pa_nil))) pe_int) pe_int) pa_nil)) (pv 2))))
      (pss_cons (ps_for PassesOwn.never rfl (pi_listK (K:=K) rfl (pe_slice (sl_listK (K:=K) rfl) (pv 0) (po_some pe_int) po_none)) (pg_name (i:=4) sc_law_flipped.nd rfl (by first | exact Or.inl rfl | exact Or.inr rfl)) (pss_cons (ps_set (i:=5) sc_law_flipped.nd rfl (by first | exact Or.inl rfl | exact Or.inr rfl) (pe_ix (ix_listK (K:=K) rfl) (pv 3) (pe_op op_mod (pv 4) (pv 1)) (fun _ _=>rfl)))
      (pss_cons (ps_set (i:=6) sc_law_flipped.nd rfl (by first | exact Or.inl rfl | exact Or.inr rfl) (pe_op op_mod (pe_op op_fdivB (pv 4) (pv 1)) (pv 2)))
      (pss_one (ps_asg (pe_op op_sub pe_int (pe_ix (ix_listK (K:=K) rfl) (pv 5) (pv 6) (fun _ _=>rfl))) (pg_sub (pv 5) (pv 6) set_list))))))
      (pss_one (ps_ret (pv 3))))),fn_val (Γn:=[3]) (N:=N_law_flipped) (st_seq (ST.post (Γn:=[3]) (st_setM (M:=[]) 3 (em_comp0 (it_rng1 (ar_cons (ES.er (es_var 1)) ar_nil)) (gt_name 0) (em_op o_rep (EM.er (em_lst (am_cons0 (em_op o_intC (EM.er (em_op o_intC (EM.er (em_call (S:=S_law_cell_at) mono_law_cell_at (ar_cons (ES.er (es_var 1)) (ar_cons (EM.er em_int) ar_nil)))) (EM.er em_int))) (EM.er em_int)) am_nil))) (ES.er (es_var 2))))))
      (st_seq (st_for (it_list (EM.es (em_sl (ES.er (es_var 0)) (or_some (EM.er em_int)) or_none))) (gt_name 4) (st_alias 3 5 (EM.er (em_op o_intC (ES.er (es_var 4)) (ES.er (es_var 1)))) (sta_seq (sta_set 6 (EM.er (em_op o_intC (EM.er (em_op o_intC (ES.er (es_var 4)) (ES.er (es_var 1)))) (ES.er (es_var 2))))) (sta_put (EM.er (em_op o_int (EM.er em_int) (ES.er (es_ixL (es_var 5) (ES.er (es_var 6)))))) (ES.er (es_var 6))))))
      (st_ret (M:=[3]) (em_var 3)))) (fun ds P hS=>?_) h⟩
  obtain ⟨ns,n,m,rfl,hz,n1,n8,m1,m8,hP⟩:=hS
  rw[show startD N_law_flipped [.scr ns,.int (n:Int),.int (m:Int)]=[some (.scr ns),some (.int (n:Int)),some (.int (m:Int)),none,none,none,none] from rfl]
  obtain ⟨x,hx⟩:∃x,ns.getD (0:Int).toNat 0=x:=⟨_,rfl⟩
  have x2:=emod_lt (x:=x / 64) (n:=2) (by omega)
  refine peel fun R1 e1=>?_
  walk_at "go"
  refine comp_rng (lo:=0) (n:=n) (g:=fun (_:Nat)=>dI (List.replicate m (x / 64 % 2))) (fun R h=>?_) (by omega) (fun i hi R h=>?_) ?_
  · walk_at "go"
    exact h
  · walk_at "gb"
    refine cell_at (by omega) ?_
    rw[hx]
    walk_at "gb"
    rw[rep_one]
    first | exact h | exact⟨rfl,h⟩ | exact⟨⟨rfl,by omega,by omega⟩,h⟩
  rw[map_dI]
  walk_at "go"
  subst e1
  refine peel fun R1 e1=>?_
  walk_at "go"
  rw[cut_from1]
  refine loop_any (as:=ns.drop 1) (f:=L3.D.int) (fun i δ=>∃(t:List (List Int)) (o4 o6:Option D),δ=[some (.scr ns),some (.int (n:Int)),some (.int (m:Int)),some (dT t),o4,none,o6]∧Ones n m t) ⟨_,none,none,rfl,ones_rep (by omega)⟩ ?_ ?_
  · rintro i b δ N e ⟨t,o4,o6,rfl,hT⟩ hN
    have lt:=hT.1.1
    have a1:=emod_lt (x:=b) (n:=(n:Int)) (by omega)
    have a2:=emod_lt (x:=b / n) (n:=(m:Int)) (by omega)
    obtain ⟨p,hp⟩:∃p:Nat,b % (n:Int)=p:=⟨(b % (n:Int)).toNat,by omega⟩
    obtain ⟨q,hq⟩:∃q:Nat,b / (n:Int) % m=q:=⟨(b / (n:Int) % m).toNat,by omega⟩
    have lr:=hT.1.row (i:=p) (by omega)
    have cb:=hT.cell (a:=p) (b:=q) (by omega) (by omega)
    walk_at "v"
    refine alias_tab (t:=t) (a:=(p:Int)) rfl (fun R h=>?_) (by simp only[List.length_cons,List.length_nil,List.length_set];omega) (by omega) ?_
    · walk_at "go"
      rw[hp]
      exact h
    rw[Int.toNat_natCast]
    walk_at "go"
    rw[hq]
    refine put_tab (t:=t) (r:=rowAt t p) (b:=q) (v:=1 - cellAt t p q) rfl rfl (fun R h=>?_) (fun R h=>?_) (by omega) ?_
    · walk_at "go"
      refine asO_ints (by omega) ?_
      rw[Int.toNat_natCast]
      walk_at "go"
      exact h
    · walk_at "go"
      exact h
    walk_at "go"
    exact hN _ ⟨_,_,_,rfl,hT.set (a:=p) (b:=q) (v:=1 - cellAt t p q) (by omega) (by omega)⟩
  · rintro δ ⟨t,o4,o6,rfl,hT⟩
    subst e1
    walk_at "go"
    exact hP t hT
theorem band1 {z:Int}:Builtin.bitAnd z 1=0∨Builtin.bitAnd z 1=1:=by
  unfold Builtin.bitAnd
  by_cases h:0≤z
  · rw[decide_eq_true h,decide_eq_true (show (0:Int)≤1 by decide)]
    have:z.toNat &&& (1:Int).toNat≤1:=Nat.and_le_right
    simp only
    omega
  · rw[decide_eq_false h,decide_eq_true (show (0:Int)≤1 by decide)]
    have:(1:Int).toNat &&& (Builtin.bitNot z).toNat≤1:=Nat.and_le_left
    simp only
    omega
def S_law_two:DSp:=fun ds P=>∃(ns:List Int),ds=[.scr ns]∧ns.length≤63∧∀(t u:List (List Int)) (n m:Nat),Ones n m t→Kept n m t u→1≤n→n≤8→1≤m→m≤8→P (.lst [dT t,dT u])
theorem mono_law_two:DMono S_law_two:=by
  intro xs P P' k h
  unfold S_law_two at h ⊢
  grind
theorem len_law_two:∀ds P,S_law_two ds P→ds.length=1:=by
  intro ds P h
  obtain ⟨_,e,_⟩:=h
  rw[e];rfl
theorem ok_law_two {f:Addr}{fd:FuncData} (F:FnAt K mg "_law_two" s_law_two P_law_two f fd) (A_:Fns K mg) (T:Txt K mg) {c:Cs} (xs:Exs K mg base c):FnOk P w K mg base CX0 3 f fd P_law_two (spP K S_law_two):=by
  obtain ⟨f0,d0,E_law_cell_at⟩:=A_.h_law_cell_at
  have G_law_cell_at:FnOk P w K mg base CX0 1 f0 d0 P_law_cell_at (spP K S_law_cell_at):=ok_law_cell_at E_law_cell_at A_ T xs
  obtain ⟨f1,d1,E_law_flipped⟩:=A_.h_law_flipped
  have G_law_flipped:FnOk P w K mg base CX0 2 f1 d1 P_law_flipped (spP K S_law_flipped):=ok_law_flipped E_law_flipped A_ T xs
  obtain ⟨f2,d2,E_law_swapped⟩:=A_.h_law_swapped
  have G_law_swapped:FnOk P w K mg base CX0 1 f2 d2 P_law_swapped (spI K 0 S_law_swapped):=ok_law_swapped E_law_swapped A_ T xs
  obtain ⟨f3,d3,E_law_one_swap⟩:=A_.h_law_one_swap
  have G_law_one_swap:FnOk P w K mg base CX0 1 f3 d3 P_law_one_swap (spI K 0 S_law_one_swap):=ok_law_one_swap E_law_one_swap A_ T xs
  refine F.fn.ok sc_law_two (fun vs H Q E h=>spP_len len_law_two h) (fun cdv A outer s H vs Q E hr h=>?_)
  refine⟨_,(pss_cons (ps_set (i:=1) sc_law_two.nd rfl (by first | exact Or.inl rfl | exact Or.inr rfl) (pe_call G_law_cell_at (hr.mono (by decide)) rfl E_law_cell_at.mg E_law_cell_at.fn.kp E_law_cell_at.bd .nil pass0 (pa_cons (pv 0) (pa_cons pe_int pa_nil))))
      (pss_cons (ps_set (i:=2) sc_law_two.nd rfl (by first | exact Or.inl rfl | exact Or.inr rfl) (pe_op op_add pe_int (pe_op op_mod (pv 1) pe_int)))
      (pss_cons (ps_set (i:=3) sc_law_two.nd rfl (by first | exact Or.inl rfl | exact Or.inr rfl) (pe_op op_add pe_int (pe_op op_mod (pe_op op_fdivB (pv 1) pe_int) pe_int)))
      (pss_cons (ps_if (PW.pt (pw_and (pt_cmpR op_eq (pe_op op_mod (pe_op op_fdivB (pv 1) pe_int) pe_int) pe_int (nomark _)) (pw_and1 (pt_cmpR op_gt (pe_callB (call_lenK (K:=K) rfl) (by rfl) T.len_ PySem.boot_len (pa_cons (pv 0) pa_nil)) pe_int (nomark _))))) (pss_cons (ps_setC0 (i:=4) (CompScope.of (sc0:=(defScope s_law_two)) (tn:=["_law_row"]) (cap:=["_law_script","_law_wide"]) (idx:=[0,3]) (by decide +kernel) rfl rfl) sc_law_two.nd rfl (by first | exact Or.inl rfl | exact Or.inr rfl) (pi_range1 rfl T.range_ (pa_cons (pv 2) pa_nil)) (GSet.name (by decide)) (fun _ _ _ _ _=>pg_name (i:=0) (nodupB_iff (l:=["_law_row","_law_script","_law_wide"]) (by decide +kernel)) rfl (by first | exact Or.inl rfl | exact Or.inr rfl) (by first | exact .inl rfl | exact .inr rfl)) (fun _ _ _ _ _=>(pe_comp0 (CompScope.of (sc0:=(relabelS _ (defScope s_law_two))) (tn:=["_law_column"]) (cap:=["_law_row","_law_script"]) (idx:=[0,1]) (by decide +kernel) rfl rfl) (pi_range1 rfl T.range_ (pa_cons (pv 2) pa_nil)) (GSet.name (by decide)) (fun _ _ _ _ _=>pg_name (i:=0) (nodupB_iff (l:=["_law_column","_law_row","_law_script"]) (by decide +kernel)) rfl (by first | exact Or.inl rfl | exact Or.inr rfl) (by first | exact .inl rfl | exact .inr rfl)) (fun _ _ _ _ _=>(pe_op op_and (pe_op op_shr (pe_ix (ix_listK (K:=K) rfl) (pv 2) pe_int (fun _ _=>rfl)) (pe_op op_add (pe_op op_mulB pe_int (pv 1)) (pv 0))) pe_int)))))
      (pss_cons (ps_setC0 (i:=5) (CompScope.of (sc0:=(defScope s_law_two)) (tn:=["_law_row"]) (cap:=[]) (idx:=[]) (by decide +kernel) rfl rfl) sc_law_two.nd rfl (by first | exact Or.inl rfl | exact Or.inr rfl) (pi_listK (K:=K) rfl (pv 4)) (GSet.name (by decide)) (fun _ _ _ _ _=>pg_name (i:=0) (nodupB_iff (l:=["_law_row"]) (by decide +kernel)) rfl (by first | exact Or.inl rfl | exact Or.inr rfl) (by first | exact .inl rfl | exact .inr rfl)) (fun _ _ _ _ _=>(pe_callTy (call_listK (K:=K) rfl) (by rfl) T.list_ boot_list (pa_cons (pv 0) pa_nil))))
      (pss_cons (ps_for PassesOwn.never rfl (pi_listK (K:=K) rfl (pe_slice (sl_listK (K:=K) rfl) (pv 0) (po_some pe_int) po_none)) (pg_name (i:=6) sc_law_two.nd rfl (by first | exact Or.inl rfl | exact Or.inr rfl)) (pss_one (ps_expr (pe_call G_law_one_swap (hr.mono (by decide)) rfl E_law_one_swap.mg E_law_one_swap.fn.kp E_law_one_swap.bd .nil pass0 (pa_cons (pv 5) (pa_cons (pv 6) pa_nil))))))
      (pss_one (ps_ret (pe_lst (pa_cons (pv 4) (pa_cons (pv 5) pa_nil)))))))) pss_nil)
      (pss_cons (ps_set (i:=4) sc_law_two.nd rfl (by first | exact Or.inl rfl | exact Or.inr rfl) (pe_call G_law_flipped (hr.mono (by decide)) rfl E_law_flipped.mg E_law_flipped.fn.kp E_law_flipped.bd .nil pass0 (pa_cons (pv 0) (pa_cons (pv 2) (pa_cons (pv 3) pa_nil)))))
      (pss_cons (ps_setC0 (i:=5) (CompScope.of (sc0:=(defScope s_law_two)) (tn:=["_law_row"]) (cap:=[]) (idx:=[]) (by decide +kernel) rfl rfl) sc_law_two.nd rfl (by first | exact Or.inl rfl | exact Or.inr rfl) (pi_listK (K:=K) rfl (pv 4)) (GSet.name (by decide)) (fun _ _ _ _ _=>pg_name (i:=0) (nodupB_iff (l:=["_law_row"]) (by decide +kernel)) rfl (by first | exact Or.inl rfl | exact Or.inr rfl) (by first | exact .inl rfl | exact .inr rfl)) (fun _ _ _ _ _=>(pe_callTy (call_listK (K:=K) rfl) (by rfl) T.list_ boot_list (pa_cons (pv 0) pa_nil))))
      (pss_cons (ps_for PassesOwn.never rfl (pi_listK (K:=K) rfl (pv 0)) (pg_name (i:=6) sc_law_two.nd rfl (by first | exact Or.inl rfl | exact Or.inr rfl)) (pss_one (ps_expr (pe_call G_law_swapped (hr.mono (by decide)) rfl E_law_swapped.mg E_law_swapped.fn.kp E_law_swapped.bd .nil pass0 (pa_cons (pv 5) (pa_cons (pe_op op_mod (pe_op op_fdivB (pv 6) pe_int) (pe_op op_pow pe_int pe_int)) pa_nil))))))
      (pss_one (ps_ret (pe_lst (pa_cons (pv 4) (pa_cons (pv 5) pa_nil)))))))))))),fn_val (Γn:=[5,4]) (N:=N_law_two) (st_seq (ST.post (Γn:=[]) (st_setS 1 (EM.es (em_call (S:=S_law_cell_at) mono_law_cell_at (ar_cons (ES.er (es_var 0)) (ar_cons (EM.er em_int) ar_nil))))))
      (st_seq (ST.post (Γn:=[]) (st_setS 2 (EM.es (em_op o_int (EM.er em_int) (EM.er (em_op o_intC (ES.er (es_var 1)) (EM.er em_int)))))))
      (st_seq (ST.post (Γn:=[]) (st_setS 3 (EM.es (em_op o_int (EM.er em_int) (EM.er (em_op o_intC (EM.er (em_op o_intC (ES.er (es_var 1)) (EM.er em_int))) (EM.er em_int)))))))
      (st_seq (st_if (tr_and (tr_test (EM.er (em_op o_eq (EM.er (em_op o_intC (EM.er (em_op o_intC (ES.er (es_var 1)) (EM.er em_int))) (EM.er em_int))) (EM.er em_int)))) (tr_test (EM.er (em_op o_bl (EM.er (em_cb c_len (ar_cons (ES.er (es_var 0)) ar_nil))) (EM.er em_int))))) (st_seq (ST.post (Γn:=[4]) (st_setM (M:=[]) 4 (em_comp0 (it_rng1 (ar_cons (ES.er (es_var 2)) ar_nil)) (gt_name 0) (em_comp0 (it_rng1 (ar_cons (ES.er (es_var 2)) ar_nil)) (gt_name 0) (em_op o_int (EM.er (em_op o_intC (ES.er (es_ixL (es_var 2) (EM.er em_int))) (EM.er (em_op o_int (EM.er (em_op o_intC (EM.er em_int) (ES.er (es_var 1)))) (ES.er (es_var 0)))))) (EM.er em_int))))))
      (st_seq (ST.post (Γn:=[5,4]) (st_setM (M:=[]) 5 (EM.free (em_comp0 (it_list (es_var 4)) (gt_name 0) (em_cb c_list (ar_cons (ES.er (es_var 0)) ar_nil))))))
      (st_seq (st_for (it_list (EM.es (em_sl (ES.er (es_var 0)) (or_some (EM.er em_int)) or_none))) (gt_name 6) (ST0.st (st0_callI 5 0 mono_law_one_swap (ai_here 5 (ax_cons (ex_es (es_var 6)) ax_nil)))))
      (st_ret (M:=[4,5]) (em_lst (am_cons (em_var 4) (am_cons (em_var 5) am_nil))))))) st_next)
      (st_seq (ST.post (Γn:=[4]) (st_setM (M:=[]) 4 (em_call (S:=S_law_flipped) mono_law_flipped (ar_cons (ES.er (es_var 0)) (ar_cons (ES.er (es_var 2)) (ar_cons (ES.er (es_var 3)) ar_nil))))))
      (st_seq (ST.post (Γn:=[5,4]) (st_setM (M:=[]) 5 (EM.free (em_comp0 (it_list (es_var 4)) (gt_name 0) (em_cb c_list (ar_cons (ES.er (es_var 0)) ar_nil))))))
      (st_seq (st_for (it_list (es_var 0)) (gt_name 6) (ST0.st (st0_callI 5 0 mono_law_swapped (ai_here 5 (ax_cons (ex_es (EM.es (em_op o_intC (EM.er (em_op o_intC (ES.er (es_var 6)) (EM.er em_int))) (EM.er (em_op o_intC (EM.er em_int) (EM.er em_int)))))) ax_nil)))))
      (st_ret (M:=[4,5]) (em_lst (am_cons (em_var 4) (am_cons (em_var 5) am_nil))))))))))) (fun ds P hS=>?_) h⟩
  obtain ⟨ns,rfl,hz,hP⟩:=hS
  rw[show startD N_law_two [.scr ns]=[some (.scr ns),none,none,none,none,none,none] from rfl]
  refine peel fun R1 e1=>?_
  walk_at "go"
  refine cell_at (by omega) ?_
  obtain ⟨x,hx⟩:∃x,ns.getD (0:Int).toNat 0=x:=⟨_,rfl⟩
  rw[hx]
  have a8:=emod_lt (x:=x) (n:=8) (by omega)
  have b8:=emod_lt (x:=x / 8) (n:=8) (by omega)
  obtain ⟨n,hn⟩:∃n:Nat,1+x % 8=n:=⟨(1+x % 8).toNat,by omega⟩
  obtain ⟨m,hm⟩:∃m:Nat,1+x / 8 % 8=m:=⟨(1+x / 8 % 8).toNat,by omega⟩
  have n1:1≤n:=by omega
  have n8:n≤8:=by omega
  have m1:1≤m:=by omega
  have m8:m≤8:=by omega
  subst e1
  refine peel fun R1 e1=>?_
  walk_at "go"
  rw[hn]
  subst e1
  refine peel fun R1 e1=>?_
  walk_at "go"
  rw[hm]
  subst e1
  refine peel fun R1 e1=>?_
  have rest:R1 (endsD P) [some (.scr ns),some (.int x),some (.int (n:Int)),some (.int (m:Int)),none,none,none]:=by
    subst e1
    refine peel fun R1 e1=>?_
    walk_at "go"
    refine⟨ns,n,m,rfl,hz,n1,n8,m1,m8,fun t hT=>?_⟩
    have lt:=hT.1.1
    walk_at "go"
    subst e1
    refine peel fun R1 e1=>?_
    walk_at "go"
    refine comp_copy (t:=t) (fun R h=>by walk_at "go";exact h) (by omega) (fun r hr R h=>by walk_at "gb";exact h) ?_
    walk_at "go"
    subst e1
    refine peel fun R1 e1=>?_
    walk_at "go"
    refine loop_any (as:=ns) (f:=L3.D.int) (fun i δ=>∃(u:List (List Int)) (o6:Option D),δ=[some (.scr ns),some (.int x),some (.int (n:Int)),some (.int (m:Int)),some (dT t),some (dT u),o6]∧Kept n m t u) ⟨t,none,rfl,hT,fun _=>rfl,fun _=>rfl⟩ ?_ ?_
    · rintro i b δ N e ⟨u,o6,rfl,hU⟩ hN
      walk_at "go"
      refine⟨u,n,m,_,rfl,hU.on,n1,n8,m1,m8,fun w hw=>hN _ ⟨w,_,rfl,hw.on,fun a=>(hw.rs a).trans (hU.rs a),fun b=>(hw.cs b).trans (hU.cs b)⟩⟩
    · rintro δ ⟨u,o6,rfl,hU⟩
      subst e1
      walk_at "go"
      exact hP t u n m hT hU n1 n8 m1 m8
  walk_at "go"
  by_cases c1:x / 128 % 2=1
  · rw[if_pos c1]
    by_cases c2:(1:Int)<(ns.length:Int)
    · rw[if_pos c2]
      obtain ⟨y,hy⟩:∃y,ns.getD (1:Int).toNat 0=y:=⟨_,rfl⟩
      refine comp_rng (lo:=0) (n:=n) (g:=fun (i:Nat)=>dI ((List.range m).map fun (j:Nat)=>Builtin.bitAnd (y / 2 ^ (8*(i:Int)+(j:Int)).toNat) 1)) (fun R h=>by walk_at "go";exact h) (by omega) (fun i hi R h=>?_) ?_
      · walk_at "gb"
        refine comp_rng (lo:=0) (n:=m) (g:=fun (j:Nat)=>.int (Builtin.bitAnd (y / 2 ^ (8*(i:Int)+(j:Int)).toNat) 1)) (fun R h=>by walk_at "gb";exact h) (by omega) (fun j hj R h=>?_) ?_
        · walk_at "gb"
          refine asO_ints (by omega) ?_
          rw[hy]
          walk_at "gb"
          rw[Int.zero_add,Int.zero_add]
          exact h
        · rw[map_int]
          exact h
      rw[map_dI]
      obtain ⟨t,ht⟩:∃t,((List.range n).map fun (i:Nat)=>(List.range m).map fun (j:Nat)=>Builtin.bitAnd (y / 2 ^ (8*(i:Int)+(j:Int)).toNat) 1)=t:=⟨_,rfl⟩
      rw[ht]
      have hT:Ones n m t:=by
        rw[← ht]
        refine⟨⟨by rw[List.length_map,List.length_range],fun r hr=>?_⟩,fun r hr z hz=>?_⟩
        · obtain ⟨_,_,rfl⟩:=List.mem_map.mp hr
          rw[List.length_map,List.length_range]
        · obtain ⟨_,_,rfl⟩:=List.mem_map.mp hr
          obtain ⟨_,_,rfl⟩:=List.mem_map.mp hz
          exact band1
      have lt:=hT.1.1
      refine comp_copy (t:=t) (fun R h=>by walk_at "go";exact h) (by omega) (fun r hr R h=>by walk_at "gb";exact h) ?_
      obtain ⟨ms,em,hm'⟩:=cut_ints (ns:=ns) (lo:=some 2) (hi:=none)
      refine⟨scal_ints,?_⟩
      rw[em]
      refine loop_any (as:=ms) (f:=L3.D.int) (fun i δ=>∃(u:List (List Int)) (o6:Option D),δ=[some (.scr ns),some (.int x),some (.int (n:Int)),some (.int (m:Int)),some (dT t),some (dT u),o6]∧Kept n m t u) ⟨t,none,rfl,hT,fun _=>rfl,fun _=>rfl⟩ ?_ ?_
      · rintro i b δ N e ⟨u,o6,rfl,hU⟩ hN
        walk_at "go"
        refine⟨u,n,m,_,rfl,hU.on,n1,n8,m1,m8,fun w hw=>hN _ ⟨w,_,rfl,hw.on,fun a=>(hw.rs a).trans (hU.rs a),fun b=>(hw.cs b).trans (hU.cs b)⟩⟩
      · rintro δ ⟨u,o6,rfl,hU⟩
        walk_at "go"
        exact hP t u n m hT hU n1 n8 m1 m8
    · rw[if_neg c2];exact rest
  · rw[if_neg c1];exact rest
def Unl (n m n' m':Nat) (t o:List (List Int)):Prop:=¬ (n=n'∧m=m'∧(∀a,a<n→rsum t a=rsum o a)∧∀b,b<m→csum t b=csum o b)
def S_law_third:DSp:=fun ds P=>∃(t:List (List Int)) (n m:Nat) (x:Int),ds=[dT t,.int x]∧Ones n m t∧1≤n∧n≤8∧1≤m∧m≤8∧0≤x∧x<2 ^ 60∧∀(o:List (List Int)) (n' m':Nat),Ones n' m' o→1≤n'→n'≤8→1≤m'→m'≤8→Unl n m n' m' t o→P (dT o)
theorem mono_law_third:DMono S_law_third:=by
  intro xs P P' k h
  unfold S_law_third at h ⊢
  grind
theorem len_law_third:∀ds P,S_law_third ds P→ds.length=2:=by
  intro ds P h
  obtain ⟨_,_,_,_,e,_⟩:=h
  rw[e];rfl
theorem ok_law_third {f:Addr}{fd:FuncData} (F:FnAt K mg "_law_third" s_law_third P_law_third f fd) (A_:Fns K mg) (T:Txt K mg) {c:Cs} (xs:Exs K mg base c):FnOk P w K mg base CX0 1 f fd P_law_third (spP K S_law_third):=by
  refine F.fn.ok sc_law_third (fun vs H Q E h=>spP_len len_law_third h) (fun cdv A outer s H vs Q E hr h=>?_)
  refine⟨_,(pss_cons (ps_setC0 (i:=2) (CompScope.of (sc0:=(defScope s_law_third)) (tn:=["_law_row"]) (cap:=[]) (idx:=[]) (by decide +kernel) rfl rfl) sc_law_third.nd rfl (by first | exact Or.inl rfl | exact Or.inr rfl) (pi_listK (K:=K) rfl (pv 0)) (GSet.name (by decide)) (fun _ _ _ _ _=>pg_name (i:=0) (nodupB_iff (l:=["_law_row"]) (by decide +kernel)) rfl (by first | exact Or.inl rfl | exact Or.inr rfl) (by first | exact .inl rfl | exact .inr rfl)) (fun _ _ _ _ _=>(pe_callTy (call_listK (K:=K) rfl) (by rfl) T.list_ boot_list (pa_cons (pv 0) pa_nil))))
      (pss_cons (ps_if (PW.pt (pw_and (pt_cmpR op_eq (pe_op op_mod (pv 1) pe_int) pe_int (nomark _)) (pw_and1 (pt_cmpR op_gt (pe_callB (call_lenK (K:=K) rfl) (by rfl) T.len_ PySem.boot_len (pa_cons (pv 2) pa_nil)) pe_int (nomark _))))) (pss_one (ps_ret (pe_slice (sl_listK (K:=K) rfl) (pv 2) po_none (po_some (pe_un un_neg pe_int))))) pss_nil)
      (pss_cons (ps_set (i:=3) sc_law_third.nd rfl (by first | exact Or.inl rfl | exact Or.inr rfl) (pe_ix (ix_listK (K:=K) rfl) (pv 2) (pe_op op_mod (pe_op op_fdivB (pv 1) pe_int) (pe_callB (call_lenK (K:=K) rfl) (by rfl) T.len_ PySem.boot_len (pa_cons (pv 2) pa_nil))) (fun _ _=>rfl)))
      (pss_cons (ps_set (i:=4) sc_law_third.nd rfl (by first | exact Or.inl rfl | exact Or.inr rfl) (pe_op op_mod (pe_op op_fdivB (pv 1) pe_int) (pe_callB (call_lenK (K:=K) rfl) (by rfl) T.len_ PySem.boot_len (pa_cons (pv 3) pa_nil))))
      (pss_cons (ps_if (PW.pt (pw_and (pt_cmpR op_eq (pe_op op_mod (pv 1) pe_int) pe_int (nomark _)) (pw_and (pt_cmpR op_eq (pe_op op_mod (pe_op op_fdivB (pv 1) pe_int) pe_int) pe_int (nomark _)) (pw_and1 (pt_cmpR op_lt (pe_callB (call_lenK (K:=K) rfl) (by rfl) T.len_ PySem.boot_len (pa_cons (pv 3) pa_nil)) pe_int (nomark _)))))) (pss_one (ps_ret (pe_comp0 (CompScope.of (sc0:=(defScope s_law_third)) (tn:=["_law_line"]) (cap:=[]) (idx:=[]) (by decide +kernel) rfl rfl) (pi_listK (K:=K) rfl (pv 2)) (GSet.name (by decide)) (fun _ _ _ _ _=>pg_name (i:=0) (nodupB_iff (l:=["_law_line"]) (by decide +kernel)) rfl (by first | exact Or.inl rfl | exact Or.inr rfl) (by first | exact .inl rfl | exact .inr rfl)) (fun _ _ _ _ _=>(pe_op op_cat (pv 0) (pe_lst (pa_cons pe_int pa_nil))))))) pss_nil)
      (pss_cons (ps_if (PW.pt (pw_and (pt_cmpR op_eq (pe_op op_mod (pv 1) pe_int) pe_int (nomark _)) (pw_and1 (pt_cmpR (op_inK (K:=K) rfl) (pe_op op_sub pe_int (pe_ix (ix_listK (K:=K) rfl) (pv 3) (pv 4) (fun _ _=>rfl))) (pv 3) (by with_unfolding_all rfl))))) (pss_one (ps_asg (pe_ix (ix_listK (K:=K) rfl) (pv 3) (pv 4) (fun _ _=>rfl)) (pg_sub (pv 3) (pe_bm PySem.F.plainAttrs_list PySem.F.slot_list_index PySem.F.type_list_index mt_index (pv 3) (pa_cons (pe_op op_sub pe_int (pe_ix (ix_listK (K:=K) rfl) (pv 3) (pv 4) (fun _ _=>rfl))) pa_nil)) set_list))) pss_nil)
      (pss_cons (ps_if (pt_cmpR op_eq (pe_op op_mod (pv 1) pe_int) pe_int (nomark _)) (pss_cons (ps_setC rfl (CompScope.of (sc0:=(defScope s_law_third)) (tn:=["_law_line"]) (cap:=["_law_row","_law_at"]) (idx:=[3,4]) (by decide +kernel) rfl rfl) sc_law_third.nd rfl (by first | exact Or.inl rfl | exact Or.inr rfl) (pi_listK (K:=K) rfl (pv 2)) (GSet.name (by decide)) (fun _ _ _ _ _=>pg_name (i:=0) (nodupB_iff (l:=["_law_line","_law_row","_law_at"]) (by decide +kernel)) rfl (by first | exact Or.inl rfl | exact Or.inr rfl) (by first | exact .inl rfl | exact .inr rfl)) (fun _ _ _ _ _=>pts_one (pt_cmpR op_ne (pe_ix (ix_listK (K:=K) rfl) (pv 0) (pv 2) (fun _ _=>rfl)) (pe_ix (ix_listK (K:=K) rfl) (pv 1) (pv 2) (fun _ _=>rfl)) (nomark _))) (fun _ _ _ _ _=>(pv 0)))
      (pss_one (ps_if (pt_cmpR op_gt (pe_callB (call_lenK (K:=K) rfl) (by rfl) T.len_ PySem.boot_len (pa_cons (pv 5) pa_nil)) pe_int (nomark _)) (pss_one (ps_asg (pe_ix (ix_listK (K:=K) rfl) (pv 3) (pv 4) (fun _ _=>rfl)) (pg_sub (pe_ix (ix_listK (K:=K) rfl) (pv 5) pe_int (fun _ _=>rfl)) (pv 4) set_list))) pss_nil))) pss_nil)
      (pss_cons (ps_asg (pe_op op_sub pe_int (pe_ix (ix_listK (K:=K) rfl) (pv 3) (pv 4) (fun _ _=>rfl))) (pg_sub (pv 3) (pv 4) set_list))
      (pss_one (ps_ret (pv 2))))))))))),fn_val (Γn:=[2]) (N:=N_law_third) (st_seq (ST.post (Γn:=[2]) (st_setM (M:=[]) 2 (em_comp0 (it_list (es_var 0)) (gt_name 0) (em_cb c_list (ar_cons (ES.er (es_var 0)) ar_nil)))))
      (st_seq (st_if (tr_and (tr_test (EM.er (em_op o_eq (EM.er (em_op o_intC (ES.er (es_var 1)) (EM.er em_int))) (EM.er em_int)))) (tr_test (EM.er (em_op o_bl (EM.er (em_cb c_len (ar_cons (er_var 2) ar_nil))) (EM.er em_int))))) (st_ret (M:=[2]) (em_slM 2 or_none (or_some (EM.er (em_un u_int (EM.er em_int)))))) st_next)
      (st_seq (st_pinR 2 (ST.post (Γn:=[2]) (st_setS 3 (EM.es (ER.rawOf (er_ixL (er_var 2) (EM.er (em_op o_intC (EM.er (em_op o_intC (ES.er (es_var 1)) (EM.er em_int))) (EM.er (em_cb c_len (ar_cons (er_var 2) ar_nil)))))))))))
      (st_seq (ST.post (Γn:=[2]) (st_setS 4 (EM.es (em_op o_intC (EM.er (em_op o_intC (ES.er (es_var 1)) (EM.er em_int))) (EM.er (em_cb c_len (ar_cons (er_viaR 3 2) ar_nil)))))))
      (st_seq (st_if (tr_and (tr_test (EM.er (em_op o_eq (EM.er (em_op o_intC (ES.er (es_var 1)) (EM.er em_int))) (EM.er em_int)))) (tr_and (tr_test (EM.er (em_op o_eq (EM.er (em_op o_intC (EM.er (em_op o_intC (ES.er (es_var 1)) (EM.er em_int))) (EM.er em_int))) (EM.er em_int)))) (tr_test (EM.er (em_op o_bl (EM.er (em_cb c_len (ar_cons (er_viaR 3 2) ar_nil))) (EM.er em_int)))))) (st_ret (M:=[]) (EM.free (em_comp0 (it_list (ES.strip (es_var 2))) (gt_name 0) (em_op o_cat (ES.er (es_var 0)) (EM.er (em_lst (am_cons0 em_int am_nil))))))) st_next)
      (st_seq (st_if (tr_and (tr_test (EM.er (em_op o_eq (EM.er (em_op o_intC (ES.er (es_var 1)) (EM.er em_int))) (EM.er em_int)))) (tr_test (EM.er (em_op o_in (EM.er (em_op o_int (EM.er em_int) (er_ixL (er_viaR 3 2) (ES.er (es_var 4))))) (er_viaR 3 2))))) (st_viaPut 2 (ER.scal (er_ixL (er_viaR 3 2) (ES.er (es_var 4)))) (ES.er (es_var 3)) (EM.er (em_index (er_viaR 3 2) (EM.er (em_op o_int (EM.er em_int) (er_ixL (er_viaR 3 2) (ES.er (es_var 4)))))))) st_next)
      (st_seq (st_if (tr_test (EM.er (em_op o_eq (EM.er (em_op o_intC (ES.er (es_var 1)) (EM.er em_int))) (EM.er em_int)))) (ST.post (Γn:=[2]) (st_seq (ST.post (Γn:=[5,2]) (st_setM (M:=[]) 5 (EM.lendR 3 2 (em_comp (it_list (es_var 2)) (gt_name 0) (tr_test (EM.er (em_op o_ne (er_ixL (er_varP 0) (ES.er (es_var 2))) (ES.er (es_ixL (es_var 1) (ES.er (es_var 2))))))) (ER.rawOf (ES.er (es_var 0)))))))
      (st_if (tr_test (EM.er (em_op o_bl (EM.er (em_cb c_len (ar_cons (er_var 5) ar_nil))) (EM.er em_int)))) (st_viaPut 2 (ER.scal (er_ixL (er_viaR 3 2) (ES.er (es_var 4)))) (er_ixL (er_var 5) (EM.er em_int)) (ES.er (es_var 4))) st_next))) st_next)
      (st_seq (st_viaPut 2 (em_op o_int (EM.er em_int) (er_ixL (er_viaR 3 2) (ES.er (es_var 4)))) (ES.er (es_var 3)) (ES.er (es_var 4)))
      (st_ret (M:=[2]) (EM.strip (em_var 2))))))))))) (fun ds P hS=>?_) h⟩
  obtain ⟨t,n,m,x,rfl,hT,n1,n8,m1,m8,x0,x1,hP⟩:=hS
  rw[show startD N_law_third [dT t,.int x]=[some (dT t),some (.int x),none,none,none,none] from rfl]
  have lt:=hT.1.1
  refine peel fun R1 e1=>?_
  walk_at "go"
  refine comp_copy (t:=t) (fun R h=>by walk_at "go";exact h) (by omega) (fun r hr R h=>by walk_at "gb";exact h) ?_
  walk_at "go"
  subst e1
  refine peel fun R1 e1=>?_
  have rest:R1 (endsD P) [some (dT t),some (.int x),some (dT t),none,none,none]:=by
    have p0:=emod_lt (x:=x / 3) (n:=(t.length:Int)) (by omega)
    obtain ⟨p,hp⟩:∃p:Nat,x / 3 % (t.length:Int)=p:=⟨(x / 3 % (t.length:Int)).toNat,by omega⟩
    have hpn:p<n:=by omega
    have lp:=hT.1.row hpn
    subst e1
    refine peel fun R1 e1=>?_
    refine⟨dT t,t,rfl,rfl,fun A hA=>?_⟩
    rw[show setTab (dT t) (pR A t)=.lst (pR A t) from rfl]
    have lpr:(pR A t).length=t.length:=pR_len
    walk_at "go"
    rw[lpr,hp]
    refine asO_pR (by omega) ⟨_,_,rfl,?_⟩
    subst e1
    have via:∀{u:List (List Int)}{k s:Nat}{δ:Dl}{P:DK},k<u.length→δ[s]?=some (some (.raw (.ref (A k))))→δ[2]?=some (some (.lst (pR A u)))→P (dI (rowAt u k))→vViaR s 2 δ P:=fun hk h1 h2 h3=>⟨_,_,_,_,_,h1,h2,rfl,pR_get hk,h3⟩
    refine peel fun R1 e1=>?_
    walk_at "go"
    refine via (k:=p) (by omega) rfl rfl ?_
    walk_at "go"
    have j0:=emod_lt (x:=x / 24) (n:=((rowAt t p).length:Int)) (by omega)
    obtain ⟨j,hj⟩:∃j:Nat,x / 24 % ((rowAt t p).length:Int)=j:=⟨(x / 24 % ((rowAt t p).length:Int)).toNat,by omega⟩
    have hjm:j<m:=by omega
    rw[hj]
    subst e1
    have put:∀{u:List (List Int)}{k jj:Nat}{v:Int}{de dl dx:DE}{E:DEnds}{δ:Dl},k<u.length→jj<(rowAt u k).length→(∀R:DK,R (.raw (.ref (A k)))→dl δ R)→δ[2]?=some (some (.lst (pR A u)))→(∀R:DK,R (.int v)→de δ R)→(∀R:DK,R (.int (jj:Int))→dx δ R)→E.nx (δ.set 2 (some (.lst (pR A (setCell u k jj v)))))→vViaPut 2 de dl dx E δ:=fun {u k jj v de dl dx E δ} hk hj h1 h2 h3 h4 h5=>by
      refine h3 _ ⟨v,rfl,h1 _ ⟨_,rfl,h4 _ ⟨_,rfl,_,_,k,rowAt u k,h2,rfl,pR_get hk,by omega,by omega,?_⟩⟩⟩
      rw[Int.toNat_natCast,pR_set hk]
      exact h5
    obtain ⟨v,hv⟩:∃v,cellAt t p j=v:=⟨_,rfl⟩
    have v01:v=0∨v=1:=by rw[← hv];exact hT.cell hpn hjm
    refine peel fun R6 e6=>?_
    have s6:R6 (endsD P) [some (dT t),some (.int x),some (.lst (pR A t)),some (.raw (.ref (A p))),some (.int (j:Int)),none]:=by
      subst e6
      refine peel fun R7 e7=>?_
      have s7:∀u6:List (List Int),(u6=t∨(x % 3=1∧∃idx,idx<m∧idx≠j∧u6=setCell t p idx v))→R7 (endsD P) [some (dT t),some (.int x),some (.lst (pR A u6)),some (.raw (.ref (A p))),some (.int (j:Int)),none]:=by
        intro u6 h6
        subst e7
        refine peel fun R8 e8=>?_
        have last:∀(u:List (List Int)) (o5:Option D),Ones n m u→cellAt u p j=v→Unl n m n m t (setCell u p j (1 - v))→R8 (endsD P) [some (dT t),some (.int x),some (.lst (pR A u)),some (.raw (.ref (A p))),some (.int (j:Int)),o5]:=by
          intro u o5 hu hc hun
          have lu:=hu.1.1
          have lr:=hu.1.row hpn
          subst e8
          refine peel fun R9 e9=>?_
          refine put (u:=u) (k:=p) (jj:=j) (v:=1 - v) (by omega) (by omega) (fun R h=>h) rfl (fun R h=>?_) (fun R h=>h) ?_
          · walk_at "go"
            refine via (u:=u) (k:=p) (by omega) rfl rfl ?_
            walk_at "go"
            refine asO_ints (by omega) ?_
            rw[Int.toNat_natCast,show (rowAt u p).getD j 0=v from hc]
            walk_at "go"
            exact h
          subst e9
          walk_at "go"
          rw[pR_strip]
          exact hP _ n m (hu.set hpn (by omega)) n1 n8 m1 m8 hun
        have byR:∀u,Rect n m u→cellAt u p j=v→rsum u p=rsum t p→Unl n m n m t (setCell u p j (1 - v)):=fun u hu hc hs z=>by
          have h1:=z.2.2.1 p hpn
          rw[rsum_set hu hpn hjm,if_pos rfl,hc,hs] at h1
          omega
        have byC:∀u,Rect n m u→cellAt u p j=v→csum u j=csum t j→Unl n m n m t (setCell u p j (1 - v)):=fun u hu hc hs z=>by
          have h1:=z.2.2.2 j hjm
          rw[csum_set hu hpn hjm,if_pos rfl,hc,hs] at h1
          omega
        rcases h6 with h6 | ⟨x3,idx,hidx,nij,rfl⟩
        · rw[h6]
          walk_at "go"
          by_cases c2:x % 3=2
          · rw[if_pos c2]
            refine⟨_,_,_,p,_,rfl,rfl,rfl,pR_get (by omega),?_⟩
            refine comp_any (as:=List.range n) (f:=fun k=>L3.D.pin (A k) (dI (rowAt t k))) (p:=fun k=>decide (cellAt t k j≠v)) (g:=fun k=>L3.D.raw (.ref (A k))) (fun R h=>?_) (by rw[List.length_range];omega) (fun k hk R h=>?_) ?_
            · walk_at "go"
              unfold pR
              rw[lt]
              exact h
            · have hk:=List.mem_range.mp hk
              have lk:=hT.1.row hk
              walk_at "gb"
              refine asO_ints (by omega) ?_
              rw[Int.toNat_natCast]
              walk_at "gb"
              refine asO_ints (by omega) ?_
              rw[Int.toNat_natCast,show (rowAt t p).getD j 0=v from hv]
              walk_at "gb"
              by_cases e:cellAt t k j=v
              · rw[decide_eq_false (show ¬ cellAt t k j≠v from fun z=>z e)] at h
                rw[if_neg (fun z=>z e)]
                exact h
              · rw[decide_eq_true (show cellAt t k j≠v from e)] at h
                rw[if_pos e]
                exact⟨_,_,rfl,h⟩
            cases hL:(List.range n).filter (fun k=>decide (cellAt t k j≠v)) with
            | nil =>
              walk_at "go"
              rw[if_neg (by decide)]
              exact last _ _ hT hv (byR _ hT.1 hv rfl)
            | cons q l =>
              have hq:=List.mem_filter.mp (show q∈(List.range n).filter (fun k=>decide (cellAt t k j≠v)) by rw[hL];exact List.mem_cons_self)
              have hqn:=List.mem_range.mp hq.1
              have hqv:cellAt t q j≠v:=of_decide_eq_true hq.2
              have nqp:q≠p:=fun z=>hqv (by rw[z];exact hv)
              have lq:=hT.1.row hqn
              rw[List.map_cons]
              walk_at "go"
              rw[if_pos (by omega)]
              have hu:=hT.set (a:=q) (b:=j) (v:=v) hqn v01
              refine put (u:=t) (k:=q) (jj:=j) (v:=v) (by omega) (by omega) (fun R h=>?_) rfl (fun R h=>?_) (fun R h=>?_) ?_
              · walk_at "go"
                exact h
              · walk_at "go"
                refine via (k:=p) (by omega) rfl rfl ?_
                walk_at "go"
                refine asO_ints (by omega) ?_
                rw[Int.toNat_natCast,show (rowAt t p).getD j 0=v from hv]
                walk_at "go"
                exact h
              · walk_at "go"
                exact h
              have hc:cellAt (setCell t q j v) p j=v:=by rw[cell_set hT.1 hqn hjm,if_neg (fun z=>nqp z.1)];exact hv
              exact last _ _ hu hc (byR _ hu.1 hc (by rw[rsum_set hT.1 hqn hjm,if_neg nqp];omega))
          · rw[if_neg c2]
            exact last _ none hT hv (byR _ hT.1 hv rfl)
        · walk_at "go"
          rw[if_neg (by omega)]
          have hu:=hT.set (a:=p) (b:=idx) (v:=v) hpn v01
          exact last _ none hu (by rw[cell_set hT.1 hpn hidx,if_neg (fun z=>nij z.2)];exact hv) (byC _ hu.1 (by rw[cell_set hT.1 hpn hidx,if_neg (fun z=>nij z.2)];exact hv) (by rw[csum_set hT.1 hpn hidx,if_neg nij];omega))
      walk_at "go"
      by_cases c1:x % 3=1
      · rw[if_pos c1]
        refine via (k:=p) (by omega) rfl rfl ?_
        walk_at "go"
        refine asO_ints (by omega) ?_
        rw[Int.toNat_natCast,show (rowAt t p).getD j 0=v from hv]
        walk_at "go"
        refine via (k:=p) (by omega) rfl rfl ?_
        refine vIn_I ?_
        simp only[Bool.false_eq_true,if_false]
        walk_at "go"
        by_cases hin:1 - v∈rowAt t p
        · rw[if_pos hin]
          obtain ⟨idx,hidx,hval,hmin⟩:∃idx,idx<m∧(rowAt t p)[idx]?=some (1 - v)∧∀i z,i<idx→(rowAt t p)[i]?=some z→z≠1 - v:=by
            have hf:(rowAt t p).findIdx (fun z=>z == 1 - v)<(rowAt t p).length:=List.findIdx_lt_length_of_exists ⟨_,hin,by simp⟩
            refine⟨(rowAt t p).findIdx (fun z=>z == 1 - v),by omega,?_,fun i z hi hz=>?_⟩
            · rw[List.getElem?_eq_getElem hf]
              have:=List.findIdx_getElem (w:=hf)
              exact congrArg some (eq_of_beq this)
            · obtain ⟨h1,h2⟩:=List.getElem?_eq_some_iff.mp hz
              have:=List.not_of_lt_findIdx hi
              rw[h2] at this
              simpa using this
          have nij:idx≠j:=fun z=>by
            have:(rowAt t p).getD j 0=1 - v:=by rw[← z,List.getD_eq_getElem?_getD,hval];rfl
            have hv':(rowAt t p).getD j 0=v:=hv
            omega
          refine put (u:=t) (k:=p) (jj:=idx) (v:=v) (by omega) (by omega) (fun R h=>?_) rfl (fun R h=>?_) (fun R h=>?_) ?_
          · walk_at "go"
            exact h
          · walk_at "go"
            refine via (k:=p) (by omega) rfl rfl ?_
            walk_at "go"
            refine asO_ints (by omega) ?_
            rw[Int.toNat_natCast,show (rowAt t p).getD j 0=v from hv]
            walk_at "go"
            exact h
          · refine via (k:=p) (by omega) rfl rfl ?_
            unfold asLst
            dsimp only
            refine⟨scal_ints,?_⟩
            walk_at "go"
            refine via (k:=p) (by omega) rfl rfl ?_
            walk_at "go"
            refine asO_ints (by omega) ?_
            rw[Int.toNat_natCast,show (rowAt t p).getD j 0=v from hv]
            walk_at "go"
            refine⟨idx,⟨.int (1 - v),by rw[List.getElem?_map,hval];rfl,by show ((1 - v) == (1 - v))=true;exact beq_self_eq_true _⟩,fun i z hi hz=>?_,h⟩
            rw[List.getElem?_map] at hz
            cases hz':(rowAt t p)[i]? with
            | none=>rw[hz'] at hz;cases hz
            | some y =>
              rw[hz'] at hz
              cases hz
              show (y == (1 - v))=false
              exact beq_eq_false_iff_ne.mpr (hmin i y hi hz')
          exact s7 _ (.inr ⟨c1,idx,hidx,nij,rfl⟩)
        · rw[if_neg hin]
          exact s7 t (.inl rfl)
      · rw[if_neg c1]
        exact s7 t (.inl rfl)
    walk_at "go"
    by_cases c1:x % 3=1
    · rw[if_pos c1]
      refine⟨divC (by decide) (by decide),?_⟩
      by_cases c2:x / 192 % 4=1
      · rw[if_pos c2]
        refine via (k:=p) (by omega) rfl rfl ?_
        walk_at "go"
        by_cases c3:((rowAt t p).length:Int)<8
        · rw[if_pos c3]
          refine comp_rows (t:=t) (g:=fun r=>dI (r++[0])) (fun R h=>?_) (by omega) (fun r hr R h=>?_) ?_
          · show asL ((L3.D.lst (pR A t)).strip) R
            rw[pR_strip]
            exact h
          · have lr:=hT.1.2 r hr
            walk_at "gb"
            refine⟨⟨scal_ints,rfl,by omega⟩,?_⟩
            rw[snoc_dI]
            exact h
          rw[show t.map (fun r=>dI (r++[0]))=(t.map fun r=>r++[0]).map dI by rw[List.map_map];rfl]
          refine hP (t.map fun r=>r++[0]) n (m+1) ⟨⟨by rw[List.length_map];exact lt,fun r hr=>?_⟩,fun r hr y hy=>?_⟩ n1 n8 (by omega) (by omega) fun z=>by have:=z.2.1;omega
          · obtain ⟨r',h',rfl⟩:=List.mem_map.mp hr
            rw[List.length_append,hT.1.2 r' h'];rfl
          · obtain ⟨r',h',rfl⟩:=List.mem_map.mp hr
            rcases List.mem_append.mp hy with w | w
            · exact hT.2 r' h' y w
            · rw[List.mem_singleton.mp w];exact .inl rfl
        · rw[if_neg c3];exact s6
      · rw[if_neg c2];exact s6
    · rw[if_neg c1];exact s6
  walk_at "go"
  by_cases c1:x % 3=0
  · rw[if_pos c1]
    by_cases c2:(1:Int)<(t.length:Int)
    · rw[if_pos c2]
      rw[show L3.cutD (t.map dI) none (some (-1))=(t.take (t.length - 1)).map dI by
        unfold L3.cutD
        rw[List.length_map,HT.sIx_none,List.drop_zero,Nat.sub_zero,List.map_take]
        congr 1
        show ((-1:Int)+(t.length:Int)).toNat=_
        omega]
      refine hP (t.take (t.length - 1)) (n - 1) m ⟨⟨by rw[List.length_take];omega,fun r hr=>hT.1.2 r (List.mem_of_mem_take hr)⟩,fun r hr=>hT.2 r (List.mem_of_mem_take hr)⟩ (by omega) (by omega) m1 m8 fun z=>by have:=z.1;omega
    · rw[if_neg c2];exact rest
  · rw[if_neg c1];exact rest
def S_law:DSp:=fun ds P=>∃ns,ds=[.scr ns]∧ns.length≤63∧P (.bl true)
theorem law_goal {ns:List Int}{P:DK} (hl:ns.length≤63) (h:P (.bl true)):S_law [.scr ns] P:=⟨ns,rfl,hl,h⟩
theorem mono_law:DMono S_law:=by
  intro xs P P' k h
  unfold S_law at h ⊢
  grind
theorem len_law:∀ds P,S_law ds P→ds.length=1:=by
  intro ds P h
  obtain ⟨_,e,_⟩:=h
  rw[e];rfl
theorem ok_law {f:Addr}{fd:FuncData} (F:FnAt K mg "law" s_law P_law f fd) (A_:Fns K mg) (T:Txt K mg) {c:Cs} (xs:Exs K mg base c):FnOk P w K mg base CX0 7 f fd P_law (spP K S_law):=by
  obtain ⟨f0,d0,E_law_two⟩:=A_.h_law_two
  have G_law_two:FnOk P w K mg base CX0 3 f0 d0 P_law_two (spP K S_law_two):=ok_law_two E_law_two A_ T xs
  obtain ⟨f1,d1,E_law_mixed⟩:=A_.h_law_mixed
  have G_law_mixed:FnOk P w K mg base CX0 1 f1 d1 P_law_mixed (spP K S_law_mixed):=ok_law_mixed E_law_mixed A_ T xs
  obtain ⟨f2,d2,E_law_third⟩:=A_.h_law_third
  have G_law_third:FnOk P w K mg base CX0 1 f2 d2 P_law_third (spP K S_law_third):=ok_law_third E_law_third A_ T xs
  obtain ⟨f3,d3,E_law_walked⟩:=A_.h_law_walked
  have G_law_walked:FnOk P w K mg base CX0 6 f3 d3 P_law_walked (spP K S_law_walked):=ok_law_walked E_law_walked A_ T xs
  obtain ⟨f4,d4,E_law_refused⟩:=A_.h_law_refused
  have G_law_refused:FnOk P w K mg base CX0 6 f4 d4 P_law_refused (spP K S_law_refused):=ok_law_refused E_law_refused A_ T xs
  refine F.fn.ok sc_law (fun vs H Q E h=>spP_len len_law h) (fun cdv A outer s H vs Q E hr h=>?_)
  refine⟨_,(pss_cons (ps_asg (pe_call G_law_two (hr.mono (by decide)) rfl E_law_two.mg E_law_two.fn.kp E_law_two.bd .nil pass0 (pa_cons (pv 0) pa_nil)) (pg_lstK (K:=K) rfl rfl (pgs_cons (pg_name (i:=1) sc_law.nd rfl (by first | exact Or.inl rfl | exact Or.inr rfl)) (pgs_cons (pg_name (i:=2) sc_law.nd rfl (by first | exact Or.inl rfl | exact Or.inr rfl)) pgs_nil))))
      (pss_cons (ps_set (i:=3) sc_law.nd rfl (by first | exact Or.inl rfl | exact Or.inr rfl) (pe_call G_law_mixed (hr.mono (by decide)) rfl E_law_mixed.mg E_law_mixed.fn.kp E_law_mixed.bd .nil pass0 (pa_cons (pv 0) (pa_cons pe_int pa_nil))))
      (pss_cons (ps_if (PW.pt (pw_or (pt_not (pt_val (pe_call G_law_walked (hr.mono (by decide)) rfl E_law_walked.mg E_law_walked.fn.kp E_law_walked.bd .nil pass0 (pa_cons (pv 1) (pa_cons (pv 2) pa_nil))))) (pw_or1 (pt_not (pt_val (pe_call G_law_walked (hr.mono (by decide)) rfl E_law_walked.mg E_law_walked.fn.kp E_law_walked.bd .nil pass0 (pa_cons (pv 2) (pa_cons (pv 1) pa_nil)))))))) (pss_one (ps_ret pe_bl)) pss_nil)
      (pss_cons (ps_set (i:=4) sc_law.nd rfl (by first | exact Or.inl rfl | exact Or.inr rfl) (pe_call G_law_third (hr.mono (by decide)) rfl E_law_third.mg E_law_third.fn.kp E_law_third.bd .nil pass0 (pa_cons (pv 2) (pa_cons (pv 3) pa_nil))))
      (pss_cons (ps_setC0 (i:=5) (CompScope.of (sc0:=(defScope s_law)) (tn:=["_law_row"]) (cap:=[]) (idx:=[]) (by decide +kernel) rfl rfl) sc_law.nd rfl (by first | exact Or.inl rfl | exact Or.inr rfl) (pi_listK (K:=K) rfl (pv 4)) (GSet.name (by decide)) (fun _ _ _ _ _=>pg_name (i:=0) (nodupB_iff (l:=["_law_row"]) (by decide +kernel)) rfl (by first | exact Or.inl rfl | exact Or.inr rfl) (by first | exact .inl rfl | exact .inr rfl)) (fun _ _ _ _ _=>(pe_callTy (call_listK (K:=K) rfl) (by rfl) T.list_ boot_list (pa_cons (pv 0) pa_nil))))
      (pss_cons (ps_if (PW.pt (pw_or (pt_not (pt_val (pe_call G_law_refused (hr.mono (by decide)) rfl E_law_refused.mg E_law_refused.fn.kp E_law_refused.bd .nil pass0 (pa_cons (pv 1) (pa_cons (pv 5) pa_nil))))) (pw_or (pt_not (pt_val (pe_call G_law_refused (hr.mono (by decide)) rfl E_law_refused.mg E_law_refused.fn.kp E_law_refused.bd .nil pass0 (pa_cons (pv 5) (pa_cons (pv 1) pa_nil))))) (pw_or1 (pt_cmpR (op_neL hr.units) (pv 5) (pv 4) (nomark _)))))) (pss_one (ps_ret pe_bl)) pss_nil)
      (pss_one (ps_ret (pe_call G_law_walked (hr.mono (by decide)) rfl E_law_walked.mg E_law_walked.fn.kp E_law_walked.bd .nil pass0 (pa_cons (pv 1) (pa_cons (pv 2) pa_nil))))))))))),fn_val (Γn:=[]) (N:=N_law) (st_seq (st_asgS (EM.es (em_call (S:=S_law_two) mono_law_two (ar_cons (ES.er (es_var 0)) ar_nil))) (gt_lst (gts_cons (gt_name 1) (gts_cons (gt_name 2) gts_nil))))
      (st_seq (ST.post (Γn:=[]) (st_setS 3 (EM.es (em_call (S:=S_law_mixed) mono_law_mixed (ar_cons (ES.er (es_var 0)) (ar_cons (EM.er em_int) ar_nil))))))
      (st_seq (st_if (tr_or (tr_not (tr_b (EM.er (em_call (S:=S_law_walked) mono_law_walked (ar_cons (ES.er (es_var 1)) (ar_cons (ES.er (es_var 2)) ar_nil)))))) (tr_not (tr_b (EM.er (em_call (S:=S_law_walked) mono_law_walked (ar_cons (ES.er (es_var 2)) (ar_cons (ES.er (es_var 1)) ar_nil))))))) (st_ret (M:=[]) em_bl) st_next)
      (st_seq (ST.post (Γn:=[]) (st_setS 4 (EM.es (em_call (S:=S_law_third) mono_law_third (ar_cons (ES.er (es_var 2)) (ar_cons (ES.er (es_var 3)) ar_nil))))))
      (st_seq (ST.post (Γn:=[]) (st_setS 5 (EM.es (em_comp0 (it_list (es_var 4)) (gt_name 0) (em_cb c_list (ar_cons (ES.er (es_var 0)) ar_nil))))))
      (st_seq (st_if (tr_or (tr_not (tr_b (EM.er (em_call (S:=S_law_refused) mono_law_refused (ar_cons (ES.er (es_var 1)) (ar_cons (ES.er (es_var 5)) ar_nil)))))) (tr_or (tr_not (tr_b (EM.er (em_call (S:=S_law_refused) mono_law_refused (ar_cons (ES.er (es_var 5)) (ar_cons (ES.er (es_var 1)) ar_nil)))))) (tr_test (EM.er (em_op o_neL (ES.er (es_var 5)) (ES.er (es_var 4))))))) (st_ret (M:=[]) em_bl) st_next)
      (st_ret (M:=[]) (em_call (S:=S_law_walked) mono_law_walked (ar_cons (ES.er (es_var 1)) (ar_cons (ES.er (es_var 2)) ar_nil)))))))))) (fun ds P hS=>?_) h⟩
  obtain ⟨ns,rfl,hz,hP⟩:=hS
  rw[show startD N_law [.scr ns]=[some (.scr ns),none,none,none,none,none] from rfl]
  refine peel fun R1 e1=>?_
  walk_at "go"
  refine⟨ns,rfl,hz,fun t u n m hT hU n1 n8 m1 m8=>?_⟩
  walk_at "go"
  subst e1
  refine peel fun R1 e1=>?_
  walk_at "go"
  refine⟨ns,67,rfl,hz,by omega,by omega,fun y y0 y1=>?_⟩
  walk_at "go"
  subst e1
  refine peel fun R1 e1=>?_
  walk_at "go"
  refine⟨t,u,n,m,rfl,hT,hU.on,n1,n8,m1,m8,fun a _=>(hU.rs a).symm,fun b _=>(hU.cs b).symm,?_⟩
  walk_at "go"
  refine⟨u,t,n,m,rfl,hU.on,hT,n1,n8,m1,m8,fun a _=>hU.rs a,fun b _=>hU.cs b,?_⟩
  walk_at "go"
  subst e1
  refine peel fun R1 e1=>?_
  walk_at "go"
  refine⟨u,n,m,y,rfl,hU.on,n1,n8,m1,m8,y0,y1,fun o n' m' hO n1' n8' m1' m8' hun=>?_⟩
  have lo:=hO.1.1
  walk_at "go"
  subst e1
  refine peel fun R1 e1=>?_
  walk_at "go"
  refine comp_copy (t:=o) (fun R h=>by walk_at "go";exact h) (by omega) (fun r hr R h=>by walk_at "gb";exact h) ?_
  walk_at "go"
  subst e1
  refine peel fun R1 e1=>?_
  walk_at "go"
  refine⟨t,o,n,m,n',m',rfl,hT,hO,n1,n8,m1,m8,n1',n8',m1',m8',fun z=>hun ⟨z.1,z.2.1,fun a ha=>(hU.rs a).trans (z.2.2.1 a ha),fun b hb=>(hU.cs b).trans (z.2.2.2 b hb)⟩,?_⟩
  walk_at "go"
  refine⟨o,t,n',m',n,m,rfl,hO,hT,n1',n8',m1',m8',n1,n8,m1,m8,fun z=>hun ⟨z.1.symm,z.2.1.symm,fun a ha=>(hU.rs a).trans (z.2.2.1 a (by rw[z.1];exact ha)).symm,fun b hb=>(hU.cs b).trans (z.2.2.2 b (by rw[z.2.1];exact hb)).symm⟩,?_⟩
  walk_at "go"
  refine vEqL_rows (xs:=o) (ys:=o) ?_
  rw[if_pos rfl,decide_eq_true rfl]
  walk_at "go"
  subst e1
  walk_at "go"
  exact⟨t,u,n,m,rfl,hT,hU.on,n1,n8,m1,m8,fun a _=>(hU.rs a).symm,fun b _=>(hU.cs b).symm,hP⟩
end
end Mine
set_option Elab.async false
set_option linter.all false
set_option maxRecDepth 100000
set_option maxHeartbeats 16000000
namespace Mine
open PySem L2 PyProof.Rows
theorem all_mk {l:PySem.W.OpenLaw}{w:World}{K:PySem.W.Frag}{h:Heap}{mg:Str→Option Value}{fa f0 f1 f2 f3 f4 f5 f6 f7 f8 f9 f10 f11 f12 f13 f14 f15 f16 f17 f18 f19 f20 f21 f22 f23 f24 f25:Addr} (X:K.In h) (G:h.Ns mainGlobals mg) (hfa:mg "law" = some (.ref fa))
    {od0 an0 od1 an1 od2 an2 od3 an3 od4 an4 od5 an5 od6 an6 od7 an7 od8 an8 od9 an9 od10 an10 od11 an11 od12 an12 od13 an13 od14 an14 od15 an15 od16 an16 od17 an17 od18 an18 od19 an19 od20 an20 od21 an21 od22 an22 od23 an23 od24 an24 od25 an25:Option Addr}{sl0 sl1 sl2 sl3 sl4 sl5 sl6 sl7 sl8 sl9 sl10 sl11 sl12 sl13 sl14 sl15 sl16 sl17 sl18 sl19 sl20 sl21 sl22 sl23 sl24 sl25:Array (Option Value)}{oc0 kV0 dc0 pm0 cd0 ct0 oc1 kV1 dc1 pm1 cd1 ct1 oc2 kV2 dc2 pm2 cd2 ct2 oc3 kV3 dc3 pm3 cd3 ct3 oc4 kV4 dc4 pm4 cd4 ct4 oc5 kV5 dc5 pm5 cd5 ct5 oc6 kV6 dc6 pm6 cd6 ct6 oc7 kV7 dc7 pm7 cd7 ct7 oc8 kV8 dc8 pm8 cd8 ct8 oc9 kV9 dc9 pm9 cd9 ct9 oc10 kV10 dc10 pm10 cd10 ct10 oc11 kV11 dc11 pm11 cd11 ct11 oc12 kV12 dc12 pm12 cd12 ct12 oc13 kV13 dc13 pm13 cd13 ct13 oc14 kV14 dc14 pm14 cd14 ct14 oc15 kV15 dc15 pm15 cd15 ct15 oc16 kV16 dc16 pm16 cd16 ct16 oc17 kV17 dc17 pm17 cd17 ct17 oc18 kV18 dc18 pm18 cd18 ct18 oc19 kV19 dc19 pm19 cd19 ct19 oc20 kV20 dc20 pm20 cd20 ct20 oc21 kV21 dc21 pm21 cd21 ct21 oc22 kV22 dc22 pm22 cd22 ct22 oc23 kV23 dc23 pm23 cd23 ct23 oc24 kV24 dc24 pm24 cd24 ct24 oc25 kV25 dc25 pm25 cd25 ct25:Value}
    (a0:PySem.W.nsIn K mainGlobals "places_below" = some (some (.ref f0))) (l0:K.lookup f0=some ⟨oc0,od0,.func (PySem.W.fnOf "places_below" "places_below" (defArgs s_places_below) (defBody s_places_below) (defScope s_places_below) .none kV0 dc0 pm0 an0 cd0 ct0),sl0⟩) (c0:PySem.W.codeIn K cd0 "places_below" = true) (k0:PySem.W.keepIn K (.ref f0)=true)
    (a1:PySem.W.nsIn K mainGlobals "is_place" = some (some (.ref f1))) (l1:K.lookup f1=some ⟨oc1,od1,.func (PySem.W.fnOf "is_place" "is_place" (defArgs s_is_place) (defBody s_is_place) (defScope s_is_place) .none kV1 dc1 pm1 an1 cd1 ct1),sl1⟩) (c1:PySem.W.codeIn K cd1 "is_place" = true) (k1:PySem.W.keepIn K (.ref f1)=true)
    (a2:PySem.W.nsIn K mainGlobals "copied_table" = some (some (.ref f2))) (l2:K.lookup f2=some ⟨oc2,od2,.func (PySem.W.fnOf "copied_table" "copied_table" (defArgs s_copied_table) (defBody s_copied_table) (defScope s_copied_table) .none kV2 dc2 pm2 an2 cd2 ct2),sl2⟩) (c2:PySem.W.codeIn K cd2 "copied_table" = true) (k2:PySem.W.keepIn K (.ref f2)=true)
    (a3:PySem.W.nsIn K mainGlobals "sums_of_rows" = some (some (.ref f3))) (l3:K.lookup f3=some ⟨oc3,od3,.func (PySem.W.fnOf "sums_of_rows" "sums_of_rows" (defArgs s_sums_of_rows) (defBody s_sums_of_rows) (defScope s_sums_of_rows) .none kV3 dc3 pm3 an3 cd3 ct3),sl3⟩) (c3:PySem.W.codeIn K cd3 "sums_of_rows" = true) (k3:PySem.W.keepIn K (.ref f3)=true)
    (a4:PySem.W.nsIn K mainGlobals "sums_of_columns" = some (some (.ref f4))) (l4:K.lookup f4=some ⟨oc4,od4,.func (PySem.W.fnOf "sums_of_columns" "sums_of_columns" (defArgs s_sums_of_columns) (defBody s_sums_of_columns) (defScope s_sums_of_columns) .none kV4 dc4 pm4 an4 cd4 ct4),sl4⟩) (c4:PySem.W.codeIn K cd4 "sums_of_columns" = true) (k4:PySem.W.keepIn K (.ref f4)=true)
    (a5:PySem.W.nsIn K mainGlobals "turned_table" = some (some (.ref f5))) (l5:K.lookup f5=some ⟨oc5,od5,.func (PySem.W.fnOf "turned_table" "turned_table" (defArgs s_turned_table) (defBody s_turned_table) (defScope s_turned_table) .none kV5 dc5 pm5 an5 cd5 ct5),sl5⟩) (c5:PySem.W.codeIn K cd5 "turned_table" = true) (k5:PySem.W.keepIn K (.ref f5)=true)
    (a6:PySem.W.nsIn K mainGlobals "column_of" = some (some (.ref f6))) (l6:K.lookup f6=some ⟨oc6,od6,.func (PySem.W.fnOf "column_of" "column_of" (defArgs s_column_of) (defBody s_column_of) (defScope s_column_of) .none kV6 dc6 pm6 an6 cd6 ct6),sl6⟩) (c6:PySem.W.codeIn K cd6 "column_of" = true) (k6:PySem.W.keepIn K (.ref f6)=true)
    (a7:PySem.W.nsIn K mainGlobals "can_swap" = some (some (.ref f7))) (l7:K.lookup f7=some ⟨oc7,od7,.func (PySem.W.fnOf "can_swap" "can_swap" (defArgs s_can_swap) (defBody s_can_swap) (defScope s_can_swap) .none kV7 dc7 pm7 an7 cd7 ct7),sl7⟩) (c7:PySem.W.codeIn K cd7 "can_swap" = true) (k7:PySem.W.keepIn K (.ref f7)=true)
    (a8:PySem.W.nsIn K mainGlobals "swap_made" = some (some (.ref f8))) (l8:K.lookup f8=some ⟨oc8,od8,.func (PySem.W.fnOf "swap_made" "swap_made" (defArgs s_swap_made) (defBody s_swap_made) (defScope s_swap_made) .none kV8 dc8 pm8 an8 cd8 ct8),sl8⟩) (c8:PySem.W.codeIn K cd8 "swap_made" = true) (k8:PySem.W.keepIn K (.ref f8)=true)
    (a9:PySem.W.nsIn K mainGlobals "swaps_between" = some (some (.ref f9))) (l9:K.lookup f9=some ⟨oc9,od9,.func (PySem.W.fnOf "swaps_between" "swaps_between" (defArgs s_swaps_between) (defBody s_swaps_between) (defScope s_swaps_between) .none kV9 dc9 pm9 an9 cd9 ct9),sl9⟩) (c9:PySem.W.codeIn K cd9 "swaps_between" = true) (k9:PySem.W.keepIn K (.ref f9)=true)
    (a10:PySem.W.nsIn K mainGlobals "table_behind" = some (some (.ref f10))) (l10:K.lookup f10=some ⟨oc10,od10,.func (PySem.W.fnOf "table_behind" "table_behind" (defArgs s_table_behind) (defBody s_table_behind) (defScope s_table_behind) .none kV10 dc10 pm10 an10 cd10 ct10),sl10⟩) (c10:PySem.W.codeIn K cd10 "table_behind" = true) (k10:PySem.W.keepIn K (.ref f10)=true)
    (a11:PySem.W.nsIn K mainGlobals "ring_between" = some (some (.ref f11))) (l11:K.lookup f11=some ⟨oc11,od11,.func (PySem.W.fnOf "ring_between" "ring_between" (defArgs s_ring_between) (defBody s_ring_between) (defScope s_ring_between) .none kV11 dc11 pm11 an11 cd11 ct11),sl11⟩) (c11:PySem.W.codeIn K cd11 "ring_between" = true) (k11:PySem.W.keepIn K (.ref f11)=true)
    (a12:PySem.W.nsIn K mainGlobals "first_unlike" = some (some (.ref f12))) (l12:K.lookup f12=some ⟨oc12,od12,.func (PySem.W.fnOf "first_unlike" "first_unlike" (defArgs s_first_unlike) (defBody s_first_unlike) (defScope s_first_unlike) .none kV12 dc12 pm12 an12 cd12 ct12),sl12⟩) (c12:PySem.W.codeIn K cd12 "first_unlike" = true) (k12:PySem.W.keepIn K (.ref f12)=true)
    (a13:PySem.W.nsIn K mainGlobals "ring_swaps" = some (some (.ref f13))) (l13:K.lookup f13=some ⟨oc13,od13,.func (PySem.W.fnOf "ring_swaps" "ring_swaps" (defArgs s_ring_swaps) (defBody s_ring_swaps) (defScope s_ring_swaps) .none kV13 dc13 pm13 an13 cd13 ct13),sl13⟩) (c13:PySem.W.codeIn K cd13 "ring_swaps" = true) (k13:PySem.W.keepIn K (.ref f13)=true)
    (a14:PySem.W.nsIn K mainGlobals "_law_cell_at" = some (some (.ref f14))) (l14:K.lookup f14=some ⟨oc14,od14,.func (PySem.W.fnOf "_law_cell_at" "_law_cell_at" (defArgs s_law_cell_at) (defBody s_law_cell_at) (defScope s_law_cell_at) .none kV14 dc14 pm14 an14 cd14 ct14),sl14⟩) (c14:PySem.W.codeIn K cd14 "_law_cell_at" = true) (k14:PySem.W.keepIn K (.ref f14)=true)
    (a15:PySem.W.nsIn K mainGlobals "_law_whole" = some (some (.ref f15))) (l15:K.lookup f15=some ⟨oc15,od15,.func (PySem.W.fnOf "_law_whole" "_law_whole" (defArgs s_law_whole) (defBody s_law_whole) (defScope s_law_whole) .none kV15 dc15 pm15 an15 cd15 ct15),sl15⟩) (c15:PySem.W.codeIn K cd15 "_law_whole" = true) (k15:PySem.W.keepIn K (.ref f15)=true)
    (a16:PySem.W.nsIn K mainGlobals "_law_mixed" = some (some (.ref f16))) (l16:K.lookup f16=some ⟨oc16,od16,.func (PySem.W.fnOf "_law_mixed" "_law_mixed" (defArgs s_law_mixed) (defBody s_law_mixed) (defScope s_law_mixed) .none kV16 dc16 pm16 an16 cd16 ct16),sl16⟩) (c16:PySem.W.codeIn K cd16 "_law_mixed" = true) (k16:PySem.W.keepIn K (.ref f16)=true)
    (a17:PySem.W.nsIn K mainGlobals "_law_flipped" = some (some (.ref f17))) (l17:K.lookup f17=some ⟨oc17,od17,.func (PySem.W.fnOf "_law_flipped" "_law_flipped" (defArgs s_law_flipped) (defBody s_law_flipped) (defScope s_law_flipped) .none kV17 dc17 pm17 an17 cd17 ct17),sl17⟩) (c17:PySem.W.codeIn K cd17 "_law_flipped" = true) (k17:PySem.W.keepIn K (.ref f17)=true)
    (a18:PySem.W.nsIn K mainGlobals "_law_swapped" = some (some (.ref f18))) (l18:K.lookup f18=some ⟨oc18,od18,.func (PySem.W.fnOf "_law_swapped" "_law_swapped" (defArgs s_law_swapped) (defBody s_law_swapped) (defScope s_law_swapped) .none kV18 dc18 pm18 an18 cd18 ct18),sl18⟩) (c18:PySem.W.codeIn K cd18 "_law_swapped" = true) (k18:PySem.W.keepIn K (.ref f18)=true)
    (a19:PySem.W.nsIn K mainGlobals "_law_can" = some (some (.ref f19))) (l19:K.lookup f19=some ⟨oc19,od19,.func (PySem.W.fnOf "_law_can" "_law_can" (defArgs s_law_can) (defBody s_law_can) (defScope s_law_can) .none kV19 dc19 pm19 an19 cd19 ct19),sl19⟩) (c19:PySem.W.codeIn K cd19 "_law_can" = true) (k19:PySem.W.keepIn K (.ref f19)=true)
    (a20:PySem.W.nsIn K mainGlobals "_law_walked" = some (some (.ref f20))) (l20:K.lookup f20=some ⟨oc20,od20,.func (PySem.W.fnOf "_law_walked" "_law_walked" (defArgs s_law_walked) (defBody s_law_walked) (defScope s_law_walked) .none kV20 dc20 pm20 an20 cd20 ct20),sl20⟩) (c20:PySem.W.codeIn K cd20 "_law_walked" = true) (k20:PySem.W.keepIn K (.ref f20)=true)
    (a21:PySem.W.nsIn K mainGlobals "_law_refused" = some (some (.ref f21))) (l21:K.lookup f21=some ⟨oc21,od21,.func (PySem.W.fnOf "_law_refused" "_law_refused" (defArgs s_law_refused) (defBody s_law_refused) (defScope s_law_refused) .none kV21 dc21 pm21 an21 cd21 ct21),sl21⟩) (c21:PySem.W.codeIn K cd21 "_law_refused" = true) (k21:PySem.W.keepIn K (.ref f21)=true)
    (a22:PySem.W.nsIn K mainGlobals "_law_third" = some (some (.ref f22))) (l22:K.lookup f22=some ⟨oc22,od22,.func (PySem.W.fnOf "_law_third" "_law_third" (defArgs s_law_third) (defBody s_law_third) (defScope s_law_third) .none kV22 dc22 pm22 an22 cd22 ct22),sl22⟩) (c22:PySem.W.codeIn K cd22 "_law_third" = true) (k22:PySem.W.keepIn K (.ref f22)=true)
    (a23:PySem.W.nsIn K mainGlobals "_law_one_swap" = some (some (.ref f23))) (l23:K.lookup f23=some ⟨oc23,od23,.func (PySem.W.fnOf "_law_one_swap" "_law_one_swap" (defArgs s_law_one_swap) (defBody s_law_one_swap) (defScope s_law_one_swap) .none kV23 dc23 pm23 an23 cd23 ct23),sl23⟩) (c23:PySem.W.codeIn K cd23 "_law_one_swap" = true) (k23:PySem.W.keepIn K (.ref f23)=true)
    (a24:PySem.W.nsIn K mainGlobals "_law_two" = some (some (.ref f24))) (l24:K.lookup f24=some ⟨oc24,od24,.func (PySem.W.fnOf "_law_two" "_law_two" (defArgs s_law_two) (defBody s_law_two) (defScope s_law_two) .none kV24 dc24 pm24 an24 cd24 ct24),sl24⟩) (c24:PySem.W.codeIn K cd24 "_law_two" = true) (k24:PySem.W.keepIn K (.ref f24)=true)
    (a25:PySem.W.nsIn K mainGlobals "law" = some (some (.ref f25))) (l25:K.lookup f25=some ⟨oc25,od25,.func (PySem.W.fnOf "law" "law" (defArgs s_law) (defBody s_law) (defScope s_law) .none kV25 dc25 pm25 an25 cd25 ct25),sl25⟩) (c25:PySem.W.codeIn K cd25 "law" = true) (k25:PySem.W.keepIn K (.ref f25)=true)
    {C_MixError C_NoTable C_NoBottom C_NotAlike C_NoStep C_NoMix C_NotEven C_NoSwap C_NoBounds C_NoPlace C_NoSums C_TooGreat C_NoNumber C_NoText:Addr}
    {dd_MixError:Option Addr}{nm_MixError qn_MixError:Str}{bs_MixError:List Value}{ns_MixError:Addr}{hd_MixError:Bool}{sn_MixError:List Str}{sub_MixError:List Value}{ab_MixError:Bool}{col_MixError:Option Bool}{k0_MixError k1_MixError k2_MixError k3_MixError k5_MixError:Option Value}
    {dd_NoSwap:Option Addr}{nm_NoSwap qn_NoSwap:Str}{bs_NoSwap:List Value}{ns_NoSwap:Addr}{hd_NoSwap:Bool}{sn_NoSwap:List Str}{sub_NoSwap:List Value}{ab_NoSwap:Bool}{col_NoSwap:Option Bool}{k0_NoSwap k1_NoSwap k2_NoSwap k3_NoSwap k5_NoSwap:Option Value}
    {dd_NotAlike:Option Addr}{nm_NotAlike qn_NotAlike:Str}{bs_NotAlike:List Value}{ns_NotAlike:Addr}{hd_NotAlike:Bool}{sn_NotAlike:List Str}{sub_NotAlike:List Value}{ab_NotAlike:Bool}{col_NotAlike:Option Bool}{k0_NotAlike k1_NotAlike k2_NotAlike k3_NotAlike k5_NotAlike:Option Value}
    (e_MixError:PySem.W.nsIn K mainGlobals "MixError" = some (some (.ref C_MixError)))
    (e_NoTable:PySem.W.nsIn K mainGlobals "NoTable" = some (some (.ref C_NoTable)))
    (e_NoBottom:PySem.W.nsIn K mainGlobals "NoBottom" = some (some (.ref C_NoBottom)))
    (e_NotAlike:PySem.W.nsIn K mainGlobals "NotAlike" = some (some (.ref C_NotAlike)))
    (e_NoStep:PySem.W.nsIn K mainGlobals "NoStep" = some (some (.ref C_NoStep)))
    (e_NoMix:PySem.W.nsIn K mainGlobals "NoMix" = some (some (.ref C_NoMix)))
    (e_NotEven:PySem.W.nsIn K mainGlobals "NotEven" = some (some (.ref C_NotEven)))
    (e_NoSwap:PySem.W.nsIn K mainGlobals "NoSwap" = some (some (.ref C_NoSwap)))
    (e_NoBounds:PySem.W.nsIn K mainGlobals "NoBounds" = some (some (.ref C_NoBounds)))
    (e_NoPlace:PySem.W.nsIn K mainGlobals "NoPlace" = some (some (.ref C_NoPlace)))
    (e_NoSums:PySem.W.nsIn K mainGlobals "NoSums" = some (some (.ref C_NoSums)))
    (e_TooGreat:PySem.W.nsIn K mainGlobals "TooGreat" = some (some (.ref C_TooGreat)))
    (e_NoNumber:PySem.W.nsIn K mainGlobals "NoNumber" = some (some (.ref C_NoNumber)))
    (e_NoText:PySem.W.nsIn K mainGlobals "NoText" = some (some (.ref C_NoText)))
    (u_MixError:K.lookup C_MixError=some ⟨.type "type",dd_MixError,.cls ⟨nm_MixError,bs_MixError,.ref C_MixError::VB,ns_MixError,qn_MixError,hd_MixError,sn_MixError,sub_MixError,ab_MixError,col_MixError,false⟩,#[k0_MixError,k1_MixError,k2_MixError,k3_MixError,some (.builtin "ValueError.__new__"),k5_MixError]⟩) (v_MixError:PySem.W.excIn K C_MixError VB "ValueError.__new__" = true)
    (u_NoSwap:K.lookup C_NoSwap=some ⟨.type "type",dd_NoSwap,.cls ⟨nm_NoSwap,bs_NoSwap,.ref C_NoSwap::.ref C_MixError::VB,ns_NoSwap,qn_NoSwap,hd_NoSwap,sn_NoSwap,sub_NoSwap,ab_NoSwap,col_NoSwap,false⟩,#[k0_NoSwap,k1_NoSwap,k2_NoSwap,k3_NoSwap,some (.builtin "ValueError.__new__"),k5_NoSwap]⟩) (v_NoSwap:PySem.W.excIn K C_NoSwap VB "ValueError.__new__" = true)
    (u_NotAlike:K.lookup C_NotAlike=some ⟨.type "type",dd_NotAlike,.cls ⟨nm_NotAlike,bs_NotAlike,.ref C_NotAlike::.ref C_MixError::VB,ns_NotAlike,qn_NotAlike,hd_NotAlike,sn_NotAlike,sub_NotAlike,ab_NotAlike,col_NotAlike,false⟩,#[k0_NotAlike,k1_NotAlike,k2_NotAlike,k3_NotAlike,some (.builtin "ValueError.__new__"),k5_NotAlike]⟩) (v_NotAlike:PySem.W.excIn K C_NotAlike VB "ValueError.__new__" = true)
    (ga_NoSwap:PySem.W.findIn K (.ref C_NoSwap) "__getattribute__" = some (some (.builtin "BaseException.__getattribute__"))) (ge_NoSwap:PySem.W.findIn K (.ref C_NoSwap) "__getattr__" = some none) (cl_NoSwap:PySem.W.findIn K (.ref C_NoSwap) "__class__" = some (some (.builtin "object.__class__"))) (ob_NoSwap:PySem.W.mroIn K C_NoSwap (.type "object")=some true) (be_NoSwap:PySem.W.mroIn K C_NoSwap (.type "BaseException")=some true)
    (ga_NotAlike:PySem.W.findIn K (.ref C_NotAlike) "__getattribute__" = some (some (.builtin "BaseException.__getattribute__"))) (ge_NotAlike:PySem.W.findIn K (.ref C_NotAlike) "__getattr__" = some none) (cl_NotAlike:PySem.W.findIn K (.ref C_NotAlike) "__class__" = some (some (.builtin "object.__class__"))) (ob_NotAlike:PySem.W.mroIn K C_NotAlike (.type "object")=some true) (be_NotAlike:PySem.W.mroIn K C_NotAlike (.type "BaseException")=some true)
    (kt1:PySem.W.kitAny K (.ref C_NotAlike) [.ref C_NoBottom,.ref C_NoTable,.ref C_NoStep,.ref C_NoMix,.ref C_NotEven,.ref C_NoSwap]=some false)
    (kt2:PySem.W.kitAny K (.ref C_NotAlike) [.ref C_NoBounds,.ref C_NoPlace,.ref C_NoSums,.ref C_TooGreat,.ref C_NoNumber,.ref C_NoText]=some false)
    (kv_NotAlike:PySem.W.kitOne K (.ref C_NotAlike) (.type "ValueError")=some true)
    (z_len:PySem.W.nsIn K mainGlobals "len" = some none) (z_isinstance:PySem.W.nsIn K mainGlobals "isinstance" = some none) (z_int:PySem.W.nsIn K mainGlobals "int" = some none) (z_bool:PySem.W.nsIn K mainGlobals "bool" = some none) (z_list:PySem.W.nsIn K mainGlobals "list" = some none) (z_range:PySem.W.nsIn K mainGlobals "range" = some none) (z_sum:PySem.W.nsIn K mainGlobals "sum" = some none) (z_max:PySem.W.nsIn K mainGlobals "max" = some none) (z_reversed:PySem.W.nsIn K mainGlobals "reversed" = some none) (z_tuple:PySem.W.nsIn K mainGlobals "tuple" = some none) (z_zip:PySem.W.nsIn K mainGlobals "zip" = some none) (z_ValueError:PySem.W.nsIn K mainGlobals "ValueError" = some none) :
    ∃fd:FuncData,(∀(s:Shared) (v:Value),BindsTo s fd ⟨[v],[]⟩ [("_law_script",v)])∧∀base:Heap,K.In base→base.Ns mainGlobals mg→FnOk l.prog w K mg base CX0 7 fa fd P_law (L3.spP K S_law):=by
  have e:=hfa.symm.trans (PySem.W.mg_of X G a25)
  cases e
  have T:Txt K mg:=⟨PySem.W.mg_none_of X G z_len,PySem.W.mg_none_of X G z_isinstance,PySem.W.mg_none_of X G z_int,PySem.W.mg_none_of X G z_bool,PySem.W.mg_none_of X G z_list,PySem.W.mg_none_of X G z_range,PySem.W.mg_none_of X G z_sum,PySem.W.mg_none_of X G z_max,PySem.W.mg_none_of X G z_reversed,PySem.W.mg_none_of X G z_tuple,PySem.W.mg_none_of X G z_zip,PySem.W.mg_none_of X G z_ValueError⟩
  have F0:=fun_mk (st:=s_places_below) l0 c0 k0
  have E0:FnAt K mg "places_below" s_places_below P_places_below f0 _:=⟨F0,PySem.W.mg_of X G a0,F0.binds (ps:=P_places_below) fun _ _ _ _ _ _ us hl=>match us,hl with | [_,_],_=>rfl⟩
  have F1:=fun_mk (st:=s_is_place) l1 c1 k1
  have E1:FnAt K mg "is_place" s_is_place P_is_place f1 _:=⟨F1,PySem.W.mg_of X G a1,F1.binds (ps:=P_is_place) fun _ _ _ _ _ _ us hl=>match us,hl with | [_,_],_=>rfl⟩
  have F2:=fun_mk (st:=s_copied_table) l2 c2 k2
  have E2:FnAt K mg "copied_table" s_copied_table P_copied_table f2 _:=⟨F2,PySem.W.mg_of X G a2,F2.binds (ps:=P_copied_table) fun _ _ _ _ _ _ us hl=>match us,hl with | [_],_=>rfl⟩
  have F3:=fun_mk (st:=s_sums_of_rows) l3 c3 k3
  have E3:FnAt K mg "sums_of_rows" s_sums_of_rows P_sums_of_rows f3 _:=⟨F3,PySem.W.mg_of X G a3,F3.binds (ps:=P_sums_of_rows) fun _ _ _ _ _ _ us hl=>match us,hl with | [_],_=>rfl⟩
  have F4:=fun_mk (st:=s_sums_of_columns) l4 c4 k4
  have E4:FnAt K mg "sums_of_columns" s_sums_of_columns P_sums_of_columns f4 _:=⟨F4,PySem.W.mg_of X G a4,F4.binds (ps:=P_sums_of_columns) fun _ _ _ _ _ _ us hl=>match us,hl with | [_],_=>rfl⟩
  have F5:=fun_mk (st:=s_turned_table) l5 c5 k5
  have E5:FnAt K mg "turned_table" s_turned_table P_turned_table f5 _:=⟨F5,PySem.W.mg_of X G a5,F5.binds (ps:=P_turned_table) fun _ _ _ _ _ _ us hl=>match us,hl with | [_],_=>rfl⟩
  have F6:=fun_mk (st:=s_column_of) l6 c6 k6
  have E6:FnAt K mg "column_of" s_column_of P_column_of f6 _:=⟨F6,PySem.W.mg_of X G a6,F6.binds (ps:=P_column_of) fun _ _ _ _ _ _ us hl=>match us,hl with | [_,_],_=>rfl⟩
  have F7:=fun_mk (st:=s_can_swap) l7 c7 k7
  have E7:FnAt K mg "can_swap" s_can_swap P_can_swap f7 _:=⟨F7,PySem.W.mg_of X G a7,F7.binds (ps:=P_can_swap) fun _ _ _ _ _ _ us hl=>match us,hl with | [_,_],_=>rfl⟩
  have F8:=fun_mk (st:=s_swap_made) l8 c8 k8
  have E8:FnAt K mg "swap_made" s_swap_made P_swap_made f8 _:=⟨F8,PySem.W.mg_of X G a8,F8.binds (ps:=P_swap_made) fun _ _ _ _ _ _ us hl=>match us,hl with | [_,_],_=>rfl⟩
  have F9:=fun_mk (st:=s_swaps_between) l9 c9 k9
  have E9:FnAt K mg "swaps_between" s_swaps_between P_swaps_between f9 _:=⟨F9,PySem.W.mg_of X G a9,F9.binds (ps:=P_swaps_between) fun _ _ _ _ _ _ us hl=>match us,hl with | [_,_],_=>rfl⟩
  have F10:=fun_mk (st:=s_table_behind) l10 c10 k10
  have E10:FnAt K mg "table_behind" s_table_behind P_table_behind f10 _:=⟨F10,PySem.W.mg_of X G a10,F10.binds (ps:=P_table_behind) fun _ _ _ _ _ _ us hl=>match us,hl with | [_,_],_=>rfl⟩
  have F11:=fun_mk (st:=s_ring_between) l11 c11 k11
  have E11:FnAt K mg "ring_between" s_ring_between P_ring_between f11 _:=⟨F11,PySem.W.mg_of X G a11,F11.binds (ps:=P_ring_between) fun _ _ _ _ _ _ us hl=>match us,hl with | [_,_],_=>rfl⟩
  have F12:=fun_mk (st:=s_first_unlike) l12 c12 k12
  have E12:FnAt K mg "first_unlike" s_first_unlike P_first_unlike f12 _:=⟨F12,PySem.W.mg_of X G a12,F12.binds (ps:=P_first_unlike) fun _ _ _ _ _ _ us hl=>match us,hl with | [_,_],_=>rfl⟩
  have F13:=fun_mk (st:=s_ring_swaps) l13 c13 k13
  have E13:FnAt K mg "ring_swaps" s_ring_swaps P_ring_swaps f13 _:=⟨F13,PySem.W.mg_of X G a13,F13.binds (ps:=P_ring_swaps) fun _ _ _ _ _ _ us hl=>match us,hl with | [_,_,_],_=>rfl⟩
  have F14:=fun_mk (st:=s_law_cell_at) l14 c14 k14
  have E14:FnAt K mg "_law_cell_at" s_law_cell_at P_law_cell_at f14 _:=⟨F14,PySem.W.mg_of X G a14,F14.binds (ps:=P_law_cell_at) fun _ _ _ _ _ _ us hl=>match us,hl with | [_,_],_=>rfl⟩
  have F15:=fun_mk (st:=s_law_whole) l15 c15 k15
  have E15:FnAt K mg "_law_whole" s_law_whole P_law_whole f15 _:=⟨F15,PySem.W.mg_of X G a15,F15.binds (ps:=P_law_whole) fun _ _ _ _ _ _ us hl=>match us,hl with | [_],_=>rfl⟩
  have F16:=fun_mk (st:=s_law_mixed) l16 c16 k16
  have E16:FnAt K mg "_law_mixed" s_law_mixed P_law_mixed f16 _:=⟨F16,PySem.W.mg_of X G a16,F16.binds (ps:=P_law_mixed) fun _ _ _ _ _ _ us hl=>match us,hl with | [_,_],_=>rfl⟩
  have F17:=fun_mk (st:=s_law_flipped) l17 c17 k17
  have E17:FnAt K mg "_law_flipped" s_law_flipped P_law_flipped f17 _:=⟨F17,PySem.W.mg_of X G a17,F17.binds (ps:=P_law_flipped) fun _ _ _ _ _ _ us hl=>match us,hl with | [_,_,_],_=>rfl⟩
  have F18:=fun_mk (st:=s_law_swapped) l18 c18 k18
  have E18:FnAt K mg "_law_swapped" s_law_swapped P_law_swapped f18 _:=⟨F18,PySem.W.mg_of X G a18,F18.binds (ps:=P_law_swapped) fun _ _ _ _ _ _ us hl=>match us,hl with | [_,_],_=>rfl⟩
  have F19:=fun_mk (st:=s_law_can) l19 c19 k19
  have E19:FnAt K mg "_law_can" s_law_can P_law_can f19 _:=⟨F19,PySem.W.mg_of X G a19,F19.binds (ps:=P_law_can) fun _ _ _ _ _ _ us hl=>match us,hl with | [_,_],_=>rfl⟩
  have F20:=fun_mk (st:=s_law_walked) l20 c20 k20
  have E20:FnAt K mg "_law_walked" s_law_walked P_law_walked f20 _:=⟨F20,PySem.W.mg_of X G a20,F20.binds (ps:=P_law_walked) fun _ _ _ _ _ _ us hl=>match us,hl with | [_,_],_=>rfl⟩
  have F21:=fun_mk (st:=s_law_refused) l21 c21 k21
  have E21:FnAt K mg "_law_refused" s_law_refused P_law_refused f21 _:=⟨F21,PySem.W.mg_of X G a21,F21.binds (ps:=P_law_refused) fun _ _ _ _ _ _ us hl=>match us,hl with | [_,_],_=>rfl⟩
  have F22:=fun_mk (st:=s_law_third) l22 c22 k22
  have E22:FnAt K mg "_law_third" s_law_third P_law_third f22 _:=⟨F22,PySem.W.mg_of X G a22,F22.binds (ps:=P_law_third) fun _ _ _ _ _ _ us hl=>match us,hl with | [_,_],_=>rfl⟩
  have F23:=fun_mk (st:=s_law_one_swap) l23 c23 k23
  have E23:FnAt K mg "_law_one_swap" s_law_one_swap P_law_one_swap f23 _:=⟨F23,PySem.W.mg_of X G a23,F23.binds (ps:=P_law_one_swap) fun _ _ _ _ _ _ us hl=>match us,hl with | [_,_],_=>rfl⟩
  have F24:=fun_mk (st:=s_law_two) l24 c24 k24
  have E24:FnAt K mg "_law_two" s_law_two P_law_two f24 _:=⟨F24,PySem.W.mg_of X G a24,F24.binds (ps:=P_law_two) fun _ _ _ _ _ _ us hl=>match us,hl with | [_],_=>rfl⟩
  have F25:=fun_mk (st:=s_law) l25 c25 k25
  have E25:FnAt K mg "law" s_law P_law fa _:=⟨F25,PySem.W.mg_of X G a25,F25.binds (ps:=P_law) fun _ _ _ _ _ _ us hl=>match us,hl with | [_],_=>rfl⟩
  have A_:Fns K mg:=⟨⟨_,_,E0⟩,⟨_,_,E1⟩,⟨_,_,E2⟩,⟨_,_,E3⟩,⟨_,_,E4⟩,⟨_,_,E5⟩,⟨_,_,E6⟩,⟨_,_,E7⟩,⟨_,_,E8⟩,⟨_,_,E9⟩,⟨_,_,E10⟩,⟨_,_,E11⟩,⟨_,_,E12⟩,⟨_,_,E13⟩,⟨_,_,E14⟩,⟨_,_,E15⟩,⟨_,_,E16⟩,⟨_,_,E17⟩,⟨_,_,E18⟩,⟨_,_,E19⟩,⟨_,_,E20⟩,⟨_,_,E21⟩,⟨_,_,E22⟩,⟨_,_,E23⟩,⟨_,_,E24⟩,⟨_,_,E25⟩⟩
  exact⟨PySem.W.fnOf "law" "law" (defArgs s_law) (defBody s_law) (defScope s_law) .none kV25 dc25 pm25 an25 cd25 ct25,fun s v=>.of_eq rfl,fun base hb _=>ok_law E25 A_ T (c:=⟨C_MixError,C_NoTable,C_NoBottom,C_NotAlike,C_NoStep,C_NoMix,C_NotEven,C_NoSwap,C_NoBounds,C_NoPlace,C_NoSums,C_TooGreat,C_NoNumber,C_NoText⟩) ⟨PySem.W.mg_of X G e_MixError,PySem.W.mg_of X G e_NoTable,PySem.W.mg_of X G e_NoBottom,PySem.W.mg_of X G e_NotAlike,PySem.W.mg_of X G e_NoStep,PySem.W.mg_of X G e_NoMix,PySem.W.mg_of X G e_NotEven,PySem.W.mg_of X G e_NoSwap,PySem.W.mg_of X G e_NoBounds,PySem.W.mg_of X G e_NoPlace,PySem.W.mg_of X G e_NoSums,PySem.W.mg_of X G e_TooGreat,PySem.W.mg_of X G e_NoNumber,PySem.W.mg_of X G e_NoText,ExcObj.of_lookup (ups:=[]) hb u_MixError rfl v_MixError,ExcObj.of_lookup (ups:=[C_MixError]) hb u_NoSwap rfl v_NoSwap,⟨ga_NoSwap,ge_NoSwap,cl_NoSwap,ob_NoSwap,be_NoSwap,by unfold PySem.W.clsIn;rw[u_NoSwap];rfl⟩,ExcObj.of_lookup (ups:=[C_MixError]) hb u_NotAlike rfl v_NotAlike,⟨ga_NotAlike,ge_NotAlike,cl_NotAlike,ob_NotAlike,be_NotAlike,by unfold PySem.W.clsIn;rw[u_NotAlike];rfl⟩,kt1,kt2,kv_NotAlike⟩⟩
theorem walk {l:PySem.W.OpenLaw}{q:Program}{loose:List Str}{XP:(Str→Option Value)→Heap→Prop}{YP:World→Heap→Prop}{d:DefRec}{K:Params→PySem.W.Frag} (hn:l.most=some 63) (hdf:d.params.defaults=[])
    (hY:∀(w:World) (h:Heap),YP w h→(K w.params).In h)
    (F:∀(w:World) (mg:Str→Option Value) (fa:Addr) (h:Heap),(K w.params).In h→h.Ns mainGlobals mg→mg d.name=some (.ref fa) →
      ∃fd:FuncData,(∀(s:Shared) (u:Value),BindsTo s fd ⟨[u],[]⟩ [("_law_script",u)])∧∀base:Heap,(K w.params).In base→base.Ns mainGlobals mg→FnOk l.prog w (K w.params) mg base CX0 7 fa fd ["_law_script"] (L3.spP (K w.params) S_law)) :
    PySem.W.WalkO q loose XP YP l.row.toRowW d [] (fun f vs=>PySem.call f vs) :=
  L2.walk_of (n:=63) (k:=7) (x:="_law_script") (CX:=fun _=>CX0) (sp:=fun w=>L3.spP (K w.params) S_law) hn (by decide) hdf ⟨rfl,by decide,by decide⟩ hY F (fun w H a ns hl hO hS=>⟨[.scr ns],⟨[],_,_,[],[],rfl,rfl,⟨a,rfl,L3.sc_of hO hS,rfl⟩,rfl,rfl⟩,law_goal hl (fun v H' fp s r n=>r.1)⟩) fun _ _ _ _ _ z=>z
end Mine
open PySem PySem.W PyProof.Rows
namespace PySem.W.Fast
def tw14143018190802247433:=0
def tw9266280138062846040:=0
def tw14018597485630764986:=0
def tw17369654552855113247:=0
def tw8960717338480792347:=0
def tw14018722362112333910:=0
def tw3924136261256858804:=0
def tw5467078125694589592:=0
def tw4717650801695569510:=0
def tw13767785044064382013:=0
def tw9207935313008587321:=0
def tw4080438478641447246:=0
def tw4034913021579587894:=0
def tw6507297809787845293:=0
def tw2639212406726988603:=0
def tw1316030175095387678:=0
def tw8263386000891726751:=0
def tw14974579501843927974:=0
def tw15659663011032457883:=0
def tw5260405564201521162:=0
def tw3914438419475501757:=0
def tw16490383415387233269:=0
def tw594020381391309198:=0
def tw13907249128563931329:=0
def tw17554830047416372978:=0
def tw15484627231808145368:=0
def tw12650065400931475476:=0
def tw5195165569946588837:=0
def tw7355748508965756491:=0
def tw10060487132979461719:=0
def tw9474254886010532943:=0
def tw13290797256772747162:=0
def tw7382186433952943695:=0
def tw14929853049912068312:=0
def tw9019331497947545557:=0
def tw3483945082220916001:=0
def tw17164222727555167224:=0
def tw9536150240149696323:=0
def tw12874116554363406393:=0
def tw16676040954574476575:=0
def tw6312748057665275215:=0
def tw5293520736851767664:=0
def tw12216474855661088461:=0
def tw6535897663630595743:=0
def tw5245824630195084840:=0
def tw7274637757289704027:=0
def tw16130166133276217767:=0
def tw14613914782922447579:=0
def tw9386036401372393908:=0
def tw7335559308754300371:=0
def tw3525695939144362378:=0
def tw14769888931184072296:=0
def tw10997107946696031799:=0
def tw7310049107636598162:=0
def tw12119032348612347345:=0
def tw15149084267446076055:=0
def tw14288231197967338304:=0
def tw4441858764604557010:=0
def tw7395747833186076135:=0
def tw4982912292001038686:=0
def tw15991216430329218792:=0
def tw2371086264668197419:=0
def tw8899922099910161365:=0
def tw17720612363928965692:=0
def tw11703742526427011096:=0
def tw7199073327324824908:=0
def tw281225262279522281:=0
def tw13674876313644433968:=0
def tw18201884593419778106:=0
def tw8642888661501931997:=0
def tw15213427561892257971:=0
def tw14082238459811821305:=0
def tw1597431898756685341:=0
def tw17889026898163509732:=0
def tw8038119104994188329:=0
def tw9301975658397504909:=0
def tw2219501825991592116:=0
def tw16302173812978046150:=0
def tw8139800346682447602:=0
def tw7353728920072028159:=0
def tw9234552115910448719:=0
def tw13504601149062593007:=0
def tw9261680817144204737:=0
def tw6201336636376373959:=0
def tw10705854057524226960:=0
def tw16047494487201397883:=0
def tw14880447066571473545:=0
def tw1624182913963208749:=0
def tw6396580723390169515:=0
def tw10344447719250261986:=0
def tw16218069909317496705:=0
def tw5212035891197274226:=0
def tw7465944542872914670:=0
def tw825433999488069013:=0
def tw14503211464749340055:=0
def tw8831514363995597452:=0
def tw9505830114242499278:=0
def tw5078305727807525623:=0
def tw8989626073552280529:=0
def tw17152785200247829386:=0
def tw896853867381309801:=0
def tw300915145985746855:=0
def tw8946602991958289074:=0
def tw1477184854078155144:=0
def tw3991234576578998834:=0
def tw335258993743356311:=0
def tw10550345744446015834:=0
def tw8259255644539137374:=0
def tw12235586859471074212:=0
def tw4421116385324789484:=0
def tw16519938656362677667:=0
def tw11391227851307685397:=0
def tw7470824405579728746:=0
def tw17347732832239231206:=0
def tw12954371847366399664:=0
def tw12154166392369698040:=0
def tw5201166092893821689:=0
def tw7343731199161970050:=0
def tw11054154430216883197:=0
def tw16872034468149077476:=0
def tw13974241293945673905:=0
def tw1781022376187644872:=0
def tw4821583572769058614:=0
def tw10373498923554923959:=0
def tw12216212587537863532:=0
def tw11286296514216293374:=0
def tw8481949568817807169:=0
def tw17574204238814784508:=0
def tw17784287540635174049:=0
def tw6239015817754958004:=0
def tw11716272193367577648:=0
def tw8532963987155833449:=0
def tw6501815043779857974:=0
def tw15345585091360194140:=0
def tw6970267347655393868:=0
def tw11448463218270483206:=0
def tw2305076443835630288:=0
def tw8375042577969720792:=0
def tw11650274364640064667:=0
def tw7863656655330879742:=0
def tw17765177950522250741:=0
def tw11039835706386763603:=0
def tw17983327279452318500:=0
def tw10960060333833944878:=0
def tw16271272838373031354:=0
def tw7295657421242819686:=0
def tw4758667066445499973:=0
def tw16566766626931553950:=0
def tw10480047282694536690:=0
def tw6377700151667525422:=0
def tw8798180339166071929:=0
def tw13573801603360968637:=0
def tw729537996381934891:=0
def tw12105686673385389348:=0
def tw14707010931324937730:=0
def tw7022999261557460821:=0
def tw11021485459498386532:=0
def tw12859613724867654429:=0
def tw12564527857491188899:=0
def tw3398668895207323415:=0
def tw9544744610371148659:=0
def tw1736624413450320207:=0
def tw3051156371155449104:=0
def tw1477517729426620592:=0
def tw9414985652354493718:=0
def tw9759345166844379778:=0
def tw11762366316241665260:=0
def tw7177599591642004072:=0
def tw15221292481837287389:=0
def tw12422031421423622717:=0
def tw13480220855921062495:=0
def tw7327948257905631864:=0
def tw12413419362969823815:=0
def tw1432544960835728086:=0
def tw15755671607721340017:=0
def tw4754263383811970980:=0
def tw12448089651949213541:=0
def tw12375747600443608313:=0
def tw4572200461419661876:=0
def tw11022584936078426272:=0
def tw15106472631974791286:=0
def tw11021461996049093643:=0
def tw13141319241004746087:=0
def tw18419917674291279200:=0
def tw10290971655740141943:=0
def tw2941854205349150950:=0
def tw3871805012710335896:=0
def tw3422509415162624435:=0
def tw17869153527234096728:=0
def tw15542916034896715500:=0
def tw2150344193357362134:=0
def tw6261098320225082161:=0
def tw12259952053694281527:=0
def tw12719741545935813480:=0
def tw947618056231980184:=0
def tw13900402153779067890:=0
def tw5217416118110374039:=0
def tw14800930155654621145:=0
def tw7897674457886380208:=0
def tw5996690987462367809:=0
def tw2549592597081004274:=0
def tw15365901605547383876:=0
def tw1612398073231003544:=0
def tw8902247580761533222:=0
def tw16016588520936012671:=0
def tw17244747556234926481:=0
def tw3669632305366143442:=0
def tw4702013727139706763:=0
def tw4053606952488941886:=0
def tw10087137148963457666:=0
def tw14582546985407926237:=0
def tw3568562204786198854:=0
def tw9474755825969382917:=0
def tw3889201649749396568:=0
def tw2131074568584945836:=0
def tw4769014852771708249:=0
def tw12139464217919728518:=0
def tw4635374076768069345:=0
def tw2441465141959400152:=0
def tw4539012145268483100:=0
def tw11543267109184755431:=0
def tw13885884729277992257:=0
def tw8668939113710392516:=0
def tw4302817950013671804:=0
def tw10527021486448256915:=0
def tw17454310066710881948:=0
def tw5996305383268242464:=0
def tw2587696891163299907:=0
def tw11861835952335715214:=0
def tw6039526272362803256:=0
def tw9643685394688592071:=0
def tw15381259868918490016:=0
def tw3623354166859138769:=0
def tw6415475018990742017:=0
def tw8163173738519771438:=0
def tw4608102281440405267:=0
def tw3543305122927386944:=0
def tw12770930711795055137:=0
def tw1343166006115305341:=0
def tw17308792258290651761:=0
def tw3786468898068592195:=0
def tw15739323285859191672:=0
def tw10253288833621998618:=0
def tw3652219490368873434:=0
def tw17684565773188150631:=0
def tw9157854631882328935:=0
def tw2958214517132500159:=0
def tw11534838040340144424:=0
def tw13667502920181994190:=0
def tw119796372671766257:=0
def tw14020164195873211396:=0
def tw16185308470383197287:=0
def tw12261321016936414769:=0
def tw18060641120303478044:=0
def tw8837146511750167917:=0
def tw16204022575507769976:=0
def tw15233444878783661619:=0
def tw8237013786971161108:=0
def tw187132562934373823:=0
def tw3719227341713079214:=0
def tw13993129473371426983:=0
def tw5986568347529127453:=0
def tw14318100461827676800:=0
def tw5868079933336091103:=0
def tw8530452333825258806:=0
def tw12981163805216465179:=0
def tw13172567804431773163:=0
def tw769571835426416079:=0
def tw14581520760043859622:=0
def tw10347253647091667744:=0
def tw6191179339711455514:=0
def tw13451559700017193819:=0
def tw8032266834291089116:=0
def tw8281462712196664050:=0
def tw7448615747915512370:=0
def tw9290929104112432331:=0
def tw12728396528333273931:=0
def tw7016815022985721766:=0
def tw3728721484566773719:=0
def tw8875503198342057149:=0
def tw43381725733038211:=0
def tw18008081223998279947:=0
def tw3750753186481787992:=0
def tw5139183626430582139:=0
def tw10332112895966452749:=0
def tw11426592375813374832:=0
def tw17449795402520581546:=0
def tw3926663962028100423:=0
def tw11785551482148256166:=0
def tw5728150519397340175:=0
def tw9477821231811746665:=0
def tw3915227933160532811:=0
def tw2131918350489068287:=0
def tw14248075422693713746:=0
def tw4549030016640241262:=0
def tw11334336317897910510:=0
def tw3039803186653396364:=0
def tw6887500234665029891:=0
def tw14104719548554093764:=0
def tw3565953757448137262:=0
def tw10229376688149063198:=0
def tw14933332746489137767:=0
def tw2116787336504067598:=0
def tw695892668692011255:=0
def tw1077922504116171083:=0
def tw231382319579196085:=0
def tw10565412322923423043:=0
def tw2231934781033220459:=0
def tw12335687751757116040:=0
def tw6164689664492886283:=0
def tw15401405915269274293:=0
def tw9703878671483718246:=0
def tw9209449558908095969:=0
def tw15204289030913080415:=0
def tw11775376724851652486:=0
def tw11270109515596962665:=0
def tw14550190285454528382:=0
def tw18273513222702992891:=0
def tw4896903635758116763:=0
def tw11435279796617451755:=0
def tw14581397659488753152:=0
def tw1623077880855448584:=0
def tw3779219282909283567:=0
def tw3942973023439361570:=0
def tw11151148052470079686:=0
def tw9416016423831473796:=0
def tw8729355112499365421:=0
def tw5562476967432331126:=0
def tw13855034057166770066:=0
def tw17146803197383263645:=0
def tw12040614965289545341:=0
def tw3114055796936890171:=0
def tw5100728355812902103:=0
def tw16045886470389692021:=0
def tw10246776690944076422:=0
def tw9435415929421122307:=0
def tw2630580092926641007:=0
def tw3033639997153936613:=0
def tw4420301039543858351:=0
def tw10766499694433570192:=0
def tw14098525522922098004:=0
def tw18092548862865471602:=0
def tw6771380424715036677:=0
def tw10972747439305672797:=0
def tw1855158675124816953:=0
def tw8041015929642313862:=0
def tw6332565207483050776:=0
def tw16080459186490791114:=0
def tw12295759746190217028:=0
def tw16749633816178318716:=0
def tw6584121934543087128:=0
def tw1487323774240650272:=0
def tw8024485513272766729:=0
def tw2665769999979579604:=0
def tw7977785366597213155:=0
def tw3201444956056232686:=0
def tw2987873942819065299:=0
def tw10028583060781242879:=0
def tw9635235681315744397:=0
end PySem.W.Fast
set_option maxRecDepth 100000 in
set_option maxHeartbeats 0 in
theorem PySem.Challenge.cw_evenmix_k35_whole_swaps_holds : PySem.Challenge.rw_evenmix_k35_whole_swaps.Holds := by
  w_on;o_law;k_head;(case hw=>w_witness2)
  k_fill
  refine Mine.walk (l:=PySem.Challenge.rw_evenmix_k35_whole_swaps) rfl rfl (fun w h Y=>PySem.W.kIn_of Y) ?F
  case F =>
    intro w mg fa h KX G hmg
    refine' Mine.all_mk KX G hmg ?a0 ?l0 ?c0 ?k0 ?a1 ?l1 ?c1 ?k1 ?a2 ?l2 ?c2 ?k2 ?a3 ?l3 ?c3 ?k3 ?a4 ?l4 ?c4 ?k4 ?a5 ?l5 ?c5 ?k5 ?a6 ?l6 ?c6 ?k6 ?a7 ?l7 ?c7 ?k7 ?a8 ?l8 ?c8 ?k8 ?a9 ?l9 ?c9 ?k9 ?a10 ?l10 ?c10 ?k10 ?a11 ?l11 ?c11 ?k11 ?a12 ?l12 ?c12 ?k12 ?a13 ?l13 ?c13 ?k13 ?a14 ?l14 ?c14 ?k14 ?a15 ?l15 ?c15 ?k15 ?a16 ?l16 ?c16 ?k16 ?a17 ?l17 ?c17 ?k17 ?a18 ?l18 ?c18 ?k18 ?a19 ?l19 ?c19 ?k19 ?a20 ?l20 ?c20 ?k20 ?a21 ?l21 ?c21 ?k21 ?a22 ?l22 ?c22 ?k22 ?a23 ?l23 ?c23 ?k23 ?a24 ?l24 ?c24 ?k24 ?a25 ?l25 ?c25 ?k25 ?e_MixError ?e_NoTable ?e_NoBottom ?e_NotAlike ?e_NoStep ?e_NoMix ?e_NotEven ?e_NoSwap ?e_NoBounds ?e_NoPlace ?e_NoSums ?e_TooGreat ?e_NoNumber ?e_NoText ?u_MixError ?v_MixError ?u_NoSwap ?v_NoSwap ?u_NotAlike ?v_NotAlike ?ga_NoSwap ?ge_NoSwap ?cl_NoSwap ?ob_NoSwap ?be_NoSwap ?ga_NotAlike ?ge_NotAlike ?cl_NotAlike ?ob_NotAlike ?be_NotAlike ?kt1 ?kt2 ?kv_NotAlike ?z_len ?z_isinstance ?z_int ?z_bool ?z_list ?z_range ?z_sum ?z_max ?z_reversed ?z_tuple ?z_zip ?z_ValueError
    (case e_MixError=>k_is)
    (case e_NoTable=>k_is)
    (case e_NoBottom=>k_is)
    (case e_NotAlike=>k_is)
    (case e_NoStep=>k_is)
    (case e_NoMix=>k_is)
    (case e_NotEven=>k_is)
    (case e_NoSwap=>k_is)
    (case e_NoBounds=>k_is)
    (case e_NoPlace=>k_is)
    (case e_NoSums=>k_is)
    (case e_TooGreat=>k_is)
    (case e_NoNumber=>k_is)
    (case e_NoText=>k_is)
    (case a0=>k_is)
    (case l0=>k_is)
    (case c0=>k_is)
    (case k0=>k_is)
    (case a1=>k_is)
    (case l1=>k_is)
    (case c1=>k_is)
    (case k1=>k_is)
    (case a2=>k_is)
    (case l2=>k_is)
    (case c2=>k_is)
    (case k2=>k_is)
    (case a3=>k_is)
    (case l3=>k_is)
    (case c3=>k_is)
    (case k3=>k_is)
    (case a4=>k_is)
    (case l4=>k_is)
    (case c4=>k_is)
    (case k4=>k_is)
    (case a5=>k_is)
    (case l5=>k_is)
    (case c5=>k_is)
    (case k5=>k_is)
    (case a6=>k_is)
    (case l6=>k_is)
    (case c6=>k_is)
    (case k6=>k_is)
    (case a7=>k_is)
    (case l7=>k_is)
    (case c7=>k_is)
    (case k7=>k_is)
    (case a8=>k_is)
    (case l8=>k_is)
    (case c8=>k_is)
    (case k8=>k_is)
    (case a9=>k_is)
    (case l9=>k_is)
    (case c9=>k_is)
    (case k9=>k_is)
    (case a10=>k_is)
    (case l10=>k_is)
    (case c10=>k_is)
    (case k10=>k_is)
    (case a11=>k_is)
    (case l11=>k_is)
    (case c11=>k_is)
    (case k11=>k_is)
    (case a12=>k_is)
    (case l12=>k_is)
    (case c12=>k_is)
    (case k12=>k_is)
    (case a13=>k_is)
    (case l13=>k_is)
    (case c13=>k_is)
    (case k13=>k_is)
    (case a14=>k_is)
    (case l14=>k_is)
    (case c14=>k_is)
    (case k14=>k_is)
    (case a15=>k_is)
    (case l15=>k_is)
    (case c15=>k_is)
    (case k15=>k_is)
    (case a16=>k_is)
    (case l16=>k_is)
    (case c16=>k_is)
    (case k16=>k_is)
    (case a17=>k_is)
    (case l17=>k_is)
    (case c17=>k_is)
    (case k17=>k_is)
    (case a18=>k_is)
    (case l18=>k_is)
    (case c18=>k_is)
    (case k18=>k_is)
    (case a19=>k_is)
    (case l19=>k_is)
    (case c19=>k_is)
    (case k19=>k_is)
    (case a20=>k_is)
    (case l20=>k_is)
    (case c20=>k_is)
    (case k20=>k_is)
    (case a21=>k_is)
    (case l21=>k_is)
    (case c21=>k_is)
    (case k21=>k_is)
    (case a22=>k_is)
    (case l22=>k_is)
    (case c22=>k_is)
    (case k22=>k_is)
    (case a23=>k_is)
    (case l23=>k_is)
    (case c23=>k_is)
    (case k23=>k_is)
    (case a24=>k_is)
    (case l24=>k_is)
    (case c24=>k_is)
    (case k24=>k_is)
    (case a25=>k_is)
    (case l25=>k_is)
    (case c25=>k_is)
    (case k25=>k_is)
    (case u_MixError=>k_is)
    (case v_MixError=>k_exc)
    (case u_NoSwap=>k_is)
    (case v_NoSwap=>k_exc)
    (case u_NotAlike=>k_is)
    (case v_NotAlike=>k_exc)
    (case ga_NoSwap=>k_is)
    (case ge_NoSwap=>k_is)
    (case cl_NoSwap=>k_is)
    (case ob_NoSwap=>k_is)
    (case be_NoSwap=>k_is)
    (case ga_NotAlike=>k_is)
    (case ge_NotAlike=>k_is)
    (case cl_NotAlike=>k_is)
    (case ob_NotAlike=>k_is)
    (case be_NotAlike=>k_is)
    (case kt1=>kit_is)
    (case kt2=>kit_is)
    (case kv_NotAlike=>kit_is)
    (case z_len=>k_is)
    (case z_isinstance=>k_is)
    (case z_int=>k_is)
    (case z_bool=>k_is)
    (case z_list=>k_is)
    (case z_range=>k_is)
    (case z_sum=>k_is)
    (case z_max=>k_is)
    (case z_reversed=>k_is)
    (case z_tuple=>k_is)
    (case z_zip=>k_is)
    (case z_ValueError=>k_is)
